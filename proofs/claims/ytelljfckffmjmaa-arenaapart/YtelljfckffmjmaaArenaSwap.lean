/-
  swapTop, a step of an ask: what it does to the cells, the buffers and the ask.
-/
import Derived.Test.YtelljfckffmjmaaArenaSteps
namespace Go.Proofs.Ytelljfckffmjmaa
open Go.RowKit

section
variable (w w0 : World) (a v p q B b o : Nat) (T : TypeId) (A : AC) (l bl : List Int) (s : Int) (kat : AStp) (kd : Bool) (ks kt kw kp ke : Int)

set_option maxRecDepth 4000 in
theorem ar_swap_miss (ht : 0 ≤ kt ∧ 0 ≤ kw ∧ kt + kw ≤ A.to) (hx : ¬ topOf A l = kt) (h : As w0 w a v p q B b T A l bl s (akCells a B o ⟨kat, kd, ks, kt, kw, kp, ke⟩)) :
    Calls Try.prog 60 #[.pointer (some ⟨a, 0, none⟩), .pointer (some ⟨b, 0, none⟩)] w fun e w' => e = .returned (.tuple #[]) ∧ As w0 w' a v p q B b T A l bl (wrap64 (s + 1)) (akCells a B o ⟨.readTop, kd, ks, kt, kw, kp, ke⟩) := by
  have hm : A.to ≤ 65536 := Nat.le_trans h.ar.to h.ar.most
  have hr : 0 ≤ kt + kw ∧ kt + kw ≤ 65536 ∧ kt ≤ 65536 ∧ kw ≤ 65536 ∧ 0 ≤ kw := by omega
  have e1 : IntKind.i64.wrap (kt + kw) = kt + kw := by rw [IntKind.wrap_i64]; omega
  have HS := hide (fun w' (h' : Arn w' a v p q A l s) => swap_miss p q l s w' A.top (topOf A l) kt (kt + kw) h'.at hx h'.mem)
  have H0 := hide h
  have c0 := h.ar.c0
  have c1 := h.ar.c1
  have f4 : w.cell? ⟨b, 4, none⟩ = some (.int .i64 kt) := by rw [h.ak.f]; rfl
  have f5 : w.cell? ⟨b, 5, none⟩ = some (.int .i64 kw) := by rw [h.ak.f]; rfl
  clear h hm hx
  go_enter Try.func60, Try.ntmps60
  go_wp2_with fail
  go_region_held3 (fun w' => w'.cell? ⟨a, 0, none⟩ = some (.pointer (some ⟨p, 0, none⟩)) ∧ w'.cell? ⟨a, 1, none⟩ = some (.int .i64 A.top) ∧ w'.cell? ⟨b, 4, none⟩ = some (.int .i64 kt) ∧ w'.cell? ⟨b, 5, none⟩ = some (.int .i64 kw)) (go_keep)
    (first
      | (go_at_call 64; refine (HS.out _ H0.out.ar.drew).mono ?_; rintro e w1 ⟨rfl, m1, t1⟩; have g1 := H0.out.drew.acc m1 rfl t1; have g2 := g1.ar.c0; have g3 := g1.ar.c1; have g4 := g1.ak.f 4; have g5 := g1.ak.f 5; simp only [akCells] at g4 g5; have H1 := hide g1; clear HS m1 t1 g1))
  have i0 : w1.cell? ⟨b, 0, none⟩ = some (.func (.func kat.fn) #[.pointer (some ⟨a, 0, none⟩)] #[]) := by rw [H1.out.ak.f]; rfl
  have z0 := H1.out.ak.fz 0
  clear g2 g3 g4 g5 c0 c1 f4 f5 H0 e1
  go_wp2_with fail
  first | refine bodyPost_end (results_none rfl _ _ _) rfl ?_ | refine bodyPost_ret (results_none rfl _ _ _) rfl ?_
  exact ⟨rfl, H1.out.set 0 _⟩

set_option maxRecDepth 4000 in
theorem ar_swap_hit (hs : 1 ≤ ks ∧ ks ≤ 65536) (ht : 0 ≤ kt ∧ ks ≤ kw ∧ kt + kw ≤ A.to) (h0 : o + 1 < bl.length) (hx : topOf A l = kt) (h : As w0 w a v p q B b T A l bl s (akCells a B o ⟨kat, kd, ks, kt, kw, kp, ke⟩)) :
    Calls Try.prog 60 #[.pointer (some ⟨a, 0, none⟩), .pointer (some ⟨b, 0, none⟩)] w fun e w' => e = .returned (.tuple #[]) ∧ As w0 w' a v p q B b T A (l.set A.top (kt + kw)) (if lg A ks then bl else (bl.set o (kt + ks)).set (o + 1) (kt + kw)) (wrap64 (s + 1)) (akCells a B o ⟨kat, true, ks, kt, kw, kt, 0⟩) := by
  have hm : A.to ≤ 65536 := Nat.le_trans h.ar.to h.ar.most
  have hr : 0 ≤ kt + kw ∧ kt + kw ≤ 65536 ∧ kt ≤ 65536 ∧ kw ≤ 65536 ∧ 0 ≤ kw := by omega
  have e1 : IntKind.i64.wrap (kt + kw) = kt + kw := by rw [IntKind.wrap_i64]; omega
  have e2 : IntKind.i64.wrap (kt + ks) = kt + ks := by rw [IntKind.wrap_i64]; omega
  have HS := hide (fun w' (h' : Arn w' a v p q A l s) => swap_hit p q l s w' A.top kt (kt + kw) (by have h1 := h'.at; rw [hx] at h1; exact h1) h'.mem)
  have HN := hide (show (l.set A.top (kt + kw)).length = l.length by simp)
  have H0 := hide h
  have c0 := h.ar.c0
  have c1 := h.ar.c1
  have f4 : w.cell? ⟨b, 4, none⟩ = some (.int .i64 kt) := by rw [h.ak.f]; rfl
  have f5 : w.cell? ⟨b, 5, none⟩ = some (.int .i64 kw) := by rw [h.ak.f]; rfl
  have HG := hide (fun w' l' s' (h' : Arn w' a v p q A l' s') => large_any w' a v p q A l' s' ks hs h')
  obtain ⟨x0, hx0⟩ : ∃ x, bl[o]? = some x := ⟨bl[o]'(by omega), by simp⟩
  obtain ⟨x1, hx1⟩ : ∃ x, bl[o + 1]? = some x := ⟨bl[o + 1]'(by omega), by simp⟩
  have HX0 := hide hx0
  have HX1 := hide hx1
  clear h hm hx h0 hx0 hx1
  generalize l.set A.top (kt + kw) = l2 at *
  generalize lg A ks = g at *
  generalize hK : (if g = true then bl else _) = bl2
  have HK := hide hK
  clear hK
  go_enter Try.func60, Try.ntmps60
  go_wp2_with fail
  go_region_held3 (fun w' => w'.cell? ⟨a, 0, none⟩ = some (.pointer (some ⟨p, 0, none⟩)) ∧ w'.cell? ⟨a, 1, none⟩ = some (.int .i64 A.top) ∧ w'.cell? ⟨b, 4, none⟩ = some (.int .i64 kt) ∧ w'.cell? ⟨b, 5, none⟩ = some (.int .i64 kw)) (go_keep)
    (first
      | (go_at_call 64; refine (HS.out _ H0.out.ar.drew).mono ?_; rintro e w1 ⟨rfl, m1, t1⟩; have g1 := H0.out.drew.acc m1 HN.out t1; have g2 := g1.ar.c0; have g3 := g1.ar.c1; have g4 := g1.ak.f 4; have g5 := g1.ak.f 5; simp only [akCells] at g4 g5; have H1 := hide g1; clear HS m1 t1 g1))
  have j3 : w1.cell? ⟨b, 3, none⟩ = some (.int .i64 ks) := by rw [H1.out.ak.f]; rfl
  have c4 := H1.out.ar.c4
  have HG2 := hide (fun m => HG.out (w1.drewN m) _ _ (H1.out.ar.drewN m))
  clear g2 g3 g5 c0 c1 f4 f5 H0 HG
  go_wp2_with fail
  go_quiet ((go_at_call 33; exact Calls.quiet_of_same (HG2.out _)))
  have H5 := hide (H1.out.drewN nq)
  generalize w1.drewN nq = w5 at *
  clear H1 HG2 j3 c4 g4
  cases g
  · have j2 : w5.cell? ⟨b, 2, none⟩ = some (.pointer (some ⟨B, o, none⟩)) := by rw [H5.out.ak.f]; rfl
    have j3 : w5.cell? ⟨b, 3, none⟩ = some (.int .i64 ks) := by rw [H5.out.ak.f]; rfl
    have j5 : w5.cell? ⟨b, 5, none⟩ = some (.int .i64 kw) := by rw [H5.out.ak.f]; rfl
    have b0 := H5.out.bf.at HX0.out
    have b1 := H5.out.bf.at HX1.out
    have bz0 := H5.out.bf.fz o
    have bz1 := H5.out.bf.fz (o + 1)
    go_wp2_with fail
    go_region
    have H6 := hide (((H5.out.put o (kt + ks)).put (o + 1) (kt + kw)).drew)
    generalize ((w5.setCell ⟨B, o, none⟩ (.int .i64 (kt + ks))).setCell ⟨B, o + 1, none⟩ (.int .i64 (kt + kw))).drew = w6 at *
    have HE := hide (kend_any w6 a B b o ⟨kat, kd, ks, kt, kw, kp, ke⟩ _ kt 0 rfl H6.out.ak)
    clear j2 j3 j5 b0 b1 bz0 bz1 H5
    go_wp2_with fail
    refine HE.out.mono ?_
    rintro e w4 ⟨rfl, g4, t4⟩
    have H4 := hide (H6.out.askd t4 g4)
    clear g4 t4 HE
    go_wp2_with fail
    first | refine bodyPost_end (results_none rfl _ _ _) rfl ?_ | refine bodyPost_ret (results_none rfl _ _ _) rfl ?_
    rw [← HK.out, if_neg (by simp)]
    exact ⟨rfl, H4.out⟩
  · have HE := hide (kend_any w5 a B b o ⟨kat, kd, ks, kt, kw, kp, ke⟩ _ kt 0 rfl H5.out.ak)
    go_wp2_with fail
    refine HE.out.mono ?_
    rintro e w4 ⟨rfl, g4, t4⟩
    have H4 := hide (H5.out.askd t4 g4)
    clear g4 t4 HE
    go_wp2_with fail
    first | refine bodyPost_end (results_none rfl _ _ _) rfl ?_ | refine bodyPost_ret (results_none rfl _ _ _) rfl ?_
    rw [← HK.out, if_pos trivial]
    exact ⟨rfl, H4.out⟩
end
end Go.Proofs.Ytelljfckffmjmaa
