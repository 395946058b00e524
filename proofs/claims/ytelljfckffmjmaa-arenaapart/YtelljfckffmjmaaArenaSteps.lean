/-
  readTop, a step of an ask: what it does to the cells, the buffers and the ask.
-/
import Derived.Test.YtelljfckffmjmaaArenaFill
namespace Go.Proofs.Ytelljfckffmjmaa
open Go.RowKit

section
variable (w : World) (a v p q B b o : Nat) (T : TypeId) (A : AC) (l bl : List Int) (s : Int)

set_option maxRecDepth 4000 in
theorem ar_readTop (w0 : World) (k : AkS) (hs : 1 ≤ k.size ∧ k.size ≤ 65536) (h : As w0 w a v p q B b T A l bl s (akCells a B o k)) :
    Calls Try.prog 52 #[.pointer (some ⟨a, 0, none⟩), .pointer (some ⟨b, 0, none⟩)] w fun e w' => e = .returned (.tuple #[]) ∧ As w0 w' a v p q B b T A l bl (wrap64 (s + 1)) (akCells a B o (readA A l k)) := by
  obtain ⟨kat, kd, ks, kt, kw, kp, ke⟩ := k
  have HL := hide (fun w' (h' : Arn w' a v p q A l s) => load_in p q l s w' A.top (topOf A l) h'.at h'.mem)
  have H0 := hide h
  have c0 := h.ar.c0
  have c1 := h.ar.c1
  have hbuf := h.ar.buf
  have hE : readA A l ⟨kat, kd, ks, kt, kw, kp, ke⟩ = if aboveOf A (topOf A l) < ks then ⟨kat, true, ks, topOf A l, kw, 0, 14⟩ else ⟨.swapTop, kd, ks, topOf A l, (if lg A ks then ks else min A.buf (aboveOf A (topOf A l))), kp, ke⟩ := rfl
  rw [hE]
  clear hE h
  generalize topOf A l = y at *
  have HV := hide (fun w' s' (h' : Arn w' a v p q A l s') => above_any w' a v p q A l s' y h')
  have HG := hide (fun w' s' (h' : Arn w' a v p q A l s') => large_any w' a v p q A l s' ks hs h')
  generalize aboveOf A y = z at *
  generalize lg A ks = g at *
  have hs' : 1 ≤ ks ∧ ks ≤ 65536 := hs
  generalize hK : (if z < ks then (⟨kat, true, ks, y, kw, 0, 14⟩ : AkS) else _) = K'
  have HK := hide hK
  clear hs hK
  go_enter Try.func52, Try.ntmps52
  go_wp2_with fail
  have f4 := H0.out.ak.f 4
  have z4 := H0.out.ak.fz 4
  simp only [akCells] at f4
  go_region_held3 (fun w' => w'.cell? ⟨a, 0, none⟩ = some (.pointer (some ⟨p, 0, none⟩)) ∧ w'.cell? ⟨a, 1, none⟩ = some (.int .i64 A.top)) (first | go_keep | exact ⟨(H1.out.set 4 (.int .i64 y)).ar.c0, (H1.out.set 4 (.int .i64 y)).ar.c1⟩)
    (first
      | (go_at_call 25; refine (HL.out _ H0.out.ar.drew).mono ?_; rintro e w1 ⟨rfl, m1, t1⟩; have g1 := H0.out.drew.acc m1 rfl t1; have g2 := g1.ar.c0; have g3 := g1.ar.c1; have g5 := g1.ak.f 4; have g6 := g1.ak.fz 4; simp only [akCells] at g5; have H1 := hide g1; clear HL m1 t1 g1))
  have H2 := hide (H1.out.set 4 (.int .i64 y))
  generalize w1.setCell ⟨b, 4, none⟩ (.int .i64 y) = w2 at *
  have k4 : w2.cell? ⟨b, 4, none⟩ = some (.int .i64 y) := by rw [H2.out.ak.f]; rfl
  clear g2 g3 g5 g6 H1 f4 z4 c0 c1 H0
  go_wp2_with fail
  refine (HV.out _ _ H2.out.ar).mono ?_
  rintro e w3 ⟨rfl, rfl⟩
  have k3 : w3.cell? ⟨b, 3, none⟩ = some (.int .i64 ks) := by rw [H2.out.ak.f]; rfl
  clear k4 HV
  by_cases hz : z < ks
  · have HE := hide (kend_any w3 a B b o ⟨kat, kd, ks, y, kw, kp, ke⟩ _ 0 14 rfl H2.out.ak)
    clear HG
    go_wp2_with fail
    refine HE.out.mono ?_
    rintro e w4 ⟨rfl, g4, t4⟩
    have H4 := hide (H2.out.askd t4 g4)
    clear g4 t4 HE H2
    go_wp2_with fail
    first | refine bodyPost_end (results_none rfl _ _ _) rfl ?_ | refine bodyPost_ret (results_none rfl _ _ _) rfl ?_
    rw [← HK.out, if_pos hz]
    exact ⟨rfl, H4.out⟩
  · skip
    have k5 : w3.cell? ⟨b, 5, none⟩ = some (.int .i64 kw) := by rw [H2.out.ak.f]; rfl
    have z5 := H2.out.ak.fz 5
    have d3 := H2.out.ar.c3
    by_cases hm : (A.buf : Int) ≤ z
    · skip
      go_wp2_with fail
      have H4 := hide (H2.out.set 5 (.int .i64 (A.buf : Int)))
      generalize w3.setCell ⟨b, 5, none⟩ (.int .i64 (A.buf : Int)) = w4 at *
      have j3 : w4.cell? ⟨b, 3, none⟩ = some (.int .i64 ks) := by rw [H4.out.ak.f]; rfl
      have c4 := H4.out.ar.c4
      have HG2 := hide (fun m => HG.out (w4.drewN m) _ (H4.out.ar.drewN m))
      clear HG k3 k5 z5 d3 H2
      go_quiet ((go_at_call 33; exact Calls.quiet_of_same (HG2.out _)))
      have H5 := hide (H4.out.drewN nq)
      generalize w4.drewN nq = w5 at *
      have i3 : w5.cell? ⟨b, 3, none⟩ = some (.int .i64 ks) := by rw [H5.out.ak.f]; rfl
      have i5 : w5.cell? ⟨b, 5, none⟩ = some (.int .i64 (A.buf : Int)) := by rw [H5.out.ak.f]; rfl
      have i0 : w5.cell? ⟨b, 0, none⟩ = some (.func (.func kat.fn) #[.pointer (some ⟨a, 0, none⟩)] #[]) := by rw [H5.out.ak.f]; rfl
      have z5 := H5.out.ak.fz 5
      have z0 := H5.out.ak.fz 0
      clear H4 HG2 j3 c4
      cases g
      · go_wp2_with fail
        first | refine bodyPost_end (results_none rfl _ _ _) rfl ?_ | refine bodyPost_ret (results_none rfl _ _ _) rfl ?_
        rw [← HK.out, if_neg (by omega), if_neg (by simp), show min (A.buf : Int) z = A.buf by omega]
        exact ⟨rfl, H5.out.set 0 _⟩
      · go_wp2_with fail
        first | refine bodyPost_end (results_none rfl _ _ _) rfl ?_ | refine bodyPost_ret (results_none rfl _ _ _) rfl ?_
        rw [← HK.out, if_neg (by omega), if_pos trivial]
        exact ⟨rfl, (H5.out.set 5 _).set 0 _⟩
    · have hm2 : z < (A.buf : Int) := by omega
      go_wp2_with fail
      have H4 := hide (H2.out.set 5 (.int .i64 z))
      generalize w3.setCell ⟨b, 5, none⟩ (.int .i64 z) = w4 at *
      have j3 : w4.cell? ⟨b, 3, none⟩ = some (.int .i64 ks) := by rw [H4.out.ak.f]; rfl
      have c4 := H4.out.ar.c4
      have HG2 := hide (fun m => HG.out (w4.drewN m) _ (H4.out.ar.drewN m))
      clear HG k3 k5 z5 d3 H2
      go_quiet ((go_at_call 33; exact Calls.quiet_of_same (HG2.out _)))
      have H5 := hide (H4.out.drewN nq)
      generalize w4.drewN nq = w5 at *
      have i3 : w5.cell? ⟨b, 3, none⟩ = some (.int .i64 ks) := by rw [H5.out.ak.f]; rfl
      have i5 : w5.cell? ⟨b, 5, none⟩ = some (.int .i64 z) := by rw [H5.out.ak.f]; rfl
      have i0 : w5.cell? ⟨b, 0, none⟩ = some (.func (.func kat.fn) #[.pointer (some ⟨a, 0, none⟩)] #[]) := by rw [H5.out.ak.f]; rfl
      have z5 := H5.out.ak.fz 5
      have z0 := H5.out.ak.fz 0
      clear H4 HG2 j3 c4
      cases g
      · go_wp2_with fail
        first | refine bodyPost_end (results_none rfl _ _ _) rfl ?_ | refine bodyPost_ret (results_none rfl _ _ _) rfl ?_
        rw [← HK.out, if_neg (by omega), if_neg (by simp), show min (A.buf : Int) z = z by omega]
        exact ⟨rfl, H5.out.set 0 _⟩
      · go_wp2_with fail
        first | refine bodyPost_end (results_none rfl _ _ _) rfl ?_ | refine bodyPost_ret (results_none rfl _ _ _) rfl ?_
        rw [← HK.out, if_neg (by omega), if_pos trivial]
        exact ⟨rfl, (H5.out.set 5 _).set 0 _⟩
end
end Go.Proofs.Ytelljfckffmjmaa
