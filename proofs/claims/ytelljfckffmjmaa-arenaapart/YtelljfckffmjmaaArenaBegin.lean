/-
  begin, an ask's first step, in its four ways.
-/
import Derived.Test.YtelljfckffmjmaaArenaSteps
namespace Go.Proofs.Ytelljfckffmjmaa
open Go.RowKit

section
variable (w w0 : World) (a v p q B b o : Nat) (T : TypeId) (A : AC) (l bl : List Int) (s : Int) (kat : AStp) (kd : Bool) (ks kt kw kp ke : Int) (f t : Int)

/-- fill, with the ask beside it. -/
theorem As.filled {w0 w w' : World} {a v p q B b : Nat} {T : TypeId} {A : AC} {l bl l' bl' : List Int} {s s' : Int} {c : Array Value} (h : As w0 w a v p q B b T A l bl s c) (g : Ab w w' a v p q B T A l' bl' s') : As w0 w' a v p q B b T A l' bl' s' c :=
  ⟨g.ar, g.bf, g.bt, h.ak.turned g.tu (by simp; exact ⟨h.nb.2.2.1, h.nb.2.2.2, Ne.symm h.nB.2.2.2.2⟩), h.tu.trans (g.tu.mono (by intro k hk; simp at hk; rcases hk with rfl | rfl | rfl <;> simp))⟩
theorem As.ab {w0 w : World} {a v p q B b : Nat} {T : TypeId} {A : AC} {l bl : List Int} {s : Int} {c : Array Value} (h : As w0 w a v p q B b T A l bl s c) : Ab w w a v p q B T A l bl s := ⟨h.ar, h.bf, h.bt, Turned.refl _ _⟩

set_option maxRecDepth 4000 in
theorem ar_begin_bad (hf : 0 ≤ f ∧ f ≤ t ∧ t ≤ l.length) (h0 : bl[o]? = some f) (h1 : bl[o + 1]? = some t) (hs : ks < 1 ∨ 65536 < ks) (h : As w0 w a v p q B b T A l bl s (akCells a B o ⟨kat, kd, ks, kt, kw, kp, ke⟩)) :
    Calls Try.prog 35 #[.pointer (some ⟨a, 0, none⟩), .pointer (some ⟨b, 0, none⟩)] w fun e w' => e = .returned (.tuple #[]) ∧ As w0 w' a v p q B b T A l bl s (akCells a B o ⟨kat, true, ks, kt, kw, 0, 11⟩) := by
  have hm := h.ar.most
  have f2 : w.cell? ⟨b, 2, none⟩ = some (.pointer (some ⟨B, o, none⟩)) := by rw [h.ak.f]; rfl
  have HW := hide (words_buf w B o f t (by omega) (h.bf.at h0) (h.bf.at h1))
  have H0 := hide h
  have hft : 0 ≤ t - f ∧ t - f ≤ 65536 := by omega
  generalize t - f = n at *
  clear h h0 h1 hf hm
  go_enter Try.func35, Try.ntmps35
  go_wp2_with fail
  refine HW.out.mono ?_
  rintro e w1 ⟨rfl, m, hw1⟩
  have H1 := hide (show As w0 w1 a v p q B b T A l bl s (akCells a B o ⟨kat, kd, ks, kt, kw, kp, ke⟩) by rw [hw1]; exact H0.out.drewN m)
  clear hw1 HW H0 f2
  have j3 : w1.cell? ⟨b, 3, none⟩ = some (.int .i64 ks) := by rw [H1.out.ak.f]; rfl
  have HE := hide (kend_any w1 a B b o ⟨kat, kd, ks, kt, kw, kp, ke⟩ _ 0 11 rfl H1.out.ak)
  go_wp2_with fail
  all_goals (
    refine HE.out.mono ?_
    rintro e w4 ⟨rfl, g4, t4⟩
    have H4 := hide (H1.out.askd t4 g4)
    clear g4 t4 HE H1 j3
    go_wp2_with fail
    first | refine bodyPost_end (results_none rfl _ _ _) rfl ?_ | refine bodyPost_ret (results_none rfl _ _ _) rfl ?_
    exact ⟨rfl, H4.out⟩)

set_option maxRecDepth 4000 in
theorem ar_begin_take (hf : 0 ≤ f ∧ f ≤ t ∧ t ≤ l.length) (h0 : bl[o]? = some f) (h1 : bl[o + 1]? = some t) (hs : 1 ≤ ks ∧ ks ≤ 65536) (hx : ks ≤ t - f) (h : As w0 w a v p q B b T A l bl s (akCells a B o ⟨kat, kd, ks, kt, kw, kp, ke⟩)) :
    Calls Try.prog 35 #[.pointer (some ⟨a, 0, none⟩), .pointer (some ⟨b, 0, none⟩)] w fun e w' => e = .returned (.tuple #[]) ∧ As w0 w' a v p q B b T A l (bl.set o (f + ks)) s (akCells a B o ⟨kat, true, ks, kt, kw, f, 0⟩) := by
  have hm := h.ar.most
  have f2 : w.cell? ⟨b, 2, none⟩ = some (.pointer (some ⟨B, o, none⟩)) := by rw [h.ak.f]; rfl
  have HW := hide (words_buf w B o f t (by omega) (h.bf.at h0) (h.bf.at h1))
  have H0 := hide h
  have HT := hide (fun w' (h' : Bf w' B T bl) => take_any w' B o T bl f ks (by omega) h0 h')
  have hft : 0 ≤ t - f ∧ t - f ≤ 65536 := by omega
  generalize t - f = n at *
  clear h h0 h1 hf hm
  go_enter Try.func35, Try.ntmps35
  go_wp2_with fail
  refine HW.out.mono ?_
  rintro e w1 ⟨rfl, m, hw1⟩
  have H1 := hide (show As w0 w1 a v p q B b T A l bl s (akCells a B o ⟨kat, kd, ks, kt, kw, kp, ke⟩) by rw [hw1]; exact H0.out.drewN m)
  clear hw1 HW H0 f2
  have j3 : w1.cell? ⟨b, 3, none⟩ = some (.int .i64 ks) := by rw [H1.out.ak.f]; rfl
  have j2 : w1.cell? ⟨b, 2, none⟩ = some (.pointer (some ⟨B, o, none⟩)) := by rw [H1.out.ak.f]; rfl
  go_wp2_with fail
  go_region_held3 (fun w' => w'.cell? ⟨b, 2, none⟩ = some (.pointer (some ⟨B, o, none⟩)) ∧ w'.cell? ⟨b, 3, none⟩ = some (.int .i64 ks)) (go_keep)
    (first
      | (go_at_call 51; refine (HT.out _ H1.out.drew.bf).mono ?_; rintro e w2 ⟨rfl, g2, t2⟩; have H2 := hide (H1.out.drew.bufd t2 g2); have i2 := H2.out.ak.f 2; have i3 := H2.out.ak.f 3; simp only [akCells] at i2 i3; clear g2 t2 HT)
      | (go_at_call 50; refine (kend_any _ a B b o ⟨kat, kd, ks, kt, kw, kp, ke⟩ _ f 0 rfl H2.out.ak).mono ?_; rintro e w4 ⟨rfl, g4, t4⟩; have H4 := hide (H2.out.askd t4 g4); have q2 := H4.out.ak.f 2; have q3 := H4.out.ak.f 3; simp only [akCells] at q2 q3; clear g4 t4))
  clear H1 H2 j2 j3 i2 i3 q2 q3
  go_wp2_with fail
  first | refine bodyPost_end (results_none rfl _ _ _) rfl ?_ | refine bodyPost_ret (results_none rfl _ _ _) rfl ?_
  exact ⟨rfl, H4.out⟩

set_option maxRecDepth 4000 in
theorem ar_begin_fill (hf : 0 ≤ f ∧ f < t ∧ t ≤ l.length) (h0 : bl[o]? = some f) (h1 : bl[o + 1]? = some t) (hs : 1 ≤ ks ∧ ks ≤ 65536) (hx : t - f < ks) (hg : lg A ks = false) (h : As w0 w a v p q B b T A l bl s (akCells a B o ⟨kat, kd, ks, kt, kw, kp, ke⟩)) :
    Calls Try.prog 35 #[.pointer (some ⟨a, 0, none⟩), .pointer (some ⟨b, 0, none⟩)] w fun e w' => e = .returned (.tuple #[]) ∧ As w0 w' a v p q B b T A (l.set f.toNat (headOf 0 (t - f - 1))) ((bl.set o 0).set (o + 1) 0) (wrap64 (s + 1)) (akCells a B o ⟨.readTop, kd, ks, kt, kw, kp, ke⟩) := by
  have hm := h.ar.most
  have f2 : w.cell? ⟨b, 2, none⟩ = some (.pointer (some ⟨B, o, none⟩)) := by rw [h.ak.f]; rfl
  have HW := hide (words_buf w B o f t (by omega) (h.bf.at h0) (h.bf.at h1))
  have H0 := hide h
  have HG := hide (fun w' (h' : Arn w' a v p q A l s) => by have := large_any w' a v p q A l s ks hs h'; rwa [hg] at this)
  have HF := hide (fun w' (h' : Ab w' w' a v p q B T A l bl s) => fill_any w' a v p q B o T A l bl s f t hf h0 h1 h')
  have hft : 0 < t - f ∧ t - f ≤ 65536 := by omega
  generalize t - f = n at *
  clear h h0 h1 hf hm hg
  have HB := hide H0.out.ar.buf
  generalize (bl.set o 0).set (o + 1) 0 = bl2 at *
  generalize l.set f.toNat (headOf 0 (n - 1)) = l2 at *
  go_enter Try.func35, Try.ntmps35
  go_wp2_with fail
  refine HW.out.mono ?_
  rintro e w1 ⟨rfl, m, hw1⟩
  have H1 := hide (show As w0 w1 a v p q B b T A l bl s (akCells a B o ⟨kat, kd, ks, kt, kw, kp, ke⟩) by rw [hw1]; exact H0.out.drewN m)
  clear hw1 HW H0 f2
  have j3 : w1.cell? ⟨b, 3, none⟩ = some (.int .i64 ks) := by rw [H1.out.ak.f]; rfl
  have j2 : w1.cell? ⟨b, 2, none⟩ = some (.pointer (some ⟨B, o, none⟩)) := by rw [H1.out.ak.f]; rfl
  have c4 := H1.out.ar.c4
  go_wp2_with fail
  have HG2 := hide (fun m => HG.out (w1.drewN m) (H1.out.ar.drewN m))
  clear HG
  go_quiet ((go_at_call 33; exact Calls.quiet_of_same (HG2.out _)))
  have H5 := hide (H1.out.drewN nq)
  generalize w1.drewN nq = w5 at *
  have i2 : w5.cell? ⟨b, 2, none⟩ = some (.pointer (some ⟨B, o, none⟩)) := by rw [H5.out.ak.f]; rfl
  clear H1 HG2 j2 j3 c4
  go_wp2_with fail
  refine (HF.out _ H5.out.ab).mono ?_
  rintro e w6 ⟨rfl, g6⟩
  have H6 := hide (H5.out.filled g6)
  have i0 : w6.cell? ⟨b, 0, none⟩ = some (.func (.func kat.fn) #[.pointer (some ⟨a, 0, none⟩)] #[]) := by rw [H6.out.ak.f]; rfl
  have z0 := H6.out.ak.fz 0
  clear H5 g6 HF i2
  go_wp2_with fail
  first | refine bodyPost_end (results_none rfl _ _ _) rfl ?_ | refine bodyPost_ret (results_none rfl _ _ _) rfl ?_
  exact ⟨rfl, H6.out.set 0 _⟩

set_option maxRecDepth 4000 in
theorem ar_begin_read (hf : 0 ≤ f ∧ f ≤ t ∧ t ≤ l.length) (h0 : bl[o]? = some f) (h1 : bl[o + 1]? = some t) (hs : 1 ≤ ks ∧ ks ≤ 65536) (hx : t - f < ks) (hg : f = t ∨ lg A ks = true) (h : As w0 w a v p q B b T A l bl s (akCells a B o ⟨kat, kd, ks, kt, kw, kp, ke⟩)) :
    Calls Try.prog 35 #[.pointer (some ⟨a, 0, none⟩), .pointer (some ⟨b, 0, none⟩)] w fun e w' => e = .returned (.tuple #[]) ∧ As w0 w' a v p q B b T A l bl (wrap64 (s + 1)) (akCells a B o (readA A l ⟨kat, kd, ks, kt, kw, kp, ke⟩)) := by
  have hm := h.ar.most
  have f2 : w.cell? ⟨b, 2, none⟩ = some (.pointer (some ⟨B, o, none⟩)) := by rw [h.ak.f]; rfl
  have HW := hide (words_buf w B o f t (by omega) (h.bf.at h0) (h.bf.at h1))
  have H0 := hide h
  have HG := hide (fun w' (h' : Arn w' a v p q A l s) => large_any w' a v p q A l s ks hs h')
  have HR := hide (fun w' (h' : As w0 w' a v p q B b T A l bl s (akCells a B o ⟨kat, kd, ks, kt, kw, kp, ke⟩)) => ar_readTop w' a v p q B b o T A l bl s w0 ⟨kat, kd, ks, kt, kw, kp, ke⟩ hs h')
  have hft : 0 ≤ t - f ∧ t - f ≤ 65536 := by omega
  have hg' : t - f = 0 ∨ lg A ks = true := by rcases hg with hg | hg <;> first | (left; omega) | exact .inr hg
  generalize lg A ks = gg at *
  generalize t - f = n at *
  generalize readA A l ⟨kat, kd, ks, kt, kw, kp, ke⟩ = K' at *
  clear h h0 h1 hf hm hg
  go_enter Try.func35, Try.ntmps35
  go_wp2_with fail
  refine HW.out.mono ?_
  rintro e w1 ⟨rfl, m, hw1⟩
  have H1 := hide (show As w0 w1 a v p q B b T A l bl s (akCells a B o ⟨kat, kd, ks, kt, kw, kp, ke⟩) by rw [hw1]; exact H0.out.drewN m)
  clear hw1 HW H0 f2
  have j3 : w1.cell? ⟨b, 3, none⟩ = some (.int .i64 ks) := by rw [H1.out.ak.f]; rfl
  have j2 : w1.cell? ⟨b, 2, none⟩ = some (.pointer (some ⟨B, o, none⟩)) := by rw [H1.out.ak.f]; rfl
  have c4 := H1.out.ar.c4
  by_cases hn : n = 0
  · subst hn
    go_wp2_with fail
    have HG2 := hide (fun m => HG.out (w1.drewN m) (H1.out.ar.drewN m))
    clear HG
    go_quiet ((go_at_call 33; exact Calls.quiet_of_same (HG2.out _)))
    have H5 := hide (H1.out.drewN nq)
    generalize w1.drewN nq = w5 at *
    clear H1 HG2 j2 j3 c4
    go_wp2_with fail
    refine (HR.out _ H5.out).mono ?_
    rintro e w6 ⟨rfl, g6⟩
    have H6 := hide g6
    clear H5 g6 HR
    go_wp2_with fail
    first | refine bodyPost_end (results_none rfl _ _ _) rfl ?_ | refine bodyPost_ret (results_none rfl _ _ _) rfl ?_
    exact ⟨rfl, H6.out⟩
  · obtain rfl : gg = true := by rcases hg' with h | h <;> first | exact absurd h hn | exact h
    have hn2 : 0 < n := by omega
    go_wp2_with fail
    have HG2 := hide (fun m => HG.out (w1.drewN m) (H1.out.ar.drewN m))
    clear HG
    go_quiet ((go_at_call 33; exact Calls.quiet_of_same (HG2.out _)))
    have H5 := hide (H1.out.drewN nq)
    generalize w1.drewN nq = w5 at *
    clear H1 HG2 j2 j3 c4
    go_wp2_with fail
    refine (HR.out _ H5.out).mono ?_
    rintro e w6 ⟨rfl, g6⟩
    have H6 := hide g6
    clear H5 g6 HR
    go_wp2_with fail
    first | refine bodyPost_end (results_none rfl _ _ _) rfl ?_ | refine bodyPost_ret (results_none rfl _ _ _) rfl ?_
    exact ⟨rfl, H6.out⟩
end
end Go.Proofs.Ytelljfckffmjmaa
