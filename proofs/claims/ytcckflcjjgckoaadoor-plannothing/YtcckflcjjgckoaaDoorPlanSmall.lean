/-
  The small calls of package plan: regions, Region, Span, moving, Goal.
-/
import Derived.Test.YtcckflcjjgckoaaDoorPlanP
import Derived.Deep.RegionHeld3
import Derived.Deep.QuietTactic
import Derived.BigQuiet
namespace Go.Proofs.YtcckflcjjgckoaaDoor
open Go.RowKit Bt
set_option linter.unusedVariables false

theorem wrap_small (n : Int) (h : -9223372036854775808 ≤ n ∧ n ≤ 9223372036854775807) : wrap64 n = n := by unfold wrap64; omega
/-- A plan's cells: its numbers and its four lists. -/
def plC (P : PN) (l a wt tk : Value) : Array Value := #[.int .i64 P.f, .int .i64 P.t, .int .i64 P.k, .int .i64 P.d, .int .i64 P.e, l, a, wt, tk]

/-- A plan in memory. -/
def Pb (w : World) (q : Nat) (P : PN) (l a wt tk : Value) : Prop := w.heap[q]? = some (.cells (plC P l a wt tk) 30)
section
variable {w w' : World} {q : Nat} {P : PN} {l a wt tk : Value}
theorem Pb.lt (h : Pb w q P l a wt tk) : q < w.heap.size := lt_of_heap h
theorem Pb.turned (h : Pb w q P l a wt tk) {S : List Nat} (t : Turned S w w') (hq : q ∉ S) : Pb w' q P l a wt tk := by unfold Pb; rw [t.block q h.lt hq]; exact h
theorem Pb.turned0 (h : Pb w q P l a wt tk) (t : Turned [] w w') : Pb w' q P l a wt tk := h.turned t (by simp)
theorem Pb.cs (h : Pb w q P l a wt tk) : w.cell? ⟨q, 0, none⟩ = some (.int .i64 P.f) ∧ w.cell? ⟨q, 1, none⟩ = some (.int .i64 P.t) ∧ w.cell? ⟨q, 2, none⟩ = some (.int .i64 P.k) ∧ w.cell? ⟨q, 3, none⟩ = some (.int .i64 P.d) ∧ w.cell? ⟨q, 4, none⟩ = some (.int .i64 P.e) ∧ w.cell? ⟨q, 5, none⟩ = some l ∧ w.cell? ⟨q, 6, none⟩ = some a ∧ w.cell? ⟨q, 7, none⟩ = some wt ∧ w.cell? ⟨q, 8, none⟩ = some tk := by
  refine ⟨?_, ?_, ?_, ?_, ?_, ?_, ?_, ?_, ?_⟩ <;> (rw [cell_of_heap h]; rfl)
end
theorem pb_new (w : World) (P : PN) (l a wt tk : Value) : Pb (w.alloc (.cells (plC P l a wt tk) 30)) w.heap.size P l a wt tk := heap_alloc_new _ _

theorem regions_any (P : PN) (h : P.Ok) (l a wt tk : Value) (w : World) :
    Calls Tryd.prog 44 #[.agg (plC P l a wt tk)] w fun e w' => e = .returned (.int .i64 (P.R : Nat)) ∧ Turned [] w w' := by
  obtain ⟨f, t, k, d, e⟩ := P
  have h1 := h.le
  have h2 := h.few
  have h3 := h.k1
  have h4 := h.kk
  simp only at h1 h2 h3 h4
  have HR := hide (PN.R_few h)
  obtain ⟨R, hR⟩ : ∃ R, R = PN.R ⟨f, t, k, d, e⟩ := ⟨_, rfl⟩
  rw [← hR] at HR ⊢
  unfold PN.R at hR
  simp only at hR
  unfold plC
  by_cases h0 : f < t
  · rw [if_pos h0] at hR
    have hc : ((R : Nat) : Int) = ((t : Int) - f - 1) / k + 1 := by
      rw [hR]
      rw [Int.natCast_add, Int.natCast_ediv]
      congr 2
      omega
    have HC := hide hc
    clear hc hR h
    go_enter Tryd.func44, Tryd.ntmps44
    go_wp2_with fail
    go_ret
    refine ⟨?_, (Turned.refl _ _).alloc _⟩
    rw [← HC.out, wrap_small _ (by have := HR.out; omega)]; rfl
  · rw [if_neg h0] at hR
    subst hR
    have h00 : ¬ (f : Int) < t := by omega
    clear h
    go_enter Tryd.func44, Tryd.ntmps44
    go_wp2_with fail
    go_ret
    exact ⟨rfl, (Turned.refl _ _).alloc _⟩

/-- What Region tells. -/
def rgI (P : PN) (x : Int) : Int := if (P.f : Int) ≤ x ∧ x < P.t then (P.reg x.toNat : Nat) else -1
theorem region_any (P : PN) (h : P.Ok) (l a wt tk : Value) (x : Int) (w : World) :
    Calls Tryd.prog 14 #[.agg (plC P l a wt tk), .int .i64 x] w fun e w' => e = .returned (.int .i64 (rgI P x)) ∧ Turned [] w w' := by
  have HR := hide (fun w => regions_any P h l a wt tk w)
  have HF := hide (PN.R_few h)
  have HN := hide (PN.R_none h)
  have HP := hide (fun hh => PN.R_pos (P := P) hh)
  obtain ⟨r, hr⟩ : ∃ r, r = rgI P x := ⟨_, rfl⟩
  rw [← hr]
  unfold rgI PN.reg at hr
  have h1 := h.le
  have h2 := h.few
  have h3 := h.k1
  have h4 := h.kk
  generalize hRR : P.R = R at *
  obtain ⟨f, t, k, d, e⟩ := P
  simp only at h1 h2 h3 h4 hr HN HP
  unfold plC at HR ⊢
  simp only at HR ⊢
  clear hRR h
  by_cases h0 : (f : Int) ≤ x ∧ x < t
  · rw [if_pos h0] at hr
    have hR0 : 0 < R := HP.out (by omega)
    have hc : r = (x - f) / k := by
      rw [hr, Int.natCast_ediv]
      congr 1
      omega
    have hR1 : ((R : Int) == 0) = false := by simp; omega
    have h01 := h0.1
    have h02 := h0.2
    have HB := hide (pb_new w ⟨f, t, k, d, e⟩ l a wt tk)
    have HT := hide ((Turned.refl [] w).alloc (.cells (plC ⟨f, t, k, d, e⟩ l a wt tk) 30))
    unfold plC at HB HT
    simp only at HB HT
    clear hr
    go_enter Tryd.func14, Tryd.ntmps14
    go_wp2_with fail
    generalize w.alloc (.cells #[Value.int .i64 f, Value.int .i64 t, Value.int .i64 k, Value.int .i64 d, Value.int .i64 e, l, a, wt, tk] 30) = w0 at *
    generalize w.heap.size = q at *
    refine (HR.out _).mono ?_
    rintro e1 w1 ⟨rfl, ht1⟩
    obtain ⟨c0, c1, c2, c3, c4, c5, c6, c7, c8⟩ := (HB.out.turned0 ht1).cs
    have HT1 := hide (HT.out.trans ht1)
    clear ht1 HB HT
    go_wp2_with fail
    go_ret
    exact ⟨by rw [hc]; rfl, HT1.out⟩
  · rw [if_neg h0] at hr
    subst hr
    have HB := hide (pb_new w ⟨f, t, k, d, e⟩ l a wt tk)
    have HT := hide ((Turned.refl [] w).alloc (.cells (plC ⟨f, t, k, d, e⟩ l a wt tk) 30))
    unfold plC at HB HT
    simp only at HB HT
    by_cases hf : (f : Int) ≤ x
    · have hx : ¬ x < (t : Int) := by omega
      go_enter Tryd.func14, Tryd.ntmps14
      go_wp2_with fail
      generalize w.alloc (.cells #[Value.int .i64 f, Value.int .i64 t, Value.int .i64 k, Value.int .i64 d, Value.int .i64 e, l, a, wt, tk] 30) = w0 at *
      generalize w.heap.size = q at *
      refine (HR.out _).mono ?_
      rintro e1 w1 ⟨rfl, ht1⟩
      obtain ⟨c0, c1, c2, c3, c4, c5, c6, c7, c8⟩ := (HB.out.turned0 ht1).cs
      have HT1 := hide (HT.out.trans ht1)
      clear ht1 HB HT
      by_cases hR0 : R = 0
      · have hR1 : ((R : Int) == 0) = true := by simp; omega
        go_wp2_with fail
        go_ret
        exact ⟨rfl, HT1.out⟩
      · have hR1 : ((R : Int) == 0) = false := by simp; omega
        go_wp2_with fail
        go_ret
        exact ⟨rfl, HT1.out⟩
    · go_enter Tryd.func14, Tryd.ntmps14
      go_wp2_with fail
      generalize w.alloc (.cells #[Value.int .i64 f, Value.int .i64 t, Value.int .i64 k, Value.int .i64 d, Value.int .i64 e, l, a, wt, tk] 30) = w0 at *
      generalize w.heap.size = q at *
      refine (HR.out _).mono ?_
      rintro e1 w1 ⟨rfl, ht1⟩
      obtain ⟨c0, c1, c2, c3, c4, c5, c6, c7, c8⟩ := (HB.out.turned0 ht1).cs
      have HT1 := hide (HT.out.trans ht1)
      clear ht1 HB HT
      by_cases hR0 : R = 0
      · have hR1 : ((R : Int) == 0) = true := by simp; omega
        go_wp2_with fail
        go_ret
        exact ⟨rfl, HT1.out⟩
      · have hR1 : ((R : Int) == 0) = false := by simp; omega
        go_wp2_with fail
        go_ret
        exact ⟨rfl, HT1.out⟩

theorem span_in (P : PN) (h : P.Ok) (l a wt tk : Value) (r : Nat) (hr : r < P.R) (w : World) :
    Calls Tryd.prog 25 #[.agg (plC P l a wt tk), .int .i64 (r : Int)] w fun e w' => e = .returned (.tuple #[.int .i64 (P.ed r : Nat), .int .i64 (P.ed (r + 1) : Nat)]) ∧ Turned [] w w' := by
  have HR := hide (fun w => regions_any P h l a wt tk w)
  have hF := PN.R_few h
  have e1 := PN.ed_eq h hr
  have e2 := PN.lt_R h hr
  have e3 : P.ed (r + 1) = P.ed r + min P.k (P.t - P.ed r) := by
    unfold PN.ed
    rw [Nat.succ_mul]
    omega
  have h2 := h.few
  have h4 := h.kk
  have h3 := h.k1
  have hle := PN.ed_le P r
  generalize P.ed (r + 1) = E2 at *
  generalize P.ed r = E1 at *
  generalize hRR : P.R = R at *
  obtain ⟨f, t, k, d, e⟩ := P
  simp only at h2 h3 h4 e1 e2 e3 hle
  have HB := hide (pb_new w ⟨f, t, k, d, e⟩ l a wt tk)
  have HT := hide ((Turned.refl [] w).alloc (.cells (plC ⟨f, t, k, d, e⟩ l a wt tk) 30))
  unfold plC at HR HB HT ⊢
  simp only at HR HB HT ⊢
  have hri : (r : Int) < R := by omega
  have hm : (r : Int) * (k : Int) = (E1 : Int) - f := by
    rw [e1, Int.natCast_add, Int.natCast_mul]
    generalize (r : Int) * (k : Int) = z
    omega
  have HM := hide (show wrap64 ((r : Int) * (k : Int)) = (E1 : Int) - f ∧ IntKind.i64.wrap ((r : Int) * (k : Int)) = (E1 : Int) - f from by
    rw [hm, IntKind.wrap_i64]
    unfold wrap64
    omega)
  have hm1 := HM.out.1
  have hm2 : wrap64 ((f : Int) + ((E1 : Int) - f)) = E1 := by unfold wrap64; omega
  have hm3 : IntKind.i64.wrap ((E1 : Int) + min (k : Int) ((t : Int) - E1)) = E2 := by rw [IntKind.wrap_i64]; omega
  have hm4 : IntKind.i64.wrap ((t : Int) - E1) = (t : Int) - E1 := by rw [IntKind.wrap_i64]; omega
  have HE := hide (show E1 ≤ t ∧ t ≤ 65536 from ⟨hle, h2⟩)
  clear hRR h hr e1 e2 e3 hm HM h2 h3 h4 hle hF
  go_enter Tryd.func25, Tryd.ntmps25
  go_wp2_with fail
  generalize w.alloc (.cells #[Value.int .i64 f, Value.int .i64 t, Value.int .i64 k, Value.int .i64 d, Value.int .i64 e, l, a, wt, tk] 30) = w0 at *
  generalize w.heap.size = q at *
  refine (HR.out _).mono ?_
  rintro e1 w1 ⟨rfl, ht1⟩
  obtain ⟨c0, c1, c2, c3, c4, c5, c6, c7, c8⟩ := (HB.out.turned0 ht1).cs
  have HT1 := hide (HT.out.trans ht1)
  clear ht1 HB HT
  go_wp2_with fail
  go_region
  go_wp2_with fail
  go_ret2
  exact ⟨by simp only [hm2]; rfl, HT1.out.drew⟩

theorem moving_in (P : PN) (h : P.Ok) (l a wt tk : Value) (r : Nat) (hr : r < P.R) (w : World) :
    Calls Tryd.prog 30 #[.agg (plC P l a wt tk), .int .i64 (r : Int)] w fun e w' => e = .returned (.tuple #[.int .i64 (max (P.ed r) P.d : Nat), .int .i64 (P.ed (r + 1) : Nat)]) ∧ Turned [] w w' := by
  have HR := hide (fun w => span_in P h l a wt tk r hr w)
  generalize P.ed (r + 1) = E2 at *
  generalize P.ed r = E1 at *
  clear h hr
  obtain ⟨f, t, k, d, e⟩ := P
  have hm : ((max E1 d : Nat) : Int) = max (E1 : Int) d := by omega
  have HB := hide (pb_new w ⟨f, t, k, d, e⟩ l a wt tk)
  have HT := hide ((Turned.refl [] w).alloc (.cells (plC ⟨f, t, k, d, e⟩ l a wt tk) 30))
  unfold plC at HR HB HT ⊢
  simp only at HR HB HT ⊢
  rw [hm]
  clear hm
  go_enter Tryd.func30, Tryd.ntmps30
  go_wp2_with fail
  generalize w.alloc (.cells #[Value.int .i64 f, Value.int .i64 t, Value.int .i64 k, Value.int .i64 d, Value.int .i64 e, l, a, wt, tk] 30) = w0 at *
  generalize w.heap.size = q at *
  refine (HR.out _).mono ?_
  rintro e1 w1 ⟨rfl, ht1⟩
  obtain ⟨c0, c1, c2, c3, c4, c5, c6, c7, c8⟩ := (HB.out.turned0 ht1).cs
  have HT1 := hide (HT.out.trans ht1)
  clear ht1 HB HT
  go_wp2_with fail
  go_ret2
  exact ⟨rfl, HT1.out⟩

/-- What Goal tells. -/
def gF (P : PN) (r : Nat) : Nat := if max (P.ed r) P.d < min (P.ed (r + 1)) P.e then max (P.ed r) P.d else 0
def gT (P : PN) (r : Nat) : Nat := if max (P.ed r) P.d < min (P.ed (r + 1)) P.e then min (P.ed (r + 1)) P.e else 0
theorem goal_in (P : PN) (h : P.Ok) (l a wt tk : Value) (r : Nat) (hr : r < P.R) (w : World) :
    Calls Tryd.prog 13 #[.agg (plC P l a wt tk), .int .i64 (r : Int)] w fun e w' => e = .returned (.tuple #[.int .i64 (gF P r : Nat), .int .i64 (gT P r : Nat)]) ∧ Turned [] w w' := by
  have HR := hide (fun w => moving_in P h l a wt tk r hr w)
  unfold gF gT
  generalize P.ed (r + 1) = E2 at *
  generalize P.ed r = E1 at *
  clear h hr
  obtain ⟨f, t, k, d, e⟩ := P
  simp only at HR ⊢
  generalize max E1 d = M at *
  have hm : min (E2 : Int) (e : Int) = ((min E2 e : Nat) : Int) := by omega
  generalize min E2 e = N at *
  have HB := hide (pb_new w ⟨f, t, k, d, e⟩ l a wt tk)
  have HT := hide ((Turned.refl [] w).alloc (.cells (plC ⟨f, t, k, d, e⟩ l a wt tk) 30))
  unfold plC at HR HB HT ⊢
  simp only at HR HB HT ⊢
  by_cases h0 : M < N
  · rw [if_pos h0, if_pos h0]
    have h0i : ¬ (N : Int) ≤ M := by omega
    go_enter Tryd.func13, Tryd.ntmps13
    go_wp2_with fail
    generalize w.alloc (.cells #[Value.int .i64 f, Value.int .i64 t, Value.int .i64 k, Value.int .i64 d, Value.int .i64 e, l, a, wt, tk] 30) = w0 at *
    generalize w.heap.size = q at *
    refine (HR.out _).mono ?_
    rintro e1 w1 ⟨rfl, ht1⟩
    obtain ⟨c0, c1, c2, c3, c4, c5, c6, c7, c8⟩ := (HB.out.turned0 ht1).cs
    have HT1 := hide (HT.out.trans ht1)
    clear ht1 HB HT
    go_wp2_with fail
    go_ret2
    exact ⟨rfl, HT1.out⟩
  · rw [if_neg h0, if_neg h0]
    have h0i : (N : Int) ≤ M := by omega
    go_enter Tryd.func13, Tryd.ntmps13
    go_wp2_with fail
    generalize w.alloc (.cells #[Value.int .i64 f, Value.int .i64 t, Value.int .i64 k, Value.int .i64 d, Value.int .i64 e, l, a, wt, tk] 30) = w0 at *
    generalize w.heap.size = q at *
    refine (HR.out _).mono ?_
    rintro e1 w1 ⟨rfl, ht1⟩
    obtain ⟨c0, c1, c2, c3, c4, c5, c6, c7, c8⟩ := (HB.out.turned0 ht1).cs
    have HT1 := hide (HT.out.trans ht1)
    clear ht1 HB HT
    go_wp2_with fail
    go_ret2
    exact ⟨rfl, HT1.out⟩
end Go.Proofs.YtcckflcjjgckoaaDoor
