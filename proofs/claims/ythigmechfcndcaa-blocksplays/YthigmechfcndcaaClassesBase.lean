/-
  Classes as the model has them, and what package classes' small functions tell: mayHave, may, a shape's size and references.
-/
import Derived.Test.YthigmechfcndcaaFrames
import Derived.RegionTactic
import Derived.ChangeAlike
namespace Go.Proofs.Ythigmechfcndcaa
open Go.RowKit
set_option linter.unusedVariables false

/-- A class: its references, its words, its kind. -/
structure Cls where
  r : Int
  w : Int
  a : Int
def In64 (x : Int) : Prop := -9223372036854775808 ≤ x ∧ x ≤ 9223372036854775807
def Cls.val (c : Cls) : Value := .agg #[.int .i64 c.r, .int .i64 c.w, .int .i64 c.a]
def Cls.In (c : Cls) : Prop := In64 c.r ∧ In64 c.w ∧ In64 c.a
/-- A class may be. -/
def Cls.may (c : Cls) : Bool := decide (c.a = 0 ∧ 0 ≤ c.r ∧ 0 ≤ c.w ∧ c.r + c.w ≤ 64 ∨ (c.a = 1 ∨ c.a = 2) ∧ c.r = 0 ∧ c.w = 0)

theorem mayHave_any (r v : Int) (w : World) (hr : In64 r) (hv : In64 v) :
    Calls Try.prog 50 #[.int .i64 r, .int .i64 v] w fun e w' => e = .returned (.bool (decide (0 ≤ r ∧ 0 ≤ v ∧ r + v ≤ 64))) ∧ w' = w := by
  unfold In64 at hr hv
  obtain ⟨b, hb⟩ : ∃ b, b = decide (0 ≤ r ∧ 0 ≤ v ∧ r + v ≤ 64) := ⟨_, rfl⟩
  rw [← hb]
  have HB := hide hb
  clear hb
  go_enter Try.func50, Try.ntmps50
  go_wp2
  all_goals (go_ret; refine ⟨?_, rfl⟩; have hb := HB.out; clear HB; subst hb; simp [Ending.returned.injEq, Value.bool.injEq]; first | omega | (rw [Bool.eq_iff_iff]; simp; omega))

theorem may_any (r v a : Int) (w : World) (h : Cls.In ⟨r, v, a⟩) :
    Calls Try.prog 49 #[.agg #[.int .i64 r, .int .i64 v, .int .i64 a]] w fun e w' => e = .returned (.bool (Cls.may ⟨r, v, a⟩)) ∧ Turned [] w w' := by
  have HC := hide (fun w => mayHave_any r v w h.1 h.2.1)
  have HT := hide (fun c => (Turned.refl [] w).alloc (.cells c 91))
  clear h
  obtain ⟨b, hb⟩ : ∃ b, b = Cls.may ⟨r, v, a⟩ := ⟨_, rfl⟩
  rw [← hb]
  have HB := hide hb
  clear hb
  by_cases h0 : a = 0
  · subst h0
    have HB0 : Hid (b = decide (0 ≤ r ∧ 0 ≤ v ∧ r + v ≤ 64)) := by show _ = _; rw [HB.out]; unfold Cls.may; simp
    rw [← HB0.out] at HC
    go_enter Try.func49, Try.ntmps49
    go_wp2_with fail
    refine (HC.out _).mono ?_
    rintro e w1 ⟨rfl, rfl⟩
    go_wp2_with fail
    go_ret
    exact ⟨rfl, HT.out _⟩
  · by_cases h1 : a = 1
    · subst h1
      have HB0 : Hid (b = decide (r = 0 ∧ v = 0)) := by show _ = _; rw [HB.out]; unfold Cls.may; simp
      clear HB h0
      go_enter Try.func49, Try.ntmps49
      go_wp2_with fail
      all_goals (go_ret; refine ⟨?_, HT.out _⟩; have hb := HB0.out; clear HB0; subst hb; simp_all [Ending.returned.injEq, Value.bool.injEq]; try rfl)
    · by_cases h2 : a = 2
      · subst h2
        have HB0 : Hid (b = decide (r = 0 ∧ v = 0)) := by show _ = _; rw [HB.out]; unfold Cls.may; simp
        clear HB h0 h1
        go_enter Try.func49, Try.ntmps49
        go_wp2_with fail
        all_goals (go_ret; refine ⟨?_, HT.out _⟩; have hb := HB0.out; clear HB0; subst hb; simp_all [Ending.returned.injEq, Value.bool.injEq]; try rfl)
      · have hb : b = false := by rw [HB.out]; unfold Cls.may; simp; omega
        subst hb
        clear HB
        go_enter Try.func49, Try.ntmps49
        go_wp2_with fail
        go_ret
        exact ⟨rfl, HT.out _⟩

theorem size_any (r v : Int) (w : World) (h : In64 r ∧ In64 v ∧ In64 (1 + r + v) ∧ In64 (1 + r)) :
    Calls Try.prog 42 #[.agg #[.int .i64 r, .int .i64 v]] w fun e w' => e = .returned (.int .i64 (1 + r + v)) ∧ Turned [] w w' := by
  have HT := hide (fun c => (Turned.refl [] w).alloc (.cells c 97))
  unfold In64 at h
  have e1 : wrap64 (1 + r) = 1 + r := by unfold wrap64; omega
  have e2 : wrap64 (1 + r + v) = 1 + r + v := by unfold wrap64; omega
  clear h
  go_enter Try.func42, Try.ntmps42
  go_wp2_with fail
  go_ret
  refine ⟨?_, HT.out _⟩
  show Ending.returned (.int .i64 (wrap64 (1 + r + v))) = _
  rw [e2]

theorem references_any (r v : Int) (w : World) :
    Calls Try.prog 48 #[.agg #[.int .i64 r, .int .i64 v]] w fun e w' => e = .returned (.int .i64 r) ∧ Turned [] w w' := by
  have HT := hide (fun c => (Turned.refl [] w).alloc (.cells c 97))
  go_enter Try.func48, Try.ntmps48
  go_wp2_with fail
  go_ret
  exact ⟨rfl, HT.out _⟩
end Go.Proofs.Ythigmechfcndcaa
