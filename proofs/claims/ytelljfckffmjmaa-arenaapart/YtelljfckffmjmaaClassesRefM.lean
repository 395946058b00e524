/-
  The document's own answers: May, Check, Sum, Size tell the same.
-/
import Derived.Test.YtelljfckffmjmaaClassesCount
import Derived.Test.YtelljfckffmjmaaClassesChk
import Derived.Test.YtelljfckffmjmaaClassesSum
namespace Go.Proofs.Ytelljfckffmjmaa
open Go.RowKit
set_option linter.unusedVariables false

set_option maxRecDepth 100000 in
theorem rmay_any (r v a : Int) (w : World) (h : Cls.In ⟨r, v, a⟩) :
    Calls Try.prog 59 #[.agg #[.int .i64 r, .int .i64 v, .int .i64 a]] w fun e w' => e = .returned (.bool (Cls.may ⟨r, v, a⟩)) ∧ Turned [] w w' := by
  have HT := hide (fun c => (Turned.refl [] w).alloc (.cells c 72))
  clear h
  obtain ⟨b, hb⟩ : ∃ b, b = Cls.may ⟨r, v, a⟩ := ⟨_, rfl⟩
  rw [← hb]
  have HB := hide hb
  clear hb
  by_cases h1 : a = 1
  · subst h1
    have HB0 : Hid (b = decide (r = 0 ∧ v = 0)) := by show _ = _; rw [HB.out]; unfold Cls.may; simp
    clear HB
    go_enter Try.func59, Try.ntmps59
    go_wp2_with fail
    all_goals (go_ret; refine ⟨?_, HT.out _⟩; have hb := HB0.out; clear HB0; subst hb; simp_all [Ending.returned.injEq, Value.bool.injEq]; try rfl)
  · by_cases h2 : a = 2
    · subst h2
      have HB0 : Hid (b = decide (r = 0 ∧ v = 0)) := by show _ = _; rw [HB.out]; unfold Cls.may; simp
      clear HB
      go_enter Try.func59, Try.ntmps59
      go_wp2_with fail
      all_goals (go_ret; refine ⟨?_, HT.out _⟩; have hb := HB0.out; clear HB0; subst hb; simp_all [Ending.returned.injEq, Value.bool.injEq]; try rfl)
    · by_cases h0 : a = 0
      · subst h0
        have HB0 : Hid (b = decide (0 ≤ r ∧ 0 ≤ v ∧ r + v ≤ 64)) := by show _ = _; rw [HB.out]; unfold Cls.may; simp
        clear HB
        by_cases hr : 0 ≤ r ∧ r ≤ 64
        · by_cases hv : 0 ≤ v ∧ v ≤ 64
          · obtain ⟨r0, r1⟩ := hr
            obtain ⟨v0, v1⟩ := hv
            have hb : b = decide (r + v ≤ 64) := by rw [HB0.out]; simp [r0, v0]
            subst hb
            clear HB0
            have e1 : wrap64 (r + v) = r + v := by unfold wrap64; omega
            go_enter Try.func59, Try.ntmps59
            go_wp2_with fail
            go_ret
            exact ⟨rfl, HT.out _⟩
          · have hb : b = false := by rw [HB0.out]; simp; omega
            subst hb
            clear HB0
            obtain ⟨r0, r1⟩ := hr
            by_cases v0 : 0 ≤ v
            · have v1 : ¬ (v ≤ 64) := fun hh => hv ⟨v0, hh⟩
              clear hv
              go_enter Try.func59, Try.ntmps59
              go_wp2_with fail
              go_ret
              exact ⟨rfl, HT.out _⟩
            · clear hv
              go_enter Try.func59, Try.ntmps59
              go_wp2_with fail
              go_ret
              exact ⟨rfl, HT.out _⟩
        · have hb : b = false := by rw [HB0.out]; simp; omega
          subst hb
          clear HB0
          by_cases r0 : 0 ≤ r
          · have r1 : ¬ (r ≤ 64) := fun hh => hr ⟨r0, hh⟩
            clear hr
            by_cases v0 : 0 ≤ v
            · go_enter Try.func59, Try.ntmps59
              go_wp2_with fail
              go_ret
              exact ⟨rfl, HT.out _⟩
            · go_enter Try.func59, Try.ntmps59
              go_wp2_with fail
              go_ret
              exact ⟨rfl, HT.out _⟩
          · clear hr
            go_enter Try.func59, Try.ntmps59
            go_wp2_with fail
            go_ret
            exact ⟨rfl, HT.out _⟩
      · have hb : b = false := by rw [HB.out]; unfold Cls.may; simp; omega
        subst hb
        clear HB
        have e1 : (a == 1) = false := by simp [h1]
        have e2 : (a == 2) = false := by simp [h2]
        have e0 : (a == 0) = false := by simp [h0]
        go_enter Try.func59, Try.ntmps59
        go_wp2_with fail
        go_ret
        exact ⟨rfl, HT.out _⟩

end Go.Proofs.Ytelljfckffmjmaa
