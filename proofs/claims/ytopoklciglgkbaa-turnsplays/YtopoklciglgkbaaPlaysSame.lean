/-
  'same' of the statements' package: two slices that hold the same numbers are the same.
-/
import Derived.Test.YtopoklciglgkbaaPlaysTwo
import Derived.Deep.QuietTactic
import Derived.BigQuiet
namespace Go.Proofs.Ytopoklciglgkbaa
open Go.RowKit
set_option linter.unusedVariables false

set_option maxRecDepth 100000 in
theorem same_true (aa ab : Option Addr) (ca cb : Nat) (l : List Int) (n : Nat) (w : World) (hl : n = l.length) (hn : n ≤ 9223372036854775807)
    (ha : ∀ i x, l[i]? = some x → ∃ g, aa = some ⟨g, 0, none⟩ ∧ w.cell? ⟨g, i, none⟩ = some (.int .i64 x))
    (hb : ∀ i x, l[i]? = some x → ∃ g, ab = some ⟨g, 0, none⟩ ∧ w.cell? ⟨g, i, none⟩ = some (.int .i64 x)) :
    Calls Try.prog 23 #[.slice aa n ca, .slice ab n cb] w fun e w' => e = .returned (.bool true) ∧ Turned [] w w' := by
  have HA := hide ha
  have HB := hide hb
  have HL := hide hl
  clear ha hb hl
  go_enter Try.func23, Try.ntmps23
  go_wp2_with fail
  go_loopw [5] (fun i wr => ∃ (k m : Nat), k ≤ n ∧ i = .int .i64 k ∧ Hid (wr = w.drewN m)) (fun i _ => n - (intOf i).toNat)
  case atStart => exact ⟨0, 0, Nat.zero_le _, rfl, rfl⟩
  case round =>
    obtain ⟨k, m, hk, rfl, HW⟩ := hrel
    have hw := HW.out
    clear HW
    subst hw
    by_cases hlt : k < n
    · obtain ⟨x, hx⟩ : ∃ x, l[k]? = some x := ⟨_, List.getElem?_eq_getElem (by rw [← HL.out]; exact hlt)⟩
      obtain ⟨g1, rfl, hc1⟩ := HA.out k x hx
      obtain ⟨g2, rfl, hc2⟩ := HB.out k x hx
      have hki : (k : Int) < n := by omega
      clear hx
      go_wp2_with fail
      go_quiet (fail)
      go_wp2_with fail
      go_roundw
      case rel => exact ⟨k + 1, _, by omega, by go_num, rfl⟩
      case measure => simp [intOf]; omega
    · go_wp2_with fail
      go_ret
      exact ⟨rfl, (Turned.refl _ _).drewN _⟩
end Go.Proofs.Ytopoklciglgkbaa
