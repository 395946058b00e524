/-
  'sameBlocks' of the statements' package at two rows of the same blocks.
-/
import Derived.Test.YthigmechfcndcaaBlocksPlaysU
import Derived.Deep.QuietTactic
import Derived.BigQuiet
namespace Go.Proofs.Ythigmechfcndcaa
open Go.RowKit
set_option linter.unusedVariables false

set_option maxRecDepth 100000 in
theorem same_blocks (aa ab : Option Addr) (ca cb : Nat) (bs : List Blk) (n : Nat) (w : World) (hn : n ≤ 65536) (ha : BlkRd w aa n bs) (hb : BlkRd w ab n bs) :
    Calls Try.prog 14 #[.slice aa n ca, .slice ab n cb] w fun e w' => e = .returned (.bool true) ∧ Turned [] w w' := by
  have HA := hide ha
  have HB := hide hb
  clear ha hb
  go_enter Try.func14, Try.ntmps14
  go_wp2_with fail
  go_loopw [5] (fun i wr => ∃ (k m : Nat), k ≤ n ∧ i = .int .i64 k ∧ Hid (wr = w.drewN m)) (fun i _ => n - (intOf i).toNat)
  case atStart => exact ⟨0, 0, Nat.zero_le _, rfl, rfl⟩
  case round =>
    obtain ⟨k, m, hk, rfl, HW⟩ := hrel
    have hw := HW.out
    clear HW
    subst hw
    by_cases hlt : k < n
    · obtain ⟨b, hb⟩ : ∃ b, bs[k]? = some b := ⟨_, List.getElem?_eq_getElem (by rw [HA.out.size]; exact hlt)⟩
      obtain ⟨g1, o1, rfl, a0, a1, a2, a3⟩ := HA.out.cell k b hb
      obtain ⟨g2, o2, rfl, b0, b1, b2, b3⟩ := HB.out.cell k b hb
      have hki : (k : Int) < n := by omega
      clear hb
      go_wp2_with fail
      go_quiet (fail)
      go_wp2_with fail
      go_roundw
      case rel => exact ⟨k + 1, _, by omega, by go_num, rfl⟩
      case measure => simp [intOf]; omega
    · go_wp2_with fail
      go_ret
      exact ⟨rfl, ⟨rfl, rfl, rfl, Nat.le_refl _, fun _ _ _ => rfl⟩⟩
end Go.Proofs.Ythigmechfcndcaa
