/-
  What Count tells; what Size, Over and Has tell of blocks that lie apart ('Bl').
-/
import Derived.Test.YtcckflcjjgckoaaDoorBitsFirst
namespace Go.Proofs.YtcckflcjjgckoaaDoor.Bt
open Go.RowKit
set_option linter.unusedVariables false

/-- Of a range. -/
def inn (f : Nat → Bool) (x y : Nat) : Nat → Bool := fun k => f k && (decide (x ≤ k) && decide (k < y))
/-- How many of a range. -/
def cntIn (f : Nat → Bool) (x y : Nat) : Nat := cnt (inn f x y) y
theorem cnt_num (f : Nat → Bool) (m : Nat) : cnt (num f m).testBit m = cnt f m := by
  refine cnt_congr fun j hj => ?_
  rw [num_bit]
  simp [hj]
theorem cntIn_le (f : Nat → Bool) (x y : Nat) : cntIn f x y ≤ y := cnt_le _ _
theorem cnt_inn (f : Nat → Bool) (x y b : Nat) (h : y ≤ b) : cnt (inn f x y) b = cntIn f x y := by
  unfold cntIn
  refine cnt_stop h fun k h1 h2 => ?_
  unfold inn
  have : ¬ k < y := by omega
  simp [this]
theorem cnt_inn_row (f : Nat → Bool) (x y i : Nat) : cnt (inn f x y) (64 * (i + 1)) = cnt (inn f x y) (64 * i) + cnt (rowIn f x y i) 64 := by
  rw [show 64 * (i + 1) = 64 * i + 64 by omega, cnt_add]
  rfl
theorem cnt_inn_low (f : Nat → Bool) (x y i : Nat) (h : 64 * i ≤ x) : cnt (inn f x y) (64 * i) = 0 := by
  refine cnt_zero fun j hj => ?_
  unfold inn
  have : ¬ x ≤ j := by omega
  simp [this]

end Go.Proofs.YtcckflcjjgckoaaDoor.Bt
