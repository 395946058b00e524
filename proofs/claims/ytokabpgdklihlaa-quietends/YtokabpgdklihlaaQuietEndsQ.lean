/-
  What QuietEnds asks of the crew without memory ('EndsP'): stated here, not proved yet.
-/
import Derived.Test.YtokabpgdklihlaaQuietCStep
namespace Go.Proofs.Ytokabpgdklihlaa
open Go.RowKit
set_option linter.unusedVariables false

/-- The count's cell 0, n workers, deques of two slots and a stack of 80 side by side. -/
def csE (n : Nat) : List Cfg := (List.range n).map fun i => ⟨1 + 90 * i, 2, 80⟩
def QE (n : Nat) : QC := ⟨0, n, csE n⟩
theorem csE_succ (n : Nat) : csE (n + 1) = csE n ++ [⟨1 + 90 * n, 2, 80⟩] := by
  unfold csE
  rw [List.range_succ, List.map_append]
  rfl

/-- What each worker has in hands: item i is worker i % n's. -/
def dealG (n : Nat) (X : Nat → List Int) (i : Nat) (v : Int) : Nat → List Int := fun k => if k = i % n then X k ++ [v] else X k
def handsG (n : Nat) (vs : Nat → Nat) : Nat → Nat → List Int
  | 0 => fun _ => []
  | m + 1 => dealG n (handsG n vs m) m (vs m : Int)
def wantG (vs : Nat → Nat) : Nat → Int
  | 0 => 0
  | m + 1 => wantG vs m + (2 ^ (vs m + 1) - 1)
def startG (H : Nat → List Int) : GS := ⟨List.replicate 400 0, fun i => ⟨H i, 0, .none, false⟩, 0⟩
/-- So many picked steps; so many by turns. -/
def pickG (n : Nat) (pk : Nat → Nat) (S : GS) : Nat → GS
  | 0 => S
  | m + 1 => stepG (QE n) n (pickG n pk S m) (pk m)
def turnG (n : Nat) (S : GS) : Nat → GS
  | 0 => S
  | m + 1 => stepG (QE n) n (turnG n S m) (m % n)

/-- The theorem of the end, without memory. -/
def EndsP : Prop := ∀ (n a m : Nat) (vs pk : Nat → Nat), 1 ≤ n → n ≤ 4 → a ≤ 8 → (∀ i, vs i ≤ 4) → m ≤ 400 → (∀ i, pk i < n) →
  (∀ j, j < m → MayG (QE n) n (pickG n pk (startG (handsG n vs a)) j) (pk j)) ∧
  (∀ j, j < 60000 → MayG (QE n) n (turnG n (pickG n pk (startG (handsG n vs a)) m) j) (j % n)) ∧
  (∀ i, i < n → ((turnG n (pickG n pk (startG (handsG n vs a)) m) 60000).X i).ended = true) ∧
  (turnG n (pickG n pk (startG (handsG n vs a)) m) 60000).dn = wantG vs a ∧
  Still (QE n) n (turnG n (pickG n pk (startG (handsG n vs a)) m) 60000).l (turnG n (pickG n pk (startG (handsG n vs a)) m) 60000).X
end Go.Proofs.Ytokabpgdklihlaa
