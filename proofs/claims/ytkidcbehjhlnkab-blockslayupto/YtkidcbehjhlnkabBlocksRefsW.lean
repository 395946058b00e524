/-
  What Refs tells: a row of the call's own.
-/
import Derived.Test.YtkidcbehjhlnkabBlocksEach
import Derived.Maps.AppendAt
import Derived.OwnWalk
namespace Go.Proofs.Ytkidcbehjhlnkab
open Go.RowKit
set_option linter.unusedVariables false

/-- What Refs' closure has gathered: in the variable c1, a row of its own from B on. -/
def RefsInv (B c1 : Nat) (k : Nat) (acc : List Int) (O : List Nat) (w : World) : Prop :=
  acc.length ≤ k ∧ B ≤ c1 ∧ ∃ v, w.heap[c1]? = some (.cells #[v] 31 (0, 0)) ∧ w.ownsRow B 2 1 v acc.length (acc.map (Value.int .i64)) ∧ O = c1 :: v.ownBlock.toList

theorem RefsInv.low {B c1 k : Nat} {acc : List Int} {O : List Nat} {w : World} (h : RefsInv B c1 k acc O w) : ∀ x, x ∈ O → B ≤ x ∧ x < w.heap.size := by
  obtain ⟨_, hB, v, hv, hown, rfl⟩ := h
  intro x hx
  rcases List.mem_cons.1 hx with rfl | hx
  · exact ⟨hB, lt_of_heap hv⟩
  · exact hown.lt x (by simpa using hx)
theorem refsTaker (B c1 : Nat) : Taker (List Int) (RefsInv B c1) where
  lt := fun k s O w h x hx => (h.low x hx).2
  keep := fun k s O w w' h ht => by
    obtain ⟨h1, hB, v, hv, hown, hO⟩ := h
    refine ⟨h1, hB, v, by rw [ht.block _ (lt_of_heap hv) (by simp)]; exact hv, ownsRow_keep hown (fun k hk => ht.block k (hown.lt k hk).2 (by simp)), hO⟩
  up := fun k s O w h => ⟨Nat.le_succ_of_le h.1, h.2⟩

def refsStep (acc : List Int) (r : Int) : List Int × Bool := (acc ++ [r], true)
theorem runRefs_all (acc rs : List Int) : runRefs refsStep acc rs = (acc ++ rs, true) := by
  induction rs generalizing acc with
  | nil => simp [runRefs]
  | cons r rs ih =>
    rw [runRefs]
    simp only [refsStep, if_true]
    rw [ih (acc ++ [r])]
    simp

end Go.Proofs.Ytkidcbehjhlnkab
