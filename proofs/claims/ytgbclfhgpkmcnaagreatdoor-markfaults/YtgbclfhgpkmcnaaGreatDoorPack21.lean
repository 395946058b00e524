/-
  Texts of the proof, several in one: DequeRows.
-/
import Derived.Test.YtgbclfhgpkmcnaaGreatDoorPack10
import Derived.Lib.SliceRun
import Derived.Laws.IdiomCopy
import Derived.Deep.MidRow
import Derived.Deep.Cut
import Derived.Deep.CutBlock
import Derived.Deep.CutRange
import Derived.Deep.DeepCutAuto
import Derived.Deep.LoopGhost
/-
  Slices of operations: slices.Clone, IndexFunc, DeleteFunc at []*Op, and 'undone': those that are done fall out.
-/
namespace Go.Proofs.YtgbclfhgpkmcnaaGreatDoor
open Go.RowKit

/-- A pointer to an operation, nil or not. -/
def pv : Option Nat → Value
  | none => .pointer none
  | some b => .pointer (some ⟨b, 0, none⟩)

/-- A row of pointers from a block's beginning on; n cells of it are there. -/
structure PR (w : World) (g n : Nat) (xs : List (Option Nat)) : Prop where
  at_ : ∀ i x, xs[i]? = some x → w.cell? ⟨g, i, none⟩ = some (pv x)
  there : ∀ i, i < n → (w.cell? ⟨g, i, none⟩).isSome = true
  fz : ∀ i, w.frozen? ⟨g, i, none⟩ = false
  lt : g < w.heap.size

theorem PR.turned {w w' : World} {g n : Nat} {xs : List (Option Nat)} (h : PR w g n xs) {S : List Nat} (t : Turned S w w') (hg : g ∉ S) : PR w' g n xs :=
  ⟨fun i x hx => by rw [t.cell h.lt hg]; exact h.at_ i x hx, fun i hi => by rw [t.cell h.lt hg]; exact h.there i hi, fun i => by rw [t.frozen h.lt hg]; exact h.fz i, Nat.lt_of_lt_of_le h.lt t.size⟩

/-- What is kept of the first m. -/
def keptTo (dn : Option Nat → Bool) (ps : List (Option Nat)) (m : Nat) : List (Option Nat) := (ps.take m).filter (fun x => !dn x)
theorem keptTo_succ (dn : Option Nat → Bool) (ps : List (Option Nat)) (m : Nat) (x : Option Nat) (hx : ps[m]? = some x) : keptTo dn ps (m + 1) = keptTo dn ps m ++ if dn x then [] else [x] := by
  unfold keptTo
  rw [List.take_add_one, hx, List.filter_append]
  cases hb : dn x <;> simp [hb]
theorem keptTo_all (dn : Option Nat → Bool) (ps : List (Option Nat)) (m : Nat) (h : ∀ i x, i < m → ps[i]? = some x → dn x = false) : keptTo dn ps m = ps.take m := by
  unfold keptTo
  rw [List.filter_eq_self]
  intro x hx
  obtain ⟨i, hi⟩ := List.mem_iff_getElem?.1 hx
  rw [List.getElem?_take] at hi
  split at hi
  · simp [h i x (by assumption) hi]
  · cases hi
theorem keptTo_le (dn : Option Nat → Bool) (ps : List (Option Nat)) (m : Nat) : (keptTo dn ps m).length ≤ m := by
  unfold keptTo
  have h1 := List.length_filter_le (fun x => !dn x) (ps.take m)
  have h2 := List.length_take_le m ps
  omega

section
variable (w : World) (g cap n : Nat) (ps : List (Option Nat)) (dn : Option Nat → Bool)

theorem Turned.setCells {S : List Nat} {a w : World} (h : Turned S a w) (b o : Nat) (vs : List Value) (hb : b ∈ S ∨ a.heap.size ≤ b) : Turned S a (w.setCells b o vs) := by
  induction vs generalizing o w with
  | nil => exact h
  | cons v vs ih => exact ih (h.setCell (p := ⟨b, o, none⟩) hb v) (o + 1)

end
end Go.Proofs.YtgbclfhgpkmcnaaGreatDoor
