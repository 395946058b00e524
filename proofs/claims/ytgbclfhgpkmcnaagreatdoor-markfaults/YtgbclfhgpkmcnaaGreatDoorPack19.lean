/-
  Texts of the proof, several in one: DequeItems.
-/
import Derived.Test.YtgbclfhgpkmcnaaGreatDoorPack10
import Derived.Lib.AppendZeros
import Derived.Laws.AppendOwnNone
import Derived.Deep.Cut
import Derived.Deep.CutBlock
import Derived.Deep.CutRange
import Derived.Deep.DeepCutAuto
import Derived.Deep.LoopGhost
/-
  Items of package deque: words, slices.Grow, slices.Concat.
-/
namespace Go.Proofs.YtgbclfhgpkmcnaaGreatDoor
open Go.RowKit

/-- Words of n cells. -/
def seg (C : Cfg) (l : List Int) (k n : Nat) : List Int := (l.take (C.base + k + n)).drop (C.base + k)

/-- A slice of words that can be read. -/
def IR (w : World) (v : Value) (l : List Int) : Prop := (v = .slice none 0 0 ∧ l = []) ∨ ∃ g cap, v = .slice (some ⟨g, 0, none⟩) l.length cap ∧ g < w.heap.size ∧ ∀ i x, l[i]? = some x → w.cell? ⟨g, i, none⟩ = some (.int .i64 x)
theorem IR.turned {w w' : World} {v : Value} {l : List Int} (h : IR w v l) (t : Turned [] w w') : IR w' v l := by
  rcases h with h | ⟨g, cap, h1, h2, h3⟩
  · exact .inl h
  · exact .inr ⟨g, cap, h1, Nat.lt_of_lt_of_le h2 t.size, fun i x hx => by rw [t.cell (p := ⟨g, i, none⟩) h2 (by simp)]; exact h3 i x hx⟩
theorem IR.shape {w : World} {v : Value} {l : List Int} (h : IR w v l) : ∃ ao cp, v = .slice ao l.length cp := by
  rcases h with ⟨rfl, rfl⟩ | ⟨g, cp, rfl, _⟩
  · exact ⟨none, 0, rfl⟩
  · exact ⟨_, cp, rfl⟩
theorem IR.of_own {w : World} {B : Nat} {v : Value} {l : List Int} (h : w.ownsRow B 2 1 v l.length (l.map (Value.int .i64))) : IR w v l := by
  rcases h.2 with ⟨hv, hn⟩ | ⟨g, cap, cur, hv, hg, hh, hc, _, _, ht⟩
  · exact .inl ⟨hv, List.eq_nil_of_length_eq_zero hn⟩
  · refine .inr ⟨g, cap, hv, lt_of_heap hh, fun i x hx => ?_⟩
    rw [cell_of_heap hh]
    have h1 : (l.map (Value.int .i64))[i]? = some (.int .i64 x) := by rw [List.getElem?_map, hx]; rfl
    rw [← ht, List.getElem?_take] at h1
    split at h1
    · simpa using h1
    · cases h1

/-- What a deque has, as it lies there. -/
def itemsOf (C : Cfg) (l : List Int) : List Int :=
  let held := (heldOf C (rd C l 0) (rd C l 1)).toNat
  let first := slotOf C (rd C l 0)
  let ahead := min held (4 + C.cap - first)
  seg C l first ahead ++ (seg C l 4 (held - ahead) ++ seg C l (4 + C.cap) (stackedOf C (rd C l 3)))

theorem heldOf_nat (C : Cfg) (t b : Int) : heldOf C t b = ((heldOf C t b).toNat : Int) ∧ (heldOf C t b).toNat ≤ C.cap := by
  unfold heldOf
  split <;> omega
theorem seg_length (C : Cfg) (l : List Int) (k n : Nat) (h : C.base + k + n ≤ l.length) : (seg C l k n).length = n := by
  unfold seg
  rw [List.length_drop, List.length_take]
  omega
theorem seg_get (C : Cfg) (l : List Int) (k n i : Nat) (h : C.base + k + n ≤ l.length) (hi : i < n) : (seg C l k n)[i]? = some (rd C l (k + i)) := by
  unfold seg rd
  rw [List.getElem?_drop, List.getElem?_take, if_pos (by omega), List.getD_eq_getElem?_getD, show C.base + (k + i) = C.base + k + i by omega, List.getElem?_eq_getElem (by omega)]
  rfl

end Go.Proofs.YtgbclfhgpkmcnaaGreatDoor
