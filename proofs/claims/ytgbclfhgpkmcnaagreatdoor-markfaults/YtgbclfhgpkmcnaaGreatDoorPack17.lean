/-
  Texts of the proof, several in one: BlocksWalkW.
-/
import Derived.Test.YtgbclfhgpkmcnaaGreatDoorPack14
import Derived.Maps.AppendAt
import Derived.OwnWalk
/-
  What Walk tells.
-/
namespace Go.Proofs.YtgbclfhgpkmcnaaGreatDoor
open Go.RowKit
set_option linter.unusedVariables false

theorem cells_new (w : World) (c : Array Value) (t : TypeId) (g : Nat) (hg : g = w.heap.size) : ∀ j u, c.toList[j]? = some u → (w.alloc (.cells c t)).cell? ((⟨g, 0, none⟩ : Addr).add j) = some u := by
  intro j u hj
  subst hg
  rw [show Addr.add ⟨w.heap.size, 0, none⟩ j = ⟨w.heap.size, j, none⟩ by simp [Addr.add]; intro e; omega, cell_of_heap (heap_alloc_new _ _)]
  simpa using hj
theorem readE_ne {l : List Int} {cs : List Cls} {t : Int} (h : readOf l cs t = none) : ¬ readE l cs t = 0 := by
  unfold readE
  rw [h]
  split
  · decide
  · simp
theorem walk_next {l : List Int} {cs : List Cls} {g f t : Int} {bs : List Blk} {b : Blk} (h : walkOf l cs g f = (walkOf l cs g t).map (bs ++ ·)) (ht : t < g) (hb : readOf l cs t = some b) (hs : b.s ≤ g - t) : walkOf l cs g f = (walkOf l cs g (t + b.s)).map ((bs ++ [b]) ++ ·) := by
  rw [h, walkOf_step ht hb hs]
  cases walkOf l cs g (t + b.s) <;> simp
theorem walk_fail {l : List Int} {cs : List Cls} {g f t : Int} {bs : List Blk} (h : walkOf l cs g f = (walkOf l cs g t).map (bs ++ ·)) (ht : t < g) (hb : ∀ b, readOf l cs t = some b → g - t < b.s) : walkOf l cs g f = none := by
  rw [h, walkOf_stop ht hb]
  rfl
theorem walk_done {l : List Int} {cs : List Cls} {g f t : Int} {bs : List Blk} (h : walkOf l cs g f = (walkOf l cs g t).map (bs ++ ·)) (ht : ¬ t < g) : walkOf l cs g f = some bs := by
  rw [h, walkOf_end ht]
  simp

end Go.Proofs.YtgbclfhgpkmcnaaGreatDoor
