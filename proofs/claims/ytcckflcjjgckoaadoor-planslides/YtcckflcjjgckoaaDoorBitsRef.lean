/-
  The document's own object of layer 5 (its sizes in a slice): Size, span, Next, Count, Over, Live tell by the same pure functions as the program.
-/
import Derived.Test.YtcckflcjjgckoaaDoorBitsTot
namespace Go.Proofs.YtcckflcjjgckoaaDoor.Bt
open Go.RowKit
set_option linter.unusedVariables false

/-- The document's object: block p the struct, block q the sizes. -/
structure RB (w : World) (p q n : Nat) (S : Nat → Nat) : Prop where
  few : n ≤ 65536
  bl : Bl n S
  p0 : p ≠ 0
  q0 : q ≠ 0
  ne : p ≠ q
  head : w.heap[p]? = some (.cells #[.slice (some ⟨q, 0, none⟩) n n] 74)
  row : ∃ c, w.heap[q]? = some (.cells c 3) ∧ ∀ i, i < n → c[i]? = some (.int .i64 (S i : Nat))
section
variable {w w' : World} {p q n : Nat} {S : Nat → Nat}
theorem RB.c0 (h : RB w p q n S) : w.cell? ⟨p, 0, none⟩ = some (.slice (some ⟨q, 0, none⟩) n n) := by rw [cell_of_heap h.head]; rfl
theorem RB.cell (h : RB w p q n S) {i : Nat} (hi : i < n) : w.cell? ⟨q, i, none⟩ = some (.int .i64 (S i : Nat)) := by
  obtain ⟨c, hc, hr⟩ := h.row
  rw [cell_of_heap hc]
  exact hr i hi
theorem RB.fq (h : RB w p q n S) (i : Nat) : w.frozen? ⟨q, i, none⟩ = false := by
  obtain ⟨c, hc, _⟩ := h.row
  simp [World.frozen?, hc]
theorem RB.ltp (h : RB w p q n S) : p < w.heap.size := lt_of_heap h.head
theorem RB.ltq (h : RB w p q n S) : q < w.heap.size := by obtain ⟨c, hc, _⟩ := h.row; exact lt_of_heap hc
theorem RB.turned (h : RB w p q n S) {T : List Nat} (t : Turned T w w') (hp : p ∉ T) (hq : q ∉ T) : RB w' p q n S := by
  obtain ⟨c, hc, hr⟩ := h.row
  exact ⟨h.few, h.bl, h.p0, h.q0, h.ne, by rw [t.block p h.ltp hp]; exact h.head, c, by rw [t.block q h.ltq hq]; exact hc, hr⟩
theorem RB.turned0 (h : RB w p q n S) (t : Turned [] w w') : RB w' p q n S := h.turned t (by simp) (by simp)
theorem RB.small (h : RB w p q n S) (i : Nat) : S i ≤ 65536 := by
  by_cases h1 : 0 < S i
  · have := h.bl.into i h1; have := h.few; omega
  · omega
end

end Go.Proofs.YtcckflcjjgckoaaDoor.Bt
