/-
  A slice of blocks that was told can be read. (The beginning of BlocksAddr.)
-/
import Derived.Test.YtelljfckffmjmaaArenaDocW
namespace Go.Proofs.Ytelljfckffmjmaa
open Go.RowKit
set_option linter.unusedVariables false

theorem flat_get (bs : List Blk) : ∀ (i : Nat) (b : Blk) (j : Nat), bs[i]? = some b → j < 4 → (flat bs)[i * 4 + j]? = b.cells[j]? := by
  induction bs with
  | nil => intro i b j h; simp at h
  | cons a bs ih =>
    intro i b j h hj
    show (a.cells ++ flat bs)[i * 4 + j]? = _
    have h4 : a.cells.length = 4 := rfl
    cases i with
    | zero =>
      simp at h
      subst h
      rw [Nat.zero_mul, Nat.zero_add, List.getElem?_append_left (by omega)]
    | succ i =>
      rw [List.getElem?_append_right (by omega), h4, show (i + 1) * 4 + j - 4 = i * 4 + j by omega]
      exact ih i b j (by simpa using h) hj

/-- A slice of blocks that can be read. -/
structure BlkRd (w : World) (ao : Option Addr) (len : Nat) (bs : List Blk) : Prop where
  size : bs.length = len
  cell : ∀ i b, bs[i]? = some b → ∃ g off, ao = some ⟨g, off, none⟩ ∧ w.cell? ⟨g, off + i * 4, none⟩ = some (.int .i64 b.t) ∧ w.cell? ⟨g, off + i * 4 + 1, none⟩ = some (.int .i64 b.k) ∧ w.cell? ⟨g, off + i * 4 + 2, none⟩ = some (.int .i64 b.n) ∧ w.cell? ⟨g, off + i * 4 + 3, none⟩ = some (.int .i64 b.s)
theorem BlkRd.turned {w w' : World} {ao : Option Addr} {len : Nat} {bs : List Blk} (h : BlkRd w ao len bs) (ht : Turned [] w w') : BlkRd w' ao len bs := by
  refine ⟨h.size, fun i c hc => ?_⟩
  obtain ⟨g, off, h0, h1, h2, h3, h4⟩ := h.cell i c hc
  exact ⟨g, off, h0, by rw [ht.cell (block_lt h1) (by simp)]; exact h1, by rw [ht.cell (block_lt h2) (by simp)]; exact h2, by rw [ht.cell (block_lt h3) (by simp)]; exact h3, by rw [ht.cell (block_lt h4) (by simp)]; exact h4⟩
theorem ownsRow_blks {w : World} {B : Nat} {v : Value} {n : Nat} {bs : List Blk} (h : w.ownsRow B 80 4 v n (flat bs)) : ∃ ao cap, v = .slice ao n cap ∧ BlkRd w ao n bs := by
  have hn : bs.length = n := by have := h.1; rw [flat_length] at this; omega
  rcases h.2 with ⟨hv, h0⟩ | ⟨g, cap, cur, hv, hg, hh, hc, _, _, ht⟩
  · subst h0
    refine ⟨none, 0, hv, hn, fun i b hb => ?_⟩
    have := (List.getElem?_eq_some_iff.1 hb).1
    omega
  · refine ⟨_, cap, hv, hn, fun i b hb => ⟨g, 0, rfl, ?_⟩⟩
    have h1 : ∀ j, j < 4 → w.cell? ⟨g, i * 4 + j, none⟩ = b.cells[j]? := fun j hj => by
      have hi := (List.getElem?_eq_some_iff.1 hb).1
      rw [cell_of_heap hh, ← flat_get bs i b j hb hj, ← ht, List.getElem?_take_of_lt (by omega), Array.getElem?_toList]
    refine ⟨?_, ?_, ?_, ?_⟩
    · rw [Nat.zero_add]; exact h1 0 (by omega)
    · rw [Nat.zero_add]; exact h1 1 (by omega)
    · rw [Nat.zero_add]; exact h1 2 (by omega)
    · rw [Nat.zero_add]; exact h1 3 (by omega)
end Go.Proofs.Ytelljfckffmjmaa
