/-
  The memory of package cells in the model's heap: what it is ('Mem'), and what stays through new blocks and stores. No Go is walked here. (Rows of a call's own, of integers: 'ownsInts_open', 'ownsInts_any'.)
-/
import Derived.Test.YtdjeilombaclmaaFrames
namespace Go.Proofs.Ytdjeilombaclmaa
open Go.RowKit

/-- A memory: block p is the struct, block q its words; s accesses were counted. -/
structure Mem (w : World) (p q : Nat) (l : List Int) (s : Int) : Prop where
  ne : p ≠ q
  head : w.heap[p]? = some (.cells #[.slice (some ⟨q, 0, none⟩) l.length l.length, .int .i64 s] 65)
  row : w.heap[q]? = some (.cells (l.map (Value.int .i64)).toArray 2)

section
variable {w : World} {p q : Nat} {l : List Int} {s : Int}
theorem Mem.c0 (h : Mem w p q l s) : w.cell? ⟨p, 0, none⟩ = some (.slice (some ⟨q, 0, none⟩) l.length l.length) := by
  simp [World.cell?, h.head]
theorem Mem.c1 (h : Mem w p q l s) : w.cell? ⟨p, 1, none⟩ = some (.int .i64 s) := by
  simp [World.cell?, h.head]
theorem Mem.f (h : Mem w p q l s) (i : Nat) : w.frozen? ⟨p, i, none⟩ = false := by
  simp [World.frozen?, h.head]
theorem Mem.fw (h : Mem w p q l s) (i : Nat) : w.frozen? ⟨q, i, none⟩ = false := by
  simp [World.frozen?, h.row]
theorem Mem.word (h : Mem w p q l s) {i : Nat} {x : Int} (hx : l[i]? = some x) : w.cell? ⟨q, i, none⟩ = some (.int .i64 x) := by
  simp [World.cell?, h.row, hx]
theorem Mem.ltp (h : Mem w p q l s) : p < w.heap.size := lt_of_heap h.head
theorem Mem.ltq (h : Mem w p q l s) : q < w.heap.size := lt_of_heap h.row
theorem Mem.turned (h : Mem w p q l s) {S : List Nat} {w' : World} (t : Turned S w w') (hp : p ∉ S) (hq : q ∉ S) : Mem w' p q l s :=
  ⟨h.ne, by rw [t.block p h.ltp hp]; exact h.head, by rw [t.block q h.ltq hq]; exact h.row⟩
theorem Mem.alloc (h : Mem w p q l s) (o : Obj) : Mem (w.alloc o) p q l s := h.turned (S := []) ((Turned.refl _ _).alloc o) (by simp) (by simp)
theorem Mem.drew (h : Mem w p q l s) : Mem w.drew p q l s := ⟨h.ne, h.head, h.row⟩
theorem Mem.step (h : Mem w p q l s) (s' : Int) : Mem (w.setCell ⟨p, 1, none⟩ (.int .i64 s')) p q l s' :=
  ⟨h.ne, by rw [heap_setCell_at _ _ _ _ _ _ h.head]; rfl, by rw [Below.heap_setCell _ _ _ _ (Ne.symm h.ne)]; exact h.row⟩
theorem Mem.store (h : Mem w p q l s) (k : Nat) (v : Int) : Mem (w.setCell ⟨q, k, none⟩ (.int .i64 v)) p q (l.set k v) s :=
  ⟨h.ne, by rw [Below.heap_setCell _ _ _ _ h.ne, List.length_set]; exact h.head, by
    rw [heap_setCell_at _ _ _ _ _ _ h.row, List.map_set]; simp⟩
end

/-- What a row of the call's own holds, cell by cell. -/
theorem ownsInts_open {w : World} {B : Nat} {v : Value} {n : Nat} {l : List Int} (h : w.ownsRow B 2 1 v n (l.map (Value.int .i64))) (hn : 0 < n) :
    ∃ g cap, v = .slice (some ⟨g, 0, none⟩) n cap ∧ B ≤ g ∧ g < w.heap.size ∧ n ≤ cap ∧ (∀ i x, l[i]? = some x → w.cell? ⟨g, i, none⟩ = some (.int .i64 x)) ∧ ∀ i, w.frozen? ⟨g, i, none⟩ = false := by
  obtain ⟨_, h2⟩ := h
  rcases h2 with ⟨_, h0⟩ | ⟨g, cap, cur, hv, hg, hh, hc, _, _, ht⟩
  · omega
  · refine ⟨g, cap, hv, hg, lt_of_heap hh, hc, fun i x hx => ?_, fun i => ?_⟩
    · rw [cell_of_heap hh]
      have h1 : (l.map (Value.int .i64))[i]? = some (.int .i64 x) := by rw [List.getElem?_map, hx]; rfl
      rw [← ht, List.getElem?_take] at h1
      split at h1
      · simpa using h1
      · cases h1
    · simp [World.frozen?, hh]

/-- The same, whether it is empty or not. -/
theorem ownsInts_any {w : World} {B : Nat} {v : Value} {n : Nat} {l : List Int} (h : w.ownsRow B 2 1 v n (l.map (Value.int .i64))) :
    l.length = n ∧ ∃ ao cap, v = .slice ao n cap ∧ ∀ i x, l[i]? = some x → ∃ g, ao = some ⟨g, 0, none⟩ ∧ B ≤ g ∧ g < w.heap.size ∧ w.cell? ⟨g, i, none⟩ = some (.int .i64 x) ∧ w.frozen? ⟨g, i, none⟩ = false := by
  have hl : l.length = n := by simpa using h.1
  refine ⟨hl, ?_⟩
  by_cases hn : 0 < n
  · obtain ⟨g, cap, hv, h1, h2, _, h3, h4⟩ := ownsInts_open h hn
    exact ⟨_, cap, hv, fun i x hx => ⟨g, rfl, h1, h2, h3 i x hx, h4 i⟩⟩
  · have h0 : n = 0 := by omega
    subst h0
    have hnil : l = [] := List.eq_nil_of_length_eq_zero hl
    subst hnil
    rcases h.2 with ⟨hv, _⟩ | ⟨g, cap, cur, hv, _⟩
    · exact ⟨none, 0, hv, fun i x hx => by simp at hx⟩
    · exact ⟨_, cap, hv, fun i x hx => by simp at hx⟩

end Go.Proofs.Ytdjeilombaclmaa
