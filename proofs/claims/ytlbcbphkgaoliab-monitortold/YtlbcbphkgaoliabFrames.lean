/-
  What the later texts share: what a call may turn ('Turned'), blocks through new blocks and stores, rows of a call's own. No Go is walked here.
-/
import Derived.Test.YtlbcbphkgaoliabProg
import Derived.WalkKit
import Derived.WalkSpells
import Derived.WalkLawsBesides
namespace Go.Proofs.Ytlbcbphkgaoliab
open Go.RowKit

/-- The blocks outside S that were there are as they were; the streams too; no block has gone. -/
structure Turned (S : List Nat) (w w' : World) : Prop where
  os : w'.os = w.os
  tape : w'.tape = w.tape
  output : w'.output = w.output
  size : w.heap.size ≤ w'.heap.size
  block : ∀ k, k < w.heap.size → k ∉ S → w'.heap[k]? = w.heap[k]?

theorem Turned.refl (S : List Nat) (w : World) : Turned S w w := ⟨rfl, rfl, rfl, Nat.le_refl _, fun _ _ _ => rfl⟩
theorem Turned.trans {S : List Nat} {a b c : World} (h : Turned S a b) (k : Turned S b c) : Turned S a c :=
  ⟨k.os.trans h.os, k.tape.trans h.tape, k.output.trans h.output, Nat.le_trans h.size k.size, fun i hi hn => (k.block i (Nat.lt_of_lt_of_le hi h.size) hn).trans (h.block i hi hn)⟩
theorem Turned.mono {S T : List Nat} {w w' : World} (h : Turned S w w') (hs : ∀ k, k ∈ S → k ∈ T) : Turned T w w' :=
  ⟨h.os, h.tape, h.output, h.size, fun k hk hn => h.block k hk (fun hm => hn (hs k hm))⟩
/-- Behind a world a: what was turned of b is either in S or newer than a. -/
theorem Turned.trans_new {S T : List Nat} {a b c : World} (h : Turned S a b) (k : Turned T b c) (hs : ∀ i, i ∈ T → i ∈ S ∨ a.heap.size ≤ i) : Turned S a c :=
  ⟨k.os.trans h.os, k.tape.trans h.tape, k.output.trans h.output, Nat.le_trans h.size k.size, fun i hi hn =>
    (k.block i (Nat.lt_of_lt_of_le hi h.size) (fun hm => by rcases hs i hm with h1 | h1 <;> first | exact hn h1 | omega)).trans (h.block i hi hn)⟩
theorem Turned.drew {S : List Nat} {a w : World} (h : Turned S a w) : Turned S a w.drew := ⟨h.os, h.tape, h.output, h.size, h.block⟩
theorem Turned.drewN {S : List Nat} {a w : World} (h : Turned S a w) (m : Nat) : Turned S a (w.drewN m) := ⟨h.os, h.tape, h.output, h.size, h.block⟩
theorem Turned.alloc {S : List Nat} {a w : World} (h : Turned S a w) (o : Obj) : Turned S a (w.alloc o) :=
  h.trans ⟨rfl, rfl, rfl, by simp, fun k hk _ => Below.heap_alloc _ _ _ hk⟩
theorem Turned.setCell {S : List Nat} {a w : World} (h : Turned S a w) {p : Addr} (hp : p.block ∈ S ∨ a.heap.size ≤ p.block) (u : Value) : Turned S a (w.setCell p u) := by
  refine ⟨h.os, h.tape, h.output, by simpa [World.setCell] using h.size, fun k hk hn => ?_⟩
  rw [Below.heap_setCell _ _ _ _ (by intro e; subst e; rcases hp with hp | hp <;> first | exact hn hp | omega)]
  exact h.block k hk hn
theorem Turned.grown {S : List Nat} {a w w' : World} {row : Option Nat} (h : Turned S a w) (hg : w.grownBy w' row) (hr : ∀ k, row = some k → k ∈ S ∨ a.heap.size ≤ k) : Turned S a w' :=
  ⟨hg.os.trans h.os, hg.tape.trans h.tape, hg.output.trans h.output, Nat.le_trans h.size hg.size, fun k hk hn =>
    (hg.block k (Nat.lt_of_lt_of_le hk h.size) (fun e => by rcases hr k e.symm with h1 | h1 <;> first | exact hn h1 | omega)).trans (h.block k hk hn)⟩
theorem Turned.below {S : List Nat} {B : Nat} {w w' : World} (h : Turned S w w') (hB : B ≤ w.heap.size) (hs : ∀ k, k ∈ S → B ≤ k) : Below B w w' :=
  ⟨h.os, h.tape, h.output, h.size, fun k hk => h.block k (by omega) (fun hm => by have := hs k hm; omega)⟩
theorem Turned.below0 {w w' : World} (h : Turned [] w w') : Below w.heap.size w w' := h.below (Nat.le_refl _) (fun _ hk => by cases hk)
theorem Turned.of_below {w w' : World} (h : Below w.heap.size w w') : Turned [] w w' := ⟨h.os, h.tape, h.output, h.size, fun k hk _ => h.block k hk⟩
theorem Turned.cell {S : List Nat} {w w' : World} (h : Turned S w w') {p : Addr} (hp : p.block < w.heap.size) (hn : p.block ∉ S) : w'.cell? p = w.cell? p := World.cell?_of_block (w := w) (h.block p.block hp hn)
theorem Turned.frozen {S : List Nat} {w w' : World} (h : Turned S w w') {p : Addr} (hp : p.block < w.heap.size) (hn : p.block ∉ S) : w'.frozen? p = w.frozen? p := World.frozen?_of_block (w := w) (h.block p.block hp hn)

theorem lt_of_heap {w : World} {p : Nat} {o : Obj} (h : w.heap[p]? = some o) : p < w.heap.size := by
  rcases Array.getElem?_eq_some_iff.1 h with ⟨h1, _⟩
  exact h1

theorem heap_setCell_at (w : World) (b off : Nat) (c : Array Value) (e : TypeId) (fr : Nat × Nat) (h : w.heap[b]? = some (.cells c e fr)) (v : Value) : (w.setCell ⟨b, off, none⟩ v).heap[b]? = some (.cells (c.setIfInBounds off v) e fr) := by
  simp only [World.setCell, Array.getElem?_modify]
  simp [h]

theorem heap_alloc_new (w : World) (o : Obj) : (w.alloc o).heap[w.heap.size]? = some o := by
  show (w.heap.push o)[w.heap.size]? = _
  rw [Array.getElem?_push, if_pos rfl]
theorem cell_of_heap {w : World} {b : Nat} {c : Array Value} {e : TypeId} {fr : Nat × Nat} (h : w.heap[b]? = some (.cells c e fr)) (i : Nat) : w.cell? ⟨b, i, none⟩ = c[i]? := by
  simp [World.cell?, h]
theorem cell_box (w : World) (c : Array Value) (e : TypeId) (a : Addr) (ha : a.block < w.heap.size) (u x : Value) (i : Nat) (hx : c[i]? = some x) : ((w.alloc (.cells c e)).setCell a u).cell? ⟨w.heap.size, i, none⟩ = some x := by
  have hne : w.heap.size ≠ a.block := by omega
  have h : ((w.alloc (.cells c e)).setCell a u).heap[w.heap.size]? = some (.cells c e) := by
    rw [Below.heap_setCell _ _ _ _ hne, heap_alloc_new]
  rw [cell_of_heap h, hx]
theorem block_lt {w : World} {a : Addr} {x : Value} (hc : w.cell? a = some x) : a.block < w.heap.size := by
  obtain ⟨e, n, h1, _⟩ := World.shape?_of_cell? hc
  unfold World.shape? at h1
  split at h1
  · exact lt_of_heap (by assumption)
  · cases h1

theorem hide {p : Prop} (h : p) : Hid p := h

/-- A row of the call's own, opened: of one-cell values. -/
theorem ownsRow_open {w : World} {B : Nat} {e : TypeId} {v : Value} {n : Nat} {l : List Value} (h : w.ownsRow B e 1 v n l) (hn : 0 < n) :
    ∃ g cap, v = .slice (some ⟨g, 0, none⟩) n cap ∧ B ≤ g ∧ g < w.heap.size ∧ n ≤ cap ∧ (∀ i x, l[i]? = some x → w.cell? ⟨g, i, none⟩ = some x) ∧ (∀ i, w.frozen? ⟨g, i, none⟩ = false) ∧ ∃ c, w.heap[g]? = some (.cells c e (0, 0)) := by
  obtain ⟨_, h2⟩ := h
  rcases h2 with ⟨_, h0⟩ | ⟨g, cap, cur, hv, hg, hh, hc, _, _, ht⟩
  · omega
  · refine ⟨g, cap, hv, hg, lt_of_heap hh, hc, fun i x hx => ?_, fun i => ?_, cur, hh⟩
    · rw [cell_of_heap hh]
      rw [← ht, List.getElem?_take] at hx
      split at hx
      · simpa using hx
      · cases hx
    · simp [World.frozen?, hh]

/-- The same, whether it is empty or not. -/
theorem ownsRow_any {w : World} {B : Nat} {e : TypeId} {v : Value} {n : Nat} {l : List Value} (h : w.ownsRow B e 1 v n l) :
    l.length = n ∧ ∃ ao cap, v = .slice ao n cap ∧ ∀ i x, l[i]? = some x → ∃ g, ao = some ⟨g, 0, none⟩ ∧ B ≤ g ∧ g < w.heap.size ∧ w.cell? ⟨g, i, none⟩ = some x ∧ w.frozen? ⟨g, i, none⟩ = false := by
  have hl : l.length = n := by simpa using h.1
  refine ⟨hl, ?_⟩
  by_cases hn : 0 < n
  · obtain ⟨g, cap, hv, h1, h2, _, h3, h4, _⟩ := ownsRow_open h hn
    exact ⟨_, cap, hv, fun i x hx => ⟨g, rfl, h1, h2, h3 i x hx, h4 i⟩⟩
  · have h0 : n = 0 := by omega
    subst h0
    have hnil : l = [] := List.eq_nil_of_length_eq_zero hl
    subst hnil
    rcases h.2 with ⟨hv, _⟩ | ⟨g, cap, cur, hv, _⟩
    · exact ⟨none, 0, hv, fun i x hx => by simp at hx⟩
    · exact ⟨_, cap, hv, fun i x hx => by simp at hx⟩

theorem ownsRow_mono {w : World} {B B' : Nat} {e : TypeId} {size : Nat} {v : Value} {n : Nat} {xs : List Value} (h : w.ownsRow B e size v n xs) (hB : B' ≤ B) : w.ownsRow B' e size v n xs := by
  obtain ⟨h1, h2⟩ := h
  refine ⟨h1, ?_⟩
  rcases h2 with h2 | ⟨g, cap, cur, hv, hg, r⟩
  · exact .inl h2
  · exact .inr ⟨g, cap, cur, hv, by omega, r⟩

/-- A row stays where its block does. -/
theorem ownsRow_keep {w w' : World} {B : Nat} {e : TypeId} {size : Nat} {v : Value} {n : Nat} {xs : List Value} (h : w.ownsRow B e size v n xs) (hk : ∀ k, v.ownBlock = some k → w'.heap[k]? = w.heap[k]?) : w'.ownsRow B e size v n xs := by
  obtain ⟨h1, h2⟩ := h
  refine ⟨h1, ?_⟩
  rcases h2 with h2 | ⟨g, cap, cur, rfl, hg, hh, r⟩
  · exact .inl h2
  · exact .inr ⟨g, cap, cur, rfl, hg, by rw [hk g rfl]; exact hh, r⟩

theorem ownsRow_lt {w : World} {B : Nat} {e : TypeId} {size : Nat} {v : Value} {n : Nat} {xs : List Value} (h : w.ownsRow B e size v n xs) : ∀ k, v.ownBlock = some k → B ≤ k ∧ k < w.heap.size ∧ ∃ c, w.heap[k]? = some (.cells c e (0, 0)) := by
  intro k hk
  rcases h.2 with ⟨rfl, _⟩ | ⟨g, cap, cur, rfl, hg, hh, r⟩
  · simp [Value.ownBlock] at hk
  · simp [Value.ownBlock] at hk
    subst hk
    exact ⟨hg, lt_of_heap hh, _, hh⟩

theorem wrap_add64 (P : Program) (x y : Int) (w : World) : (Op.intArith .add .i64 x y).run P w = .ok (.int .i64 (wrap64 (x + y))) w := by
  have h : IntKind.i64.wrap (x + y) = wrap64 (x + y) := by unfold wrap64; exact IntKind.wrap_i64 _
  simp [go_sem, h]
end Go.Proofs.Ytlbcbphkgaoliab
