/-
  Texts of the proof, several in one: Frames, NeType, CellsBase, Infos.
-/
import Derived.Test.YtgbclfhgpkmcnaaGreatDoorProg
import Derived.WalkKit
import Derived.WalkSpells
import Derived.WalkLawsBesides
/-
  What the later texts share: what a call may turn ('Turned'), blocks through new blocks and stores, rows of a call's own. No Go is walked here.
-/
namespace Go.Proofs.YtgbclfhgpkmcnaaGreatDoor
open Go.RowKit

/-- The blocks outside S that were there are as they were; the streams too; no block has gone. -/
structure Turned (S : List Nat) (w w' : World) : Prop where
  os : w'.os = w.os
  tape : w'.tape = w.tape
  output : w'.output = w.output
  size : w.heap.size ≤ w'.heap.size
  block : ∀ k, k < w.heap.size → k ∉ S → w'.heap[k]? = w.heap[k]?

theorem Turned.refl (S : List Nat) (w : World) : Turned S w w := ⟨rfl, rfl, rfl, Nat.le_refl _, fun _ _ _ => rfl⟩
theorem Turned.trans {S : List Nat} {a b c : World} (h : Turned S a b) (k : Turned S b c) : Turned S a c :=
  ⟨k.os.trans h.os, k.tape.trans h.tape, k.output.trans h.output, Nat.le_trans h.size k.size, fun i hi hn => (k.block i (Nat.lt_of_lt_of_le hi h.size) hn).trans (h.block i hi hn)⟩
theorem Turned.mono {S T : List Nat} {w w' : World} (h : Turned S w w') (hs : ∀ k, k ∈ S → k ∈ T) : Turned T w w' :=
  ⟨h.os, h.tape, h.output, h.size, fun k hk hn => h.block k hk (fun hm => hn (hs k hm))⟩
/-- Behind a world a: what was turned of b is either in S or newer than a. -/
theorem Turned.trans_new {S T : List Nat} {a b c : World} (h : Turned S a b) (k : Turned T b c) (hs : ∀ i, i ∈ T → i ∈ S ∨ a.heap.size ≤ i) : Turned S a c :=
  ⟨k.os.trans h.os, k.tape.trans h.tape, k.output.trans h.output, Nat.le_trans h.size k.size, fun i hi hn =>
    (k.block i (Nat.lt_of_lt_of_le hi h.size) (fun hm => by rcases hs i hm with h1 | h1 <;> first | exact hn h1 | omega)).trans (h.block i hi hn)⟩
theorem Turned.drew {S : List Nat} {a w : World} (h : Turned S a w) : Turned S a w.drew := ⟨h.os, h.tape, h.output, h.size, h.block⟩
theorem Turned.drewN {S : List Nat} {a w : World} (h : Turned S a w) (m : Nat) : Turned S a (w.drewN m) := ⟨h.os, h.tape, h.output, h.size, h.block⟩
theorem Turned.alloc {S : List Nat} {a w : World} (h : Turned S a w) (o : Obj) : Turned S a (w.alloc o) :=
  h.trans ⟨rfl, rfl, rfl, by simp, fun k hk _ => Below.heap_alloc _ _ _ hk⟩
theorem Turned.setCell {S : List Nat} {a w : World} (h : Turned S a w) {p : Addr} (hp : p.block ∈ S ∨ a.heap.size ≤ p.block) (u : Value) : Turned S a (w.setCell p u) := by
  refine ⟨h.os, h.tape, h.output, by simpa [World.setCell] using h.size, fun k hk hn => ?_⟩
  rw [Below.heap_setCell _ _ _ _ (by intro e; subst e; rcases hp with hp | hp <;> first | exact hn hp | omega)]
  exact h.block k hk hn
theorem Turned.grown {S : List Nat} {a w w' : World} {row : Option Nat} (h : Turned S a w) (hg : w.grownBy w' row) (hr : ∀ k, row = some k → k ∈ S ∨ a.heap.size ≤ k) : Turned S a w' :=
  ⟨hg.os.trans h.os, hg.tape.trans h.tape, hg.output.trans h.output, Nat.le_trans h.size hg.size, fun k hk hn =>
    (hg.block k (Nat.lt_of_lt_of_le hk h.size) (fun e => by rcases hr k e.symm with h1 | h1 <;> first | exact hn h1 | omega)).trans (h.block k hk hn)⟩
theorem Turned.below {S : List Nat} {B : Nat} {w w' : World} (h : Turned S w w') (hB : B ≤ w.heap.size) (hs : ∀ k, k ∈ S → B ≤ k) : Below B w w' :=
  ⟨h.os, h.tape, h.output, h.size, fun k hk => h.block k (by omega) (fun hm => by have := hs k hm; omega)⟩
theorem Turned.below0 {w w' : World} (h : Turned [] w w') : Below w.heap.size w w' := h.below (Nat.le_refl _) (fun _ hk => by cases hk)
theorem Turned.of_below {w w' : World} (h : Below w.heap.size w w') : Turned [] w w' := ⟨h.os, h.tape, h.output, h.size, fun k hk _ => h.block k hk⟩
theorem Turned.cell {S : List Nat} {w w' : World} (h : Turned S w w') {p : Addr} (hp : p.block < w.heap.size) (hn : p.block ∉ S) : w'.cell? p = w.cell? p := World.cell?_of_block (w := w) (h.block p.block hp hn)
theorem Turned.frozen {S : List Nat} {w w' : World} (h : Turned S w w') {p : Addr} (hp : p.block < w.heap.size) (hn : p.block ∉ S) : w'.frozen? p = w.frozen? p := World.frozen?_of_block (w := w) (h.block p.block hp hn)

theorem lt_of_heap {w : World} {p : Nat} {o : Obj} (h : w.heap[p]? = some o) : p < w.heap.size := by
  rcases Array.getElem?_eq_some_iff.1 h with ⟨h1, _⟩
  exact h1

theorem heap_setCell_at (w : World) (b off : Nat) (c : Array Value) (e : TypeId) (fr : Nat × Nat) (h : w.heap[b]? = some (.cells c e fr)) (v : Value) : (w.setCell ⟨b, off, none⟩ v).heap[b]? = some (.cells (c.setIfInBounds off v) e fr) := by
  simp only [World.setCell, Array.getElem?_modify]
  simp [h]

theorem heap_alloc_new (w : World) (o : Obj) : (w.alloc o).heap[w.heap.size]? = some o := by
  show (w.heap.push o)[w.heap.size]? = _
  rw [Array.getElem?_push, if_pos rfl]
theorem cell_of_heap {w : World} {b : Nat} {c : Array Value} {e : TypeId} {fr : Nat × Nat} (h : w.heap[b]? = some (.cells c e fr)) (i : Nat) : w.cell? ⟨b, i, none⟩ = c[i]? := by
  simp [World.cell?, h]
theorem cell_box (w : World) (c : Array Value) (e : TypeId) (a : Addr) (ha : a.block < w.heap.size) (u x : Value) (i : Nat) (hx : c[i]? = some x) : ((w.alloc (.cells c e)).setCell a u).cell? ⟨w.heap.size, i, none⟩ = some x := by
  have hne : w.heap.size ≠ a.block := by omega
  have h : ((w.alloc (.cells c e)).setCell a u).heap[w.heap.size]? = some (.cells c e) := by
    rw [Below.heap_setCell _ _ _ _ hne, heap_alloc_new]
  rw [cell_of_heap h, hx]
theorem block_lt {w : World} {a : Addr} {x : Value} (hc : w.cell? a = some x) : a.block < w.heap.size := by
  obtain ⟨e, n, h1, _⟩ := World.shape?_of_cell? hc
  unfold World.shape? at h1
  split at h1
  · exact lt_of_heap (by assumption)
  · cases h1

theorem hide {p : Prop} (h : p) : Hid p := h

/-- A row of the call's own, opened: of one-cell values. -/
theorem ownsRow_open {w : World} {B : Nat} {e : TypeId} {v : Value} {n : Nat} {l : List Value} (h : w.ownsRow B e 1 v n l) (hn : 0 < n) :
    ∃ g cap, v = .slice (some ⟨g, 0, none⟩) n cap ∧ B ≤ g ∧ g < w.heap.size ∧ n ≤ cap ∧ (∀ i x, l[i]? = some x → w.cell? ⟨g, i, none⟩ = some x) ∧ (∀ i, w.frozen? ⟨g, i, none⟩ = false) ∧ ∃ c, w.heap[g]? = some (.cells c e (0, 0)) := by
  obtain ⟨_, h2⟩ := h
  rcases h2 with ⟨_, h0⟩ | ⟨g, cap, cur, hv, hg, hh, hc, _, _, ht⟩
  · omega
  · refine ⟨g, cap, hv, hg, lt_of_heap hh, hc, fun i x hx => ?_, fun i => ?_, cur, hh⟩
    · rw [cell_of_heap hh]
      rw [← ht, List.getElem?_take] at hx
      split at hx
      · simpa using hx
      · cases hx
    · simp [World.frozen?, hh]

/-- The same, whether it is empty or not. -/
theorem ownsRow_any {w : World} {B : Nat} {e : TypeId} {v : Value} {n : Nat} {l : List Value} (h : w.ownsRow B e 1 v n l) :
    l.length = n ∧ ∃ ao cap, v = .slice ao n cap ∧ ∀ i x, l[i]? = some x → ∃ g, ao = some ⟨g, 0, none⟩ ∧ B ≤ g ∧ g < w.heap.size ∧ w.cell? ⟨g, i, none⟩ = some x ∧ w.frozen? ⟨g, i, none⟩ = false := by
  have hl : l.length = n := by simpa using h.1
  refine ⟨hl, ?_⟩
  by_cases hn : 0 < n
  · obtain ⟨g, cap, hv, h1, h2, _, h3, h4, _⟩ := ownsRow_open h hn
    exact ⟨_, cap, hv, fun i x hx => ⟨g, rfl, h1, h2, h3 i x hx, h4 i⟩⟩
  · have h0 : n = 0 := by omega
    subst h0
    have hnil : l = [] := List.eq_nil_of_length_eq_zero hl
    subst hnil
    rcases h.2 with ⟨hv, _⟩ | ⟨g, cap, cur, hv, _⟩
    · exact ⟨none, 0, hv, fun i x hx => by simp at hx⟩
    · exact ⟨_, cap, hv, fun i x hx => by simp at hx⟩

theorem ownsRow_mono {w : World} {B B' : Nat} {e : TypeId} {size : Nat} {v : Value} {n : Nat} {xs : List Value} (h : w.ownsRow B e size v n xs) (hB : B' ≤ B) : w.ownsRow B' e size v n xs := by
  obtain ⟨h1, h2⟩ := h
  refine ⟨h1, ?_⟩
  rcases h2 with h2 | ⟨g, cap, cur, hv, hg, r⟩
  · exact .inl h2
  · exact .inr ⟨g, cap, cur, hv, by omega, r⟩

/-- A row stays where its block does. -/
theorem ownsRow_keep {w w' : World} {B : Nat} {e : TypeId} {size : Nat} {v : Value} {n : Nat} {xs : List Value} (h : w.ownsRow B e size v n xs) (hk : ∀ k, v.ownBlock = some k → w'.heap[k]? = w.heap[k]?) : w'.ownsRow B e size v n xs := by
  obtain ⟨h1, h2⟩ := h
  refine ⟨h1, ?_⟩
  rcases h2 with h2 | ⟨g, cap, cur, rfl, hg, hh, r⟩
  · exact .inl h2
  · exact .inr ⟨g, cap, cur, rfl, hg, by rw [hk g rfl]; exact hh, r⟩

theorem ownsRow_lt {w : World} {B : Nat} {e : TypeId} {size : Nat} {v : Value} {n : Nat} {xs : List Value} (h : w.ownsRow B e size v n xs) : ∀ k, v.ownBlock = some k → B ≤ k ∧ k < w.heap.size ∧ ∃ c, w.heap[k]? = some (.cells c e (0, 0)) := by
  intro k hk
  rcases h.2 with ⟨rfl, _⟩ | ⟨g, cap, cur, rfl, hg, hh, r⟩
  · simp [Value.ownBlock] at hk
  · simp [Value.ownBlock] at hk
    subst hk
    exact ⟨hg, lt_of_heap hh, _, hh⟩

theorem wrap_add64 (P : Program) (x y : Int) (w : World) : (Op.intArith .add .i64 x y).run P w = .ok (.int .i64 (wrap64 (x + y))) w := by
  have h : IntKind.i64.wrap (x + y) = wrap64 (x + y) := by unfold wrap64; exact IntKind.wrap_i64 _
  simp [go_sem, h]
end Go.Proofs.YtgbclfhgpkmcnaaGreatDoor

/-
  Blocks of unlike types are unlike.
-/
namespace Go.Proofs.YtgbclfhgpkmcnaaGreatDoor
open Go.RowKit
set_option linter.unusedVariables false

theorem ne_of_type {w : World} {x y : Nat} {c c' : Array Value} {e e' : TypeId} {fr fr' : Nat × Nat} (hx : w.heap[x]? = some (.cells c e fr)) (hy : w.heap[y]? = some (.cells c' e' fr')) (he : e ≠ e') : x ≠ y := by
  rintro rfl
  rw [hx] at hy
  cases hy
  exact he rfl

end Go.Proofs.YtgbclfhgpkmcnaaGreatDoor

/-
  The memory of package cells in the model's heap: what it is ('Mem'), and what stays through new blocks and stores. No Go is walked here. (Rows of a call's own, of integers: 'ownsInts_open', 'ownsInts_any'.)
-/
namespace Go.Proofs.YtgbclfhgpkmcnaaGreatDoor
open Go.RowKit

/-- A memory: block p is the struct, block q its words; s accesses were counted. -/
structure Mem (w : World) (p q : Nat) (l : List Int) (s : Int) : Prop where
  ne : p ≠ q
  head : w.heap[p]? = some (.cells #[.slice (some ⟨q, 0, none⟩) l.length l.length, .int .i64 s] 109)
  row : w.heap[q]? = some (.cells (l.map (Value.int .i64)).toArray 2)

section
variable {w : World} {p q : Nat} {l : List Int} {s : Int}
theorem Mem.c0 (h : Mem w p q l s) : w.cell? ⟨p, 0, none⟩ = some (.slice (some ⟨q, 0, none⟩) l.length l.length) := by
  simp [World.cell?, h.head]
theorem Mem.c1 (h : Mem w p q l s) : w.cell? ⟨p, 1, none⟩ = some (.int .i64 s) := by
  simp [World.cell?, h.head]
theorem Mem.f (h : Mem w p q l s) (i : Nat) : w.frozen? ⟨p, i, none⟩ = false := by
  simp [World.frozen?, h.head]
theorem Mem.fw (h : Mem w p q l s) (i : Nat) : w.frozen? ⟨q, i, none⟩ = false := by
  simp [World.frozen?, h.row]
theorem Mem.word (h : Mem w p q l s) {i : Nat} {x : Int} (hx : l[i]? = some x) : w.cell? ⟨q, i, none⟩ = some (.int .i64 x) := by
  simp [World.cell?, h.row, hx]
theorem Mem.ltp (h : Mem w p q l s) : p < w.heap.size := lt_of_heap h.head
theorem Mem.ltq (h : Mem w p q l s) : q < w.heap.size := lt_of_heap h.row
theorem Mem.turned (h : Mem w p q l s) {S : List Nat} {w' : World} (t : Turned S w w') (hp : p ∉ S) (hq : q ∉ S) : Mem w' p q l s :=
  ⟨h.ne, by rw [t.block p h.ltp hp]; exact h.head, by rw [t.block q h.ltq hq]; exact h.row⟩
theorem Mem.alloc (h : Mem w p q l s) (o : Obj) : Mem (w.alloc o) p q l s := h.turned (S := []) ((Turned.refl _ _).alloc o) (by simp) (by simp)
theorem Mem.drew (h : Mem w p q l s) : Mem w.drew p q l s := ⟨h.ne, h.head, h.row⟩
theorem Mem.step (h : Mem w p q l s) (s' : Int) : Mem (w.setCell ⟨p, 1, none⟩ (.int .i64 s')) p q l s' :=
  ⟨h.ne, by rw [heap_setCell_at _ _ _ _ _ _ h.head]; rfl, by rw [Below.heap_setCell _ _ _ _ (Ne.symm h.ne)]; exact h.row⟩
theorem Mem.store (h : Mem w p q l s) (k : Nat) (v : Int) : Mem (w.setCell ⟨q, k, none⟩ (.int .i64 v)) p q (l.set k v) s :=
  ⟨h.ne, by rw [Below.heap_setCell _ _ _ _ h.ne, List.length_set]; exact h.head, by
    rw [heap_setCell_at _ _ _ _ _ _ h.row, List.map_set]; simp⟩
end

/-- What a row of the call's own holds, cell by cell. -/
theorem ownsInts_open {w : World} {B : Nat} {v : Value} {n : Nat} {l : List Int} (h : w.ownsRow B 2 1 v n (l.map (Value.int .i64))) (hn : 0 < n) :
    ∃ g cap, v = .slice (some ⟨g, 0, none⟩) n cap ∧ B ≤ g ∧ g < w.heap.size ∧ n ≤ cap ∧ (∀ i x, l[i]? = some x → w.cell? ⟨g, i, none⟩ = some (.int .i64 x)) ∧ ∀ i, w.frozen? ⟨g, i, none⟩ = false := by
  obtain ⟨_, h2⟩ := h
  rcases h2 with ⟨_, h0⟩ | ⟨g, cap, cur, hv, hg, hh, hc, _, _, ht⟩
  · omega
  · refine ⟨g, cap, hv, hg, lt_of_heap hh, hc, fun i x hx => ?_, fun i => ?_⟩
    · rw [cell_of_heap hh]
      have h1 : (l.map (Value.int .i64))[i]? = some (.int .i64 x) := by rw [List.getElem?_map, hx]; rfl
      rw [← ht, List.getElem?_take] at h1
      split at h1
      · simpa using h1
      · cases h1
    · simp [World.frozen?, hh]

/-- The same, whether it is empty or not. -/
theorem ownsInts_any {w : World} {B : Nat} {v : Value} {n : Nat} {l : List Int} (h : w.ownsRow B 2 1 v n (l.map (Value.int .i64))) :
    l.length = n ∧ ∃ ao cap, v = .slice ao n cap ∧ ∀ i x, l[i]? = some x → ∃ g, ao = some ⟨g, 0, none⟩ ∧ B ≤ g ∧ g < w.heap.size ∧ w.cell? ⟨g, i, none⟩ = some (.int .i64 x) ∧ w.frozen? ⟨g, i, none⟩ = false := by
  have hl : l.length = n := by simpa using h.1
  refine ⟨hl, ?_⟩
  by_cases hn : 0 < n
  · obtain ⟨g, cap, hv, h1, h2, _, h3, h4⟩ := ownsInts_open h hn
    exact ⟨_, cap, hv, fun i x hx => ⟨g, rfl, h1, h2, h3 i x hx, h4 i⟩⟩
  · have h0 : n = 0 := by omega
    subst h0
    have hnil : l = [] := List.eq_nil_of_length_eq_zero hl
    subst hnil
    rcases h.2 with ⟨hv, _⟩ | ⟨g, cap, cur, hv, _⟩
    · exact ⟨none, 0, hv, fun i x hx => by simp at hx⟩
    · exact ⟨_, cap, hv, fun i x hx => by simp at hx⟩

end Go.Proofs.YtgbclfhgpkmcnaaGreatDoor

/-
  What the types int and bool are.
-/
namespace Go.Proofs.YtgbclfhgpkmcnaaGreatDoor
set_option linter.unusedVariables false

theorem Tryz.infoInt : (Tryz.prog.info? 3).map (fun i => (i.zero, i.size, i.bytes)) = some (some (.int .i64 0), 1, 8) := by kernel_rfl
theorem Tryz.infoBool : (Tryz.prog.info? 4).map (fun i => (i.zero, i.size, i.bytes)) = some (some (.bool false), 1, 1) := by kernel_rfl
theorem Tryz.infoI64 : (Tryz.prog.info? 2).map (fun i => (i.zero, i.size, i.bytes)) = some (some (.int .i64 0), 1, 8) := by kernel_rfl
end Go.Proofs.YtgbclfhgpkmcnaaGreatDoor
