/-
  Texts of the proof, several in one: Frames, Infos, NeType, SlideHeapP, CellsBase, SlideHeapQ.
-/
import Derived.Test.YtbmlggemheljkaaGreatDoorProg
import Derived.WalkKit
import Derived.WalkSpells
import Derived.WalkLawsBesides
/-
  What the later texts share: what a call may turn ('Turned'), blocks through new blocks and stores, rows of a call's own. No Go is walked here.
-/
namespace Go.Proofs.YtbmlggemheljkaaGreatDoor
open Go.RowKit

/-- The blocks outside S that were there are as they were; the streams too; no block has gone. -/
structure Turned (S : List Nat) (w w' : World) : Prop where
  os : w'.os = w.os
  tape : w'.tape = w.tape
  output : w'.output = w.output
  size : w.heap.size ≤ w'.heap.size
  block : ∀ k, k < w.heap.size → k ∉ S → w'.heap[k]? = w.heap[k]?

theorem Turned.refl (S : List Nat) (w : World) : Turned S w w := ⟨rfl, rfl, rfl, Nat.le_refl _, fun _ _ _ => rfl⟩
theorem Turned.trans {S : List Nat} {a b c : World} (h : Turned S a b) (k : Turned S b c) : Turned S a c :=
  ⟨k.os.trans h.os, k.tape.trans h.tape, k.output.trans h.output, Nat.le_trans h.size k.size, fun i hi hn => (k.block i (Nat.lt_of_lt_of_le hi h.size) hn).trans (h.block i hi hn)⟩
theorem Turned.mono {S T : List Nat} {w w' : World} (h : Turned S w w') (hs : ∀ k, k ∈ S → k ∈ T) : Turned T w w' :=
  ⟨h.os, h.tape, h.output, h.size, fun k hk hn => h.block k hk (fun hm => hn (hs k hm))⟩
/-- Behind a world a: what was turned of b is either in S or newer than a. -/
theorem Turned.trans_new {S T : List Nat} {a b c : World} (h : Turned S a b) (k : Turned T b c) (hs : ∀ i, i ∈ T → i ∈ S ∨ a.heap.size ≤ i) : Turned S a c :=
  ⟨k.os.trans h.os, k.tape.trans h.tape, k.output.trans h.output, Nat.le_trans h.size k.size, fun i hi hn =>
    (k.block i (Nat.lt_of_lt_of_le hi h.size) (fun hm => by rcases hs i hm with h1 | h1 <;> first | exact hn h1 | omega)).trans (h.block i hi hn)⟩
theorem Turned.drew {S : List Nat} {a w : World} (h : Turned S a w) : Turned S a w.drew := ⟨h.os, h.tape, h.output, h.size, h.block⟩
theorem Turned.drewN {S : List Nat} {a w : World} (h : Turned S a w) (m : Nat) : Turned S a (w.drewN m) := ⟨h.os, h.tape, h.output, h.size, h.block⟩
theorem Turned.alloc {S : List Nat} {a w : World} (h : Turned S a w) (o : Obj) : Turned S a (w.alloc o) :=
  h.trans ⟨rfl, rfl, rfl, by simp, fun k hk _ => Below.heap_alloc _ _ _ hk⟩
theorem Turned.setCell {S : List Nat} {a w : World} (h : Turned S a w) {p : Addr} (hp : p.block ∈ S ∨ a.heap.size ≤ p.block) (u : Value) : Turned S a (w.setCell p u) := by
  refine ⟨h.os, h.tape, h.output, by simpa [World.setCell] using h.size, fun k hk hn => ?_⟩
  rw [Below.heap_setCell _ _ _ _ (by intro e; subst e; rcases hp with hp | hp <;> first | exact hn hp | omega)]
  exact h.block k hk hn
theorem Turned.grown {S : List Nat} {a w w' : World} {row : Option Nat} (h : Turned S a w) (hg : w.grownBy w' row) (hr : ∀ k, row = some k → k ∈ S ∨ a.heap.size ≤ k) : Turned S a w' :=
  ⟨hg.os.trans h.os, hg.tape.trans h.tape, hg.output.trans h.output, Nat.le_trans h.size hg.size, fun k hk hn =>
    (hg.block k (Nat.lt_of_lt_of_le hk h.size) (fun e => by rcases hr k e.symm with h1 | h1 <;> first | exact hn h1 | omega)).trans (h.block k hk hn)⟩
theorem Turned.below {S : List Nat} {B : Nat} {w w' : World} (h : Turned S w w') (hB : B ≤ w.heap.size) (hs : ∀ k, k ∈ S → B ≤ k) : Below B w w' :=
  ⟨h.os, h.tape, h.output, h.size, fun k hk => h.block k (by omega) (fun hm => by have := hs k hm; omega)⟩
theorem Turned.below0 {w w' : World} (h : Turned [] w w') : Below w.heap.size w w' := h.below (Nat.le_refl _) (fun _ hk => by cases hk)
theorem Turned.of_below {w w' : World} (h : Below w.heap.size w w') : Turned [] w w' := ⟨h.os, h.tape, h.output, h.size, fun k hk _ => h.block k hk⟩
theorem Turned.cell {S : List Nat} {w w' : World} (h : Turned S w w') {p : Addr} (hp : p.block < w.heap.size) (hn : p.block ∉ S) : w'.cell? p = w.cell? p := World.cell?_of_block (w := w) (h.block p.block hp hn)
theorem Turned.frozen {S : List Nat} {w w' : World} (h : Turned S w w') {p : Addr} (hp : p.block < w.heap.size) (hn : p.block ∉ S) : w'.frozen? p = w.frozen? p := World.frozen?_of_block (w := w) (h.block p.block hp hn)

theorem lt_of_heap {w : World} {p : Nat} {o : Obj} (h : w.heap[p]? = some o) : p < w.heap.size := by
  rcases Array.getElem?_eq_some_iff.1 h with ⟨h1, _⟩
  exact h1

theorem heap_setCell_at (w : World) (b off : Nat) (c : Array Value) (e : TypeId) (fr : Nat × Nat) (h : w.heap[b]? = some (.cells c e fr)) (v : Value) : (w.setCell ⟨b, off, none⟩ v).heap[b]? = some (.cells (c.setIfInBounds off v) e fr) := by
  simp only [World.setCell, Array.getElem?_modify]
  simp [h]

theorem heap_alloc_new (w : World) (o : Obj) : (w.alloc o).heap[w.heap.size]? = some o := by
  show (w.heap.push o)[w.heap.size]? = _
  rw [Array.getElem?_push, if_pos rfl]
theorem cell_of_heap {w : World} {b : Nat} {c : Array Value} {e : TypeId} {fr : Nat × Nat} (h : w.heap[b]? = some (.cells c e fr)) (i : Nat) : w.cell? ⟨b, i, none⟩ = c[i]? := by
  simp [World.cell?, h]
theorem cell_box (w : World) (c : Array Value) (e : TypeId) (a : Addr) (ha : a.block < w.heap.size) (u x : Value) (i : Nat) (hx : c[i]? = some x) : ((w.alloc (.cells c e)).setCell a u).cell? ⟨w.heap.size, i, none⟩ = some x := by
  have hne : w.heap.size ≠ a.block := by omega
  have h : ((w.alloc (.cells c e)).setCell a u).heap[w.heap.size]? = some (.cells c e) := by
    rw [Below.heap_setCell _ _ _ _ hne, heap_alloc_new]
  rw [cell_of_heap h, hx]
theorem block_lt {w : World} {a : Addr} {x : Value} (hc : w.cell? a = some x) : a.block < w.heap.size := by
  obtain ⟨e, n, h1, _⟩ := World.shape?_of_cell? hc
  unfold World.shape? at h1
  split at h1
  · exact lt_of_heap (by assumption)
  · cases h1

theorem hide {p : Prop} (h : p) : Hid p := h

/-- A row of the call's own, opened: of one-cell values. -/
theorem ownsRow_open {w : World} {B : Nat} {e : TypeId} {v : Value} {n : Nat} {l : List Value} (h : w.ownsRow B e 1 v n l) (hn : 0 < n) :
    ∃ g cap, v = .slice (some ⟨g, 0, none⟩) n cap ∧ B ≤ g ∧ g < w.heap.size ∧ n ≤ cap ∧ (∀ i x, l[i]? = some x → w.cell? ⟨g, i, none⟩ = some x) ∧ (∀ i, w.frozen? ⟨g, i, none⟩ = false) ∧ ∃ c, w.heap[g]? = some (.cells c e (0, 0)) := by
  obtain ⟨_, h2⟩ := h
  rcases h2 with ⟨_, h0⟩ | ⟨g, cap, cur, hv, hg, hh, hc, _, _, ht⟩
  · omega
  · refine ⟨g, cap, hv, hg, lt_of_heap hh, hc, fun i x hx => ?_, fun i => ?_, cur, hh⟩
    · rw [cell_of_heap hh]
      rw [← ht, List.getElem?_take] at hx
      split at hx
      · simpa using hx
      · cases hx
    · simp [World.frozen?, hh]

/-- The same, whether it is empty or not. -/
theorem ownsRow_any {w : World} {B : Nat} {e : TypeId} {v : Value} {n : Nat} {l : List Value} (h : w.ownsRow B e 1 v n l) :
    l.length = n ∧ ∃ ao cap, v = .slice ao n cap ∧ ∀ i x, l[i]? = some x → ∃ g, ao = some ⟨g, 0, none⟩ ∧ B ≤ g ∧ g < w.heap.size ∧ w.cell? ⟨g, i, none⟩ = some x ∧ w.frozen? ⟨g, i, none⟩ = false := by
  have hl : l.length = n := by simpa using h.1
  refine ⟨hl, ?_⟩
  by_cases hn : 0 < n
  · obtain ⟨g, cap, hv, h1, h2, _, h3, h4, _⟩ := ownsRow_open h hn
    exact ⟨_, cap, hv, fun i x hx => ⟨g, rfl, h1, h2, h3 i x hx, h4 i⟩⟩
  · have h0 : n = 0 := by omega
    subst h0
    have hnil : l = [] := List.eq_nil_of_length_eq_zero hl
    subst hnil
    rcases h.2 with ⟨hv, _⟩ | ⟨g, cap, cur, hv, _⟩
    · exact ⟨none, 0, hv, fun i x hx => by simp at hx⟩
    · exact ⟨_, cap, hv, fun i x hx => by simp at hx⟩

theorem ownsRow_mono {w : World} {B B' : Nat} {e : TypeId} {size : Nat} {v : Value} {n : Nat} {xs : List Value} (h : w.ownsRow B e size v n xs) (hB : B' ≤ B) : w.ownsRow B' e size v n xs := by
  obtain ⟨h1, h2⟩ := h
  refine ⟨h1, ?_⟩
  rcases h2 with h2 | ⟨g, cap, cur, hv, hg, r⟩
  · exact .inl h2
  · exact .inr ⟨g, cap, cur, hv, by omega, r⟩

/-- A row stays where its block does. -/
theorem ownsRow_keep {w w' : World} {B : Nat} {e : TypeId} {size : Nat} {v : Value} {n : Nat} {xs : List Value} (h : w.ownsRow B e size v n xs) (hk : ∀ k, v.ownBlock = some k → w'.heap[k]? = w.heap[k]?) : w'.ownsRow B e size v n xs := by
  obtain ⟨h1, h2⟩ := h
  refine ⟨h1, ?_⟩
  rcases h2 with h2 | ⟨g, cap, cur, rfl, hg, hh, r⟩
  · exact .inl h2
  · exact .inr ⟨g, cap, cur, rfl, hg, by rw [hk g rfl]; exact hh, r⟩

theorem ownsRow_lt {w : World} {B : Nat} {e : TypeId} {size : Nat} {v : Value} {n : Nat} {xs : List Value} (h : w.ownsRow B e size v n xs) : ∀ k, v.ownBlock = some k → B ≤ k ∧ k < w.heap.size ∧ ∃ c, w.heap[k]? = some (.cells c e (0, 0)) := by
  intro k hk
  rcases h.2 with ⟨rfl, _⟩ | ⟨g, cap, cur, rfl, hg, hh, r⟩
  · simp [Value.ownBlock] at hk
  · simp [Value.ownBlock] at hk
    subst hk
    exact ⟨hg, lt_of_heap hh, _, hh⟩

theorem wrap_add64 (P : Program) (x y : Int) (w : World) : (Op.intArith .add .i64 x y).run P w = .ok (.int .i64 (wrap64 (x + y))) w := by
  have h : IntKind.i64.wrap (x + y) = wrap64 (x + y) := by unfold wrap64; exact IntKind.wrap_i64 _
  simp [go_sem, h]
end Go.Proofs.YtbmlggemheljkaaGreatDoor

/-
  What the types int and bool are.
-/
namespace Go.Proofs.YtbmlggemheljkaaGreatDoor
set_option linter.unusedVariables false

theorem Tryz.infoInt : (Tryz.prog.info? 3).map (fun i => (i.zero, i.size, i.bytes)) = some (some (.int .i64 0), 1, 8) := by kernel_rfl
theorem Tryz.infoBool : (Tryz.prog.info? 4).map (fun i => (i.zero, i.size, i.bytes)) = some (some (.bool false), 1, 1) := by kernel_rfl
theorem Tryz.infoI64 : (Tryz.prog.info? 2).map (fun i => (i.zero, i.size, i.bytes)) = some (some (.int .i64 0), 1, 8) := by kernel_rfl
end Go.Proofs.YtbmlggemheljkaaGreatDoor

/-
  Blocks of unlike types are unlike.
-/
namespace Go.Proofs.YtbmlggemheljkaaGreatDoor
open Go.RowKit
set_option linter.unusedVariables false

theorem ne_of_type {w : World} {x y : Nat} {c c' : Array Value} {e e' : TypeId} {fr fr' : Nat × Nat} (hx : w.heap[x]? = some (.cells c e fr)) (hy : w.heap[y]? = some (.cells c' e' fr')) (he : e ≠ e') : x ≠ y := by
  rintro rfl
  rw [hx] at hy
  cases hy
  exact he rfl

end Go.Proofs.YtbmlggemheljkaaGreatDoor

/-
  A heap of numbers in a list: up, down, push, pop. No Go is walked here.
-/
namespace Go.Proofs.YtbmlggemheljkaaGreatDoor
set_option linter.unusedVariables false

def gt0 (H : List Nat) (i : Nat) : Nat := H.getD i 0
def swp2 (H : List Nat) (i j : Nat) : List Nat := (H.set i (gt0 H j)).set j (gt0 H i)
theorem swp2_len (H : List Nat) (i j : Nat) : (swp2 H i j).length = H.length := by unfold swp2; simp
theorem gt0_swp2 (H : List Nat) {i j : Nat} (hi : i < H.length) (hj : j < H.length) (k : Nat) : gt0 (swp2 H i j) k = if k = j then gt0 H i else if k = i then gt0 H j else gt0 H k := by
  unfold swp2
  have h1 : ∀ (L : List Nat) (a : Nat) (v : Nat) (k : Nat), a < L.length → gt0 (L.set a v) k = if k = a then v else gt0 L k := by
    intro L a v k ha
    unfold gt0
    rw [List.getD_eq_getElem?_getD, List.getD_eq_getElem?_getD, List.getElem?_set]
    by_cases h : a = k
    · subst h; simp [ha]
    · simp [h]; intro e; exact absurd e.symm h
  rw [h1 _ _ _ _ (by simp; exact hj), h1 _ _ _ _ hi]
/-- Up from j. -/
def upL : Nat → List Nat → Nat → List Nat
  | 0, H, _ => H
  | n + 1, H, j => if j = 0 then H else if gt0 H j < gt0 H ((j - 1) / 2) then upL n (swp2 H ((j - 1) / 2) j) ((j - 1) / 2) else H
/-- The lesser child. -/
def chd (H : List Nat) (i n : Nat) : Nat := if 2 * i + 2 < n ∧ gt0 H (2 * i + 2) < gt0 H (2 * i + 1) then 2 * i + 2 else 2 * i + 1
def dnL : Nat → List Nat → Nat → Nat → List Nat
  | 0, H, _, _ => H
  | f + 1, H, i, n => if 2 * i + 1 < n then (if gt0 H (chd H i n) < gt0 H i then dnL f (swp2 H i (chd H i n)) (chd H i n) n else H) else H
theorem upL_len : ∀ (n : Nat) (H : List Nat) (j : Nat), (upL n H j).length = H.length := by
  intro n
  induction n with
  | zero => intro H j; rfl
  | succ n ih => intro H j; unfold upL; split; · rfl
                 split
                 · rw [ih, swp2_len]
                 · rfl
theorem dnL_len : ∀ (f : Nat) (H : List Nat) (i n : Nat), (dnL f H i n).length = H.length := by
  intro n
  induction n with
  | zero => intro H i n; rfl
  | succ n ih => intro H i n; unfold dnL; split
                 · split
                   · rw [ih, swp2_len]
                   · rfl
                 · rfl
def pushL (H : List Nat) (x : Nat) : List Nat := upL (H.length + 1) (H ++ [x]) H.length
def popL (H : List Nat) : List Nat := dnL H.length (swp2 H 0 (H.length - 1)) 0 (H.length - 1)
/-- More fuel than j changes nothing. -/
theorem upL_fuel : ∀ (n : Nat) (H : List Nat) (j m : Nat), j < n → j < m → upL n H j = upL m H j := by
  intro n
  induction n with
  | zero => intro H j m h; omega
  | succ n ih =>
    intro H j m h1 h2
    obtain ⟨m, rfl⟩ : ∃ m', m = m' + 1 := ⟨m - 1, by omega⟩
    unfold upL
    split
    · rfl
    · split
      · exact ih _ _ _ (by omega) (by omega)
      · rfl
theorem chd_gt (H : List Nat) (i n : Nat) : i < chd H i n := by unfold chd; split <;> omega
theorem chd_lt {H : List Nat} {i n : Nat} (h : 2 * i + 1 < n) : chd H i n < n := by
  unfold chd
  split
  · rename_i h2; exact h2.1
  · exact h
theorem dnL_fuel : ∀ (f : Nat) (H : List Nat) (i n m : Nat), n ≤ i + f → n ≤ i + m → dnL f H i n = dnL m H i n := by
  intro f
  induction f with
  | zero =>
    intro H i n m h1 h2
    cases m with
    | zero => rfl
    | succ m => unfold dnL; rw [if_neg (by omega)]
  | succ f ih =>
    intro H i n m h1 h2
    cases m with
    | zero => unfold dnL; rw [if_neg (by omega)]
    | succ m =>
      unfold dnL
      have := chd_gt H i n
      split
      · split
        · exact ih _ _ _ _ (by omega) (by omega)
        · rfl
      · rfl
/-- The same numbers, in another order. -/
theorem swp2_mem {H : List Nat} {i j : Nat} (hi : i < H.length) (hj : j < H.length) (x : Nat) : x ∈ swp2 H i j ↔ x ∈ H := by
  have key : ∀ L : List Nat, x ∈ L ↔ ∃ k, k < L.length ∧ gt0 L k = x := by
    intro L
    constructor
    · intro h
      obtain ⟨k, hk, e⟩ := List.getElem_of_mem h
      exact ⟨k, hk, by unfold gt0; rw [List.getD_eq_getElem?_getD, List.getElem?_eq_getElem hk]; exact e⟩
    · rintro ⟨k, hk, e⟩
      unfold gt0 at e
      rw [List.getD_eq_getElem?_getD, List.getElem?_eq_getElem hk] at e
      exact e ▸ List.getElem_mem hk
  rw [key, key, swp2_len]
  constructor
  · rintro ⟨k, hk, e⟩
    rw [gt0_swp2 H hi hj] at e
    split at e
    · exact ⟨i, hi, e⟩
    · split at e
      · exact ⟨j, hj, e⟩
      · exact ⟨k, hk, e⟩
  · rintro ⟨k, hk, e⟩
    by_cases h1 : k = i
    · subst h1; exact ⟨j, hj, by rw [gt0_swp2 H hi hj, if_pos rfl]; exact e⟩
    · by_cases h2 : k = j
      · subst h2; exact ⟨i, hi, by rw [gt0_swp2 H hi hj, if_neg (fun e => h1 e.symm), if_pos rfl]; exact e⟩
      · exact ⟨k, hk, by rw [gt0_swp2 H hi hj, if_neg h2, if_neg h1]; exact e⟩
end Go.Proofs.YtbmlggemheljkaaGreatDoor

/-
  The memory of package cells in the model's heap: what it is ('Mem'), and what stays through new blocks and stores. No Go is walked here. (Rows of a call's own, of integers: 'ownsInts_open', 'ownsInts_any'.)
-/
namespace Go.Proofs.YtbmlggemheljkaaGreatDoor
open Go.RowKit

/-- A memory: block p is the struct, block q its words; s accesses were counted. -/
structure Mem (w : World) (p q : Nat) (l : List Int) (s : Int) : Prop where
  ne : p ≠ q
  head : w.heap[p]? = some (.cells #[.slice (some ⟨q, 0, none⟩) l.length l.length, .int .i64 s] 90)
  row : w.heap[q]? = some (.cells (l.map (Value.int .i64)).toArray 2)

section
variable {w : World} {p q : Nat} {l : List Int} {s : Int}
theorem Mem.c0 (h : Mem w p q l s) : w.cell? ⟨p, 0, none⟩ = some (.slice (some ⟨q, 0, none⟩) l.length l.length) := by
  simp [World.cell?, h.head]
theorem Mem.c1 (h : Mem w p q l s) : w.cell? ⟨p, 1, none⟩ = some (.int .i64 s) := by
  simp [World.cell?, h.head]
theorem Mem.f (h : Mem w p q l s) (i : Nat) : w.frozen? ⟨p, i, none⟩ = false := by
  simp [World.frozen?, h.head]
theorem Mem.fw (h : Mem w p q l s) (i : Nat) : w.frozen? ⟨q, i, none⟩ = false := by
  simp [World.frozen?, h.row]
theorem Mem.word (h : Mem w p q l s) {i : Nat} {x : Int} (hx : l[i]? = some x) : w.cell? ⟨q, i, none⟩ = some (.int .i64 x) := by
  simp [World.cell?, h.row, hx]
theorem Mem.ltp (h : Mem w p q l s) : p < w.heap.size := lt_of_heap h.head
theorem Mem.ltq (h : Mem w p q l s) : q < w.heap.size := lt_of_heap h.row
theorem Mem.turned (h : Mem w p q l s) {S : List Nat} {w' : World} (t : Turned S w w') (hp : p ∉ S) (hq : q ∉ S) : Mem w' p q l s :=
  ⟨h.ne, by rw [t.block p h.ltp hp]; exact h.head, by rw [t.block q h.ltq hq]; exact h.row⟩
theorem Mem.alloc (h : Mem w p q l s) (o : Obj) : Mem (w.alloc o) p q l s := h.turned (S := []) ((Turned.refl _ _).alloc o) (by simp) (by simp)
theorem Mem.drew (h : Mem w p q l s) : Mem w.drew p q l s := ⟨h.ne, h.head, h.row⟩
theorem Mem.step (h : Mem w p q l s) (s' : Int) : Mem (w.setCell ⟨p, 1, none⟩ (.int .i64 s')) p q l s' :=
  ⟨h.ne, by rw [heap_setCell_at _ _ _ _ _ _ h.head]; rfl, by rw [Below.heap_setCell _ _ _ _ (Ne.symm h.ne)]; exact h.row⟩
theorem Mem.store (h : Mem w p q l s) (k : Nat) (v : Int) : Mem (w.setCell ⟨q, k, none⟩ (.int .i64 v)) p q (l.set k v) s :=
  ⟨h.ne, by rw [Below.heap_setCell _ _ _ _ h.ne, List.length_set]; exact h.head, by
    rw [heap_setCell_at _ _ _ _ _ _ h.row, List.map_set]; simp⟩
end

/-- What a row of the call's own holds, cell by cell. -/
theorem ownsInts_open {w : World} {B : Nat} {v : Value} {n : Nat} {l : List Int} (h : w.ownsRow B 2 1 v n (l.map (Value.int .i64))) (hn : 0 < n) :
    ∃ g cap, v = .slice (some ⟨g, 0, none⟩) n cap ∧ B ≤ g ∧ g < w.heap.size ∧ n ≤ cap ∧ (∀ i x, l[i]? = some x → w.cell? ⟨g, i, none⟩ = some (.int .i64 x)) ∧ ∀ i, w.frozen? ⟨g, i, none⟩ = false := by
  obtain ⟨_, h2⟩ := h
  rcases h2 with ⟨_, h0⟩ | ⟨g, cap, cur, hv, hg, hh, hc, _, _, ht⟩
  · omega
  · refine ⟨g, cap, hv, hg, lt_of_heap hh, hc, fun i x hx => ?_, fun i => ?_⟩
    · rw [cell_of_heap hh]
      have h1 : (l.map (Value.int .i64))[i]? = some (.int .i64 x) := by rw [List.getElem?_map, hx]; rfl
      rw [← ht, List.getElem?_take] at h1
      split at h1
      · simpa using h1
      · cases h1
    · simp [World.frozen?, hh]

/-- The same, whether it is empty or not. -/
theorem ownsInts_any {w : World} {B : Nat} {v : Value} {n : Nat} {l : List Int} (h : w.ownsRow B 2 1 v n (l.map (Value.int .i64))) :
    l.length = n ∧ ∃ ao cap, v = .slice ao n cap ∧ ∀ i x, l[i]? = some x → ∃ g, ao = some ⟨g, 0, none⟩ ∧ B ≤ g ∧ g < w.heap.size ∧ w.cell? ⟨g, i, none⟩ = some (.int .i64 x) ∧ w.frozen? ⟨g, i, none⟩ = false := by
  have hl : l.length = n := by simpa using h.1
  refine ⟨hl, ?_⟩
  by_cases hn : 0 < n
  · obtain ⟨g, cap, hv, h1, h2, _, h3, h4⟩ := ownsInts_open h hn
    exact ⟨_, cap, hv, fun i x hx => ⟨g, rfl, h1, h2, h3 i x hx, h4 i⟩⟩
  · have h0 : n = 0 := by omega
    subst h0
    have hnil : l = [] := List.eq_nil_of_length_eq_zero hl
    subst hnil
    rcases h.2 with ⟨hv, _⟩ | ⟨g, cap, cur, hv, _⟩
    · exact ⟨none, 0, hv, fun i x hx => by simp at hx⟩
    · exact ⟨_, cap, hv, fun i x hx => by simp at hx⟩

end Go.Proofs.YtbmlggemheljkaaGreatDoor

/-
  A heap of unlike numbers: push and pop keep the order, pop tells the least. No Go is walked here.
-/
namespace Go.Proofs.YtbmlggemheljkaaGreatDoor
set_option linter.unusedVariables false

/-- The first n numbers stand in a heap's order. -/
def Hp (H : List Nat) (n : Nat) : Prop := ∀ k, 0 < k → k < n → gt0 H ((k - 1) / 2) ≤ gt0 H k
/-- No number stands there twice. -/
def Inj (H : List Nat) : Prop := ∀ i j, i < H.length → j < H.length → gt0 H i = gt0 H j → i = j
/-- A number of the list. -/
def Has (H : List Nat) (n x : Nat) : Prop := ∃ k, k < n ∧ gt0 H k = x
theorem Hp.least {H : List Nat} {n : Nat} (h : Hp H n) : ∀ k, k < n → gt0 H 0 ≤ gt0 H k := by
  intro k
  induction k using Nat.strongRecOn with
  | _ k ih =>
    intro hk
    by_cases h0 : k = 0
    · subst h0; exact Nat.le_refl _
    · have h1 := h k (by omega) hk
      have h2 := ih ((k - 1) / 2) (by omega) (by omega)
      omega
theorem Inj.swp {H : List Nat} (h : Inj H) {i j : Nat} (hi : i < H.length) (hj : j < H.length) : Inj (swp2 H i j) := by
  intro a b ha hb hab
  rw [swp2_len] at ha hb
  rw [gt0_swp2 H hi hj, gt0_swp2 H hi hj] at hab
  have g : ∀ k, (if k = j then gt0 H i else if k = i then gt0 H j else gt0 H k) = gt0 H (if k = j then i else if k = i then j else k) := fun k => by split <;> (try split) <;> rfl
  rw [g, g] at hab
  have l : ∀ k, k < H.length → (if k = j then i else if k = i then j else k) < H.length := fun k hk => by split <;> (try split) <;> omega
  have e := h _ _ (l a ha) (l b hb) hab
  split at e <;> split at e <;> (try split at e) <;> (try split at e) <;> omega
theorem has_swp {H : List Nat} {i j n : Nat} (hi : i < n) (hj : j < n) (hn : n ≤ H.length) (x : Nat) : Has (swp2 H i j) n x ↔ Has H n x := by
  constructor
  · rintro ⟨k, hk, e⟩
    rw [gt0_swp2 H (by omega) (by omega)] at e
    split at e
    · exact ⟨i, hi, e⟩
    · split at e
      · exact ⟨j, hj, e⟩
      · exact ⟨k, hk, e⟩
  · rintro ⟨k, hk, e⟩
    by_cases h1 : k = i
    · subst h1; exact ⟨j, hj, by rw [gt0_swp2 H (by omega) (by omega), if_pos rfl]; exact e⟩
    · by_cases h2 : k = j
      · subst h2; exact ⟨i, hi, by rw [gt0_swp2 H (by omega) (by omega), if_neg (fun e => h1 e.symm), if_pos rfl]; exact e⟩
      · exact ⟨k, hk, by rw [gt0_swp2 H (by omega) (by omega), if_neg h2, if_neg h1]; exact e⟩
/-- Up: where j alone may be less than its parent. -/
theorem up_heap : ∀ (f : Nat) (H : List Nat) (j n : Nat), j < f → j < n → n ≤ H.length → (∀ k, 0 < k → k < n → k ≠ j → gt0 H ((k - 1) / 2) ≤ gt0 H k) → (∀ c, 0 < c → c < n → (c - 1) / 2 = j → 0 < j → gt0 H ((j - 1) / 2) ≤ gt0 H c) → Hp (upL f H j) n ∧ (∀ x, Has (upL f H j) n x ↔ Has H n x) ∧ (Inj H → Inj (upL f H j)) := by
  intro f
  induction f with
  | zero => intro H j n h; omega
  | succ f ih =>
    intro H j n hf hj hn h1 h2
    unfold upL
    by_cases h0 : j = 0
    · rw [if_pos h0]
      refine ⟨fun k hk hkn => h1 k hk hkn (by omega), fun x => Iff.rfl, fun h => h⟩
    · rw [if_neg h0]
      by_cases hlt : gt0 H j < gt0 H ((j - 1) / 2)
      · rw [if_pos hlt]
        obtain ⟨p, hp⟩ : ∃ p, p = (j - 1) / 2 := ⟨_, rfl⟩
        rw [← hp] at hlt ⊢
        have hpj : p < j := by omega
        have g : ∀ k, gt0 (swp2 H p j) k = if k = j then gt0 H p else if k = p then gt0 H j else gt0 H k := gt0_swp2 H (by omega) (by omega)
        obtain ⟨i1, i2, i3⟩ := ih (swp2 H p j) p n (by omega) (by omega) (by rw [swp2_len]; exact hn) (fun k hk hkn hkp => by
          rw [g, g]
          by_cases e1 : k = j
          · subst e1
            rw [if_pos rfl]
            rw [show (k - 1) / 2 = p from hp.symm, if_neg (by omega), if_pos rfl]
            omega
          · rw [if_neg e1, if_neg hkp]
            have b := h1 k hk hkn e1
            by_cases e2 : (k - 1) / 2 = j
            · rw [if_pos e2]
              have := h2 k hk hkn e2 (by omega)
              rw [← hp] at this
              exact this
            · rw [if_neg e2]
              by_cases e3 : (k - 1) / 2 = p
              · rw [if_pos e3]; rw [e3] at b; omega
              · rw [if_neg e3]; exact b) (fun c hc hcn hcp hp0 => by
          rw [g, g]
          rw [if_neg (show ¬ (p - 1) / 2 = j by omega), if_neg (show ¬ (p - 1) / 2 = p by omega)]
          have b1 := h1 p hp0 (by omega) (by omega)
          by_cases e1 : c = j
          · rw [if_pos e1]; exact b1
          · rw [if_neg e1, if_neg (by omega)]
            have b2 := h1 c hc hcn e1
            rw [hcp] at b2
            omega)
        refine ⟨i1, fun x => (i2 x).trans (has_swp (by omega) hj hn x), fun h => i3 (h.swp (by omega) (by omega))⟩
      · rw [if_neg hlt]
        refine ⟨fun k hk hkn => ?_, fun x => Iff.rfl, fun h => h⟩
        by_cases e : k = j
        · subst e; omega
        · exact h1 k hk hkn e
/-- Down: where i alone may be more than its children. -/
theorem down_heap : ∀ (f : Nat) (H : List Nat) (i n : Nat), n ≤ i + f → n ≤ H.length → i < n → (∀ k, 0 < k → k < n → (k - 1) / 2 ≠ i → gt0 H ((k - 1) / 2) ≤ gt0 H k) → (∀ c, 0 < c → c < n → (c - 1) / 2 = i → 0 < i → gt0 H ((i - 1) / 2) ≤ gt0 H c) → Hp (dnL f H i n) n ∧ (∀ x, Has (dnL f H i n) n x ↔ Has H n x) ∧ (Inj H → Inj (dnL f H i n)) ∧ (∀ k, n ≤ k → gt0 (dnL f H i n) k = gt0 H k) := by
  intro f
  induction f with
  | zero => intro H i n h1 h2 h3; omega
  | succ f ih =>
    intro H i n hf hn hi h1 h2
    unfold dnL
    by_cases hc : 2 * i + 1 < n
    · rw [if_pos hc]
      have c1 := chd_gt H i n
      have c2 := chd_lt (H := H) hc
      have c3 : (chd H i n - 1) / 2 = i := by unfold chd; split <;> omega
      have c4 : ∀ k, 0 < k → k < n → (k - 1) / 2 = i → gt0 H (chd H i n) ≤ gt0 H k := by
        intro k hk hkn hki
        have : k = 2 * i + 1 ∨ k = 2 * i + 2 := by omega
        unfold chd
        split
        · rename_i hh
          rcases this with rfl | rfl
          · omega
          · exact Nat.le_refl _
        · rename_i hh
          rcases this with rfl | rfl
          · exact Nat.le_refl _
          · have : ¬ gt0 H (2 * i + 2) < gt0 H (2 * i + 1) := fun h => hh ⟨hkn, h⟩
            omega
      generalize chd H i n = c at *
      by_cases hlt : gt0 H c < gt0 H i
      · rw [if_pos hlt]
        have g : ∀ k, gt0 (swp2 H i c) k = if k = c then gt0 H i else if k = i then gt0 H c else gt0 H k := gt0_swp2 H (by omega) (by omega)
        obtain ⟨i1, i2, i3, i4⟩ := ih (swp2 H i c) c n (by omega) (by rw [swp2_len]; exact hn) c2 (fun k hk hkn hkc => by
          rw [g, g, if_neg hkc]
          by_cases e1 : k = c
          · rw [if_pos e1]
            rw [if_pos (by rw [e1]; exact c3)]
            omega
          · rw [if_neg e1]
            by_cases e2 : (k - 1) / 2 = i
            · rw [if_pos e2, if_neg (by omega)]
              exact c4 k hk hkn e2
            · rw [if_neg e2]
              have b := h1 k hk hkn e2
              by_cases e3 : k = i
              · rw [if_pos e3]
                have := h2 c (by omega) c2 c3 (by omega)
                rw [e3]; exact this
              · rw [if_neg e3]; exact b) (fun d hd hdn hdc hc0 => by
          rw [g, g, if_neg (show ¬ (c - 1) / 2 = c by omega), if_pos c3, if_neg (show ¬ d = c by omega), if_neg (show ¬ d = i by omega)]
          have := h1 d hd hdn (by omega)
          rw [hdc] at this
          exact this)
        refine ⟨i1, fun x => (i2 x).trans (has_swp hi c2 hn x), fun h => i3 (h.swp (by omega) (by omega)), fun k hk => ?_⟩
        rw [i4 k hk, g, if_neg (by omega), if_neg (by omega)]
      · rw [if_neg hlt]
        refine ⟨fun k hk hkn => ?_, fun x => Iff.rfl, fun h => h, fun k _ => rfl⟩
        by_cases e : (k - 1) / 2 = i
        · have := c4 k hk hkn e
          rw [e]; omega
        · exact h1 k hk hkn e
    · rw [if_neg hc]
      refine ⟨fun k hk hkn => h1 k hk hkn (by omega), fun x => Iff.rfl, fun h => h, fun k _ => rfl⟩
theorem gt0_app (H : List Nat) (x k : Nat) : gt0 (H ++ [x]) k = if k < H.length then gt0 H k else if k = H.length then x else 0 := by
  unfold gt0
  rw [List.getD_eq_getElem?_getD, List.getD_eq_getElem?_getD]
  by_cases h : k < H.length
  · rw [if_pos h, List.getElem?_append_left h]
  · rw [if_neg h, List.getElem?_append_right (by omega)]
    by_cases h2 : k = H.length
    · subst h2; simp
    · rw [if_neg h2, List.getElem?_eq_none (by simp; omega)]; rfl
theorem Has.lt {H : List Nat} {x : Nat} (h : Has H H.length x) : x ∈ H := by
  obtain ⟨k, hk, e⟩ := h
  unfold gt0 at e
  rw [List.getD_eq_getElem?_getD, List.getElem?_eq_getElem hk] at e
  exact e ▸ List.getElem_mem hk
theorem push_heap {H : List Nat} {x : Nat} (h1 : Hp H H.length) (h2 : Inj H) (h3 : ¬ Has H H.length x) : Hp (pushL H x) (pushL H x).length ∧ Inj (pushL H x) ∧ (∀ y, Has (pushL H x) (pushL H x).length y ↔ Has H H.length y ∨ y = x) := by
  unfold pushL
  have hl : (upL (H.length + 1) (H ++ [x]) H.length).length = H.length + 1 := by rw [upL_len]; simp
  rw [hl]
  have g := gt0_app H x
  obtain ⟨a, b, c⟩ := up_heap (H.length + 1) (H ++ [x]) H.length (H.length + 1) (by omega) (by omega) (by simp) (fun k hk hkn hne => by
    rw [g, g, if_pos (by omega), if_pos (by omega)]
    exact h1 k hk (by omega)) (fun c hc hcn he h0 => by omega)
  refine ⟨a, c ?_, fun y => (b y).trans ?_⟩
  · intro i j hi hj he
    rw [List.length_append] at hi hj
    simp only [List.length_cons, List.length_nil] at hi hj
    rw [g, g] at he
    by_cases e1 : i < H.length
    · rw [if_pos e1] at he
      by_cases e2 : j < H.length
      · rw [if_pos e2] at he; exact h2 i j e1 e2 he
      · rw [if_neg e2, if_pos (by omega)] at he; exact absurd ⟨i, e1, he⟩ h3
    · by_cases e2 : j < H.length
      · rw [if_neg e1, if_pos (by omega), if_pos e2] at he; exact absurd ⟨j, e2, he.symm⟩ h3
      · omega
  · constructor
    · rintro ⟨k, hk, e⟩
      rw [g] at e
      by_cases e1 : k < H.length
      · rw [if_pos e1] at e; exact .inl ⟨k, e1, e⟩
      · rw [if_neg e1, if_pos (by omega)] at e; exact .inr e.symm
    · rintro (⟨k, hk, e⟩ | rfl)
      · exact ⟨k, by omega, by rw [g, if_pos hk]; exact e⟩
      · exact ⟨H.length, by omega, by rw [g, if_neg (by omega), if_pos rfl]⟩
theorem gt0_takeQ {H : List Nat} {n k : Nat} (h : k < n) : gt0 (H.take n) k = gt0 H k := by
  unfold gt0
  rw [List.getD_eq_getElem?_getD, List.getD_eq_getElem?_getD, List.getElem?_take, if_pos h]
/-- The least is taken out. -/
theorem pop_heap {H : List Nat} (h1 : Hp H H.length) (h2 : Inj H) (h0 : H.length ≠ 0) : Has H H.length (gt0 (popL H) (H.length - 1)) ∧ (∀ y, Has H H.length y → gt0 (popL H) (H.length - 1) ≤ y) ∧ Hp ((popL H).take (H.length - 1)) (H.length - 1) ∧ Inj ((popL H).take (H.length - 1)) ∧ (∀ y, Has ((popL H).take (H.length - 1)) (H.length - 1) y ↔ Has H H.length y ∧ y ≠ gt0 (popL H) (H.length - 1)) ∧ ((popL H).take (H.length - 1)).length = H.length - 1 := by
  obtain ⟨n, hn⟩ : ∃ n, n = H.length - 1 := ⟨_, rfl⟩
  have hl : H.length = n + 1 := by omega
  rw [← hn]
  have hs : (swp2 H 0 n).length = n + 1 := by rw [swp2_len, hl]
  have g : ∀ k, gt0 (swp2 H 0 n) k = if k = n then gt0 H 0 else if k = 0 then gt0 H n else gt0 H k := gt0_swp2 H (by omega) (by omega)
  have hpl : popL H = dnL H.length (swp2 H 0 n) 0 n := by unfold popL; rw [← hn]
  have hlen : (popL H).length = n + 1 := by rw [hpl, dnL_len, hs]
  have hsw : Inj (swp2 H 0 n) := h2.swp (by omega) (by omega)
  have hfst := h1.least
  have key : Hp (popL H) n ∧ (∀ x, Has (popL H) n x ↔ Has (swp2 H 0 n) n x) ∧ Inj (popL H) ∧ gt0 (popL H) n = gt0 H 0 := by
    by_cases hz : n = 0
    · subst hz
      refine ⟨fun k _ hk => by omega, fun x => ⟨fun ⟨k, hk, _⟩ => by omega, fun ⟨k, hk, _⟩ => by omega⟩, fun i j hi hj _ => by omega, ?_⟩
      rw [hpl, hl]
      unfold dnL
      rw [if_neg (by omega), g, if_pos rfl]
    · obtain ⟨a, b, c, d⟩ := down_heap H.length (swp2 H 0 n) 0 n (by omega) (by omega) (by omega) (fun k hk hkn hk0 => by
        rw [g, g, if_neg (by omega), if_neg (by omega), if_neg (by omega), if_neg (by omega)]
        exact h1 k hk (by omega)) (fun c _ _ _ h => by omega)
      rw [← hpl] at a b c d
      exact ⟨a, b, c hsw, by rw [d n (Nat.le_refl _), g, if_pos rfl]⟩
  obtain ⟨k1, k2, k3, k4⟩ := key
  have tk : ∀ k, k < n → gt0 ((popL H).take n) k = gt0 (popL H) k := fun k hk => gt0_takeQ hk
  rw [k4, hl]
  have hin : ∀ y, Has (popL H) n y ↔ Has H (n + 1) y ∧ y ≠ gt0 H 0 := by
    intro y
    rw [k2]
    constructor
    · rintro ⟨k, hk, e⟩
      have hne : y ≠ gt0 H 0 := fun he => by
        have h5 : gt0 (swp2 H 0 n) n = gt0 H 0 := by rw [g, if_pos rfl]
        have := hsw k n (by omega) (by omega) (by rw [e, h5]; exact he)
        omega
      refine ⟨?_, hne⟩
      rw [g, if_neg (by omega)] at e
      split at e
      · exact ⟨n, by omega, e⟩
      · exact ⟨k, by omega, e⟩
    · rintro ⟨⟨k, hk, e⟩, hne⟩
      have hk0 : k ≠ 0 := fun h => hne (by rw [← e, h])
      by_cases hkn : k = n
      · subst hkn
        exact ⟨0, by omega, by rw [g, if_neg (by omega), if_pos rfl]; exact e⟩
      · exact ⟨k, by omega, by rw [g, if_neg hkn, if_neg hk0]; exact e⟩
  refine ⟨⟨0, by omega, rfl⟩, fun y ⟨k, hk, e⟩ => by rw [← e]; exact hfst k (by omega), fun k hk hkn => ?_, fun i j hi hj he => ?_, fun y => ?_, by rw [List.length_take, hlen]; omega⟩
  · rw [tk _ (by omega), tk _ hkn]; exact k1 k hk hkn
  · have hi' : i < n := by rw [List.length_take, hlen] at hi; omega
    have hj' : j < n := by rw [List.length_take, hlen] at hj; omega
    rw [tk _ hi', tk _ hj'] at he
    exact k3 i j (by omega) (by omega) he
  · rw [← hin]
    constructor
    · rintro ⟨k, hk, e⟩; exact ⟨k, hk, by rw [tk _ hk] at e; exact e⟩
    · rintro ⟨k, hk, e⟩; exact ⟨k, hk, by rw [tk _ hk]; exact e⟩
end Go.Proofs.YtbmlggemheljkaaGreatDoor
