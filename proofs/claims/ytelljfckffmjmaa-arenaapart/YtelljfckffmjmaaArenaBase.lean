/-
  An arena of package arena in the model's heap ('Arn'), a row of buffers ('Bf'), an ask ('AkB', what it holds: 'AkS'), and the document's steps as a pure function ('stepA'). No Go is walked here.
-/
import Derived.Test.YtelljfckffmjmaaCellsPutAny
import Derived.Test.YtelljfckffmjmaaClassesHead
namespace Go.Proofs.Ytelljfckffmjmaa
open Go.RowKit

/-- A step of an ask. -/
inductive AStp
  | begin | readTop | swapTop
deriving DecidableEq

def AStp.fn : AStp → Nat
  | .begin => 35
  | .readTop => 52
  | .swapTop => 60

/-- What an ask holds. -/
structure AkS where
  at_ : AStp
  done : Bool
  size : Int
  top : Int
  wanted : Int
  pos : Int
  errno : Int
deriving DecidableEq

/-- The top's cell, the heap's end, a buffer's words. -/
structure AC where
  top : Nat
  to : Nat
  buf : Nat

def lg (A : AC) (size : Int) : Bool := decide ((A.buf : Int) < 2 * size)
def aboveOf (A : AC) (t : Int) : Int := if t < 0 ∨ (A.to : Int) < t then 0 else A.to - t
def topOf (A : AC) (l : List Int) : Int := l.getD A.top 0

def readA (A : AC) (l : List Int) (k : AkS) : AkS :=
  if aboveOf A (topOf A l) < k.size then { k with top := topOf A l, done := true, pos := 0, errno := 14 }
  else { k with top := topOf A l, wanted := if lg A k.size then k.size else min A.buf (aboveOf A (topOf A l)), at_ := .swapTop }

/-- All that a step changes: the cells, the buffers, the ask, how many accesses were counted. -/
structure ASt where
  l : List Int
  bl : List Int
  k : AkS
  s : Int

/-- The document's step, by the buffer at o. -/
def stepA (A : AC) (o : Nat) (x : ASt) : ASt :=
  if x.k.done then x else
  match x.k.at_ with
  | .begin =>
    if x.k.size < 1 ∨ 65536 < x.k.size then { x with k := { x.k with done := true, pos := 0, errno := 11 } }
    else if x.k.size ≤ x.bl.getD (o + 1) 0 - x.bl.getD o 0 then { x with bl := x.bl.set o (x.bl.getD o 0 + x.k.size), k := { x.k with done := true, pos := x.bl.getD o 0, errno := 0 } }
    else if x.bl.getD o 0 < x.bl.getD (o + 1) 0 ∧ lg A x.k.size = false then
      ⟨x.l.set (x.bl.getD o 0).toNat (headOf 0 (x.bl.getD (o + 1) 0 - x.bl.getD o 0 - 1)), (x.bl.set o 0).set (o + 1) 0, { x.k with at_ := .readTop }, wrap64 (x.s + 1)⟩
    else { x with k := readA A x.l x.k, s := wrap64 (x.s + 1) }
  | .readTop => { x with k := readA A x.l x.k, s := wrap64 (x.s + 1) }
  | .swapTop =>
    if topOf A x.l = x.k.top then
      ⟨x.l.set A.top (x.k.top + x.k.wanted), if lg A x.k.size then x.bl else (x.bl.set o (x.k.top + x.k.size)).set (o + 1) (x.k.top + x.k.wanted), { x.k with done := true, pos := x.k.top, errno := 0 }, wrap64 (x.s + 1)⟩
    else { x with k := { x.k with at_ := .readTop }, s := wrap64 (x.s + 1) }

/-- What a step asks: a buffer within the cells, numbers far from the ends. -/
structure FitA (A : AC) (o : Nat) (x : ASt) : Prop where
  b0 : 0 ≤ x.bl.getD o 0 ∧ x.bl.getD o 0 ≤ x.bl.getD (o + 1) 0
  b1 : x.bl.getD (o + 1) 0 ≤ x.l.length
  bo : o + 1 < x.bl.length
  rd : x.k.at_ ≠ .begin → 1 ≤ x.k.size ∧ x.k.size ≤ 65536
  sw : x.k.at_ = .swapTop → 0 ≤ x.k.top ∧ x.k.size ≤ x.k.wanted ∧ x.k.top + x.k.wanted ≤ A.to

theorem ne_of_type {w : World} {x y : Nat} {c c' : Array Value} {e e' : TypeId} {fr fr' : Nat × Nat} (hx : w.heap[x]? = some (.cells c e fr)) (hy : w.heap[y]? = some (.cells c' e' fr')) (he : e ≠ e') : x ≠ y := by
  rintro rfl
  rw [hx] at hy
  cases hy
  exact he rfl

/-- The arena (block a), the variable of its closure (block v), its memory. -/
structure Arn (w : World) (a v p q : Nat) (A : AC) (l : List Int) (s : Int) : Prop where
  head : w.heap[a]? = some (.cells #[.pointer (some ⟨p, 0, none⟩), .int .i64 A.top, .int .i64 A.to, .int .i64 A.buf, .func (.func 33) #[] #[.pointer (some ⟨v, 0, none⟩)]] 97)
  var : w.heap[v]? = some (.cells #[.int .i64 A.buf] 3)
  cell : A.top < l.length
  to : A.to ≤ l.length
  most : l.length ≤ 65536
  buf : 2 ≤ A.buf ∧ A.buf ≤ 4096
  mem : Mem w p q l s

/-- Buffers side by side, in a block whose cells are of that type. -/
def Bf (w : World) (B : Nat) (T : TypeId) (bl : List Int) : Prop := w.heap[B]? = some (.cells (bl.map (Value.int .i64)).toArray T)

/-- Types that are none of an arena's blocks. -/
def BT (T : TypeId) : Prop := T ≠ 97 ∧ T ≠ 102 ∧ T ≠ 3 ∧ T ≠ 2 ∧ T ≠ 94

def akCells (a B o : Nat) (k : AkS) : Array Value :=
  #[.func (.func k.at_.fn) #[.pointer (some ⟨a, 0, none⟩)] #[], .bool k.done, .pointer (some ⟨B, o, none⟩), .int .i64 k.size, .int .i64 k.top, .int .i64 k.wanted, .int .i64 k.pos, .int .i64 k.errno]

/-- An ask's cells, whatever they hold. -/
def AkG (w : World) (b : Nat) (c : Array Value) : Prop := w.heap[b]? = some (.cells c 102)
def AkB (w : World) (b a B o : Nat) (k : AkS) : Prop := AkG w b (akCells a B o k)

section
variable {w w' : World} {a v p q B b o : Nat} {T : TypeId} {A : AC} {l bl : List Int} {s : Int} {c : Array Value} {k : AkS} {S : List Nat}
theorem Arn.c0 (h : Arn w a v p q A l s) : w.cell? ⟨a, 0, none⟩ = some (.pointer (some ⟨p, 0, none⟩)) := by rw [cell_of_heap h.head]; rfl
theorem Arn.c1 (h : Arn w a v p q A l s) : w.cell? ⟨a, 1, none⟩ = some (.int .i64 A.top) := by rw [cell_of_heap h.head]; rfl
theorem Arn.c2 (h : Arn w a v p q A l s) : w.cell? ⟨a, 2, none⟩ = some (.int .i64 A.to) := by rw [cell_of_heap h.head]; rfl
theorem Arn.c3 (h : Arn w a v p q A l s) : w.cell? ⟨a, 3, none⟩ = some (.int .i64 A.buf) := by rw [cell_of_heap h.head]; rfl
theorem Arn.c4 (h : Arn w a v p q A l s) : w.cell? ⟨a, 4, none⟩ = some (.func (.func 33) #[] #[.pointer (some ⟨v, 0, none⟩)]) := by rw [cell_of_heap h.head]; rfl
theorem Arn.v0 (h : Arn w a v p q A l s) : w.cell? ⟨v, 0, none⟩ = some (.int .i64 A.buf) := by rw [cell_of_heap h.var]; rfl
theorem Arn.lta (h : Arn w a v p q A l s) : a < w.heap.size := lt_of_heap h.head
theorem Arn.ltv (h : Arn w a v p q A l s) : v < w.heap.size := lt_of_heap h.var
theorem Arn.ap (h : Arn w a v p q A l s) : a ≠ p := ne_of_type h.head h.mem.head (by decide)
theorem Arn.aq (h : Arn w a v p q A l s) : a ≠ q := ne_of_type h.head h.mem.row (by decide)
theorem Arn.vp (h : Arn w a v p q A l s) : v ≠ p := ne_of_type h.var h.mem.head (by decide)
theorem Arn.vq (h : Arn w a v p q A l s) : v ≠ q := ne_of_type h.var h.mem.row (by decide)
theorem Arn.at (h : Arn w a v p q A l s) : l[A.top]? = some (topOf A l) := by simp [topOf, List.getD, h.cell]
theorem Arn.turned (h : Arn w a v p q A l s) (t : Turned S w w') (ha : a ∉ S) (hv : v ∉ S) (hp : p ∉ S) (hq : q ∉ S) : Arn w' a v p q A l s :=
  ⟨by rw [t.block a h.lta ha]; exact h.head, by rw [t.block v h.ltv hv]; exact h.var, h.cell, h.to, h.most, h.buf, h.mem.turned t hp hq⟩
theorem Arn.drewN (h : Arn w a v p q A l s) (m : Nat) : Arn (w.drewN m) a v p q A l s := h.turned (S := []) ⟨rfl, rfl, rfl, Nat.le_refl _, fun _ _ _ => rfl⟩ (by simp) (by simp) (by simp) (by simp)
theorem Arn.drew (h : Arn w a v p q A l s) : Arn w.drew a v p q A l s := h.turned (Turned.refl [] w).drew (by simp) (by simp) (by simp) (by simp)
/-- Behind an access. -/
theorem Arn.acc (h : Arn w a v p q A l s) {l' : List Int} {s' : Int} (m : Mem w' p q l' s') (hl : l'.length = l.length) (t : Turned [p, q] w w') : Arn w' a v p q A l' s' :=
  ⟨by rw [t.block a h.lta (by simp; exact ⟨h.ap, h.aq⟩)]; exact h.head, by rw [t.block v h.ltv (by simp; exact ⟨h.vp, h.vq⟩)]; exact h.var, by rw [hl]; exact h.cell, by rw [hl]; exact h.to, by rw [hl]; exact h.most, h.buf, m⟩

theorem Bf.at (h : Bf w B T bl) {i : Nat} {x : Int} (hx : bl[i]? = some x) : w.cell? ⟨B, i, none⟩ = some (.int .i64 x) := by
  rw [cell_of_heap h]; simp [hx]
theorem Bf.fz (h : Bf w B T bl) (i : Nat) : w.frozen? ⟨B, i, none⟩ = false := by
  unfold Bf at h
  simp [World.frozen?, h]
theorem Bf.lt (h : Bf w B T bl) : B < w.heap.size := lt_of_heap h
theorem Bf.turned (h : Bf w B T bl) (t : Turned S w w') (hB : B ∉ S) : Bf w' B T bl := by
  unfold Bf at *
  rw [t.block B (lt_of_heap h) hB]
  exact h
theorem Bf.set (h : Bf w B T bl) (i : Nat) (x : Int) : Bf (w.setCell ⟨B, i, none⟩ (.int .i64 x)) B T (bl.set i x) := by
  unfold Bf
  rw [heap_setCell_at _ _ _ _ _ _ h]
  simp [List.map_set]

theorem AkG.f (h : AkG w b c) (i : Nat) : w.cell? ⟨b, i, none⟩ = c[i]? := cell_of_heap h i
theorem AkG.fz (h : AkG w b c) (i : Nat) : w.frozen? ⟨b, i, none⟩ = false := by unfold AkG at h; simp [World.frozen?, h]
theorem AkG.lt (h : AkG w b c) : b < w.heap.size := lt_of_heap h
theorem AkG.turned (h : AkG w b c) (t : Turned S w w') (hb : b ∉ S) : AkG w' b c := by
  unfold AkG at *
  rw [t.block b (lt_of_heap h) hb]
  exact h
theorem AkG.set (h : AkG w b c) (i : Nat) (x : Value) : AkG (w.setCell ⟨b, i, none⟩ x) b (c.setIfInBounds i x) := by
  unfold AkG at *
  exact heap_setCell_at _ _ _ _ _ _ h x
theorem AkB.turned (h : AkB w b a B o k) (t : Turned S w w') (hb : b ∉ S) : AkB w' b a B o k := AkG.turned h t hb
theorem AkB.lt (h : AkB w b a B o k) : b < w.heap.size := AkG.lt h
end

/-- On the way through a step: the arena, the buffers and the ask's cells as they stand, what was turned. -/
structure As (w0 w : World) (a v p q B b : Nat) (T : TypeId) (A : AC) (l bl : List Int) (s : Int) (c : Array Value) : Prop where
  ar : Arn w a v p q A l s
  bf : Bf w B T bl
  bt : BT T
  ak : AkG w b c
  tu : Turned [p, q, B, b] w0 w

section
variable {w0 w w' : World} {a v p q B b o : Nat} {T : TypeId} {A : AC} {l bl : List Int} {s : Int} {c : Array Value} {k : AkS} {S : List Nat}
theorem As.nB (h : As w0 w a v p q B b T A l bl s c) : B ≠ a ∧ B ≠ v ∧ B ≠ p ∧ B ≠ q ∧ B ≠ b :=
  ⟨ne_of_type h.bf h.ar.head h.bt.1, ne_of_type h.bf h.ar.var h.bt.2.2.1, ne_of_type h.bf h.ar.mem.head h.bt.2.2.2.2, ne_of_type h.bf h.ar.mem.row h.bt.2.2.2.1, ne_of_type h.bf h.ak h.bt.2.1⟩
theorem As.nb (h : As w0 w a v p q B b T A l bl s c) : b ≠ a ∧ b ≠ v ∧ b ≠ p ∧ b ≠ q :=
  ⟨ne_of_type h.ak h.ar.head (by decide), ne_of_type h.ak h.ar.var (by decide), ne_of_type h.ak h.ar.mem.head (by decide), ne_of_type h.ak h.ar.mem.row (by decide)⟩
theorem As.acc (h : As w0 w a v p q B b T A l bl s c) {l' : List Int} {s' : Int} (m : Mem w' p q l' s') (hl : l'.length = l.length) (t : Turned [p, q] w w') : As w0 w' a v p q B b T A l' bl s' c :=
  ⟨h.ar.acc m hl t, h.bf.turned t (by simp; exact ⟨h.nB.2.2.1, h.nB.2.2.2.1⟩), h.bt, h.ak.turned t (by simp; exact ⟨h.nb.2.2.1, h.nb.2.2.2⟩), h.tu.trans (t.mono (by intro k hk; simp at hk; rcases hk with rfl | rfl <;> simp))⟩
theorem As.set (h : As w0 w a v p q B b T A l bl s c) (i : Nat) (x : Value) : As w0 (w.setCell ⟨b, i, none⟩ x) a v p q B b T A l bl s (c.setIfInBounds i x) := by
  have t : Turned [b] w (w.setCell ⟨b, i, none⟩ x) := (Turned.refl _ _).setCell (by simp) _
  exact ⟨h.ar.turned t (by simp; exact Ne.symm h.nb.1) (by simp; exact Ne.symm h.nb.2.1) (by simp; exact Ne.symm h.nb.2.2.1) (by simp; exact Ne.symm h.nb.2.2.2), h.bf.turned t (by simp; exact h.nB.2.2.2.2), h.bt, h.ak.set i x, h.tu.setCell (by simp) _⟩
theorem As.put (h : As w0 w a v p q B b T A l bl s c) (i : Nat) (x : Int) : As w0 (w.setCell ⟨B, i, none⟩ (.int .i64 x)) a v p q B b T A l (bl.set i x) s c := by
  have t : Turned [B] w (w.setCell ⟨B, i, none⟩ (.int .i64 x)) := (Turned.refl _ _).setCell (by simp) _
  exact ⟨h.ar.turned t (by simp; exact Ne.symm h.nB.1) (by simp; exact Ne.symm h.nB.2.1) (by simp; exact Ne.symm h.nB.2.2.1) (by simp; exact Ne.symm h.nB.2.2.2.1), h.bf.set i x, h.bt, h.ak.turned t (by simp; exact Ne.symm h.nB.2.2.2.2), h.tu.setCell (by simp) _⟩
theorem As.drew (h : As w0 w a v p q B b T A l bl s c) : As w0 w.drew a v p q B b T A l bl s c := ⟨h.ar.drew, h.bf, h.bt, h.ak, h.tu.drew⟩
theorem As.drewN (h : As w0 w a v p q B b T A l bl s c) (m : Nat) : As w0 (w.drewN m) a v p q B b T A l bl s c := ⟨h.ar.drewN m, h.bf, h.bt, h.ak, ⟨h.tu.os, h.tu.tape, h.tu.output, h.tu.size, h.tu.block⟩⟩
/-- A callee has turned the ask. -/
theorem As.askd (h : As w0 w a v p q B b T A l bl s c) {c' : Array Value} (t : Turned [b] w w') (hk : AkG w' b c') : As w0 w' a v p q B b T A l bl s c' :=
  ⟨h.ar.turned t (by simp; exact Ne.symm h.nb.1) (by simp; exact Ne.symm h.nb.2.1) (by simp; exact Ne.symm h.nb.2.2.1) (by simp; exact Ne.symm h.nb.2.2.2), h.bf.turned t (by simp; exact h.nB.2.2.2.2), h.bt, hk, h.tu.trans (t.mono (by simp))⟩
/-- A callee has turned the buffers. -/
theorem As.bufd (h : As w0 w a v p q B b T A l bl s c) {bl' : List Int} (t : Turned [B] w w') (hb : Bf w' B T bl') : As w0 w' a v p q B b T A l bl' s c :=
  ⟨h.ar.turned t (by simp; exact Ne.symm h.nB.1) (by simp; exact Ne.symm h.nB.2.1) (by simp; exact Ne.symm h.nB.2.2.1) (by simp; exact Ne.symm h.nB.2.2.2.1), hb, h.bt, h.ak.turned t (by simp; exact Ne.symm h.nB.2.2.2.2), h.tu.trans (t.mono (by simp))⟩
theorem As.fin (h : As w0 w a v p q B b T A l bl s c) (e : c = akCells a B o k) : Arn w a v p q A l s ∧ Bf w B T bl ∧ AkB w b a B o k ∧ Turned [p, q, B, b] w0 w := ⟨h.ar, h.bf, by unfold AkB; rw [← e]; exact h.ak, h.tu⟩
end
end Go.Proofs.Ytelljfckffmjmaa
