/-
  The deque of package deque in the model's heap ('Dq'), an operation ('OpB', what it holds: 'OpS'), and the document's steps as a pure function ('stepOf'). No Go is walked here.
-/
import Derived.Test.YtokabpgdklihlaaCellsMore
namespace Go.Proofs.Ytokabpgdklihlaa
open Go.RowKit

/-- A step of an operation. -/
inductive Stp
  | pushReadBottom | pushReadTop | pushSlot | pushBottom | pushLock | pushCount | pushCell | pushCounted | free
  | popReadBottom | popBottom | popReadTop | popSlot | popLast | popSwap | popWon | popNothing
  | stealReadTop | stealReadBottom | stealSlot | stealSwap | takeLock | takeCount | takeCell | takeCounted
deriving DecidableEq

def Stp.fn : Stp → Nat
  | .pushReadBottom => 31
  | .pushReadTop => 48
  | .pushSlot => 59
  | .pushBottom => 69
  | .pushLock => 58
  | .pushCount => 67
  | .pushCell => 78
  | .pushCounted => 90
  | .free => 79
  | .popReadBottom => 53
  | .popBottom => 63
  | .popReadTop => 73
  | .popSlot => 84
  | .popLast => 85
  | .popSwap => 96
  | .popWon => 101
  | .popNothing => 86
  | .stealReadTop => 54
  | .stealReadBottom => 64
  | .stealSlot => 75
  | .stealSwap => 88
  | .takeLock => 74
  | .takeCount => 87
  | .takeCell => 97
  | .takeCounted => 102

/-- Where a deque lies in its cells. -/
structure Cfg where
  base : Nat
  cap : Nat
  over : Nat

/-- What an operation holds. -/
structure OpS where
  at_ : Stp
  done : Bool
  top : Int
  bottom : Int
  count : Nat
  item : Int
  errno : Int

def rd (C : Cfg) (l : List Int) (k : Nat) : Int := l.getD (C.base + k) 0
def wr (C : Cfg) (l : List Int) (k : Nat) (v : Int) : List Int := l.set (C.base + k) v
def slotOf (C : Cfg) (n : Int) : Nat := 4 + (n % (C.cap : Int)).toNat
def heldOf (C : Cfg) (t b : Int) : Int := if b ≤ t then 0 else min (b - t) C.cap
def stackedOf (C : Cfg) (n : Int) : Nat := (min (max n 0) (C.over : Int)).toNat

/-- The document's step: the cells, and what the operation holds then. -/
def stepOf (C : Cfg) (l : List Int) (o : OpS) : List Int × OpS :=
  if o.done then (l, o) else
  match o.at_ with
  | .pushReadBottom => (l, { o with bottom := rd C l 1, at_ := .pushReadTop })
  | .pushReadTop => (l, { o with top := rd C l 0, at_ := if heldOf C (rd C l 0) o.bottom < C.cap then .pushSlot else .pushLock })
  | .pushSlot => (wr C l (slotOf C o.bottom) o.item, { o with at_ := .pushBottom })
  | .pushBottom => (wr C l 1 (o.bottom + 1), { o with done := true, errno := 0 })
  | .pushLock => if rd C l 2 = 0 then (wr C l 2 1, { o with at_ := .pushCount }) else (l, o)
  | .pushCount => if C.over ≤ stackedOf C (rd C l 3) then (l, { o with count := stackedOf C (rd C l 3), errno := 14, at_ := .free }) else (l, { o with count := stackedOf C (rd C l 3), at_ := .pushCell })
  | .pushCell => (wr C l (4 + C.cap + o.count) o.item, { o with at_ := .pushCounted })
  | .pushCounted => (wr C l 3 ((o.count : Int) + 1), { o with at_ := .free })
  | .free => (wr C l 2 0, { o with done := true })
  | .popReadBottom => (l, { o with bottom := rd C l 1 - 1, at_ := .popBottom })
  | .popBottom => (wr C l 1 o.bottom, { o with at_ := .popReadTop })
  | .popReadTop => (l, { o with top := rd C l 0, at_ := if rd C l 0 < o.bottom then .popSlot else if rd C l 0 = o.bottom then .popLast else .popNothing })
  | .popSlot => (l, { o with item := rd C l (slotOf C o.bottom), done := true, errno := 0 })
  | .popLast => (l, { o with item := rd C l (slotOf C o.bottom), at_ := .popSwap })
  | .popSwap => if rd C l 0 = o.top then (wr C l 0 (o.top + 1), { o with at_ := .popWon, top := o.top + 1 }) else (l, { o with at_ := .popNothing, top := o.top + 1 })
  | .popWon => (wr C l 1 o.top, { o with done := true, errno := 0 })
  | .popNothing => (wr C l 1 o.top, { o with at_ := .takeLock })
  | .stealReadTop => (l, { o with top := rd C l 0, at_ := .stealReadBottom })
  | .stealReadBottom => (l, { o with bottom := rd C l 1, at_ := if o.top < rd C l 1 then .stealSlot else .takeLock })
  | .stealSlot => (l, { o with item := rd C l (slotOf C o.top), at_ := .stealSwap })
  | .stealSwap => if rd C l 0 = o.top then (wr C l 0 (o.top + 1), { o with done := true, errno := 0 }) else (l, { o with done := true, errno := 16 })
  | .takeLock => if rd C l 2 = 0 then (wr C l 2 1, { o with at_ := .takeCount }) else (l, o)
  | .takeCount => if stackedOf C (rd C l 3) = 0 then (l, { o with count := stackedOf C (rd C l 3), errno := 15, at_ := .free }) else (l, { o with count := stackedOf C (rd C l 3), at_ := .takeCell })
  | .takeCell => (l, { o with item := rd C l (4 + C.cap + (o.count - 1)), at_ := .takeCounted })
  | .takeCounted => (wr C l 3 ((o.count : Int) - 1), { o with at_ := .free })

/-- An operation's count is one that its step may go by. -/
def CntOk (C : Cfg) (o : OpS) : Prop :=
  match o.at_ with
  | .pushCell => o.count < C.over
  | .pushCounted => o.count < C.over
  | .takeCell => 0 < o.count ∧ o.count ≤ C.over
  | .takeCounted => 0 < o.count ∧ o.count ≤ C.over
  | _ => True

/-- What a step asks: numbers far from the ends, a count that may be. -/
structure Fit (C : Cfg) (l : List Int) (o : OpS) (N : Int) : Prop where
  t : -N ≤ rd C l 0 ∧ rd C l 0 ≤ N
  b : -N ≤ rd C l 1 ∧ rd C l 1 ≤ N
  ot : -N ≤ o.top ∧ o.top ≤ N
  ob : -N ≤ o.bottom ∧ o.bottom ≤ N
  cnt : CntOk C o

/-- The deque: block d its struct, p and q its memory. -/
structure Dq (w : World) (d p q : Nat) (C : Cfg) (l : List Int) (s : Int) : Prop where
  ne : d ≠ p ∧ d ≠ q
  cap : 1 ≤ C.cap ∧ C.cap ≤ 64
  over : C.over ≤ 4096
  room : C.base + (4 + C.cap + C.over) ≤ l.length
  most : l.length ≤ 65536
  head : w.heap[d]? = some (.cells #[.pointer (some ⟨p, 0, none⟩), .int .i64 C.base, .int .i64 C.cap, .int .i64 C.over] 66)
  mem : Mem w p q l s

/-- An operation's cells. -/
def opCells (d : Nat) (o : OpS) : Array Value :=
  #[.func (.func o.at_.fn) #[.pointer (some ⟨d, 0, none⟩)] #[], .bool o.done, .int .i64 o.top, .int .i64 o.bottom, .int .i64 o.count, .int .i64 o.item, .int .i64 o.errno]

def OpB (w : World) (b d : Nat) (o : OpS) : Prop := w.heap[b]? = some (.cells (opCells d o) 84)

section
variable {w : World} {d p q b : Nat} {C : Cfg} {l : List Int} {s : Int} {o : OpS}
theorem Dq.c0 (h : Dq w d p q C l s) : w.cell? ⟨d, 0, none⟩ = some (.pointer (some ⟨p, 0, none⟩)) := by rw [cell_of_heap h.head]; rfl
theorem Dq.c1 (h : Dq w d p q C l s) : w.cell? ⟨d, 1, none⟩ = some (.int .i64 C.base) := by rw [cell_of_heap h.head]; rfl
theorem Dq.c2 (h : Dq w d p q C l s) : w.cell? ⟨d, 2, none⟩ = some (.int .i64 C.cap) := by rw [cell_of_heap h.head]; rfl
theorem Dq.c3 (h : Dq w d p q C l s) : w.cell? ⟨d, 3, none⟩ = some (.int .i64 C.over) := by rw [cell_of_heap h.head]; rfl
theorem Dq.ltd (h : Dq w d p q C l s) : d < w.heap.size := lt_of_heap h.head
theorem Dq.turned (h : Dq w d p q C l s) {S : List Nat} {w' : World} (t : Turned S w w') (hd : d ∉ S) (hp : p ∉ S) (hq : q ∉ S) : Dq w' d p q C l s :=
  ⟨h.ne, h.cap, h.over, h.room, h.most, by rw [t.block d h.ltd hd]; exact h.head, h.mem.turned t hp hq⟩
/-- Behind an access. -/
theorem Dq.acc (h : Dq w d p q C l s) {l' : List Int} {s' : Int} {w' : World} (m : Mem w' p q l' s') (hl : l'.length = l.length) (t : Turned [p, q] w w') : Dq w' d p q C l' s' :=
  ⟨h.ne, h.cap, h.over, by rw [hl]; exact h.room, by rw [hl]; exact h.most, by rw [t.block d h.ltd (by have := h.ne; simp [this.1, this.2])]; exact h.head, m⟩
theorem Dq.at (h : Dq w d p q C l s) {k : Nat} (hk : k < 4 + C.cap + C.over) : l[C.base + k]? = some (rd C l k) := by
  have h1 : C.base + k < l.length := by have := h.room; omega
  simp [rd, List.getD, h1]
theorem OpB.f0 (h : OpB w b d o) : w.cell? ⟨b, 0, none⟩ = some (.func (.func o.at_.fn) #[.pointer (some ⟨d, 0, none⟩)] #[]) := by rw [cell_of_heap h]; rfl
theorem OpB.f1 (h : OpB w b d o) : w.cell? ⟨b, 1, none⟩ = some (.bool o.done) := by rw [cell_of_heap h]; rfl
theorem OpB.f2 (h : OpB w b d o) : w.cell? ⟨b, 2, none⟩ = some (.int .i64 o.top) := by rw [cell_of_heap h]; rfl
theorem OpB.f3 (h : OpB w b d o) : w.cell? ⟨b, 3, none⟩ = some (.int .i64 o.bottom) := by rw [cell_of_heap h]; rfl
theorem OpB.f4 (h : OpB w b d o) : w.cell? ⟨b, 4, none⟩ = some (.int .i64 o.count) := by rw [cell_of_heap h]; rfl
theorem OpB.f5 (h : OpB w b d o) : w.cell? ⟨b, 5, none⟩ = some (.int .i64 o.item) := by rw [cell_of_heap h]; rfl
theorem OpB.f6 (h : OpB w b d o) : w.cell? ⟨b, 6, none⟩ = some (.int .i64 o.errno) := by rw [cell_of_heap h]; rfl
theorem OpB.fz (h : OpB w b d o) (i : Nat) : w.frozen? ⟨b, i, none⟩ = false := by
  unfold OpB at h
  simp [World.frozen?, h]
theorem OpB.lt (h : OpB w b d o) : b < w.heap.size := lt_of_heap h
theorem OpB.turned (h : OpB w b d o) {S : List Nat} {w' : World} (t : Turned S w w') (hb : b ∉ S) : OpB w' b d o := by
  unfold OpB at *
  rw [t.block b (lt_of_heap h) hb]
  exact h
/-- An operation's cells, whatever they hold. -/
def OpR (w : World) (b : Nat) (c : Array Value) : Prop := w.heap[b]? = some (.cells c 84)
theorem OpB.raw (h : OpB w b d o) : OpR w b (opCells d o) := h
theorem OpR.set {c : Array Value} (h : OpR w b c) (i : Nat) (v : Value) : OpR (w.setCell ⟨b, i, none⟩ v) b (c.setIfInBounds i v) := by
  unfold OpR at *
  exact heap_setCell_at _ _ _ _ _ _ h v
theorem OpR.drew {c : Array Value} (h : OpR w b c) (n : Nat) : OpR (w.drewN n) b c := h
theorem OpR.mk {c : Array Value} (h : OpR w b c) (e : c = opCells d o) : OpB w b d o := by subst e; exact h
end

theorem wr_length (C : Cfg) (l : List Int) (k : Nat) (v : Int) : (wr C l k v).length = l.length := by simp [wr]
theorem rd_wr (C : Cfg) (l : List Int) (k j : Nat) (v : Int) (h : C.base + k < l.length) : rd C (wr C l k v) j = if j = k then v else rd C l j := by
  unfold rd wr
  rw [List.getD_eq_getElem?_getD, List.getD_eq_getElem?_getD, List.getElem?_set]
  by_cases e : j = k
  · subst e; simp [h]
  · have : C.base + k ≠ C.base + j := by omega
    rw [if_neg this, if_neg e]
theorem rd_wr_ne (C : Cfg) (l : List Int) (k j : Nat) (v : Int) (h : j ≠ k) : rd C (wr C l k v) j = rd C l j := by
  unfold rd wr
  rw [List.getD_eq_getElem?_getD, List.getD_eq_getElem?_getD, List.getElem?_set]
  have : C.base + k ≠ C.base + j := by omega
  rw [if_neg this]
theorem slotOf_lt (C : Cfg) (n : Int) (h : 1 ≤ C.cap) : 4 ≤ slotOf C n ∧ slotOf C n < 4 + C.cap := by
  unfold slotOf
  have h1 := Int.emod_nonneg n (b := (C.cap : Int)) (by omega)
  have h2 := Int.emod_lt_of_pos n (b := (C.cap : Int)) (by omega)
  omega
theorem stackedOf_le (C : Cfg) (n : Int) : stackedOf C n ≤ C.over := by unfold stackedOf; omega
end Go.Proofs.Ytokabpgdklihlaa
