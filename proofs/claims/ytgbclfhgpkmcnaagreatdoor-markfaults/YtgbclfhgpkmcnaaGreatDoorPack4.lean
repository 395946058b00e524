/-
  Texts of the proof, several in one: CellsMore, DequeBase, DequePure.
-/
import Derived.Test.YtgbclfhgpkmcnaaGreatDoorPack2
import Derived.Deep.OwnRows
/-
  What New, Words and Put of package cells do to a memory that lies in the model's heap.
-/
namespace Go.Proofs.YtgbclfhgpkmcnaaGreatDoor
open Go.RowKit

theorem madeCells_zeros (m : Nat) : madeCells #[Value.int .i64 0] m = ((List.replicate m (0 : Int)).map (Value.int .i64)).toArray := by
  apply Array.ext
  · simp [madeCells]
  · intro i h1 h2
    simp [madeCells, Nat.mod_one]

theorem Tryz.info2 : (Tryz.prog.info? 2).map (fun i => (i.zero, i.size, i.bytes)) = some (some (.int .i64 0), 1, 8) := by kernel_rfl

theorem new_any (n : Int) (w : World) :
    Calls Tryz.prog 28 #[.int .i64 n] w fun e w' => e = .returned (.pointer (some ⟨w.heap.size + 1, 0, none⟩)) ∧ Mem w' (w.heap.size + 1) w.heap.size (List.replicate (min (max n 0) 65536).toNat 0) 0 ∧ Turned [] w w' ∧ w'.heap.size = w.heap.size + 2 := by
  generalize hm : min (max n 0) 65536 = m
  have h1 : 0 ≤ m ∧ m ≤ 65536 := by omega
  obtain ⟨k, rfl⟩ := Int.eq_ofNat_of_zero_le h1.1
  have hk : ∀ w, Calls Tryz.prog 43 #[.int .i64 n, .int .i64 65536] w fun e w' => e = .returned (.int .i64 (k : Int)) ∧ w' = w := fun w => by rw [← hm]; exact keep_any n 65536 w
  have HK : Hid (∀ w, Calls Tryz.prog 43 #[.int .i64 n, .int .i64 65536] w fun e w' => e = .returned (.int .i64 (k : Int)) ∧ w' = w) := hk
  clear hk hm
  have hmk := run_make_row' (P := Tryz.prog) 30 2 (.int .i64 0) 8 Tryz.underlying30 Tryz.info2 rfl .i64 .i64 k (by omega) (by omega)
  go_enter Tryz.func28, Tryz.ntmps28
  go_wp2_with (go_at_call 43; refine (Hid.out HK _).mono ?_; rintro e w' ⟨rfl, rfl⟩)
  go_ret
  refine ⟨rfl, ⟨by omega, ?_, ?_⟩, ((Turned.refl _ _).alloc _).alloc _, by simp⟩
  · have h2 := heap_alloc_new (w'.alloc (.cells (madeCells #[Value.int .i64 0] k) 2)) (.cells #[.slice (some ⟨w'.heap.size, 0, none⟩) k k, .int .i64 0] 109)
    simpa using h2
  · rw [Below.heap_alloc _ _ _ (by simp), heap_alloc_new, madeCells_zeros]
    simp

theorem clone_some (b off n c : Nat) (l : List Int) (w : World) (hl : l.length = n) (hn : n ≤ 65536) (hc : ∀ i x, l[i]? = some x → w.cell? ⟨b, off + i, none⟩ = some (.int .i64 x)) (h0 : 0 < n) :
    Calls Tryz.prog 45 #[.slice (some ⟨b, off, none⟩) n c] w fun e w' => ∃ v, e = .returned v ∧ w'.ownsRow w.heap.size 2 1 v n (l.map (Value.int .i64)) ∧ Turned [] w w' := by
  have heq := fun w => Lib.run_eql_slice_nil (P := Tryz.prog) w 30 2 (some ⟨b, off, none⟩) n c 0 0 Tryz.underlying30
  have hbs : ∀ w : World, (Instr.buildSlice 30 0 #[]).run Tryz.prog w = .ok (.slice (some ⟨w.heap.size, 0, none⟩) 0 0) (w.alloc (.cells #[] 2)) := fun _ => by kernel_rfl
  have hcl : ∀ j u, (l.map (Value.int .i64))[j]? = some u → (w.alloc (.cells #[] 2)).cell? (Addr.add ⟨b, off, none⟩ j) = some u := by
    intro j u hu
    rw [List.getElem?_map] at hu
    obtain ⟨x, hx, rfl⟩ := Option.map_eq_some_iff.1 hu
    have h1 := hc j x hx
    have h2 := block_lt h1
    rw [show Addr.add ⟨b, off, none⟩ j = ⟨b, off + j, none⟩ by simp [Addr.add]]
    rw [World.cell?_of_block (w := w) (Below.heap_alloc _ _ _ h2)]
    exact h1
  have HC : Hid (∀ j u, (l.map (Value.int .i64))[j]? = some u → (w.alloc (.cells #[] 2)).cell? (Addr.add ⟨b, off, none⟩ j) = some u) := hcl
  have HL : Hid (l.length = n) := hl
  clear hc hl hcl
  obtain ⟨i0, hi, hi0⟩ := Option.map_eq_some_iff.1 Tryz.info2
  simp only [Prod.mk.injEq] at hi0
  obtain ⟨hz0, hz1, hz2⟩ := hi0
  go_enter Tryz.func45, Tryz.ntmps45
  go_wp2_with (at_builtin; (refine wpList_append_grows _ rfl _ _ 30 rfl 2 i0 (.int .i64 0) 1 8 Tryz.underlying30 hi hz0 hz1 hz2 rfl (by decide) (some ⟨w.heap.size, 0, none⟩) 0 0 [] rfl (by intro h; cases h) rfl (by intro b hb j u hu; simp at hu) ⟨b, off, none⟩ n c (l.map (Value.int .i64)) rfl (by simp [Hid.out HL]) HC.out (by intro u hu; obtain ⟨x, _, rfl⟩ := List.mem_map.1 hu; rfl) (by omega) (by unfold maxLen; omega) (by omega) ?_); intro v' w3 hown hgr)
  go_ret
  simp only [Nat.zero_add, List.nil_append] at hown
  exact ⟨_, rfl, ownsRow_mono hown (by simp), ((Turned.refl _ _).alloc _).grown hgr (fun k hk => by cases hk)⟩

/-- Words of a memory: a copy in new memory. -/
theorem words_mem (p q : Nat) (l : List Int) (s : Int) (f g : Int) (w : World) (hl : l.length ≤ 65536) (h : Mem w p q l s) :
    Calls Tryz.prog 23 #[.pointer (some ⟨p, 0, none⟩), .int .i64 f, .int .i64 g] w fun e w' =>
      ∃ v, e = .returned v ∧ w'.ownsRow w.heap.size 2 1 v ((l.take (min (max g 0) l.length).toNat).drop (min (max f 0) l.length).toNat).length (((l.take (min (max g 0) l.length).toNat).drop (min (max f 0) l.length).toNat).map (Value.int .i64)) ∧ Turned [] w w' := by
  have hkf : ∀ w, Calls Tryz.prog 43 #[.int .i64 f, .int .i64 l.length] w fun e w' => e = .returned (.int .i64 (min (max f 0) l.length)) ∧ w' = w := fun w => keep_any f l.length w
  have hkg : ∀ w, Calls Tryz.prog 43 #[.int .i64 g, .int .i64 l.length] w fun e w' => e = .returned (.int .i64 (min (max g 0) l.length)) ∧ w' = w := fun w => keep_any g l.length w
  have b1 : 0 ≤ min (max f 0) (l.length : Int) ∧ min (max f 0) (l.length : Int) ≤ l.length := by omega
  have b2 : 0 ≤ min (max g 0) (l.length : Int) ∧ min (max g 0) (l.length : Int) ≤ l.length := by omega
  generalize min (max f 0) (l.length : Int) = a at *
  generalize min (max g 0) (l.length : Int) = c at *
  obtain ⟨i, rfl⟩ := Int.eq_ofNat_of_zero_le b1.1
  obtain ⟨j, rfl⟩ := Int.eq_ofNat_of_zero_le b2.1
  simp only [Int.toNat_natCast]
  have hi : i ≤ l.length := by omega
  have hj : j ≤ l.length := by omega
  clear b1 b2
  have HF := show Hid _ from hkf
  have HG := show Hid _ from hkg
  clear hkf hkg
  have h0 := h.c0
  have HM : Hid (Mem w p q l s) := h
  clear h
  by_cases hij : i < j
  · have hii : ¬ (j ≤ i) := by omega
    go_enter Tryz.func23, Tryz.ntmps23
    go_wp2_with (go_at_call 44; go_in)
    refine (HF.out _).mono ?_
    rintro e w1 ⟨rfl, rfl⟩
    go_wp2_with (go_at_call 44; go_in)
    refine (HG.out _).mono ?_
    rintro e w2 ⟨rfl, rfl⟩
    go_wp2_with fail
    have hlen : ((l.take j).drop i).length = j - i := by simp; omega
    refine (clone_some q i (j - i) (l.length - i) ((l.take j).drop i) w2 hlen (by omega) ?_ (by omega)).mono ?_
    · intro k x hx
      refine HM.out.word ?_
      rw [List.getElem?_drop] at hx
      have h1 := (List.getElem?_eq_some_iff.1 hx).1
      rw [List.getElem?_take_of_lt (by simp at h1; omega)] at hx
      exact hx
    rintro e w3 ⟨v, rfl, hown, hT⟩
    go_wp2_with fail
    go_ret
    rw [hlen]
    exact ⟨_, rfl, hown, hT⟩
  · have hii : j ≤ i := by omega
    go_enter Tryz.func23, Tryz.ntmps23
    go_wp2_with (go_at_call 44; go_in)
    refine (HF.out _).mono ?_
    rintro e w1 ⟨rfl, rfl⟩
    go_wp2_with (go_at_call 44; go_in)
    refine (HG.out _).mono ?_
    rintro e w2 ⟨rfl, rfl⟩
    go_wp2_with fail
    go_ret
    have hnil : (l.take j).drop i = [] := by simp; omega
    rw [hnil]
    exact ⟨_, rfl, ⟨rfl, .inl ⟨rfl, rfl⟩⟩, Turned.refl _ _⟩

theorem words_nil (f g : Int) (w : World) :
    Calls Tryz.prog 23 #[.pointer none, .int .i64 f, .int .i64 g] w fun e w' => e = .returned (.slice none 0 0) ∧ w' = w := by
  have hkf : ∀ w, Calls Tryz.prog 43 #[.int .i64 f, .int .i64 0] w fun e w' => e = .returned (.int .i64 0) ∧ w' = w := fun w => by
    have h := keep_any f 0 w
    rwa [show min (max f 0) 0 = 0 by omega] at h
  have hkg : ∀ w, Calls Tryz.prog 43 #[.int .i64 g, .int .i64 0] w fun e w' => e = .returned (.int .i64 0) ∧ w' = w := fun w => by
    have h := keep_any g 0 w
    rwa [show min (max g 0) 0 = 0 by omega] at h
  have HF := show Hid _ from hkf
  have HG := show Hid _ from hkg
  clear hkf hkg
  go_enter Tryz.func23, Tryz.ntmps23
  go_wp2_with (go_at_call 44; go_in)
  refine (HF.out _).mono ?_
  rintro e w1 ⟨rfl, rfl⟩
  go_wp2_with (go_at_call 44; go_in)
  refine (HG.out _).mono ?_
  rintro e w2 ⟨rfl, rfl⟩
  go_wp2_with fail
  go_ret
  exact ⟨rfl, rfl⟩

theorem put_nil (k : Int) (a : Option Addr) (m c : Nat) (w : World) :
    Calls Tryz.prog 32 #[.pointer none, .int .i64 k, .slice a m c] w fun e w' => e = .returned (.int .i64 10) ∧ w' = w := by
  go_enter Tryz.func32, Tryz.ntmps32
  go_wp2
  go_ret
  exact ⟨rfl, rfl⟩

theorem put_out (p : Nat) (ao : Option Addr) (n c : Nat) (k : Int) (a : Option Addr) (m d : Nat) (w : World) (hn : n ≤ 65536) (h0 : w.cell? ⟨p, 0, none⟩ = some (.slice ao n c)) (hk : k < 0 ∨ n < k ∨ n - k < m) :
    Calls Tryz.prog 32 #[.pointer (some ⟨p, 0, none⟩), .int .i64 k, .slice a m d] w fun e w' => e = .returned (.int .i64 10) ∧ w' = w := by
  by_cases h1 : k < 0
  · clear hk
    go_enter Tryz.func32, Tryz.ntmps32
    go_wp2
    go_ret
    exact ⟨rfl, rfl⟩
  · by_cases h2 : (n : Int) < k
    · clear hk
      go_enter Tryz.func32, Tryz.ntmps32
      go_wp2
      go_ret
      exact ⟨rfl, rfl⟩
    · have h3 : (n : Int) - k < m := by omega
      clear hk
      go_enter Tryz.func32, Tryz.ntmps32
      go_wp2
      go_ret
      exact ⟨rfl, rfl⟩
end Go.Proofs.YtgbclfhgpkmcnaaGreatDoor

/-
  The deque of package deque in the model's heap ('Dq'), an operation ('OpB', what it holds: 'OpS'), and the document's steps as a pure function ('stepOf'). No Go is walked here.
-/
namespace Go.Proofs.YtgbclfhgpkmcnaaGreatDoor
open Go.RowKit

/-- A step of an operation. -/
inductive Stp
  | pushReadBottom | pushReadTop | pushSlot | pushBottom | pushLock | pushCount | pushCell | pushCounted | free
  | popReadBottom | popBottom | popReadTop | popSlot | popLast | popSwap | popWon | popNothing
  | stealReadTop | stealReadBottom | stealSlot | stealSwap | takeLock | takeCount | takeCell | takeCounted
deriving DecidableEq

def Stp.fn : Stp → Nat
  | .pushReadBottom => 103
  | .pushReadTop => 113
  | .pushSlot => 125
  | .pushBottom => 140
  | .pushLock => 123
  | .pushCount => 139
  | .pushCell => 151
  | .pushCounted => 161
  | .free => 149
  | .popReadBottom => 97
  | .popBottom => 109
  | .popReadTop => 119
  | .popSlot => 131
  | .popLast => 132
  | .popSwap => 145
  | .popWon => 157
  | .popNothing => 133
  | .stealReadTop => 98
  | .stealReadBottom => 110
  | .stealSlot => 121
  | .stealSwap => 137
  | .takeLock => 120
  | .takeCount => 135
  | .takeCell => 148
  | .takeCounted => 160

/-- Where a deque lies in its cells. -/
structure Cfg where
  base : Nat
  cap : Nat
  over : Nat

/-- What an operation holds. -/
structure OpS where
  at_ : Stp
  done : Bool
  top : Int
  bottom : Int
  count : Nat
  item : Int
  errno : Int

def rd (C : Cfg) (l : List Int) (k : Nat) : Int := l.getD (C.base + k) 0
def wr (C : Cfg) (l : List Int) (k : Nat) (v : Int) : List Int := l.set (C.base + k) v
def slotOf (C : Cfg) (n : Int) : Nat := 4 + (n % (C.cap : Int)).toNat
def heldOf (C : Cfg) (t b : Int) : Int := if b ≤ t then 0 else min (b - t) C.cap
def stackedOf (C : Cfg) (n : Int) : Nat := (min (max n 0) (C.over : Int)).toNat

/-- The document's step: the cells, and what the operation holds then. -/
def stepOf (C : Cfg) (l : List Int) (o : OpS) : List Int × OpS :=
  if o.done then (l, o) else
  match o.at_ with
  | .pushReadBottom => (l, { o with bottom := rd C l 1, at_ := .pushReadTop })
  | .pushReadTop => (l, { o with top := rd C l 0, at_ := if heldOf C (rd C l 0) o.bottom < C.cap then .pushSlot else .pushLock })
  | .pushSlot => (wr C l (slotOf C o.bottom) o.item, { o with at_ := .pushBottom })
  | .pushBottom => (wr C l 1 (o.bottom + 1), { o with done := true, errno := 0 })
  | .pushLock => if rd C l 2 = 0 then (wr C l 2 1, { o with at_ := .pushCount }) else (l, o)
  | .pushCount => if C.over ≤ stackedOf C (rd C l 3) then (l, { o with count := stackedOf C (rd C l 3), errno := 14, at_ := .free }) else (l, { o with count := stackedOf C (rd C l 3), at_ := .pushCell })
  | .pushCell => (wr C l (4 + C.cap + o.count) o.item, { o with at_ := .pushCounted })
  | .pushCounted => (wr C l 3 ((o.count : Int) + 1), { o with at_ := .free })
  | .free => (wr C l 2 0, { o with done := true })
  | .popReadBottom => (l, { o with bottom := rd C l 1 - 1, at_ := .popBottom })
  | .popBottom => (wr C l 1 o.bottom, { o with at_ := .popReadTop })
  | .popReadTop => (l, { o with top := rd C l 0, at_ := if rd C l 0 < o.bottom then .popSlot else if rd C l 0 = o.bottom then .popLast else .popNothing })
  | .popSlot => (l, { o with item := rd C l (slotOf C o.bottom), done := true, errno := 0 })
  | .popLast => (l, { o with item := rd C l (slotOf C o.bottom), at_ := .popSwap })
  | .popSwap => if rd C l 0 = o.top then (wr C l 0 (o.top + 1), { o with at_ := .popWon, top := o.top + 1 }) else (l, { o with at_ := .popNothing, top := o.top + 1 })
  | .popWon => (wr C l 1 o.top, { o with done := true, errno := 0 })
  | .popNothing => (wr C l 1 o.top, { o with at_ := .takeLock })
  | .stealReadTop => (l, { o with top := rd C l 0, at_ := .stealReadBottom })
  | .stealReadBottom => (l, { o with bottom := rd C l 1, at_ := if o.top < rd C l 1 then .stealSlot else .takeLock })
  | .stealSlot => (l, { o with item := rd C l (slotOf C o.top), at_ := .stealSwap })
  | .stealSwap => if rd C l 0 = o.top then (wr C l 0 (o.top + 1), { o with done := true, errno := 0 }) else (l, { o with done := true, errno := 16 })
  | .takeLock => if rd C l 2 = 0 then (wr C l 2 1, { o with at_ := .takeCount }) else (l, o)
  | .takeCount => if stackedOf C (rd C l 3) = 0 then (l, { o with count := stackedOf C (rd C l 3), errno := 15, at_ := .free }) else (l, { o with count := stackedOf C (rd C l 3), at_ := .takeCell })
  | .takeCell => (l, { o with item := rd C l (4 + C.cap + (o.count - 1)), at_ := .takeCounted })
  | .takeCounted => (wr C l 3 ((o.count : Int) - 1), { o with at_ := .free })

/-- An operation's count is one that its step may go by. -/
def CntOk (C : Cfg) (o : OpS) : Prop :=
  match o.at_ with
  | .pushCell => o.count < C.over
  | .pushCounted => o.count < C.over
  | .takeCell => 0 < o.count ∧ o.count ≤ C.over
  | .takeCounted => 0 < o.count ∧ o.count ≤ C.over
  | _ => True

/-- What a step asks: numbers far from the ends, a count that may be. -/
structure Fit (C : Cfg) (l : List Int) (o : OpS) (N : Int) : Prop where
  t : -N ≤ rd C l 0 ∧ rd C l 0 ≤ N
  b : -N ≤ rd C l 1 ∧ rd C l 1 ≤ N
  ot : -N ≤ o.top ∧ o.top ≤ N
  ob : -N ≤ o.bottom ∧ o.bottom ≤ N
  cnt : CntOk C o

/-- The deque: block d its struct, p and q its memory. -/
structure Dq (w : World) (d p q : Nat) (C : Cfg) (l : List Int) (s : Int) : Prop where
  ne : d ≠ p ∧ d ≠ q
  cap : 1 ≤ C.cap ∧ C.cap ≤ 64
  over : C.over ≤ 4096
  room : C.base + (4 + C.cap + C.over) ≤ l.length
  most : l.length ≤ 65536
  head : w.heap[d]? = some (.cells #[.pointer (some ⟨p, 0, none⟩), .int .i64 C.base, .int .i64 C.cap, .int .i64 C.over] 149)
  mem : Mem w p q l s

/-- An operation's cells. -/
def opCells (d : Nat) (o : OpS) : Array Value :=
  #[.func (.func o.at_.fn) #[.pointer (some ⟨d, 0, none⟩)] #[], .bool o.done, .int .i64 o.top, .int .i64 o.bottom, .int .i64 o.count, .int .i64 o.item, .int .i64 o.errno]

def OpB (w : World) (b d : Nat) (o : OpS) : Prop := w.heap[b]? = some (.cells (opCells d o) 170)

section
variable {w : World} {d p q b : Nat} {C : Cfg} {l : List Int} {s : Int} {o : OpS}
theorem Dq.c0 (h : Dq w d p q C l s) : w.cell? ⟨d, 0, none⟩ = some (.pointer (some ⟨p, 0, none⟩)) := by rw [cell_of_heap h.head]; rfl
theorem Dq.c1 (h : Dq w d p q C l s) : w.cell? ⟨d, 1, none⟩ = some (.int .i64 C.base) := by rw [cell_of_heap h.head]; rfl
theorem Dq.c2 (h : Dq w d p q C l s) : w.cell? ⟨d, 2, none⟩ = some (.int .i64 C.cap) := by rw [cell_of_heap h.head]; rfl
theorem Dq.c3 (h : Dq w d p q C l s) : w.cell? ⟨d, 3, none⟩ = some (.int .i64 C.over) := by rw [cell_of_heap h.head]; rfl
theorem Dq.ltd (h : Dq w d p q C l s) : d < w.heap.size := lt_of_heap h.head
theorem Dq.turned (h : Dq w d p q C l s) {S : List Nat} {w' : World} (t : Turned S w w') (hd : d ∉ S) (hp : p ∉ S) (hq : q ∉ S) : Dq w' d p q C l s :=
  ⟨h.ne, h.cap, h.over, h.room, h.most, by rw [t.block d h.ltd hd]; exact h.head, h.mem.turned t hp hq⟩
/-- Behind an access. -/
theorem Dq.acc (h : Dq w d p q C l s) {l' : List Int} {s' : Int} {w' : World} (m : Mem w' p q l' s') (hl : l'.length = l.length) (t : Turned [p, q] w w') : Dq w' d p q C l' s' :=
  ⟨h.ne, h.cap, h.over, by rw [hl]; exact h.room, by rw [hl]; exact h.most, by rw [t.block d h.ltd (by have := h.ne; simp [this.1, this.2])]; exact h.head, m⟩
theorem Dq.at (h : Dq w d p q C l s) {k : Nat} (hk : k < 4 + C.cap + C.over) : l[C.base + k]? = some (rd C l k) := by
  have h1 : C.base + k < l.length := by have := h.room; omega
  simp [rd, List.getD, h1]
theorem OpB.f0 (h : OpB w b d o) : w.cell? ⟨b, 0, none⟩ = some (.func (.func o.at_.fn) #[.pointer (some ⟨d, 0, none⟩)] #[]) := by rw [cell_of_heap h]; rfl
theorem OpB.f1 (h : OpB w b d o) : w.cell? ⟨b, 1, none⟩ = some (.bool o.done) := by rw [cell_of_heap h]; rfl
theorem OpB.f2 (h : OpB w b d o) : w.cell? ⟨b, 2, none⟩ = some (.int .i64 o.top) := by rw [cell_of_heap h]; rfl
theorem OpB.f3 (h : OpB w b d o) : w.cell? ⟨b, 3, none⟩ = some (.int .i64 o.bottom) := by rw [cell_of_heap h]; rfl
theorem OpB.f4 (h : OpB w b d o) : w.cell? ⟨b, 4, none⟩ = some (.int .i64 o.count) := by rw [cell_of_heap h]; rfl
theorem OpB.f5 (h : OpB w b d o) : w.cell? ⟨b, 5, none⟩ = some (.int .i64 o.item) := by rw [cell_of_heap h]; rfl
theorem OpB.f6 (h : OpB w b d o) : w.cell? ⟨b, 6, none⟩ = some (.int .i64 o.errno) := by rw [cell_of_heap h]; rfl
theorem OpB.fz (h : OpB w b d o) (i : Nat) : w.frozen? ⟨b, i, none⟩ = false := by
  unfold OpB at h
  simp [World.frozen?, h]
theorem OpB.lt (h : OpB w b d o) : b < w.heap.size := lt_of_heap h
theorem OpB.turned (h : OpB w b d o) {S : List Nat} {w' : World} (t : Turned S w w') (hb : b ∉ S) : OpB w' b d o := by
  unfold OpB at *
  rw [t.block b (lt_of_heap h) hb]
  exact h
/-- An operation's cells, whatever they hold. -/
def OpR (w : World) (b : Nat) (c : Array Value) : Prop := w.heap[b]? = some (.cells c 170)
theorem OpB.raw (h : OpB w b d o) : OpR w b (opCells d o) := h
theorem OpR.set {c : Array Value} (h : OpR w b c) (i : Nat) (v : Value) : OpR (w.setCell ⟨b, i, none⟩ v) b (c.setIfInBounds i v) := by
  unfold OpR at *
  exact heap_setCell_at _ _ _ _ _ _ h v
theorem OpR.drew {c : Array Value} (h : OpR w b c) (n : Nat) : OpR (w.drewN n) b c := h
theorem OpR.mk {c : Array Value} (h : OpR w b c) (e : c = opCells d o) : OpB w b d o := by subst e; exact h
end

theorem wr_length (C : Cfg) (l : List Int) (k : Nat) (v : Int) : (wr C l k v).length = l.length := by simp [wr]
theorem rd_wr (C : Cfg) (l : List Int) (k j : Nat) (v : Int) (h : C.base + k < l.length) : rd C (wr C l k v) j = if j = k then v else rd C l j := by
  unfold rd wr
  rw [List.getD_eq_getElem?_getD, List.getD_eq_getElem?_getD, List.getElem?_set]
  by_cases e : j = k
  · subst e; simp [h]
  · have : C.base + k ≠ C.base + j := by omega
    rw [if_neg this, if_neg e]
theorem rd_wr_ne (C : Cfg) (l : List Int) (k j : Nat) (v : Int) (h : j ≠ k) : rd C (wr C l k v) j = rd C l j := by
  unfold rd wr
  rw [List.getD_eq_getElem?_getD, List.getD_eq_getElem?_getD, List.getElem?_set]
  have : C.base + k ≠ C.base + j := by omega
  rw [if_neg this]
theorem slotOf_lt (C : Cfg) (n : Int) (h : 1 ≤ C.cap) : 4 ≤ slotOf C n ∧ slotOf C n < 4 + C.cap := by
  unfold slotOf
  have h1 := Int.emod_nonneg n (b := (C.cap : Int)) (by omega)
  have h2 := Int.emod_lt_of_pos n (b := (C.cap : Int)) (by omega)
  omega
theorem stackedOf_le (C : Cfg) (n : Int) : stackedOf C n ≤ C.over := by unfold stackedOf; omega
end Go.Proofs.YtgbclfhgpkmcnaaGreatDoor

/-
  Runs by turns, as a pure function ('turn', 'roundR', 'rounds'); what a step asks stays true ('fit_own', 'fit_other'). No Go is walked here.
-/
namespace Go.Proofs.YtgbclfhgpkmcnaaGreatDoor
open Go.RowKit

theorem rd_wr_or (C : Cfg) (l : List Int) (k j : Nat) (v : Int) : rd C (wr C l k v) j = v ∨ rd C (wr C l k v) j = rd C l j := by
  by_cases h : C.base + k < l.length
  · rw [rd_wr C l k j v h]
    split
    · exact .inl rfl
    · exact .inr rfl
  · right
    unfold wr
    rw [List.set_eq_of_length_le (by omega)]

/-- Top and bottom behind a step. -/
theorem step_tb (C : Cfg) (l : List Int) (o : OpS) (N : Int) (h : Fit C l o N) : (-(N + 1) ≤ rd C (stepOf C l o).1 0 ∧ rd C (stepOf C l o).1 0 ≤ N + 1) ∧ (-(N + 1) ≤ rd C (stepOf C l o).1 1 ∧ rd C (stepOf C l o).1 1 ≤ N + 1) := by
  have h1 := h.t
  have h2 := h.b
  have h3 := h.ot
  have h4 := h.ob
  unfold stepOf
  by_cases hd : o.done = true
  · rw [if_pos hd]
    show (-(N + 1) ≤ rd C l 0 ∧ rd C l 0 ≤ N + 1) ∧ (-(N + 1) ≤ rd C l 1 ∧ rd C l 1 ≤ N + 1)
    exact ⟨by constructor <;> omega, by constructor <;> omega⟩
  · rw [if_neg hd]
    have hs : ∀ z, slotOf C z ≠ 0 ∧ slotOf C z ≠ 1 := fun z => by unfold slotOf; omega
    have key : ∀ k v, (k = 0 ∨ k = 1 → -(N + 1) ≤ v ∧ v ≤ N + 1) → (-(N + 1) ≤ rd C (wr C l k v) 0 ∧ rd C (wr C l k v) 0 ≤ N + 1) ∧ (-(N + 1) ≤ rd C (wr C l k v) 1 ∧ rd C (wr C l k v) 1 ≤ N + 1) := by
      intro k v hv
      have one : ∀ j, j = 0 ∨ j = 1 → -(N + 1) ≤ rd C (wr C l k v) j ∧ rd C (wr C l k v) j ≤ N + 1 := by
        intro j hj
        by_cases hkj : j = k
        · have := hv (by omega)
          rcases rd_wr_or C l k j v with e | e <;> rw [e]
          · exact this
          · rcases hj with rfl | rfl <;> constructor <;> omega
        · rw [rd_wr_ne C l k j v hkj]
          rcases hj with rfl | rfl <;> constructor <;> omega
      exact ⟨one 0 (.inl rfl), one 1 (.inr rfl)⟩
    have base : (-(N + 1) ≤ rd C l 0 ∧ rd C l 0 ≤ N + 1) ∧ (-(N + 1) ≤ rd C l 1 ∧ rd C l 1 ≤ N + 1) := ⟨by constructor <;> omega, by constructor <;> omega⟩
    cases o.at_ <;> simp only
    case pushLock => split <;> first | exact base | exact key _ _ (by omega)
    case takeLock => split <;> first | exact base | exact key _ _ (by omega)
    case pushCount => split <;> exact base
    case takeCount => split <;> exact base
    case popSwap => split <;> first | exact base | exact key _ _ (by omega)
    case stealSwap => split <;> first | exact base | exact key _ _ (by omega)
    case pushSlot => exact key _ _ (by have := hs o.bottom; omega)
    all_goals first | exact base | exact key _ _ (by omega)

theorem fit_own (C : Cfg) (l : List Int) (o : OpS) (N : Int) (h : Fit C l o N) : Fit C (stepOf C l o).1 (stepOf C l o).2 (N + 1) := by
  have tb := step_tb C l o N h
  have h1 := h.t
  have h2 := h.b
  have h3 := h.ot
  have h4 := h.ob
  have h5 := h.cnt
  have hs := stackedOf_le C (rd C l 3)
  refine ⟨tb.1, tb.2, ?_, ?_, ?_⟩
  · unfold stepOf
    by_cases hd : o.done = true
    · rw [if_pos hd]; constructor <;> (try simp only) <;> omega
    · rw [if_neg hd]
      cases o.at_ <;> simp only <;> (repeat' split) <;> constructor <;> (try simp only) <;> omega
  · unfold stepOf
    by_cases hd : o.done = true
    · rw [if_pos hd]; constructor <;> (try simp only) <;> omega
    · rw [if_neg hd]
      cases o.at_ <;> simp only <;> (repeat' split) <;> constructor <;> (try simp only) <;> omega
  · unfold stepOf
    by_cases hd : o.done = true
    · rw [if_pos hd]; exact h5
    · rw [if_neg hd]
      unfold CntOk at h5 ⊢
      obtain ⟨a, dn, t, u, n, v, en⟩ := o
      have hs' : ¬ C.over ≤ stackedOf C (rd C l 3) → stackedOf C (rd C l 3) < C.over := fun h => by omega
      have hs2 : ¬ stackedOf C (rd C l 3) = 0 → 0 < stackedOf C (rd C l 3) ∧ stackedOf C (rd C l 3) ≤ C.over := fun h => by omega
      cases a
      case pushCount => by_cases hz : C.over ≤ stackedOf C (rd C l 3) <;> simp [hz] ; exact hs' hz
      case takeCount => by_cases hz : stackedOf C (rd C l 3) = 0 <;> simp [hz] ; exact hs2 hz
      case pushLock => by_cases hz : rd C l 2 = 0 <;> simp [hz]
      case takeLock => by_cases hz : rd C l 2 = 0 <;> simp [hz]
      case popSwap => by_cases hz : rd C l 0 = t <;> simp [hz]
      case stealSwap => by_cases hz : rd C l 0 = t <;> simp [hz]
      case pushReadTop => by_cases hz : heldOf C (rd C l 0) u < C.cap <;> simp [hz]
      case stealReadBottom => by_cases hz : t < rd C l 1 <;> simp [hz]
      case popReadTop => by_cases hz : rd C l 0 < u <;> by_cases hy : rd C l 0 = u <;> simp [hz, hy]
      case pushCell => exact h5
      case takeCell => exact h5
      all_goals trivial

theorem fit_other (C : Cfg) (l : List Int) (o o2 : OpS) (N : Int) (h : Fit C l o N) (h2 : Fit C l o2 N) : Fit C (stepOf C l o).1 o2 (N + 1) := by
  have tb := step_tb C l o N h
  have h3 := h2.ot
  have h4 := h2.ob
  exact ⟨tb.1, tb.2, by constructor <;> omega, by constructor <;> omega, h2.cnt⟩

/-- A run's state: the cells, the operations, the steps. -/
structure Rs where
  l : List Int
  m : Nat → OpS
  n : Nat

def upd (m : Nat → OpS) (b : Nat) (o : OpS) : Nat → OpS := fun k => if k = b then o else m k

def turn (C : Cfg) (r : Rs) : Option Nat → Rs
  | none => r
  | some b => if r.n < 100000 ∧ (r.m b).done = false then ⟨(stepOf C r.l (r.m b)).1, upd r.m b (stepOf C r.l (r.m b)).2, r.n + 1⟩ else r

def roundR (C : Cfg) (ps : List (Option Nat)) (r : Rs) : Rs := ps.foldl (turn C) r
def rounds (C : Cfg) (ps : List (Option Nat)) : Nat → Rs → Rs
  | 0, r => r
  | k + 1, r => rounds C ps k (roundR C ps r)

def dnOf (m : Nat → OpS) : Option Nat → Bool
  | none => true
  | some b => (m b).done

def FitAll (C : Cfg) (r : Rs) (bs : List Nat) (N : Int) : Prop := ∀ b, b ∈ bs → Fit C r.l (r.m b) N

theorem Fit.mono {C : Cfg} {l : List Int} {o : OpS} {N M : Int} (h : Fit C l o N) (hm : N ≤ M) : Fit C l o M :=
  ⟨by have := h.t; constructor <;> omega, by have := h.b; constructor <;> omega, by have := h.ot; constructor <;> omega, by have := h.ob; constructor <;> omega, h.cnt⟩

theorem fit_turn (C : Cfg) (r : Rs) (bs : List Nat) (N : Int) (x : Option Nat) (hx : ∀ b, x = some b → b ∈ bs) (h : FitAll C r bs N) : FitAll C (turn C r x) bs (N + 1) := by
  cases x with
  | none => exact fun b hb => (h b hb).mono (by omega)
  | some c =>
    unfold turn
    simp only
    split
    · intro b hb
      unfold upd
      simp only
      split
      · rename_i e
        exact fit_own C r.l (r.m c) N (h c (hx c rfl))
      · exact fit_other C r.l (r.m c) (r.m b) N (h c (hx c rfl)) (h b hb)
    · exact fun b hb => (h b hb).mono (by omega)

theorem step_done_stays (C : Cfg) (l : List Int) (o : OpS) (h : o.done = true) : (stepOf C l o).2.done = true := by simp [stepOf, h]

theorem turn_done (C : Cfg) (r : Rs) (x y : Option Nat) (h : dnOf r.m y = true) : dnOf (turn C r x).m y = true := by
  cases x with
  | none => exact h
  | some c =>
    unfold turn
    simp only
    split
    · rename_i hc
      cases y with
      | none => rfl
      | some b =>
        simp only [dnOf, upd] at h ⊢
        split
        · rename_i e
          subst e
          rw [hc.2] at h
          cases h
        · exact h
    · exact h

theorem turn_skip (C : Cfg) (r : Rs) (x : Option Nat) (h : dnOf r.m x = true) : turn C r x = r := by
  cases x with
  | none => rfl
  | some c =>
    simp only [dnOf] at h
    simp [turn, h]

theorem turn_n (C : Cfg) (r : Rs) (x : Option Nat) : r.n ≤ (turn C r x).n ∧ (turn C r x).n ≤ r.n + 1 ∧ (r.n ≤ 100000 → (turn C r x).n ≤ 100000) := by
  cases x with
  | none => simp [turn]
  | some c =>
    unfold turn
    simp only
    split
    · rename_i hc
      simp only
      omega
    · omega

theorem foldl_done (C : Cfg) (ps : List (Option Nat)) (r : Rs) (y : Option Nat) (h : dnOf r.m y = true) : dnOf (roundR C ps r).m y = true := by
  unfold roundR
  induction ps generalizing r with
  | nil => exact h
  | cons x ps ih => exact ih _ (turn_done C r x y h)

theorem round_n (C : Cfg) (ps : List (Option Nat)) (r : Rs) : r.n ≤ (roundR C ps r).n ∧ (roundR C ps r).n ≤ r.n + ps.length ∧ (r.n ≤ 100000 → (roundR C ps r).n ≤ 100000) := by
  unfold roundR
  induction ps generalizing r with
  | nil => simp
  | cons x ps ih =>
    have h1 := turn_n C r x
    have h2 := ih (turn C r x)
    simp only [List.foldl_cons, List.length_cons]
    omega

/-- Those that are done may be left out. -/
theorem round_filter (C : Cfg) (ps : List (Option Nat)) (dn : Option Nat → Bool) (r : Rs) (h : ∀ x, x ∈ ps → dn x = true → dnOf r.m x = true) : roundR C (ps.filter fun x => !dn x) r = roundR C ps r := by
  unfold roundR
  induction ps generalizing r with
  | nil => rfl
  | cons x ps ih =>
    cases hx : dn x with
    | true =>
      have e : turn C r x = r := turn_skip C r x (h x (by simp) hx)
      simp only [List.filter_cons, hx, Bool.not_true, List.foldl_cons]
      rw [e]
      exact ih r (fun y hy => h y (by simp [hy]))
    | false =>
      simp only [List.filter_cons, hx, Bool.not_false, List.foldl_cons, if_true]
      exact ih _ (fun y hy hd => turn_done C r x y (h y (by simp [hy]) hd))

theorem round_more (C : Cfg) (ps : List (Option Nat)) (r : Rs) (x : Option Nat) (hx : x ∈ ps) (hd : dnOf r.m x = false) (hn : r.n < 100000) : r.n < (roundR C ps r).n := by
  unfold roundR
  induction ps generalizing r with
  | nil => cases hx
  | cons y ps ih =>
    simp only [List.foldl_cons]
    by_cases hy : dnOf r.m y = true
    · rw [turn_skip C r y hy]
      rcases List.mem_cons.1 hx with rfl | hx
      · rw [hy] at hd; cases hd
      · exact ih r hx hd hn
    · have h2 := (round_n C ps (turn C r y)).1
      unfold roundR at h2
      have : r.n < (turn C r y).n := by
        cases y with
        | none => simp [dnOf] at hy
        | some c =>
          have hc : (r.m c).done = false := by simpa [dnOf] using hy
          simp [turn, hn, hc]
      omega

theorem round_all_done (C : Cfg) (ps : List (Option Nat)) (r : Rs) (h : ∀ x, x ∈ ps → dnOf r.m x = true) : roundR C ps r = r := by
  unfold roundR
  induction ps with
  | nil => rfl
  | cons y ps ih =>
    simp only [List.foldl_cons]
    rw [turn_skip C r y (h y (by simp))]
    exact ih (fun x hx => h x (by simp [hx]))

theorem rounds_all_done (C : Cfg) (ps : List (Option Nat)) (k : Nat) (r : Rs) (h : ∀ x, x ∈ ps → dnOf r.m x = true) : rounds C ps k r = r := by
  induction k with
  | zero => rfl
  | succ k ih => rw [rounds, round_all_done C ps r h, ih]

theorem rounds_add (C : Cfg) (ps : List (Option Nat)) (k j : Nat) (r : Rs) : rounds C ps (k + j) r = rounds C ps j (rounds C ps k r) := by
  induction k generalizing r with
  | zero => rw [Nat.zero_add]; rfl
  | succ k ih => rw [Nat.succ_add]; exact ih _

theorem rounds_succ (C : Cfg) (ps : List (Option Nat)) (k : Nat) (r : Rs) : rounds C ps (k + 1) r = roundR C ps (rounds C ps k r) := rounds_add C ps k 1 r

theorem rounds_n (C : Cfg) (ps : List (Option Nat)) (k : Nat) (r : Rs) : r.n ≤ (rounds C ps k r).n ∧ (rounds C ps k r).n ≤ r.n + k * ps.length := by
  induction k with
  | zero => simp [rounds]
  | succ k ih =>
    rw [rounds_succ]
    have := round_n C ps (rounds C ps k r)
    rw [Nat.succ_mul]
    omega

/-- A run's end is that of any number of rounds behind which all are done. -/
theorem run_fin (C : Cfg) (ps : List (Option Nat)) (r : Rs) (k K : Nat) (hk : (∀ x, x ∈ ps → dnOf (rounds C ps k r).m x = true) ∨ 100000 ≤ (rounds C ps k r).n) (hK : ∀ x, x ∈ ps → dnOf (rounds C ps K r).m x = true) (hn : (rounds C ps K r).n < 100000) : rounds C ps k r = rounds C ps K r := by
  by_cases hle : k ≤ K
  · obtain ⟨j, rfl⟩ : ∃ j, K = k + j := ⟨K - k, by omega⟩
    rw [rounds_add] at hn ⊢
    rcases hk with hk | hk
    · rw [rounds_all_done C ps j _ hk]
    · have := (rounds_n C ps j (rounds C ps k r)).1
      omega
  · obtain ⟨j, rfl⟩ : ∃ j, k = K + j := ⟨k - K, by omega⟩
    rw [rounds_add, rounds_all_done C ps j _ hK]
end Go.Proofs.YtgbclfhgpkmcnaaGreatDoor
