/-
  Texts of the proof, several in one: MarkPure, MarkHeap, MarkConcat.
-/
import Derived.Test.YthpjlhfijkeciaaGreatDoorPack13
import Derived.Test.YthpjlhfijkeciaaGreatDoorPack12
import Derived.Test.YthpjlhfijkeciaaGreatDoorPack24
import Derived.Test.YthpjlhfijkeciaaGreatDoorPack22
import Derived.Lib.AppendZeros
import Derived.Laws.AppendOwnNone
import Derived.Deep.Cut
import Derived.Deep.CutBlock
import Derived.Deep.CutRange
import Derived.Deep.DeepCutAuto
import Derived.Deep.LoopGhost
/-
  The marker of package mark without memory: a worker ('MW'), all of them ('MS'), and a worker's step as a pure function ('stepM'). No Go is walked here.
-/
namespace Go.Proofs.YthpjlhfijkeciaaGreatDoor
open Go.RowKit
set_option linter.unusedVariables false

/-- What a marker is made of: the heap's words, the classes, the workers, their deques. -/
structure MP where
  hw : List Int
  cl : List Cls
  n : Nat
  cap : Nat
  over : Nat

def MP.need (P : MP) : Nat := 4 + P.cap + P.over
def MP.cfg (P : MP) (i : Nat) : Cfg := ⟨1 + i * P.need, P.cap, P.over⟩
/-- The deque that worker k asks as its a-th. -/
def MP.dq (P : MP) (k a : Nat) : Cfg := P.cfg ((k + a) % P.n)
def MP.Q (P : MP) (k : Nat) : QC := ⟨0, P.n, (List.range P.n).map fun a => P.dq k a⟩
theorem MP.cOf (P : MP) {k a : Nat} (ha : a < P.n) : cOf (P.Q k) a = P.dq k a := by
  unfold Go.Proofs.YthpjlhfijkeciaaGreatDoor.cOf MP.Q
  simp [List.getD_eq_getElem?_getD, ha]
theorem MP.Qlen (P : MP) (k : Nat) : (P.Q k).cs.length = P.n := by simp [MP.Q]

/-- The object that a ref leads to. -/
def MP.obj (P : MP) (r : Int) : Option Blk :=
  match readOf P.hw P.cl r with
  | some b => if b.k = 0 then none else some b
  | none => none
/-- The accesses of reading it. -/
def MP.acc (P : MP) (r : Int) : Int := if 0 ≤ r ∧ r < P.hw.length then 1 else 0
/-- Where its references stand. -/
def MP.places (P : MP) (b : Blk) : List Int := (rowTo (refsOf P.cl b.k b.n).toNat).map fun i => i + b.t
def MP.word (P : MP) (t : Int) : Int := (wordAt P.hw t).getD 0

/-- What a worker does next, with what it has for it. -/
inductive MAct
  | choose
  | mark (b : Blk)
  | push (b : Blk) (o : OpS)
  | take (a : Nat) (o : OpS)
  | open_ (v : Int)
  | end_ (o : OfS)

structure MW where
  act : MAct
  hands : List Int
  kept : List Blk
  places : List Int
  seen : Int
  ended : Bool

/-- All of it: control's words, the marks, the workers, the fault, the accesses of the heap and of control. -/
structure MS where
  l : List Int
  sz : Nat → Nat
  X : Nat → MW
  fault : Int
  hs : Int
  cs : Int

def updM (X : Nat → MW) (k : Nat) (x : MW) : Nat → MW := fun i => if i = k then x else X i
theorem updM_at (X : Nat → MW) (k : Nat) (x : MW) : updM X k x k = x := if_pos rfl
theorem updM_ne (X : Nat → MW) {k i : Nat} (x : MW) (h : i ≠ k) : updM X k x i = X i := if_neg h

/-- One more where nothing is left. -/
def oneIf (l : List Int) : Int := if l = [] then 1 else 0
def scanW (P : MP) (x : MW) (b : Blk) : MW := { x with act := .choose, places := P.places b, seen := x.seen + oneIf (P.places b) }
def askW (P : MP) (x : MW) (a : Nat) : MW := if a = P.n then { x with act := .end_ ofNew } else if a = 0 then { x with act := .take 0 (opNew .popReadBottom 0) } else { x with act := .take a (opNew .stealReadTop 0) }
/-- Behind a step of what it takes. -/
def tookW (P : MP) (x : MW) (a : Nat) (o : OpS) : MW :=
  if o.done then (if (valOf o).2 = 0 then { x with act := .open_ (valOf o).1 } else if (valOf o).2 = 16 then askW P x a else askW P x (a + 1)) else { x with act := .take a o }
def takeM (P : MP) (S : MS) (k : Nat) (x : MW) (a : Nat) (o : OpS) : MS :=
  { S with l := (stepOf (P.dq k a) S.l o).1, X := updM S.X k (tookW P x a (stepOf (P.dq k a) S.l o).2), cs := S.cs + 1 }
/-- Behind a step of a push. -/
def pushedW (x : MW) (b : Blk) (o : OpS) : MW :=
  if o.done then { x with act := .choose, kept := if (valOf o).2 = 0 then x.kept else x.kept ++ [b] } else { x with act := .push b o }
/-- Behind a step of an offer. -/
def endedW (x : MW) (o : OfS) : MW := if o.state = 2 then { x with act := .end_ o, ended := true } else if o.state = 1 then { x with act := .choose } else { x with act := .end_ o }

/-- A step of who is done with what it did. -/
def chooseM (P : MP) (S : MS) (k : Nat) (x : MW) : MS :=
  match x.hands with
  | r :: hs =>
    if r = 0 then { S with X := updM S.X k { x with hands := hs } }
    else match P.obj r with
      | none => { S with X := updM S.X k { x with hands := hs }, fault := 13, hs := S.hs + P.acc r }
      | some b => { S with X := updM S.X k { x with hands := hs, act := .mark b }, hs := S.hs + P.acc r }
  | [] =>
    match x.places with
    | p :: ps => { S with X := updM S.X k { x with hands := [P.word p], places := ps, seen := x.seen + oneIf ps }, hs := S.hs + 1 }
    | [] =>
      match x.kept.getLast? with
      | some b => { S with X := updM S.X k (scanW P { x with kept := x.kept.dropLast } b) }
      | none => takeM P S k x 0 (opNew .popReadBottom 0)

/-- A step of worker k. -/
def stepM (P : MP) (S : MS) (k : Nat) : MS :=
  if (S.X k).ended then S else
  match (S.X k).act with
  | .choose => chooseM P S k (S.X k)
  | .mark b =>
    { S with
      sz := (Bt.markC P.hw.length S.sz b.t b.s).2.2
      fault := if (Bt.markC P.hw.length S.sz b.t b.s).2.1 = 0 then S.fault else 13
      X := updM S.X k (if (Bt.markC P.hw.length S.sz b.t b.s).1 then { S.X k with act := .push b (opNew .pushReadBottom b.t) } else { S.X k with act := .choose }) }
  | .push b o => { S with l := (stepOf (P.dq k 0) S.l o).1, X := updM S.X k (pushedW (S.X k) b (stepOf (P.dq k 0) S.l o).2), cs := S.cs + 1 }
  | .take a o => takeM P S k (S.X k) a o
  | .open_ v =>
    match P.obj v with
    | none => { S with X := updM S.X k { S.X k with act := .choose }, fault := 13, hs := S.hs + P.acc v }
    | some b => { S with X := updM S.X k (scanW P (S.X k) b), hs := S.hs + P.acc v }
  | .end_ o => { S with l := (stepQ (P.Q k) S.l o).1, X := updM S.X k (endedW (S.X k) (stepQ (P.Q k) S.l o).2), cs := S.cs + 1 }

theorem stepOf_len (C : Cfg) (l : List Int) (o : OpS) : (stepOf C l o).1.length = l.length := by
  unfold stepOf
  split
  · rfl
  · cases o.at_ <;> simp only [wr_length] <;> (try split) <;> first | rfl | exact wr_length _ _ _ _
theorem stepQ_len (Q : QC) (l : List Int) (o : OfS) : (stepQ Q l o).1.length = l.length := by
  unfold stepQ
  split
  · cases o.at_ <;> simp <;> (try split) <;> rfl
  · rfl

/-- What a step asks for: that its numbers are far from the ends, that its operation is one that goes on. -/
def MayM (P : MP) (S : MS) (k : Nat) : Prop :=
  (S.X k).ended = false →
  (0 ≤ S.hs ∧ S.hs ≤ 1000000) ∧ (0 ≤ S.cs ∧ S.cs ≤ 1000000) ∧ (0 ≤ (S.X k).seen ∧ (S.X k).seen ≤ 1000000) ∧ (S.X k).hands.length ≤ 1000000 ∧ (S.X k).kept.length ≤ 1000000 ∧ (S.X k).places.length ≤ 1000000 ∧
  match (S.X k).act with
  | .choose =>
    match (S.X k).hands with
    | r :: _ => In64 r
    | [] =>
      match (S.X k).places with
      | p :: _ => 0 ≤ p ∧ p < P.hw.length
      | [] =>
        match (S.X k).kept.getLast? with
        | some b => In64 b.n ∧ (0 ≤ b.t ∧ b.t ≤ 65536)
        | none => Fit (P.dq k 0) S.l (opNew .popReadBottom 0) 1000000
  | .mark b => In64 b.s
  | .push _ o => Fit (P.dq k 0) S.l o 1000000 ∧ o.done = false
  | .take a o => a < P.n ∧ Fit (P.dq k a) S.l o 1000000 ∧ o.done = false
  | .open_ v => In64 v
  | .end_ o => (-1000000 ≤ cnt (P.Q k) S.l ∧ cnt (P.Q k) S.l ≤ 1000000) ∧ QOk (P.Q k) o ∧ o.state = 0
end Go.Proofs.YthpjlhfijkeciaaGreatDoor

/-
  The heap as workers see it (package mark's memory): what object, places and ref tell.
-/
namespace Go.Proofs.YthpjlhfijkeciaaGreatDoor
open Go.RowKit
set_option linter.unusedVariables false

/-- Classes that can be read, in a block of their own type. -/
structure CRow (w : World) (co : Option Addr) (len : Nat) (cs : List Cls) : Prop where
  rd : CRd w co len cs
  row : ∀ b off spot, co = some ⟨b, off, spot⟩ → ∃ c fr, w.heap[b]? = some (.cells c 94 fr)
theorem CRow.turned {w w' : World} {co : Option Addr} {len : Nat} {cs : List Cls} (h : CRow w co len cs) {S : List Nat} (t : Turned S w w') (hS : ∀ b off spot, co = some ⟨b, off, spot⟩ → b ∉ S) : CRow w' co len cs := by
  refine ⟨⟨h.rd.size, h.rd.room, fun i c hc => ?_, h.rd.inn⟩, fun b off spot e => ?_⟩
  · obtain ⟨b, off, h0, h1, h2, h3⟩ := h.rd.cell i c hc
    have hb := hS b off none h0
    exact ⟨b, off, h0, by rw [t.cell (block_lt h1) hb]; exact h1, by rw [t.cell (block_lt h2) hb]; exact h2, by rw [t.cell (block_lt h3) hb]; exact h3⟩
  · obtain ⟨c, fr, h1⟩ := h.row b off spot e
    exact ⟨c, fr, by rw [t.block b (lt_of_heap h1) (hS b off spot e)]; exact h1⟩
theorem CRow.turned0 {w w' : World} {co : Option Addr} {len : Nat} {cs : List Cls} (h : CRow w co len cs) (t : Turned [] w w') : CRow w' co len cs := h.turned t (by simp)
/-- What is turned of other types leaves them. -/
theorem CRow.keep {w w' : World} {co : Option Addr} {len : Nat} {cs : List Cls} (h : CRow w co len cs) {S : List Nat} (t : Turned S w w') (hS : ∀ k, k ∈ S → ∃ c e fr, w.heap[k]? = some (.cells c e fr) ∧ e ≠ 94) : CRow w' co len cs :=
  h.turned t (fun b off spot e hb => by
    obtain ⟨c, e', fr, h1, h2⟩ := hS b hb
    obtain ⟨c2, fr2, h3⟩ := h.row b off spot e
    rw [h1] at h3
    cases h3
    exact h2 rfl)

theorem Turned.at {S : List Nat} {w w' : World} (t : Turned S w w') {k : Nat} {o : Obj} (h : w.heap[k]? = some o) (hk : k ∉ S) : w'.heap[k]? = some o := by rw [t.block k (lt_of_heap h) hk]; exact h

/-- A variable of four cells that was stored to, and a new block behind it. -/
theorem four_set {w : World} {g : Nat} {a0 a1 a2 a3 : Value} {e : TypeId} {fr : Nat × Nat} (h : w.heap[g]? = some (.cells #[a0, a1, a2, a3] e fr)) (v0 v1 v2 v3 : Value) :
    ((((w.setCell ⟨g, 0, none⟩ v0).setCell ⟨g, 1, none⟩ v1).setCell ⟨g, 2, none⟩ v2).setCell ⟨g, 3, none⟩ v3).heap[g]? = some (.cells #[v0, v1, v2, v3] e fr) := by
  have h1 := heap_setCell_at _ _ 0 _ _ _ h v0
  have h2 := heap_setCell_at _ _ 1 _ _ _ h1 v1
  have h3 := heap_setCell_at _ _ 2 _ _ _ h2 v2
  have h4 := heap_setCell_at _ _ 3 _ _ _ h3 v3
  exact h4

/-- The heap's value. -/
def mv (ph : Nat) (co : Option Addr) (len cap : Nat) : Value := .agg #[.pointer (some ⟨ph, 0, none⟩), .slice co len cap]

theorem obj_some {P : MP} {r : Int} {b : Blk} (h : P.obj r = some b) : readOf P.hw P.cl r = some b ∧ b.k ≠ 0 := by
  unfold MP.obj at h
  split at h
  · rename_i c hc
    split at h
    · cases h
    · cases h; exact ⟨hc, by assumption⟩
  · cases h
theorem obj_none {P : MP} {r : Int} (h : P.obj r = none) : readOf P.hw P.cl r = none ∨ ∃ b, readOf P.hw P.cl r = some b ∧ b.k = 0 := by
  unfold MP.obj at h
  split at h
  · rename_i c hc
    split at h
    · exact .inr ⟨c, hc, by assumption⟩
    · cases h
  · rename_i hc; exact .inl hc

theorem readE_none {l : List Int} {cs : List Cls} {t : Int} (h : readOf l cs t = none) : readE l cs t ≠ 0 := by
  unfold readE
  rw [h]
  split
  · decide
  · simp

section
variable (w : World) (ph qh len cap : Nat) (co : Option Addr) (P : MP) (s : Int)

set_option maxRecDepth 100000 in
theorem object_some (r : Int) (b : Blk) (hl : P.hw.length ≤ 65536) (hm : Mem w ph qh P.hw s) (hc : CRow w co len P.cl) (h : P.obj r = some b) :
    Calls Tryz.prog 181 #[mv ph co len cap, .int .i64 r] w fun e w' => e = .returned (.tuple #[b.val, .bool true]) ∧ Mem w' ph qh P.hw (wrap64 (s + P.acc r)) ∧ Turned [ph, qh] w w' := by
  obtain ⟨h1, h2⟩ := obj_some h
  obtain ⟨e1, e2, e3, e4, e5, e6, e7, x, e8, e9⟩ := readOf_some h1
  have hacc : P.acc r = 1 := by unfold MP.acc; rw [if_pos (by omega)]
  rw [hacc]
  obtain ⟨i, rfl, hi, hx⟩ := wordAt_some e8
  have g1 : ¬ ((i : Int) < 0) := by omega
  have g2 : ¬ ((P.hw.length : Int) ≤ i) := by omega
  obtain ⟨w0, hw0⟩ : ∃ w0, w0 = (w.alloc (.cells #[.pointer (some ⟨ph, 0, none⟩), .slice co len cap] 114)).alloc (.cells #[.int .i64 0, .int .i64 0, .int .i64 0, .int .i64 0] 54) := ⟨_, rfl⟩
  have ht0 : Turned [] w w0 := by rw [hw0]; exact ((Turned.refl [] w).alloc _).alloc _
  have hg0 : w0.heap[w.heap.size]? = some (.cells #[.pointer (some ⟨ph, 0, none⟩), .slice co len cap] 114) := by
    rw [hw0, Below.heap_alloc _ _ _ (by simp)]; exact heap_alloc_new _ _
  have hr0 : w0.heap[w.heap.size + 1]? = some (.cells #[.int .i64 0, .int .i64 0, .int .i64 0, .int .i64 0] 54) := by
    rw [hw0, show w.heap.size + 1 = (w.alloc (.cells #[.pointer (some ⟨ph, 0, none⟩), .slice co len cap] 114)).heap.size by simp]; exact heap_alloc_new _ _
  have lp := hm.ltp
  have lq := hm.ltq
  have HE := hide (fun w' (t : Turned [ph, qh] w0 w') => And.intro (t.at hg0 (by simp; omega)) (t.at hr0 (by simp; omega)))
  have hm0 := hm.turned ht0 (by simp) (by simp)
  have HL := hide (len_mem ph qh P.hw s w0 hm0)
  have HD := hide (load_in ph qh P.hw s w0 i x hx hm0)
  have HR := hide (fun w' (t : Turned [ph, qh] w0 w') (m : Mem w' ph qh P.hw (wrap64 (s + 1))) => read_some (.pointer (some ⟨ph, 0, none⟩)) P.hw co len cap P.cl i b w' hl m.any ((hc.turned0 ht0).keep t (by
    intro k hk
    simp at hk
    rcases hk with rfl | rfl
    · exact ⟨_, _, _, hm0.head, by decide⟩
    · exact ⟨_, _, _, hm0.row, by decide⟩)).rd h1)
  have HT0 := hide ht0
  have m0 : w0.cell? ⟨w.heap.size, 0, none⟩ = some (.pointer (some ⟨ph, 0, none⟩)) := by rw [cell_of_heap hg0]; rfl
  have hk : ¬ (b.k = 0) := h2
  unfold mv Blk.val
  clear hm hm0 hc h h1 h2 ht0 hg0 hr0 e1 e2 e3 e4 e5 e6 e7 e8 e9 hx hacc hl
  generalize P.hw.length = hn at *
  generalize P.hw = hw at *
  go_enter Tryz.func181, Tryz.ntmps181
  go_wp2_with fail
  rw [← hw0]
  clear hw0
  refine HL.out.mono ?_
  rintro e w' ⟨rfl, rfl⟩
  clear HL
  go_wp2_with fail
  refine HD.out.mono ?_
  rintro e w1 ⟨rfl, m1, t1⟩
  have c := (HE.out w1 t1).1
  have n0 : w1.cell? ⟨w.heap.size, 0, none⟩ = some (.pointer (some ⟨ph, 0, none⟩)) := by rw [cell_of_heap c]; rfl
  have n1 : w1.cell? ⟨w.heap.size, 1, none⟩ = some (.slice co len cap) := by rw [cell_of_heap c]; rfl
  have H1 := hide (And.intro m1 t1)
  clear m0 m1 t1 c HD
  go_wp2_with fail
  refine (HR.out w1 H1.out.2 H1.out.1).mono ?_
  rintro e w2 ⟨rfl, t2⟩
  have t12 := H1.out.2.trans (t2.mono (by simp))
  have c := (HE.out w2 t12).2
  have x0 := cell_of_heap c 0
  have x1 := cell_of_heap c 1
  have x2 := cell_of_heap c 2
  have x3 := cell_of_heap c 3
  have xf := fun i => show World.frozen? w2 ⟨w.heap.size + 1, i, none⟩ = false by simp [World.frozen?, c]
  have xf0 := xf 0
  have xf1 := xf 1
  have xf2 := xf 2
  have xf3 := xf 3
  have H2 := hide (And.intro (H1.out.1.turned t2 (by simp) (by simp)) t12)
  have hsz : w.heap.size + 1 < w2.heap.size := lt_of_heap c
  have hfin := four_set c (.int .i64 b.t) (.int .i64 b.k) (.int .i64 b.n) (.int .i64 b.s)
  have hfin2 := ((Turned.refl [] _).alloc (.cells #[.int .i64 b.t, .int .i64 b.k, .int .i64 b.n, .int .i64 b.s] 54)).at hfin (by simp)
  have HF := hide hfin2
  clear hfin hfin2 xf c t2 t12 HR HE H1 n0 n1
  go_wp2_with fail
  have t3 : Turned [w.heap.size + 1] w2 (((((w2.setCell ⟨w.heap.size + 1, 0, none⟩ (.int .i64 b.t)).setCell ⟨w.heap.size + 1, 1, none⟩ (.int .i64 b.k)).setCell ⟨w.heap.size + 1, 2, none⟩ (.int .i64 b.n)).setCell ⟨w.heap.size + 1, 3, none⟩ (.int .i64 b.s)).alloc (.cells #[.int .i64 b.t, .int .i64 b.k, .int .i64 b.n, .int .i64 b.s] 54)) :=
    (((((Turned.refl _ _).setCell (by simp) _).setCell (by simp) _).setCell (by simp) _).setCell (by simp) _).alloc _
  have y0 := cell_of_heap HF.out 0
  have y1 := cell_of_heap HF.out 1
  have y2 := cell_of_heap HF.out 2
  have y3 := cell_of_heap HF.out 3
  refine bodyPost_ret (v := .tuple #[.agg #[.int .i64 b.t, .int .i64 b.k, .int .i64 b.n, .int .i64 b.s], .bool true]) (by simp [results, Tryz.results181, go_sem, y0, y1, y2, y3]) rfl ⟨rfl, H2.out.1.turned t3 (by simp; omega) (by simp; omega), ((HT0.out.mono (by simp)).trans H2.out.2).trans_new t3 (by simp)⟩
set_option maxRecDepth 100000 in
theorem object_bad (i : Nat) (x : Int) (b : Blk) (E : Int) (hm : Mem w ph qh P.hw s) (hx : P.hw[i]? = some x) (hE : E ≠ 0 ∨ b.k = 0)
    (HRd : ∀ w', Turned [ph, qh] w w' → Mem w' ph qh P.hw (wrap64 (s + 1)) → Calls Tryz.prog 184 #[.pointer (some ⟨ph, 0, none⟩), .slice co len cap, .int .i64 i] w' fun e w'' => e = .returned (.tuple #[.agg #[.int .i64 b.t, .int .i64 b.k, .int .i64 b.n, .int .i64 b.s], .int .i64 E]) ∧ Turned [] w' w'') :
    Calls Tryz.prog 181 #[mv ph co len cap, .int .i64 i] w fun e w' => e = .returned (.tuple #[Blk.zero.val, .bool false]) ∧ Mem w' ph qh P.hw (wrap64 (s + 1)) ∧ Turned [ph, qh] w w' := by
  have hi : i < P.hw.length := (List.getElem?_eq_some_iff.1 hx).1
  have g1 : ¬ ((i : Int) < 0) := by omega
  have g2 : ¬ ((P.hw.length : Int) ≤ i) := by omega
  obtain ⟨w0, hw0⟩ : ∃ w0, w0 = (w.alloc (.cells #[.pointer (some ⟨ph, 0, none⟩), .slice co len cap] 114)).alloc (.cells #[.int .i64 0, .int .i64 0, .int .i64 0, .int .i64 0] 54) := ⟨_, rfl⟩
  have ht0 : Turned [] w w0 := by rw [hw0]; exact ((Turned.refl [] w).alloc _).alloc _
  have hg0 : w0.heap[w.heap.size]? = some (.cells #[.pointer (some ⟨ph, 0, none⟩), .slice co len cap] 114) := by
    rw [hw0, Below.heap_alloc _ _ _ (by simp)]; exact heap_alloc_new _ _
  have hr0 : w0.heap[w.heap.size + 1]? = some (.cells #[.int .i64 0, .int .i64 0, .int .i64 0, .int .i64 0] 54) := by
    rw [hw0, show w.heap.size + 1 = (w.alloc (.cells #[.pointer (some ⟨ph, 0, none⟩), .slice co len cap] 114)).heap.size by simp]; exact heap_alloc_new _ _
  have lp := hm.ltp
  have lq := hm.ltq
  have HE := hide (fun w' (t : Turned [ph, qh] w0 w') => And.intro (t.at hg0 (by simp; omega)) (t.at hr0 (by simp; omega)))
  have hm0 := hm.turned ht0 (by simp) (by simp)
  have HL := hide (len_mem ph qh P.hw s w0 hm0)
  have HD := hide (load_in ph qh P.hw s w0 i x hx hm0)
  have HR := hide (fun w' (t : Turned [ph, qh] w0 w') (m : Mem w' ph qh P.hw (wrap64 (s + 1))) => HRd w' ((ht0.mono (by simp)).trans t) m)
  have HT0 := hide ht0
  have m0 : w0.cell? ⟨w.heap.size, 0, none⟩ = some (.pointer (some ⟨ph, 0, none⟩)) := by rw [cell_of_heap hg0]; rfl
  unfold mv Blk.val Blk.zero
  simp only
  clear hm hm0 ht0 hg0 hr0 hx HRd
  generalize P.hw.length = hn at *
  generalize P.hw = hw at *
  go_enter Tryz.func181, Tryz.ntmps181
  go_wp2_with fail
  rw [← hw0]
  clear hw0
  refine HL.out.mono ?_
  rintro e w' ⟨rfl, rfl⟩
  clear HL
  go_wp2_with fail
  refine HD.out.mono ?_
  rintro e w1 ⟨rfl, m1, t1⟩
  have c := (HE.out w1 t1).1
  have n0 : w1.cell? ⟨w.heap.size, 0, none⟩ = some (.pointer (some ⟨ph, 0, none⟩)) := by rw [cell_of_heap c]; rfl
  have n1 : w1.cell? ⟨w.heap.size, 1, none⟩ = some (.slice co len cap) := by rw [cell_of_heap c]; rfl
  have H1 := hide (And.intro m1 t1)
  clear m0 m1 t1 c HD
  go_wp2_with fail
  refine (HR.out w1 H1.out.2 H1.out.1).mono ?_
  rintro e w2 ⟨rfl, t2⟩
  have t12 := H1.out.2.trans (t2.mono (by simp))
  have c := (HE.out w2 t12).2
  have x0 := cell_of_heap c 0
  have x1 := cell_of_heap c 1
  have x2 := cell_of_heap c 2
  have x3 := cell_of_heap c 3
  have xf := fun i => show World.frozen? w2 ⟨w.heap.size + 1, i, none⟩ = false by simp [World.frozen?, c]
  have xf0 := xf 0
  have xf1 := xf 1
  have xf2 := xf 2
  have xf3 := xf 3
  have H2 := hide (And.intro (H1.out.1.turned t2 (by simp) (by simp)) t12)
  have hsz : w.heap.size + 1 < w2.heap.size := lt_of_heap c
  have hfin := four_set c (.int .i64 0) (.int .i64 0) (.int .i64 0) (.int .i64 0)
  have hfin2 := ((Turned.refl [] _).alloc (.cells #[.int .i64 b.t, .int .i64 b.k, .int .i64 b.n, .int .i64 b.s] 54)).at hfin (by simp)
  have HF := hide hfin2
  clear hfin hfin2 xf c t2 t12 HR HE H1 n0 n1
  have t3 : Turned [w.heap.size + 1] w2 (((((w2.setCell ⟨w.heap.size + 1, 0, none⟩ (.int .i64 0)).setCell ⟨w.heap.size + 1, 1, none⟩ (.int .i64 0)).setCell ⟨w.heap.size + 1, 2, none⟩ (.int .i64 0)).setCell ⟨w.heap.size + 1, 3, none⟩ (.int .i64 0)).alloc (.cells #[.int .i64 b.t, .int .i64 b.k, .int .i64 b.n, .int .i64 b.s] 54)) :=
    (((((Turned.refl _ _).setCell (by simp) _).setCell (by simp) _).setCell (by simp) _).setCell (by simp) _).alloc _
  have HT3 := hide t3
  clear t3
  by_cases hE0 : E = 0
  · have hk : b.k = 0 := by rcases hE with h | h; exact absurd hE0 h; exact h
    subst hE0
    rw [hk] at HF HT3
    rw [hk]
    clear hE hk
    go_wp2_with fail
    have y0 := cell_of_heap HF.out 0
    have y1 := cell_of_heap HF.out 1
    have y2 := cell_of_heap HF.out 2
    have y3 := cell_of_heap HF.out 3
    refine bodyPost_ret (v := .tuple #[.agg #[.int .i64 0, .int .i64 0, .int .i64 0, .int .i64 0], .bool false]) (by simp [results, Tryz.results181, go_sem, y0, y1, y2, y3]) rfl ⟨rfl, H2.out.1.turned HT3.out (by simp; omega) (by simp; omega), ((HT0.out.mono (by simp)).trans H2.out.2).trans_new HT3.out (by simp)⟩
  · clear hE
    go_wp2_with fail
    have y0 := cell_of_heap HF.out 0
    have y1 := cell_of_heap HF.out 1
    have y2 := cell_of_heap HF.out 2
    have y3 := cell_of_heap HF.out 3
    refine bodyPost_ret (v := .tuple #[.agg #[.int .i64 0, .int .i64 0, .int .i64 0, .int .i64 0], .bool false]) (by simp [results, Tryz.results181, go_sem, y0, y1, y2, y3]) rfl ⟨rfl, H2.out.1.turned HT3.out (by simp; omega) (by simp; omega), ((HT0.out.mono (by simp)).trans H2.out.2).trans_new HT3.out (by simp)⟩

set_option maxRecDepth 100000 in
theorem object_out (r : Int) (hm : Mem w ph qh P.hw s) (h : r < 0 ∨ (P.hw.length : Int) ≤ r) :
    Calls Tryz.prog 181 #[mv ph co len cap, .int .i64 r] w fun e w' => e = .returned (.tuple #[Blk.zero.val, .bool false]) ∧ Turned [] w w' := by
  obtain ⟨w0, hw0⟩ : ∃ w0, w0 = (w.alloc (.cells #[.pointer (some ⟨ph, 0, none⟩), .slice co len cap] 114)).alloc (.cells #[.int .i64 0, .int .i64 0, .int .i64 0, .int .i64 0] 54) := ⟨_, rfl⟩
  have ht0 : Turned [] w w0 := by rw [hw0]; exact ((Turned.refl [] w).alloc _).alloc _
  have hg0 : w0.heap[w.heap.size]? = some (.cells #[.pointer (some ⟨ph, 0, none⟩), .slice co len cap] 114) := by
    rw [hw0, Below.heap_alloc _ _ _ (by simp)]; exact heap_alloc_new _ _
  have hr0 : w0.heap[w.heap.size + 1]? = some (.cells #[.int .i64 0, .int .i64 0, .int .i64 0, .int .i64 0] 54) := by
    rw [hw0, show w.heap.size + 1 = (w.alloc (.cells #[.pointer (some ⟨ph, 0, none⟩), .slice co len cap] 114)).heap.size by simp]; exact heap_alloc_new _ _
  have hm0 := hm.turned ht0 (by simp) (by simp)
  have HL := hide (len_mem ph qh P.hw s w0 hm0)
  have m0 : w0.cell? ⟨w.heap.size, 0, none⟩ = some (.pointer (some ⟨ph, 0, none⟩)) := by rw [cell_of_heap hg0]; rfl
  have x0 := cell_of_heap hr0 0
  have x1 := cell_of_heap hr0 1
  have x2 := cell_of_heap hr0 2
  have x3 := cell_of_heap hr0 3
  have xf := fun i => show World.frozen? w0 ⟨w.heap.size + 1, i, none⟩ = false by simp [World.frozen?, hr0]
  have xf0 := xf 0
  have xf1 := xf 1
  have xf2 := xf 2
  have xf3 := xf 3
  have HF := hide (four_set hr0 (.int .i64 0) (.int .i64 0) (.int .i64 0) (.int .i64 0))
  have t3 : Turned [] w ((((w0.setCell ⟨w.heap.size + 1, 0, none⟩ (.int .i64 0)).setCell ⟨w.heap.size + 1, 1, none⟩ (.int .i64 0)).setCell ⟨w.heap.size + 1, 2, none⟩ (.int .i64 0)).setCell ⟨w.heap.size + 1, 3, none⟩ (.int .i64 0)) :=
    (((ht0.setCell (.inr (by simp)) _).setCell (.inr (by simp)) _).setCell (.inr (by simp)) _).setCell (.inr (by simp)) _
  have HT3 := hide t3
  have HT0 := hide ht0
  unfold mv Blk.val Blk.zero
  simp only
  clear hm hm0 ht0 hg0 hr0 xf t3
  by_cases h1 : r < 0
  · clear h
    go_enter Tryz.func181, Tryz.ntmps181
    go_wp2_with fail
    rw [← hw0]
    refine bodyPost_ret (v := .tuple #[.agg #[.int .i64 0, .int .i64 0, .int .i64 0, .int .i64 0], .bool false]) (by simp [results, Tryz.results181, go_sem, x0, x1, x2, x3]) rfl ⟨rfl, HT0.out⟩
  · have h2 : (P.hw.length : Int) ≤ r := by omega
    clear h
    generalize P.hw.length = hn at *
    go_enter Tryz.func181, Tryz.ntmps181
    go_wp2_with fail
    rw [← hw0]
    clear hw0
    refine HL.out.mono ?_
    rintro e w' ⟨rfl, rfl⟩
    clear HL
    go_wp2_with fail
    have y0 := cell_of_heap HF.out 0
    have y1 := cell_of_heap HF.out 1
    have y2 := cell_of_heap HF.out 2
    have y3 := cell_of_heap HF.out 3
    refine bodyPost_ret (v := .tuple #[.agg #[.int .i64 0, .int .i64 0, .int .i64 0, .int .i64 0], .bool false]) (by simp [results, Tryz.results181, go_sem, y0, y1, y2, y3]) rfl ⟨rfl, HT3.out⟩

/-- There is no object. -/
theorem object_none (r : Int) (hr : In64 r) (hl : P.hw.length ≤ 65536) (hs : wrap64 s = s) (hm : Mem w ph qh P.hw s) (hc : CRow w co len P.cl) (h : P.obj r = none) :
    Calls Tryz.prog 181 #[mv ph co len cap, .int .i64 r] w fun e w' => e = .returned (.tuple #[Blk.zero.val, .bool false]) ∧ Mem w' ph qh P.hw (wrap64 (s + P.acc r)) ∧ Turned [ph, qh] w w' := by
  by_cases ho : r < 0 ∨ (P.hw.length : Int) ≤ r
  · have ha : P.acc r = 0 := by unfold MP.acc; rw [if_neg (by omega)]
    rw [ha, Int.add_zero, hs]
    refine (object_out w ph qh len cap co P s r hm ho).mono ?_
    rintro e w' ⟨rfl, t⟩
    exact ⟨rfl, hm.turned t (by simp) (by simp), t.mono (by simp)⟩
  · have ha : P.acc r = 1 := by unfold MP.acc; rw [if_pos (by omega)]
    rw [ha]
    obtain ⟨i, rfl⟩ : ∃ i : Nat, r = i := ⟨r.toNat, by omega⟩
    obtain ⟨x, hx⟩ : ∃ x, P.hw[i]? = some x := ⟨P.hw[i]'(by omega), by simp⟩
    have hk : ∀ w', Turned [ph, qh] w w' → CRow w' co len P.cl := fun w' t => hc.keep t (by
      intro k hk
      simp at hk
      rcases hk with rfl | rfl
      · exact ⟨_, _, _, hm.head, by decide⟩
      · exact ⟨_, _, _, hm.row, by decide⟩)
    rcases obj_none h with h1 | ⟨b, h1, h2⟩
    · refine object_bad w ph qh len cap co P s i x Blk.zero (readE P.hw P.cl i) hm hx (.inl (readE_none h1)) (fun w' t m => ?_)
      exact read_none (.pointer (some ⟨ph, 0, none⟩)) P.hw co len cap P.cl i w' hl m.any (hk w' t).rd hr h1
    · refine object_bad w ph qh len cap co P s i x b 0 hm hx (.inr h2) (fun w' t m => ?_)
      exact read_some (.pointer (some ⟨ph, 0, none⟩)) P.hw co len cap P.cl i b w' hl m.any (hk w' t).rd h1

/-- A reference's word. -/
theorem refw_any (i : Nat) (x : Int) (hx : P.hw[i]? = some x) (hm : Mem w ph qh P.hw s) :
    Calls Tryz.prog 183 #[mv ph co len cap, .int .i64 i] w fun e w' => e = .returned (.int .i64 x) ∧ Mem w' ph qh P.hw (wrap64 (s + 1)) ∧ Turned [ph, qh] w w' := by
  obtain ⟨w0, hw0⟩ : ∃ w0, w0 = w.alloc (.cells #[.pointer (some ⟨ph, 0, none⟩), .slice co len cap] 114) := ⟨_, rfl⟩
  have ht0 : Turned [] w w0 := by rw [hw0]; exact (Turned.refl [] w).alloc _
  have hg0 : w0.heap[w.heap.size]? = some (.cells #[.pointer (some ⟨ph, 0, none⟩), .slice co len cap] 114) := by
    rw [hw0]; exact heap_alloc_new _ _
  have m0 : w0.cell? ⟨w.heap.size, 0, none⟩ = some (.pointer (some ⟨ph, 0, none⟩)) := by rw [cell_of_heap hg0]; rfl
  have HD := hide (load_in ph qh P.hw s w0 i x hx (hm.turned ht0 (by simp) (by simp)))
  have HT0 := hide ht0
  unfold mv
  clear hm hx ht0 hg0
  go_enter Tryz.func183, Tryz.ntmps183
  go_wp2_with fail
  rw [← hw0]
  clear hw0
  refine HD.out.mono ?_
  rintro e w1 ⟨rfl, m1, t1⟩
  have H1 := hide (And.intro m1 ((HT0.out.mono (by simp)).trans t1))
  clear m1 t1 HD HT0 m0
  go_wp2_with fail
  go_ret
  exact ⟨rfl, H1.out⟩

set_option maxRecDepth 100000 in
/-- Where an object's references stand: a row of its own. -/
theorem places_any (b : Blk) (hn : In64 b.n) (ht : 0 ≤ b.t ∧ b.t ≤ 65536) (hc : CRow w co len P.cl) :
    Calls Tryz.prog 182 #[mv ph co len cap, b.val] w fun e w' => ∃ g c, e = .returned (.slice (some ⟨g, 0, none⟩) (P.places b).length (P.places b).length) ∧ w.heap.size ≤ g ∧ w'.heap[g]? = some (.cells c 3 (0, 0)) ∧ c.size = (P.places b).length ∧ (∀ (i : Nat) x, (P.places b)[i]? = some x → c[i]? = some (.int .i64 x)) ∧ Turned [] w w' := by
  obtain ⟨w0, hw0⟩ : ∃ w0, w0 = (w.alloc (.cells #[.pointer (some ⟨ph, 0, none⟩), .slice co len cap] 114)).alloc (.cells #[.int .i64 b.t, .int .i64 b.k, .int .i64 b.n, .int .i64 b.s] 54) := ⟨_, rfl⟩
  have ht0 : Turned [] w w0 := by rw [hw0]; exact ((Turned.refl [] w).alloc _).alloc _
  have hg0 : w0.heap[w.heap.size]? = some (.cells #[.pointer (some ⟨ph, 0, none⟩), .slice co len cap] 114) := by
    rw [hw0, Below.heap_alloc _ _ _ (by simp)]; exact heap_alloc_new _ _
  have hr0 : w0.heap[w.heap.size + 1]? = some (.cells #[.int .i64 b.t, .int .i64 b.k, .int .i64 b.n, .int .i64 b.s] 54) := by
    rw [hw0, show w.heap.size + 1 = (w.alloc (.cells #[.pointer (some ⟨ph, 0, none⟩), .slice co len cap] 114)).heap.size by simp]; exact heap_alloc_new _ _
  have m1 : w0.cell? ⟨w.heap.size, 1, none⟩ = some (.slice co len cap) := by rw [cell_of_heap hg0]; rfl
  have r1 : w0.cell? ⟨w.heap.size + 1, 1, none⟩ = some (.int .i64 b.k) := by rw [cell_of_heap hr0]; rfl
  have r2 : w0.cell? ⟨w.heap.size + 1, 2, none⟩ = some (.int .i64 b.n) := by rw [cell_of_heap hr0]; rfl
  have HC := hide (refs_block co len cap P.cl b.k b.n w0 hn (hc.turned0 ht0).rd)
  have hm65 : (refsOf P.cl b.k b.n).toNat ≤ 65535 := by have := refsOf_range P.cl b.k b.n; omega
  have HX : Hid ((P.places b).length = (refsOf P.cl b.k b.n).toNat ∧ ∀ (i : Nat), i < (refsOf P.cl b.k b.n).toNat → (P.places b)[i]? = some ((i : Int) + 1 + b.t)) := by
    unfold MP.places
    refine ⟨by simp [rowTo_length], fun i hi => ?_⟩
    rw [List.getElem?_map, rowTo_get hi]
    rfl
  rw [HX.out.1]
  have HX2 := hide HX.out.2
  have HX3 := hide HX.out.1
  generalize P.places b = L at *
  clear HX
  generalize (refsOf P.cl b.k b.n).toNat = m at *
  have HR0 := hide hr0
  have HT0 := hide ht0
  unfold mv Blk.val
  clear hc hg0 hr0 ht0
  go_enter Tryz.func182, Tryz.ntmps182
  go_wp2_with fail
  rw [← hw0]
  clear hw0
  refine HC.out.mono ?_
  rintro e w1 ⟨g, cp, rfl, hrd, t1, hg, rfl, c, hh, hsz⟩
  have HI : Hid (w1.heap[g]? = some (.cells c 3 (0, 0)) ∧ c.size = cp ∧ ∀ i : Nat, i < cp → c[i]? = some (.int .i64 ((i : Int) + 1))) := by
    refine ⟨hh, hsz, fun i hi => ?_⟩
    obtain ⟨b', off, e1, e2⟩ := hrd.cell i _ (rowTo_get hi)
    cases e1
    rw [Nat.zero_add, cell_of_heap hh] at e2
    exact e2
  have hgw : w.heap.size + 1 < g := by have := lt_of_heap HR0.out; omega
  have hz : w1.cell? ⟨w.heap.size + 1, 0, none⟩ = some (.int .i64 b.t) := by rw [cell_of_heap (t1.at HR0.out (by simp))]; rfl
  have HT1 := hide (HT0.out.trans t1)
  clear hrd t1 hg hh hsz HC m1 r1 r2 HR0 HT0
  go_wp2_with fail
  go_loopw [16] (fun i wr => ∃ (j : Nat) (c : Array Value), j ≤ cp ∧ i = .int .i64 j ∧ wr.cell? ⟨w.heap.size + 1, 0, none⟩ = some (.int .i64 b.t) ∧ Hid (wr.heap[g]? = some (.cells c 3 (0, 0)) ∧ c.size = cp ∧ ∀ i : Nat, i < cp → c[i]? = some (.int .i64 (if i < j then (i : Int) + 1 + b.t else (i : Int) + 1))) ∧ Hid (Turned [] w wr)) (fun i _ => cp - (intOf i).toNat)
  case atStart => exact ⟨0, c, Nat.zero_le _, rfl, hz, ⟨HI.out.1, HI.out.2.1, fun i hi => by simpa using HI.out.2.2 i hi⟩, HT1⟩
  case round =>
    obtain ⟨j, c', hj, rfl, hz', HI', HTr⟩ := hrel
    clear HI
    by_cases hlt : j < cp
    · have hc := HI'.out.1
      have hcell : wr.cell? ⟨g, j, none⟩ = some (.int .i64 ((j : Int) + 1)) := by rw [cell_of_heap hc, HI'.out.2.2 j hlt]; simp
      have hfz : wr.frozen? ⟨g, j, none⟩ = false := by simp [World.frozen?, hc]
      have hw64 : wrap64 ((j : Int) + 1 + b.t) = (j : Int) + 1 + b.t := w64 _ (by omega)
      have hw65 : IntKind.i64.wrap ((j : Int) + 1 + b.t) = (j : Int) + 1 + b.t := by rw [IntKind.wrap_i64]; omega
      have HI2 : Hid ((wr.setCell ⟨g, j, none⟩ (.int .i64 ((j : Int) + 1 + b.t))).heap[g]? = some (.cells (c'.setIfInBounds j (.int .i64 ((j : Int) + 1 + b.t))) 3 (0, 0)) ∧ (c'.setIfInBounds j (.int .i64 ((j : Int) + 1 + b.t))).size = cp ∧ ∀ i : Nat, i < cp → (c'.setIfInBounds j (.int .i64 ((j : Int) + 1 + b.t)))[i]? = some (.int .i64 (if i < j + 1 then (i : Int) + 1 + b.t else (i : Int) + 1))) := by
        refine ⟨heap_setCell_at _ _ _ _ _ _ hc _, by simp [HI'.out.2.1], fun i hi => ?_⟩
        by_cases he : i = j
        · subst he
          rw [Array.getElem?_setIfInBounds_self_of_lt (by have := HI'.out.2.1; omega)]
          simp
        · rw [Array.getElem?_setIfInBounds_ne (by omega), HI'.out.2.2 i hi]
          by_cases h1 : i < j
          · rw [if_pos h1, if_pos (by omega)]
          · rw [if_neg h1, if_neg (by omega)]
      have HT3 := hide (HTr.out.setCell (p := ⟨g, j, none⟩) (.inr (by show w.heap.size ≤ g; omega)) (.int .i64 ((j : Int) + 1 + b.t)))
      have hz3 : (wr.setCell ⟨g, j, none⟩ (.int .i64 ((j : Int) + 1 + b.t))).cell? ⟨w.heap.size + 1, 0, none⟩ = some (.int .i64 b.t) := by
        rw [World.cell?_setCell_far _ _ _ _ (by show g ≠ w.heap.size + 1; omega)]; exact hz'
      have HZ3 := hide hz3
      clear hc HI' HTr hz3 hz
      go_wp2_with fail
      go_region
      go_wp2_with fail
      go_roundw
      case rel => exact ⟨j + 1, _, by omega, by go_num, HZ3.out, HI2, hide HT3.out.drew⟩
      case measure => simp [intOf]; omega
    · have hjm : j = cp := by omega
      subst hjm
      go_wp2_with fail
      go_ret
      refine ⟨g, c', rfl, by omega, HI'.out.1, HI'.out.2.1, fun i x hx => ?_, HTr.out⟩
      have hi : i < j := by
        by_cases hi : i < j
        · exact hi
        · have h1 := HX3.out
          have := (List.getElem?_eq_some_iff.1 hx).1
          omega
      rw [HX2.out i hi] at hx
      cases hx
      have := HI'.out.2.2 i hi
      rw [if_pos hi] at this
      exact this
end
end Go.Proofs.YthpjlhfijkeciaaGreatDoor

/-
  slices.Grow and slices.Concat of rows of deques.
-/
namespace Go.Proofs.YthpjlhfijkeciaaGreatDoor
open Go.RowKit
set_option linter.unusedVariables false

set_option maxRecDepth 10000 in
/-- slices.Grow of nil. -/
theorem grow_dqs (w : World) (n : Nat) (hn : n ≤ 1000000) :
    Calls Tryz.prog 68 #[.slice none 0 0, .int .i64 n] w fun e w' => ∃ v, e = .returned v ∧ w'.ownsRow w.heap.size 120 1 v 0 [] ∧ Turned [] w w' := by
  obtain ⟨i0, hi, hi0⟩ := Option.map_eq_some_iff.1 Tryz.infoDq
  simp only [Prod.mk.injEq] at hi0
  obtain ⟨hz0, hz1, hz2⟩ := hi0
  have und := Tryz.underlying84
  have undi : Tryz.prog.underlying 3 = some (.int .i64) := by kernel_rfl
  by_cases h0 : n = 0
  · subst h0
    go_enter Tryz.func68, Tryz.ntmps68
    go_wp2_with fail
    go_ret
    exact ⟨_, rfl, World.ownsRow_nil _ _ _ _, Turned.refl _ _⟩
  · have hr := fun ty => Lib.run_append_nil_zeros (P := Tryz.prog) w 84 3 ty 120 i0 (.pointer none) .i64 .i64 und undi hi hz0 n (by omega) (by omega) (by omega) (by rw [hz2]; omega)
    have hge := grownCap_ge w n 0 120
    have hle := grownCap_le_maxLen w n 0 120 (by unfold maxLen; omega)
    generalize grownCap w n 0 120 = G at *
    have hpos : (0 : Int) < (n : Int) := by omega
    go_enter Tryz.func68, Tryz.ntmps68
    go_wp2_with (at_builtin; refine Lib.wpList_append_run _ rfl _ _ _ _ rfl _ _ rfl rfl _ _ (hr _) ?_)
    go_ret
    refine ⟨_, rfl, ?_, ((Turned.refl [] w).drew).alloc _⟩
    have := World.ownsRow_made (base := w.heap.size) (e := 120) (size := 1) w.drew (Builtin.zeroCells #[Value.pointer none] n ++ Builtin.zeroCells #[Value.pointer none] (G - n)) G (Nat.le_refl _) hle (by simp [Builtin.zeroCells]; omega)
    exact this

/-- A slice of words that can be read. -/
def IP (w : World) (v : Value) (l : List Nat) : Prop := (v = .slice none 0 0 ∧ l = []) ∨ ∃ g off cap, v = .slice (some ⟨g, off, none⟩) l.length cap ∧ g < w.heap.size ∧ ∀ i x, l[i]? = some x → w.cell? ⟨g, off + i, none⟩ = some (pd x)
theorem IP.turned {w w' : World} {v : Value} {l : List Nat} (h : IP w v l) (t : Turned [] w w') : IP w' v l := by
  rcases h with h | ⟨g, off, cap, h1, h2, h3⟩
  · exact .inl h
  · exact .inr ⟨g, off, cap, h1, Nat.lt_of_lt_of_le h2 t.size, fun i x hx => by rw [t.cell (p := ⟨g, off + i, none⟩) h2 (by simp)]; exact h3 i x hx⟩
theorem IP.shape {w : World} {v : Value} {l : List Nat} (h : IP w v l) : ∃ ao cp, v = .slice ao l.length cp := by
  rcases h with ⟨rfl, rfl⟩ | ⟨g, off, cp, rfl, _⟩
  · exact ⟨none, 0, rfl⟩
  · exact ⟨_, cp, rfl⟩
set_option maxRecDepth 10000 in
theorem concat_dqs (w : World) (B cap : Nat) (vs : List Value) (ls : List (List Nat)) (hlen : ls.length = vs.length) (hn : vs.length ≤ 100) (hB : ∀ (i : Nat) v, vs[i]? = some v → w.cell? ⟨B, i, none⟩ = some v) (hI : ∀ (i : Nat) v, vs[i]? = some v → ∃ l, ls[i]? = some l ∧ IP w v l) (hm : ∀ l, l ∈ ls → l.length ≤ 10000) :
    Calls Tryz.prog 55 #[.slice (some ⟨B, 0, none⟩) vs.length cap] w fun e w' => ∃ v, e = .returned v ∧ (∃ n, w'.ownsRow w.heap.size 120 1 v n (ls.flatten.map pd)) ∧ Turned [] w w' := by
  have hsucc : ∀ (i : Nat) l, ls[i]? = some l → (ls.take (i + 1)).flatten = (ls.take i).flatten ++ l := by
    intro i l hl
    rw [List.take_add_one, hl, List.flatten_append]
    simp
  have hsum : ∀ i : Nat, i ≤ vs.length → (ls.take i).flatten.length ≤ i * 10000 := by
    intro i
    induction i with
    | zero => intro _; simp
    | succ i ih =>
      intro hi
      obtain ⟨l, hl⟩ : ∃ l, ls[i]? = some l := ⟨_, List.getElem?_eq_getElem (by omega)⟩
      rw [hsucc i l hl, List.length_append]
      have h1 := ih (by omega)
      have h2 := hm l (List.mem_of_getElem? hl)
      omega
  have HS := hide hsum
  have HC := hide hsucc
  have HI := hide hI
  have HB := hide hB
  have HLN := hide hlen
  have HM := hide hm
  have HG := hide (fun W n hn => grow_dqs W n hn)
  obtain ⟨i0, hi, hi0⟩ := Option.map_eq_some_iff.1 Tryz.infoDq
  simp only [Prod.mk.injEq] at hi0
  obtain ⟨hz0, hz1, hz2⟩ := hi0
  clear hsum hsucc hI hB hlen hm
  go_enter Tryz.func55, Tryz.ntmps55
  go_wp2_with fail
  go_loopg [3, 5, 11] vs.length (fun gg s3 _ s11 wr => ∃ i k : Nat, s3 = .int .i64 (k : Int) ∧ s11 = .int .i64 (i : Int) ∧ i ≤ vs.length ∧ vs.length - i ≤ gg ∧ k ≤ 1000000 ∧ Aside ((ls.take i).flatten.length = k) ∧ Aside (wr = w))
  case atStart => exact ⟨0, 0, rfl, rfl, by omega, by omega, by omega, rfl, rfl⟩
  case round =>
    obtain ⟨i, k, rfl, rfl, hiv, hgg, hk, hsz, hwr⟩ := hrel
    have hwr' : w = wr := hwr.out.symm
    subst hwr'
    by_cases hlt : i < vs.length
    · have hltz : (i : Int) < (vs.length : Int) := by omega
      obtain ⟨v, hv⟩ : ∃ v, vs[i]? = some v := ⟨_, List.getElem?_eq_getElem hlt⟩
      obtain ⟨l, hl, hir⟩ := HI.out i v hv
      have hc := HB.out i v hv
      have hll := HM.out l (List.mem_of_getElem? hl)
      have hs2 := HS.out (i + 1) (by omega)
      have hfl := HC.out i l hl
      have hk2 : k + l.length ≤ 1000000 := by
        rw [hfl, List.length_append, hsz.out] at hs2
        omega
      have HK2 := hide (show (ls.take (i + 1)).flatten.length = k + l.length by rw [hfl, List.length_append, hsz.out])
      obtain ⟨ao, cp, hvv⟩ : ∃ ao cp, v = .slice ao l.length cp := by
        rcases hir with ⟨rfl, rfl⟩ | ⟨g, off, cp, rfl, _⟩
        · exact ⟨none, 0, rfl⟩
        · exact ⟨_, cp, rfl⟩
      subst hvv
      clear hir hs2 hfl hv hl
      have hneg : ¬ ((k : Int) + (l.length : Int) < 0) := by omega
      generalize l.length = n at *
      go_wp2_with fail
      go_roundg (vs.length - (i + 1))
      case measure => omega
      case rel => exact ⟨i + 1, k + n, by go_num, by go_num, by omega, Nat.le_refl _, hk2, HK2.out, rfl⟩
    · have hltz : ¬ (i : Int) < (vs.length : Int) := by omega
      have e : i = vs.length := by omega
      subst e
      go_wp2_with fail
      refine (HG.out _ k hk).mono ?_
      rintro e w1 ⟨v1, rfl, ho1, ht1⟩
      have HO1 := hide ho1
      have HT1 := hide ht1
      obtain ⟨-, ao1, cap1, hv1, -⟩ := ownsRow_any ho1
      subst hv1
      clear ho1 ht1 HG
      go_wp2_with fail
      go_loopg [6, 8, 27] vs.length (fun gg s6 _ s27 wr => ∃ (i m cp : Nat) (ao : Option Addr), s6 = .slice ao m cp ∧ s27 = .int .i64 (i : Int) ∧ i ≤ vs.length ∧ vs.length - i ≤ gg ∧ Aside ((ls.take i).flatten.length = m) ∧ Aside (wr.ownsRow w.heap.size 120 1 (.slice ao m cp) m ((ls.take i).flatten.map pd)) ∧ Aside (Turned [] w wr))
      case atStart => exact ⟨0, 0, cap1, ao1, rfl, rfl, by omega, by omega, rfl, HO1.out, HT1.out⟩
      case round =>
        obtain ⟨j, m, cp, ao, rfl, rfl, hjv, hgg2, hm2, hown, htu⟩ := hrel
        by_cases hlt2 : j < vs.length
        · have hltz2 : (j : Int) < (vs.length : Int) := by omega
          obtain ⟨v, hv⟩ : ∃ v, vs[j]? = some v := ⟨_, List.getElem?_eq_getElem hlt2⟩
          obtain ⟨l, hl, hir⟩ := HI.out j v hv
          have hc0 := HB.out j v hv
          have hc : wr.cell? ⟨B, j, none⟩ = some v := by rw [htu.out.cell (p := ⟨B, j, none⟩) (block_lt hc0) (by simp)]; exact hc0
          have hir2 := hir.turned htu.out
          have hs2 := HS.out (j + 1) (by omega)
          have hfl := HC.out j l hl
          have hk2 : m + l.length ≤ 1000000 := by
            rw [hfl, List.length_append, hm2.out] at hs2
            omega
          have HFL := hide hfl
          clear hs2 hfl hv hl hc0 hir
          rcases hir2 with ⟨rfl, rfl⟩ | ⟨g, off, cp2, rfl, hg, hcell⟩
          · go_wp2_with (at_builtin; refine wpList_append_own_none rfl _ _ 84 rfl w.heap.size 120 i0 1 Tryz.underlying84 hi _ _ _ rfl hown.out rfl ?_)
            go_roundg (vs.length - (j + 1))
            case measure => omega
            case rel =>
              have e : (ls.take (j + 1)).flatten = (ls.take j).flatten := by rw [HFL.out, List.append_nil]
              exact ⟨j + 1, m, cp, ao, rfl, by go_num, by omega, Nat.le_refl _, by rw [e]; exact hm2, by rw [e]; exact hown, htu⟩
          · have HCE : Hid (∀ t u, (l.map pd)[t]? = some u → wr.cell? (Addr.add ⟨g, off, none⟩ t) = some u) := by
              intro t u hu
              rw [List.getElem?_map] at hu
              obtain ⟨x, hx, rfl⟩ := Option.map_eq_some_iff.1 hu
              rw [show Addr.add ⟨g, off, none⟩ t = ⟨g, off + t, none⟩ by by_cases ht : t = 0 <;> simp [Addr.add, ht]]
              exact hcell t x hx
            clear hcell
            go_wp2_with (at_builtin; (refine wpList_append_own _ rfl _ _ 84 rfl w.heap.size 120 i0 (.pointer none) 1 8 Tryz.underlying84 hi hz0 hz1 hz2 rfl (by decide) _ _ _ rfl hown.out ⟨g, off, none⟩ l.length cp2 (l.map pd) rfl (by simp) HCE.out (by intro u hu; obtain ⟨x, _, rfl⟩ := List.mem_map.1 hu; rfl) (by unfold maxLen; omega) (by omega) htu.out.size ?_); intro v' w3 hown' hgrow3 hnil3; have HO3 := hide hown'; have HT3 := hide (htu.out.grown hgrow3 (fun k hk => .inr (ownsRow_lt hown.out k hk).1)); clear hown' hgrow3 hnil3)
            obtain ⟨-, ao3, cap3, hv3, -⟩ := ownsRow_any HO3.out
            subst hv3
            go_wp2_with fail
            go_roundg (vs.length - (j + 1))
            case measure => omega
            case rel =>
              refine ⟨j + 1, m + l.length, cap3, ao3, rfl, by go_num, by omega, Nat.le_refl _, ?_, ?_, HT3.out⟩
              · rw [HFL.out, List.length_append, hm2.out]; rfl
              · rw [HFL.out, List.map_append]; exact HO3.out
        · have hltz2 : ¬ (j : Int) < (vs.length : Int) := by omega
          have e : j = vs.length := by omega
          subst e
          have e2 : ls.take vs.length = ls := by rw [← HLN.out, List.take_length]
          rw [e2] at hm2 hown
          go_wp2_with fail
          go_ret
          exact ⟨.slice ao m cp, rfl, ⟨m, by rw [← List.map_flatten]; exact hown.out⟩, htu.out⟩

end Go.Proofs.YthpjlhfijkeciaaGreatDoor
