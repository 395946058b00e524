/-
  Texts of the proof, several in one: MarkPure, MarkVA, MarkV, MarkHeap, MarkConcat.
-/
import Derived.Test.YtgbclfhgpkmcnaaGreatDoorPack14
import Derived.Test.YtgbclfhgpkmcnaaGreatDoorPack13
import Derived.Test.YtgbclfhgpkmcnaaGreatDoorPack25
import Derived.Test.YtgbclfhgpkmcnaaGreatDoorPack24
import Derived.Test.YtgbclfhgpkmcnaaGreatDoorPack2
import Derived.Lib.AppendZeros
import Derived.Laws.AppendOwnNone
import Derived.Deep.Cut
import Derived.Deep.CutBlock
import Derived.Deep.CutRange
import Derived.Deep.DeepCutAuto
import Derived.Deep.LoopGhost
/-
  The marker of package mark without memory: a worker ('MW'), all of them ('MS'), and a worker's step as a pure function ('stepM'). No Go is walked here.
-/
namespace Go.Proofs.YtgbclfhgpkmcnaaGreatDoor
open Go.RowKit
set_option linter.unusedVariables false

/-- What a marker is made of: the heap's words, the classes, the workers, their deques. -/
structure MP where
  hw : List Int
  cl : List Cls
  n : Nat
  cap : Nat
  over : Nat

def MP.need (P : MP) : Nat := 4 + P.cap + P.over
def MP.cfg (P : MP) (i : Nat) : Cfg := ⟨1 + i * P.need, P.cap, P.over⟩
/-- The deque that worker k asks as its a-th. -/
def MP.dq (P : MP) (k a : Nat) : Cfg := P.cfg ((k + a) % P.n)
def MP.Q (P : MP) (k : Nat) : QC := ⟨0, P.n, (List.range P.n).map fun a => P.dq k a⟩
theorem MP.cOf (P : MP) {k a : Nat} (ha : a < P.n) : cOf (P.Q k) a = P.dq k a := by
  unfold Go.Proofs.YtgbclfhgpkmcnaaGreatDoor.cOf MP.Q
  simp [List.getD_eq_getElem?_getD, ha]
theorem MP.Qlen (P : MP) (k : Nat) : (P.Q k).cs.length = P.n := by simp [MP.Q]

/-- The object that a ref leads to. -/
def MP.obj (P : MP) (r : Int) : Option Blk :=
  match readOf P.hw P.cl r with
  | some b => if b.k = 0 then none else some b
  | none => none
/-- The accesses of reading it. -/
def MP.acc (P : MP) (r : Int) : Int := if 0 ≤ r ∧ r < P.hw.length then 1 else 0
/-- Where its references stand. -/
def MP.places (P : MP) (b : Blk) : List Int := (rowTo (refsOf P.cl b.k b.n).toNat).map fun i => i + b.t
def MP.word (P : MP) (t : Int) : Int := (wordAt P.hw t).getD 0

/-- What a worker does next, with what it has for it. -/
inductive MAct
  | choose
  | mark (b : Blk)
  | push (b : Blk) (o : OpS)
  | take (a : Nat) (o : OpS)
  | open_ (v : Int)
  | end_ (o : OfS)

structure MW where
  act : MAct
  hands : List Int
  kept : List Blk
  places : List Int
  seen : Int
  ended : Bool

/-- All of it: control's words, the marks, the workers, the fault, the accesses of the heap and of control. -/
structure MS where
  l : List Int
  sz : Nat → Nat
  X : Nat → MW
  fault : Int
  hs : Int
  cs : Int

def updM (X : Nat → MW) (k : Nat) (x : MW) : Nat → MW := fun i => if i = k then x else X i
theorem updM_at (X : Nat → MW) (k : Nat) (x : MW) : updM X k x k = x := if_pos rfl
theorem updM_ne (X : Nat → MW) {k i : Nat} (x : MW) (h : i ≠ k) : updM X k x i = X i := if_neg h

/-- One more where nothing is left. -/
def oneIf (l : List Int) : Int := if l = [] then 1 else 0
def scanW (P : MP) (x : MW) (b : Blk) : MW := { x with act := .choose, places := P.places b, seen := x.seen + oneIf (P.places b) }
def askW (P : MP) (x : MW) (a : Nat) : MW := if a = P.n then { x with act := .end_ ofNew } else if a = 0 then { x with act := .take 0 (opNew .popReadBottom 0) } else { x with act := .take a (opNew .stealReadTop 0) }
/-- Behind a step of what it takes. -/
def tookW (P : MP) (x : MW) (a : Nat) (o : OpS) : MW :=
  if o.done then (if (valOf o).2 = 0 then { x with act := .open_ (valOf o).1 } else if (valOf o).2 = 16 then askW P x a else askW P x (a + 1)) else { x with act := .take a o }
def takeM (P : MP) (S : MS) (k : Nat) (x : MW) (a : Nat) (o : OpS) : MS :=
  { S with l := (stepOf (P.dq k a) S.l o).1, X := updM S.X k (tookW P x a (stepOf (P.dq k a) S.l o).2), cs := S.cs + 1 }
/-- Behind a step of a push. -/
def pushedW (x : MW) (b : Blk) (o : OpS) : MW :=
  if o.done then { x with act := .choose, kept := if (valOf o).2 = 0 then x.kept else x.kept ++ [b] } else { x with act := .push b o }
/-- Behind a step of an offer. -/
def endedW (x : MW) (o : OfS) : MW := if o.state = 2 then { x with act := .end_ o, ended := true } else if o.state = 1 then { x with act := .choose } else { x with act := .end_ o }

/-- A step of who is done with what it did. -/
def chooseM (P : MP) (S : MS) (k : Nat) (x : MW) : MS :=
  match x.hands with
  | r :: hs =>
    if r = 0 then { S with X := updM S.X k { x with hands := hs } }
    else match P.obj r with
      | none => { S with X := updM S.X k { x with hands := hs }, fault := 13, hs := S.hs + P.acc r }
      | some b => { S with X := updM S.X k { x with hands := hs, act := .mark b }, hs := S.hs + P.acc r }
  | [] =>
    match x.places with
    | p :: ps => { S with X := updM S.X k { x with hands := [P.word p], places := ps, seen := x.seen + oneIf ps }, hs := S.hs + 1 }
    | [] =>
      match x.kept.getLast? with
      | some b => { S with X := updM S.X k (scanW P { x with kept := x.kept.dropLast } b) }
      | none => takeM P S k x 0 (opNew .popReadBottom 0)

/-- A step of worker k. -/
def stepM (P : MP) (S : MS) (k : Nat) : MS :=
  if (S.X k).ended then S else
  match (S.X k).act with
  | .choose => chooseM P S k (S.X k)
  | .mark b =>
    { S with
      sz := (Bt.markC P.hw.length S.sz b.t b.s).2.2
      fault := if (Bt.markC P.hw.length S.sz b.t b.s).2.1 = 0 then S.fault else 13
      X := updM S.X k (if (Bt.markC P.hw.length S.sz b.t b.s).1 then { S.X k with act := .push b (opNew .pushReadBottom b.t) } else { S.X k with act := .choose }) }
  | .push b o => { S with l := (stepOf (P.dq k 0) S.l o).1, X := updM S.X k (pushedW (S.X k) b (stepOf (P.dq k 0) S.l o).2), cs := S.cs + 1 }
  | .take a o => takeM P S k (S.X k) a o
  | .open_ v =>
    match P.obj v with
    | none => { S with X := updM S.X k { S.X k with act := .choose }, fault := 13, hs := S.hs + P.acc v }
    | some b => { S with X := updM S.X k (scanW P (S.X k) b), hs := S.hs + P.acc v }
  | .end_ o => { S with l := (stepQ (P.Q k) S.l o).1, X := updM S.X k (endedW (S.X k) (stepQ (P.Q k) S.l o).2), cs := S.cs + 1 }

theorem stepOf_len (C : Cfg) (l : List Int) (o : OpS) : (stepOf C l o).1.length = l.length := by
  unfold stepOf
  split
  · rfl
  · cases o.at_ <;> simp only [wr_length] <;> (try split) <;> first | rfl | exact wr_length _ _ _ _
theorem stepQ_len (Q : QC) (l : List Int) (o : OfS) : (stepQ Q l o).1.length = l.length := by
  unfold stepQ
  split
  · cases o.at_ <;> simp <;> (try split) <;> rfl
  · rfl

/-- What a step asks for: that its numbers are far from the ends, that its operation is one that goes on. -/
def MayM (P : MP) (S : MS) (k : Nat) : Prop :=
  (S.X k).ended = false →
  (0 ≤ S.hs ∧ S.hs ≤ 1000000) ∧ (0 ≤ S.cs ∧ S.cs ≤ 1000000) ∧ (0 ≤ (S.X k).seen ∧ (S.X k).seen ≤ 1000000) ∧ (S.X k).hands.length ≤ 1000000 ∧ (S.X k).kept.length ≤ 1000000 ∧ (S.X k).places.length ≤ 1000000 ∧
  match (S.X k).act with
  | .choose =>
    match (S.X k).hands with
    | r :: _ => In64 r
    | [] =>
      match (S.X k).places with
      | p :: _ => 0 ≤ p ∧ p < P.hw.length
      | [] =>
        match (S.X k).kept.getLast? with
        | some b => In64 b.n ∧ (0 ≤ b.t ∧ b.t ≤ 65536)
        | none => Fit (P.dq k 0) S.l (opNew .popReadBottom 0) 1000000
  | .mark b => In64 b.s
  | .push _ o => Fit (P.dq k 0) S.l o 1000000 ∧ o.done = false
  | .take a o => a < P.n ∧ Fit (P.dq k a) S.l o 1000000 ∧ o.done = false
  | .open_ v => In64 v
  | .end_ o => (-1000000 ≤ cnt (P.Q k) S.l ∧ cnt (P.Q k) S.l ≤ 1000000) ∧ QOk (P.Q k) o ∧ o.state = 0
end Go.Proofs.YtgbclfhgpkmcnaaGreatDoor

/-
  The marker's workers as they act on deques and on the count ('VA'), without memory: all deques are well ('Wells'), who steals or offers has an empty deque of its own ('EmpV'), the count is the number of offers that are counted ('CntV'): what keeps them. No Go is walked here.
-/
namespace Go.Proofs.YtgbclfhgpkmcnaaGreatDoor
set_option linter.unusedVariables false

/-- What a worker does at deques or the count. -/
inductive VA
  | loc
  | push (o : OpS)
  | pop (o : OpS)
  | steal (j : Nat) (o : OpS)
  | offer (o : OfS)

def updY (Y : Nat → VA) (k : Nat) (v : VA) : Nat → VA := fun i => if i = k then v else Y i
theorem updY_at (Y : Nat → VA) (k : Nat) (v : VA) : updY Y k v k = v := if_pos rfl
theorem updY_ne (Y : Nat → VA) {k i : Nat} (v : VA) (h : i ≠ k) : updY Y k v i = Y i := if_neg h
theorem updY_twice (Y : Nat → VA) (k : Nat) (v u : VA) : updY (updY Y k v) k u = updY Y k u := by funext i; unfold updY; split <;> rfl

def ownV : VA → OpS
  | .push o => o
  | .pop o => o
  | _ => opDone
def thfV (v : VA) (j : Nat) : OpS :=
  match v with
  | .steal i o => if i = j then o else opDone
  | _ => opDone
def partY (Y : Nat → VA) (j : Nat) : Option Nat → OpS
  | none => ownV (Y j)
  | some i => thfV (Y i) j
theorem party_own (Y : Nat → VA) (k : Nat) (v : VA) : partY (updY Y k v) k = updP (updP (partY Y k) none (ownV v)) (some k) (thfV v k) := by
  funext b
  cases b with
  | none => simp [partY, updY, updP]
  | some i => by_cases h : i = k <;> simp [partY, updY, updP, h]
theorem party_other (Y : Nat → VA) {k j : Nat} (hj : j ≠ k) (v : VA) : partY (updY Y k v) j = updP (partY Y j) (some k) (thfV v j) := by
  funext b
  cases b with
  | none => simp [partY, updY, updP, hj]
  | some i => by_cases h : i = k <;> simp [partY, updY, updP, h]

/-- The marker's numbers. -/
structure MOk (P : MP) (l : List Int) : Prop where
  n1 : 1 ≤ P.n
  cap : 1 ≤ P.cap
  len : 1 + P.n * P.need ≤ l.length
section
variable {P : MP} {l : List Int} {Y : Nat → VA} {k : Nat}
theorem MOk.step (h : MOk P l) {l' : List Int} (e : l'.length = l.length) : MOk P l' := ⟨h.n1, h.cap, by rw [e]; exact h.len⟩
theorem MOk.room (h : MOk P l) {j : Nat} (hj : j < P.n) : (P.cfg j).base + (4 + (P.cfg j).cap + (P.cfg j).over) ≤ l.length := by
  have h1 := h.len
  have h2 : (j + 1) * P.need ≤ P.n * P.need := Nat.mul_le_mul_right _ hj
  rw [Nat.succ_mul] at h2
  unfold MP.cfg
  unfold MP.need at *
  simp only
  omega
theorem cfg_apart (P : MP) {i j : Nat} (h : i ≠ j) : (P.cfg i).base + (4 + (P.cfg i).cap + (P.cfg i).over) ≤ (P.cfg j).base ∨ (P.cfg j).base + (4 + (P.cfg j).cap + (P.cfg j).over) ≤ (P.cfg i).base := by
  unfold MP.cfg
  simp only
  rcases Nat.lt_or_gt_of_ne h with h | h
  · left
    have h2 : (i + 1) * P.need ≤ j * P.need := Nat.mul_le_mul_right _ h
    rw [Nat.succ_mul] at h2
    unfold MP.need at *
    omega
  · right
    have h2 : (j + 1) * P.need ≤ i * P.need := Nat.mul_le_mul_right _ h
    rw [Nat.succ_mul] at h2
    unfold MP.need at *
    omega

/-- All deques are well. -/
def Wells (P : MP) (l : List Int) (Y : Nat → VA) : Prop := ∀ j, j < P.n → DI (P.cfg j) (viewOf (P.cfg j) l) (partY Y j)
theorem Wells.set (h : Wells P l Y) (k : Nat) (v : VA) (h1 : (ownV (Y k)).done = true) (h2 : ∀ j, (thfV (Y k) j).done = true) (h3 : Begins none (ownV v)) (h4 : ∀ j, Begins (some k) (thfV v j)) : Wells P l (updY Y k v) := by
  intro j hj
  by_cases e : j = k
  · subst e
    rw [party_own]
    refine DI.set (DI.set (h j hj) none _ h1 h3) (some j) _ ?_ (h4 j)
    rw [updP_ne _ _ (by simp)]
    exact h2 j
  · rw [party_other Y e]
    exact (h j hj).set (some k) _ (h2 j) (h4 j)

/-- The deque that it acts on, its operation, who it is there; it with another one. -/
def dqV (k : Nat) : VA → Nat
  | .steal j _ => j
  | _ => k
def opV : VA → OpS
  | .push o => o
  | .pop o => o
  | .steal _ o => o
  | _ => opDone
def roleV (k : Nat) : VA → Option Nat
  | .steal _ _ => some k
  | _ => none
def withV (v : VA) (o : OpS) : VA :=
  match v with
  | .push _ => .push o
  | .pop _ => .pop o
  | .steal j _ => .steal j o
  | v => v
/-- It is at an operation. -/
def IsOp : VA → Prop
  | .push _ => True
  | .pop _ => True
  | .steal _ _ => True
  | _ => False
def pushB : VA → Bool
  | .push _ => true
  | _ => false
theorem part_role {v : VA} (hv : Y k = v) (ho : IsOp v) (hs : ∀ j o, v = .steal j o → j ≠ k) : partY Y (dqV k v) (roleV k v) = opV v := by
  cases v with
  | loc => cases ho
  | offer o => cases ho
  | push o => simp [partY, dqV, roleV, opV, hv, ownV]
  | pop o => simp [partY, dqV, roleV, opV, hv, ownV]
  | steal j o => simp [partY, dqV, roleV, opV, hv, thfV]
theorem part_with {v : VA} (hv : Y k = v) (ho : IsOp v) (hs : ∀ j o, v = .steal j o → j ≠ k) (o' : OpS) : partY (updY Y k (withV v o')) (dqV k v) = updP (partY Y (dqV k v)) (roleV k v) o' := by
  funext b
  cases v with
  | loc => cases ho
  | offer o => cases ho
  | push o =>
    simp only [dqV, roleV, withV]
    cases b with
    | none => simp [partY, updY, updP, ownV]
    | some i => by_cases h : i = k <;> simp [partY, updY, updP, h, thfV, hv]
  | pop o =>
    simp only [dqV, roleV, withV]
    cases b with
    | none => simp [partY, updY, updP, ownV]
    | some i => by_cases h : i = k <;> simp [partY, updY, updP, h, thfV, hv]
  | steal j o =>
    have hjk := hs j o rfl
    simp only [dqV, roleV, withV]
    cases b with
    | none => simp [partY, updY, updP, hjk]
    | some i => by_cases h : i = k <;> simp [partY, updY, updP, h, thfV]
theorem part_far {v : VA} (hv : Y k = v) (ho : IsOp v) (o' : OpS) {j : Nat} (hj : j ≠ dqV k v) : partY (updY Y k (withV v o')) j = partY Y j := by
  funext b
  cases v with
  | loc => cases ho
  | offer o => cases ho
  | push o =>
    simp only [dqV] at hj
    cases b with
    | none => simp [partY, updY, hj]
    | some i => by_cases h : i = k <;> simp [partY, updY, h, thfV, withV, hv]
  | pop o =>
    simp only [dqV] at hj
    cases b with
    | none => simp [partY, updY, hj]
    | some i => by_cases h : i = k <;> simp [partY, updY, h, thfV, withV, hv]
  | steal i0 o =>
    simp only [dqV] at hj
    have hj' : ¬ i0 = j := fun e => hj e.symm
    cases b with
    | none => by_cases h : j = k <;> simp [partY, updY, h, withV]; subst h; simp [ownV, hv]
    | some i => by_cases h : i = k <;> simp [partY, updY, h, withV]; simp [thfV, hv, hj']

/-- What an operation may be. -/
structure OpI (P : MP) (k : Nat) (v : VA) : Prop where
  op : IsOp v
  dn : (opV v).done = false
  dq : dqV k v < P.n
  st : ∀ j o, v = .steal j o → j ≠ k
  cnt : CntOk (P.cfg (dqV k v)) (opV v)
  kind : KindI (pushB v) (opV v)
  err : ErrI (pushB v) (opV v)

/-- An operation's step: the cells, and it then. -/
def actL (P : MP) (l : List Int) (k : Nat) (v : VA) : List Int := (stepOf (P.cfg (dqV k v)) l (opV v)).1
def actO (P : MP) (l : List Int) (k : Nat) (v : VA) : OpS := (stepOf (P.cfg (dqV k v)) l (opV v)).2
theorem act_view (hM : MOk P l) {v : VA} (h : OpI P k v) : viewOf (P.cfg (dqV k v)) (actL P l k v) = (stepV (P.cfg (dqV k v)) (viewOf (P.cfg (dqV k v)) l) (opV v)).1 ∧ actO P l k v = (stepV (P.cfg (dqV k v)) (viewOf (P.cfg (dqV k v)) l) (opV v)).2 :=
  view_step (hM.room h.dq) hM.cap h.cnt
theorem act_far (hM : MOk P l) {v : VA} (h : OpI P k v) {j : Nat} (hj : j ≠ dqV k v) : viewOf (P.cfg j) (actL P l k v) = viewOf (P.cfg j) l :=
  view_other h.cnt hM.cap (cfg_apart P (fun e => hj e.symm))
theorem act_len (P : MP) (l : List Int) (k : Nat) (v : VA) : (actL P l k v).length = l.length := stepOf_len _ _ _
theorem Wells.act (hM : MOk P l) (h : Wells P l Y) {v : VA} (hv : Y k = v) (ho : OpI P k v) : Wells P (actL P l k v) (updY Y k (withV v (actO P l k v))) := by
  intro j hj
  by_cases e : j = dqV k v
  · subst e
    obtain ⟨v1, v2⟩ := act_view hM ho
    rw [v1, v2, part_with hv ho.op ho.st]
    have hs := (h _ hj).step (roleV k v)
    unfold stepP at hs
    rw [part_role hv ho.op ho.st] at hs
    exact hs
  · rw [act_far hM ho e, part_far hv ho.op _ e]
    exact h j hj

/-- What a worker knows of its own deque. -/
def EmpV (P : MP) (l : List Int) (k : Nat) : VA → Prop
  | .pop o => PopI (viewOf (P.cfg k) l) o
  | .steal _ _ => EmptyV (viewOf (P.cfg k) l)
  | .offer _ => EmptyV (viewOf (P.cfg k) l)
  | _ => True
/-- Another worker's step leaves what one knows. -/
theorem emp_other (hM : MOk P l) (h : Wells P l Y) {v : VA} (hv : Y k = v) (ho : OpI P k v) {j : Nat} (hj : j < P.n) (hjk : j ≠ k) (hE : EmpV P l j (Y j)) : EmpV P (actL P l k v) j (Y j) := by
  by_cases e : j = dqV k v
  · obtain ⟨v1, v2⟩ := act_view hM ho
    have hD := h _ ho.dq
    have hp := part_role hv ho.op ho.st
    cases hvv : v with
    | loc => rw [hvv] at ho; cases ho.op
    | offer o => rw [hvv] at ho; cases ho.op
    | push o => rw [hvv] at e; exact absurd e hjk
    | pop o => rw [hvv] at e; exact absurd e hjk
    | steal j0 o =>
      rw [hvv] at e v1 hD hp ho
      simp only [dqV, opV, roleV] at e v1 hD hp
      subst e
      rw [show actL P l k (.steal j o) = actL P l k (.steal j o) from rfl]
      cases hy : Y j with
      | loc => trivial
      | push o2 => trivial
      | pop o2 =>
        rw [hy] at hE
        show PopI (viewOf (P.cfg j) _) o2
        rw [v1]
        have hpn : partY Y j none = o2 := by simp [partY, hy, ownV]
        have ht := hD.thf k
        have hs := hD.stk (some k)
        have hkk := hD.kinds k
        rw [hp] at ht hs hkk
        rw [hpn] at ht
        exact pop_thief hkk ht hs hE
      | steal j2 o2 =>
        rw [hy] at hE
        show EmptyV (viewOf (P.cfg j) _)
        rw [v1]
        have := empty_thief hD (by simp [partY, hy, ownV, opDone]) k hE
        rw [hp] at this
        exact this
      | offer o2 =>
        rw [hy] at hE
        show EmptyV (viewOf (P.cfg j) _)
        rw [v1]
        have := empty_thief hD (by simp [partY, hy, ownV, opDone]) k hE
        rw [hp] at this
        exact this
  · have hf := act_far hM ho e
    cases hy : Y j with
    | loc => trivial
    | push o2 => trivial
    | pop o2 => rw [hy] at hE; show PopI _ _; rw [hf]; exact hE
    | steal j2 o2 => rw [hy] at hE; show EmptyV _; rw [hf]; exact hE
    | offer o2 => rw [hy] at hE; show EmptyV _; rw [hf]; exact hE
/-- Its own step. -/
theorem emp_own (hM : MOk P l) (h : Wells P l Y) {v : VA} (hv : Y k = v) (ho : OpI P k v) (hk : k < P.n) (hE : EmpV P l k v) : EmpV P (actL P l k v) k (withV v (actO P l k v)) := by
  obtain ⟨v1, v2⟩ := act_view hM ho
  have hD := h _ ho.dq
  have hp := part_role hv ho.op ho.st
  cases hvv : v with
  | loc => rw [hvv] at ho; cases ho.op
  | offer o => rw [hvv] at ho; cases ho.op
  | push o => trivial
  | pop o =>
    rw [hvv] at v1 v2 hD hp ho hE
    have h1 := hD.kind
    have h2 := hD.own
    simp only [dqV, roleV, opV] at hp h1 h2 v1 v2 hD
    rw [hp] at h1 h2
    show PopI _ _
    rw [v1, v2]
    exact pop_own ho.kind h1 h2 hD.stkN hE
  | steal j o =>
    rw [hvv] at ho hE
    show EmptyV _
    rw [act_far hM ho (fun e => ho.st j o rfl e.symm)]
    exact hE

/-- An offer that is counted. -/
def inV : VA → Int
  | .offer o => if o.state = 0 ∧ o.at_ = .countIn then 0 else 1
  | _ => 0
theorem inV_vals (v : VA) : inV v = 0 ∨ inV v = 1 := by
  unfold inV
  split
  · split
    · exact .inl rfl
    · exact .inr rfl
  · exact .inl rfl
def CntV (P : MP) (l : List Int) (Y : Nat → VA) : Prop := l.getD 0 0 = sumTo (fun k => inV (Y k)) P.n
theorem cnt_Q (P : MP) (k : Nat) (l : List Int) : cnt (P.Q k) l = l.getD 0 0 := rfl
theorem inV_upd (hk : k < P.n) (v : VA) : sumTo (fun j => inV (updY Y k v j)) P.n = sumTo (fun j => inV (Y j)) P.n + inV v - inV (Y k) := by
  rw [sumTo_upd (g := fun j => inV (Y j)) hk (fun j hj hjk => by simp only [updY_ne _ _ hjk])]
  simp only [updY_at]
theorem cnt_act (P : MP) (l : List Int) (k : Nat) (v : VA) : (actL P l k v).getD 0 0 = l.getD 0 0 := by
  have key : ∀ a x, (wr (P.cfg (dqV k v)) l a x).getD 0 0 = l.getD 0 0 := fun a x => by
    unfold wr
    rw [List.getD_eq_getElem?_getD, List.getD_eq_getElem?_getD, List.getElem?_set, if_neg (by unfold MP.cfg; simp only; omega)]
  unfold actL stepOf
  split
  · rfl
  · cases (opV v).at_ <;> simp only
    all_goals first
      | exact key _ _
      | (split <;> first | exact key _ _ | rfl)

/-- What a worker may be about. -/
def ShV (P : MP) (k : Nat) (v : VA) : Prop :=
  match v with
  | .loc => True
  | .offer o => QOk (P.Q k) o ∧ (o.state = 0 ∨ o.state = 2)
  | v => OpI P k v
/-- All that holds. -/
structure AllV (P : MP) (l : List Int) (Y : Nat → VA) : Prop where
  ok : MOk P l
  wells : Wells P l Y
  sh : ∀ k, k < P.n → ShV P k (Y k)
  emp : ∀ k, k < P.n → EmpV P l k (Y k)
  cnt : CntV P l Y
theorem ShV.op {v : VA} (h : ShV P k v) (ho : IsOp v) : OpI P k v := by
  cases v with
  | loc => cases ho
  | offer o => cases ho
  | push o => exact h
  | pop o => exact h
  | steal j o => exact h
theorem ShV.of {v : VA} (h : OpI P k v) : ShV P k v := by
  have ho := h.op
  cases v with
  | loc => cases ho
  | offer o => cases ho
  | push o => exact h
  | pop o => exact h
  | steal j o => exact h
theorem inV_op {v : VA} (h : IsOp v) : inV v = 0 := by
  cases v with
  | loc => rfl
  | offer o => cases h
  | push o => rfl
  | pop o => rfl
  | steal j o => rfl
theorem isOp_with {v : VA} (h : IsOp v) (o : OpS) : IsOp (withV v o) ∧ opV (withV v o) = o ∧ dqV k (withV v o) = dqV k v ∧ pushB (withV v o) = pushB v ∧ roleV k (withV v o) = roleV k v := by
  cases v with
  | loc => cases h
  | offer o => cases h
  | push o => exact ⟨trivial, rfl, rfl, rfl, rfl⟩
  | pop o => exact ⟨trivial, rfl, rfl, rfl, rfl⟩
  | steal j o => exact ⟨trivial, rfl, rfl, rfl, rfl⟩
theorem st_with {v : VA} (h : OpI P k v) (o' : OpS) : ∀ j o, withV v o' = .steal j o → j ≠ k := by
  intro j o e
  cases v with
  | loc => cases h.op
  | offer o => cases h.op
  | push o2 => cases e
  | pop o2 => cases e
  | steal j2 o2 => cases e; exact h.st _ o2 rfl
/-- An operation that goes on. -/
theorem AllV.mid (h : AllV P l Y) (hk : k < P.n) {v : VA} (hv : Y k = v) (ho : IsOp v) (hd : (actO P l k v).done = false) : AllV P (actL P l k v) (updY Y k (withV v (actO P l k v))) := by
  have hO := (hv ▸ h.sh k hk : ShV P k v).op ho
  have hE : EmpV P l k v := hv ▸ h.emp k hk
  obtain ⟨i1, i2, i3, i4, i5⟩ := isOp_with (k := k) ho (actO P l k v)
  obtain ⟨v1, v2⟩ := act_view h.ok hO
  refine ⟨h.ok.step (act_len P l k v), h.wells.act h.ok hv hO, fun j hj => ?_, fun j hj => ?_, ?_⟩
  · by_cases e : j = k
    · subst e
      rw [updY_at]
      refine ShV.of ⟨i1, by rw [i2]; exact hd, by rw [i3]; exact hO.dq, st_with hO _, ?_, ?_, ?_⟩
      · rw [i3, i2]; exact cnt_own _ _ _ hO.cnt
      · rw [i4, i2, v2]; exact kind_step hO.kind
      · rw [i4, i2, v2]; exact err_step hO.kind hO.err
    · rw [updY_ne _ _ e]; exact h.sh j hj
  · by_cases e : j = k
    · subst e
      rw [updY_at]
      exact emp_own h.ok h.wells hv hO hj hE
    · rw [updY_ne _ _ e]
      exact emp_other h.ok h.wells hv hO hj e (h.emp j hj)
  · unfold CntV
    rw [cnt_act, inV_upd hk, inV_op i1, hv, inV_op ho, h.cnt]
    omega
/-- What a worker begins with. -/
structure BgV (P : MP) (l : List Int) (k : Nat) (u : VA) : Prop where
  own : Begins none (ownV u)
  thf : ∀ j, Begins (some k) (thfV u j)
  sh : ShV P k u
  emp : EmpV P l k u
  cnt : inV u = 0
/-- An operation that is done, and what comes then. -/
theorem AllV.fin (h : AllV P l Y) (hk : k < P.n) {v : VA} (hv : Y k = v) (ho : IsOp v) (hd : (actO P l k v).done = true) {u : VA} (hu : BgV P (actL P l k v) k u) : AllV P (actL P l k v) (updY Y k u) := by
  have hO := (hv ▸ h.sh k hk : ShV P k v).op ho
  have hW := h.wells.act h.ok hv hO
  obtain ⟨i1, i2, i3, i4, i5⟩ := isOp_with (k := k) ho (actO P l k v)
  have hdn : (ownV (withV v (actO P l k v))).done = true ∧ ∀ j, (thfV (withV v (actO P l k v)) j).done = true := by
    cases v with
    | loc => cases ho
    | offer o => cases ho
    | push o => exact ⟨hd, fun j => rfl⟩
    | pop o => exact ⟨hd, fun j => rfl⟩
    | steal i o => exact ⟨rfl, fun j => by simp only [withV, thfV]; split <;> first | exact hd | rfl⟩
  have hS := hW.set k u (by rw [updY_at]; exact hdn.1) (by rw [updY_at]; exact hdn.2) hu.own hu.thf
  rw [updY_twice] at hS
  refine ⟨h.ok.step (act_len P l k v), hS, fun j hj => ?_, fun j hj => ?_, ?_⟩
  · by_cases e : j = k
    · subst e; rw [updY_at]; exact hu.sh
    · rw [updY_ne _ _ e]; exact h.sh j hj
  · by_cases e : j = k
    · subst e; rw [updY_at]; exact hu.emp
    · rw [updY_ne _ _ e]
      exact emp_other h.ok h.wells hv hO hj e (h.emp j hj)
  · unfold CntV
    rw [cnt_act, inV_upd hk, hu.cnt, hv, inV_op ho, h.cnt]
    omega
/-- Who is at nothing begins something. -/
theorem AllV.set (h : AllV P l Y) (hk : k < P.n) (hv : Y k = .loc) {u : VA} (hu : BgV P l k u) : AllV P l (updY Y k u) := by
  have hS := h.wells.set k u (by rw [hv]; rfl) (fun j => by rw [hv]; rfl) hu.own hu.thf
  refine ⟨h.ok, hS, fun j hj => ?_, fun j hj => ?_, ?_⟩
  · by_cases e : j = k
    · subst e; rw [updY_at]; exact hu.sh
    · rw [updY_ne _ _ e]; exact h.sh j hj
  · by_cases e : j = k
    · subst e; rw [updY_at]; exact hu.emp
    · rw [updY_ne _ _ e]; exact h.emp j hj
  · unfold CntV
    rw [inV_upd hk, hu.cnt, hv, h.cnt]
    simp [inV]
theorem updY_same (Y : Nat → VA) (k : Nat) : updY Y k (Y k) = Y := by funext i; unfold updY; split <;> simp_all
/-- The count's cell is no deque's. -/
theorem view_cnt (P : MP) (j : Nat) (l : List Int) (x : Int) : viewOf (P.cfg j) (l.set 0 x) = viewOf (P.cfg j) l := by
  have h : ∀ i, rd (P.cfg j) (l.set 0 x) i = rd (P.cfg j) l i := fun i => by
    unfold rd MP.cfg
    rw [List.getD_eq_getElem?_getD, List.getD_eq_getElem?_getD, List.getElem?_set, if_neg (by simp only; omega)]
  unfold viewOf
  simp only [h]
theorem view_off (P : MP) (j k : Nat) (l : List Int) (o : OfS) : viewOf (P.cfg j) (stepQ (P.Q k) l o).1 = viewOf (P.cfg j) l := by
  unfold stepQ
  by_cases h : o.state = 0
  · rw [if_pos h]
    cases o.at_ <;> simp only
    case countIn => exact view_cnt P j l _
    case countOut => exact view_cnt P j l _
    case readCount => split <;> rfl
    case readStack => split <;> rfl
  · rw [if_neg h]
theorem emp_off {j : Nat} {l' : List Int} (hv : viewOf (P.cfg j) l' = viewOf (P.cfg j) l) {v : VA} (h : EmpV P l j v) : EmpV P l' j v := by
  cases v with
  | loc => trivial
  | push o => trivial
  | pop o => show PopI _ _; rw [hv]; exact h
  | steal j2 o => show EmptyV _; rw [hv]; exact h
  | offer o => show EmptyV _; rw [hv]; exact h
/-- An offer's step. -/
theorem AllV.off (h : AllV P l Y) (hk : k < P.n) {o : OfS} (hv : Y k = .offer o) (h0 : o.state = 0) :
    AllV P (stepQ (P.Q k) l o).1 (updY Y k (if (stepQ (P.Q k) l o).2.state = 1 then .loc else .offer (stepQ (P.Q k) l o).2)) ∧ ((stepQ (P.Q k) l o).2.state = 0 ∨ (stepQ (P.Q k) l o).2.state = 1 ∨ (stepQ (P.Q k) l o).2.state = 2) := by
  have hsh : ShV P k (.offer o) := hv ▸ h.sh k hk
  have hE : EmptyV (viewOf (P.cfg k) l) := (hv ▸ h.emp k hk : EmpV P l k (.offer o))
  have hvw : ∀ j, viewOf (P.cfg j) (stepQ (P.Q k) l o).1 = viewOf (P.cfg j) l := fun j => view_off P j k l o
  have hlen : (stepQ (P.Q k) l o).1.length = l.length := stepQ_len _ _ _
  have hl0 : 0 < l.length := by have := h.ok.len; omega
  have hset : ∀ x : Int, (l.set 0 x).getD 0 0 = x := fun x => by
    rw [List.getD_eq_getElem?_getD, List.getElem?_set, if_pos rfl, if_pos hl0]; rfl
  -- what the step is
  have key : (QOk (P.Q k) (stepQ (P.Q k) l o).2 ∨ (stepQ (P.Q k) l o).2.state = 1) ∧ ((stepQ (P.Q k) l o).2.state = 0 ∨ (stepQ (P.Q k) l o).2.state = 1 ∨ (stepQ (P.Q k) l o).2.state = 2) ∧ (stepQ (P.Q k) l o).1.getD 0 0 + inV (.offer o) = l.getD 0 0 + (if (stepQ (P.Q k) l o).2.state = 1 then 0 else inV (.offer (stepQ (P.Q k) l o).2)) := by
    have hq := hsh.1
    have hql : (P.Q k).cs.length = P.n := P.Qlen k
    have hn1 := h.ok.n1
    obtain ⟨a, st, k2, t⟩ := o
    have hs' : st = 0 := h0
    subst hs'
    cases a <;> simp only [QOk] at hq
    case countIn =>
      have e : stepQ (P.Q k) l ⟨.countIn, 0, k2, t⟩ = (l.set 0 (Proofs.YtgbclfhgpkmcnaaGreatDoor.cnt (P.Q k) l + 1), ⟨.readCount, 0, k2, t⟩) := rfl
      rw [e]
      simp only [hset, cnt_Q]
      simp [inV, QOk]
    case countOut =>
      have e : stepQ (P.Q k) l ⟨.countOut, 0, k2, t⟩ = (l.set 0 (Proofs.YtgbclfhgpkmcnaaGreatDoor.cnt (P.Q k) l - 1), ⟨.countOut, 1, k2, t⟩) := rfl
      rw [e]
      simp only [hset, cnt_Q]
      simp [inV]
    case readCount =>
      by_cases hz : Proofs.YtgbclfhgpkmcnaaGreatDoor.cnt (P.Q k) l = (P.Q k).n
      · have e : stepQ (P.Q k) l ⟨.readCount, 0, k2, t⟩ = (l, ⟨.readCount, 2, k2, t⟩) := by simp [stepQ, hz]
        rw [e]
        simp [inV, QOk]
      · have e : stepQ (P.Q k) l ⟨.readCount, 0, k2, t⟩ = (l, lookQ (P.Q k) ⟨.readCount, 0, k2, t⟩ 0) := by simp [stepQ, hz]
        have hne : ¬ 0 = (P.Q k).cs.length := by omega
        rw [e]
        simp [inV, lookQ, hne, QOk]; omega
    case readTop =>
      have e : stepQ (P.Q k) l ⟨.readTop, 0, k2, t⟩ = (l, ⟨.readBottom, 0, k2, rd (cOf (P.Q k) k2) l 0⟩) := rfl
      rw [e]
      simp [inV, QOk, hq]
    case readBottom =>
      by_cases hz : t < rd (cOf (P.Q k) k2) l 1
      · have e : stepQ (P.Q k) l ⟨.readBottom, 0, k2, t⟩ = (l, ⟨.countOut, 0, k2, t⟩) := by simp [stepQ, hz]
        rw [e]
        simp [inV, QOk]
      · have e : stepQ (P.Q k) l ⟨.readBottom, 0, k2, t⟩ = (l, ⟨.readStack, 0, k2, t⟩) := by simp [stepQ, hz]
        rw [e]
        simp [inV, QOk, hq]
    case readStack =>
      by_cases hz : 0 < rd (cOf (P.Q k) k2) l 3
      · have e : stepQ (P.Q k) l ⟨.readStack, 0, k2, t⟩ = (l, ⟨.countOut, 0, k2, t⟩) := by simp [stepQ, hz]
        rw [e]
        simp [inV, QOk]
      · have e : stepQ (P.Q k) l ⟨.readStack, 0, k2, t⟩ = (l, lookQ (P.Q k) ⟨.readStack, 0, k2, t⟩ (k2 + 1)) := by simp [stepQ, hz]
        rw [e]
        by_cases hy : k2 + 1 = (P.Q k).cs.length <;> simp [inV, lookQ, hy, QOk]
        omega
  refine ⟨?_, key.2.1⟩
  have hW : Wells P (stepQ (P.Q k) l o).1 Y := fun j hj => by rw [hvw]; exact h.wells j hj
  obtain ⟨u, hu⟩ : ∃ u : VA, u = if (stepQ (P.Q k) l o).2.state = 1 then .loc else .offer (stepQ (P.Q k) l o).2 := ⟨_, rfl⟩
  rw [← hu]
  have hu2 : u = .loc ∨ ∃ o', u = .offer o' ∧ o' = (stepQ (P.Q k) l o).2 ∧ (stepQ (P.Q k) l o).2.state ≠ 1 := by
    rw [hu]; split
    · exact .inl rfl
    · rename_i g; exact .inr ⟨_, rfl, rfl, g⟩
  have hin : inV u = if (stepQ (P.Q k) l o).2.state = 1 then 0 else inV (.offer (stepQ (P.Q k) l o).2) := by rw [hu]; split <;> rfl
  refine ⟨h.ok.step hlen, hW.set k u (by rw [hv]; rfl) (fun j => by rw [hv]; rfl) ?_ (fun j => ?_), fun j hj => ?_, fun j hj => ?_, ?_⟩
  · rcases hu2 with e | ⟨o', e, _⟩ <;> rw [e] <;> exact .inl rfl
  · rcases hu2 with e | ⟨o', e, _⟩ <;> rw [e] <;> exact .inl rfl
  · by_cases e : j = k
    · subst e
      rw [updY_at]
      rcases hu2 with e | ⟨o', e, e2, e3⟩
      · rw [e]; trivial
      · rw [e, e2]
        refine ⟨key.1.resolve_right e3, ?_⟩
        rcases key.2.1 with g | g | g
        · exact .inl g
        · exact absurd g e3
        · exact .inr g
    · rw [updY_ne _ _ e]; exact h.sh j hj
  · by_cases e : j = k
    · subst e
      rw [updY_at]
      rcases hu2 with e | ⟨o', e, e2, e3⟩
      · rw [e]; trivial
      · rw [e]
        show EmptyV _
        rw [hvw]; exact hE
    · rw [updY_ne _ _ e]; exact emp_off (hvw j) (h.emp j hj)
  · unfold CntV
    rw [inV_upd hk, hin, hv]
    have := h.cnt
    unfold CntV at this
    have k3 := key.2.2
    omega
/-- Where the count is full, all offer, and all deques are empty. -/
theorem AllV.full (h : AllV P l Y) (hc : l.getD 0 0 = P.n) : ∀ k, k < P.n → EmptyV (viewOf (P.cfg k) l) ∧ ∃ o, Y k = .offer o := by
  intro k hk
  have hs := (sum_full (n := P.n) (g := fun k => inV (Y k)) (fun j => inV_vals _)).2 (h.cnt.symm.trans hc) k hk
  have h2 := h.emp k hk
  cases ha : Y k with
  | loc => simp [inV, ha] at hs
  | push o => simp [inV, ha] at hs
  | pop o => simp [inV, ha] at hs
  | steal j o => simp [inV, ha] at hs
  | offer o =>
    rw [ha] at h2
    exact ⟨h2, o, rfl⟩
end
end Go.Proofs.YtgbclfhgpkmcnaaGreatDoor

/-
  The marker's state as workers that act on deques ('yM'), and what each worker is about ('ShW'); all of it holds at each step ('AllM', 'AllM.step'). No Go is walked here.
-/
namespace Go.Proofs.YtgbclfhgpkmcnaaGreatDoor
set_option linter.unusedVariables false

def vaM (P : MP) (k : Nat) (x : MW) : VA :=
  match x.act with
  | .push _ o => .push o
  | .take a o => if a = 0 then .pop o else .steal ((k + a) % P.n) o
  | .end_ o => .offer o
  | _ => .loc
def yM (P : MP) (X : Nat → MW) : Nat → VA := fun k => vaM P k (X k)
theorem yM_upd (P : MP) (X : Nat → MW) (k : Nat) (x : MW) : yM P (updM X k x) = updY (yM P X) k (vaM P k x) := by
  funext i
  unfold yM updM updY
  by_cases h : i = k
  · subst h; simp
  · simp [h]
theorem updM_twice (X : Nat → MW) (k : Nat) (x y : MW) : updM (updM X k x) k y = updM X k y := by funext i; unfold updM; split <;> rfl
theorem updM_same (X : Nat → MW) (k : Nat) : updM X k (X k) = X := by funext i; unfold updM; split <;> simp_all

/-- A worker as it may stand. -/
structure ShW (P : MP) (k : Nat) (x : MW) : Prop where
  ended : x.ended = true ↔ ∃ o, x.act = .end_ o ∧ o.state = 2
  take : ∀ a o, x.act = .take a o → a < P.n ∧ x.hands = [] ∧ x.places = [] ∧ x.kept = []
  offer : ∀ o, x.act = .end_ o → x.hands = [] ∧ x.places = [] ∧ x.kept = []
  push : ∀ b o, x.act = .push b o → o.item = b.t ∧ P.obj b.t = some b
  mark : ∀ b, x.act = .mark b → P.obj b.t = some b
  kept : ∀ b, b ∈ x.kept → P.obj b.t = some b
structure AllM (P : MP) (S : MS) : Prop where
  v : AllV P S.l (yM P S.X)
  w : ∀ k, k < P.n → ShW P k (S.X k)

section
variable {P : MP} {l : List Int} {k : Nat}
theorem turn_ne {n a : Nat} (hk : k < n) (ha : 0 < a) (han : a < n) : (k + a) % n ≠ k ∧ (k + a) % n < n := by
  refine ⟨?_, Nat.mod_lt _ (by omega)⟩
  by_cases h : k + a < n
  · rw [Nat.mod_eq_of_lt h]; omega
  · rw [Nat.mod_eq_sub_mod (by omega), Nat.mod_eq_of_lt (by omega)]; omega
theorem dq_cfg (P : MP) (k a : Nat) : P.dq k a = P.cfg ((k + a) % P.n) := rfl
theorem dq_zero (hk : k < P.n) : P.dq k 0 = P.cfg k := by unfold MP.dq; rw [Nat.add_zero, Nat.mod_eq_of_lt hk]
/-- The deque and the operation of a take. -/
theorem va_take (hk : k < P.n) {x : MW} {a : Nat} {o : OpS} (h : x.act = .take a o) : IsOp (vaM P k x) ∧ opV (vaM P k x) = o ∧ P.cfg (dqV k (vaM P k x)) = P.dq k a ∧ pushB (vaM P k x) = false ∧ ∀ o', vaM P k { x with act := .take a o' } = withV (vaM P k x) o' := by
  unfold vaM
  rw [h]
  simp only
  by_cases h0 : a = 0
  · subst h0
    simp only [if_true]
    exact ⟨trivial, rfl, (dq_zero hk).symm, rfl, fun _ => rfl⟩
  · simp only [h0, if_false]
    exact ⟨trivial, rfl, rfl, rfl, fun _ => rfl⟩
theorem va_push (hk : k < P.n) {x : MW} {b : Blk} {o : OpS} (h : x.act = .push b o) : IsOp (vaM P k x) ∧ opV (vaM P k x) = o ∧ P.cfg (dqV k (vaM P k x)) = P.dq k 0 ∧ pushB (vaM P k x) = true ∧ ∀ o', vaM P k { x with act := .push b o' } = withV (vaM P k x) o' := by
  unfold vaM
  rw [h]
  exact ⟨trivial, rfl, (dq_zero hk).symm, rfl, fun _ => rfl⟩

theorem bg_loc : BgV P l k .loc := ⟨.inl rfl, fun j => .inl rfl, trivial, trivial, rfl⟩
theorem bg_push (hk : k < P.n) (y : Int) : BgV P l k (.push (opNew .pushReadBottom y)) :=
  ⟨.inr ⟨.pushReadBottom, y, rfl, .inl ⟨rfl, .inl rfl⟩⟩, fun j => .inl rfl, ⟨trivial, rfl, hk, (fun j o e => by cases e), trivial, fun _ => ⟨rfl, fun _ => rfl⟩, ⟨fun g => (by cases g), fun _ g => (by cases g)⟩⟩, trivial, rfl⟩
theorem bg_pop (hk : k < P.n) : BgV P l k (.pop (opNew .popReadBottom 0)) :=
  ⟨.inr ⟨.popReadBottom, 0, rfl, .inl ⟨rfl, .inr rfl⟩⟩, fun j => .inl rfl, ⟨trivial, rfl, hk, (fun j o e => by cases e), trivial, fun _ => ⟨rfl, fun _ => rfl⟩, ⟨fun g => (by cases g), fun _ g => (by cases g)⟩⟩, ⟨fun g => (by cases g), fun _ => trivial⟩, rfl⟩
theorem bg_steal {j : Nat} (hj : j < P.n) (hjk : j ≠ k) (hE : EmptyV (viewOf (P.cfg k) l)) : BgV P l k (.steal j (opNew .stealReadTop 0)) :=
  ⟨.inl rfl, fun i => (by
    by_cases h : j = i
    · exact .inr ⟨.stealReadTop, 0, by simp [thfV, h], .inr ⟨by simp, rfl⟩⟩
    · exact .inl (by simp [thfV, h, opDone])), ⟨trivial, rfl, hj, (fun i o e => by cases e; exact hjk), trivial, fun _ => ⟨rfl, fun _ => rfl⟩, ⟨fun g => (by cases g), fun _ g => (by cases g)⟩⟩, hE, rfl⟩
theorem bg_offer (hE : EmptyV (viewOf (P.cfg k) l)) : BgV P l k (.offer ofNew) := ⟨.inl rfl, fun j => .inl rfl, ⟨trivial, .inl rfl⟩, hE, rfl⟩

/-- What is asked next. -/
theorem ask_cases (P : MP) (x : MW) (a : Nat) (ha : a ≤ P.n) (hk : k < P.n) :
    (a = P.n ∧ askW P x a = { x with act := .end_ ofNew } ∧ vaM P k (askW P x a) = .offer ofNew) ∨ (a = 0 ∧ a < P.n ∧ askW P x a = { x with act := .take 0 (opNew .popReadBottom 0) } ∧ vaM P k (askW P x a) = .pop (opNew .popReadBottom 0)) ∨ (0 < a ∧ a < P.n ∧ askW P x a = { x with act := .take a (opNew .stealReadTop 0) } ∧ vaM P k (askW P x a) = .steal ((k + a) % P.n) (opNew .stealReadTop 0)) := by
  by_cases h1 : a = P.n
  · have e : askW P x a = { x with act := .end_ ofNew } := by unfold askW; rw [if_pos h1]
    exact .inl ⟨h1, e, by rw [e]; rfl⟩
  · by_cases h2 : a = 0
    · have e : askW P x a = { x with act := .take 0 (opNew .popReadBottom 0) } := by unfold askW; rw [if_neg h1, if_pos h2]
      exact .inr (.inl ⟨h2, by omega, e, by rw [e]; rfl⟩)
    · have e : askW P x a = { x with act := .take a (opNew .stealReadTop 0) } := by unfold askW; rw [if_neg h1, if_neg h2]
      exact .inr (.inr ⟨by omega, by omega, e, by rw [e]; simp [vaM, h2]⟩)
/-- A worker that is at nothing, with nothing of its act to be held. -/
theorem ShW.acts {x : MW} (h : ShW P k x) (he : x.ended = false) {A : MAct} (h1 : ∀ o, A = .end_ o → o.state ≠ 2 ∧ x.hands = [] ∧ x.places = [] ∧ x.kept = []) (h2 : ∀ a o, A = .take a o → a < P.n ∧ x.hands = [] ∧ x.places = [] ∧ x.kept = []) (h3 : ∀ b o, A = .push b o → o.item = b.t ∧ P.obj b.t = some b) (h4 : ∀ b, A = .mark b → P.obj b.t = some b) : ShW P k { x with act := A } :=
  ⟨⟨fun g => (by rw [show ({ x with act := A } : MW).ended = x.ended from rfl, he] at g; cases g), fun ⟨o, g1, g2⟩ => absurd g2 (h1 o g1).1⟩, h2, fun o g => (h1 o g).2, h3, h4, h.kept⟩
theorem ask_shape {x : MW} (h : ShW P k x) (he : x.ended = false) (hn : x.hands = [] ∧ x.places = [] ∧ x.kept = []) {a : Nat} (ha : a ≤ P.n) (hk : k < P.n) : ShW P k (askW P x a) := by
  rcases ask_cases (k := k) P x a ha hk with ⟨_, e, _⟩ | ⟨_, h1, e, _⟩ | ⟨_, h1, e, _⟩ <;> rw [e]
  · exact h.acts he (fun o g => by cases g; exact ⟨by decide, hn⟩) (fun a o g => by cases g) (fun b o g => by cases g) (fun b g => by cases g)
  · exact h.acts he (fun o g => by cases g) (fun a o g => by cases g; exact ⟨by omega, hn⟩) (fun b o g => by cases g) (fun b g => by cases g)
  · exact h.acts he (fun o g => by cases g) (fun a' o g => by cases g; exact ⟨h1, hn⟩) (fun b o g => by cases g) (fun b g => by cases g)
theorem ask_begins {x : MW} {a : Nat} (ha : a ≤ P.n) (hk : k < P.n) (hE : 0 < a → EmptyV (viewOf (P.cfg k) l)) : BgV P l k (vaM P k (askW P x a)) := by
  have hn := Nat.lt_of_le_of_lt (Nat.zero_le k) hk
  rcases ask_cases (k := k) P x a ha hk with ⟨h1, _, e⟩ | ⟨_, _, _, e⟩ | ⟨h0, h1, _, e⟩ <;> rw [e]
  · exact bg_offer (hE (by omega))
  · exact bg_pop hk
  · obtain ⟨t1, t2⟩ := turn_ne hk h0 h1
    exact bg_steal t2 t1 (hE h0)
theorem val_of {o : OpS} (hd : o.done = true) : (valOf o).2 = o.errno ∧ (o.errno = 0 → (valOf o).1 = o.item) := by
  unfold valOf
  rw [if_pos hd]
  by_cases h : o.errno = 0
  · rw [if_pos h]; exact ⟨h.symm, fun _ => rfl⟩
  · rw [if_neg h]; exact ⟨rfl, fun e => absurd e h⟩
end
section
variable {P : MP} {S : MS} {k : Nat}
theorem AllM.keep (h : AllM P S) {S' : MS} {x : MW} (hX : S'.X = updM S.X k x) (hv : AllV P S'.l (updY (yM P S.X) k (vaM P k x))) (hw : ShW P k x) : AllM P S' := by
  refine ⟨by rw [hX, yM_upd]; exact hv, fun j hj => ?_⟩
  rw [hX]
  by_cases e : j = k
  · subst e; rw [updM_at]; exact hw
  · rw [updM_ne _ _ e]; exact h.w j hj
/-- A take's step. -/
theorem AllM.take (h : AllM P S) (hk : k < P.n) {a : Nat} {o : OpS} (ha : (S.X k).act = .take a o) (he : (S.X k).ended = false) : AllM P (takeM P S k (S.X k) a o) := by
  obtain ⟨i1, i2, i3, i4, i5⟩ := va_take hk ha
  obtain ⟨han, hn⟩ := (h.w k hk).take a o ha
  have hO : OpI P k (vaM P k (S.X k)) := (h.v.sh k hk).op i1
  have el : actL P S.l k (vaM P k (S.X k)) = (stepOf (P.dq k a) S.l o).1 := by unfold actL; rw [i2, i3]
  have eo : actO P S.l k (vaM P k (S.X k)) = (stepOf (P.dq k a) S.l o).2 := by unfold actO; rw [i2, i3]
  have hE := emp_own h.v.ok h.v.wells (k := k) (v := vaM P k (S.X k)) rfl hO hk (h.v.emp k hk)
  have herr := err_step (C := P.cfg (dqV k (vaM P k (S.X k)))) (v := viewOf (P.cfg (dqV k (vaM P k (S.X k)))) S.l) hO.kind hO.err
  rw [← (act_view h.v.ok hO).2] at herr
  change EmpV P (actL P S.l k (vaM P k (S.X k))) k (withV (vaM P k (S.X k)) (actO P S.l k (vaM P k (S.X k)))) at hE
  unfold takeM
  rw [el] at hE
  rw [eo] at hE herr
  rw [i4] at herr
  by_cases hd : (stepOf (P.dq k a) S.l o).2.done = true
  · obtain ⟨ve, vi⟩ := val_of hd
    have hfin := fun u hu => h.v.fin hk (v := vaM P k (S.X k)) rfl i1 (by rw [eo]; exact hd) (u := u) hu
    rw [el] at hfin
    have hErr := herr.1 hd
    simp only [Bool.false_eq_true, if_false] at hErr
    unfold tookW
    rw [if_pos hd, ve]
    by_cases e0 : (stepOf (P.dq k a) S.l o).2.errno = 0
    · rw [if_pos e0]
      exact h.keep rfl (hfin _ bg_loc) ((h.w k hk).acts he (fun o g => by cases g) (fun a o g => by cases g) (fun b o g => by cases g) (fun b g => by cases g))
    · rw [if_neg e0]
      have hEm : 0 < a → EmptyV (viewOf (P.cfg k) (stepOf (P.dq k a) S.l o).1) := fun g => by
        have : vaM P k (S.X k) = .steal ((k + a) % P.n) o := by unfold vaM; rw [ha]; simp only; rw [if_neg (by omega)]
        rw [this] at hE
        exact hE
      by_cases e16 : (stepOf (P.dq k a) S.l o).2.errno = 16
      · rw [if_pos e16]
        exact h.keep rfl (hfin _ (ask_begins (by omega) hk hEm)) (ask_shape (h.w k hk) he hn (by omega) hk)
      · rw [if_neg e16]
        refine h.keep rfl (hfin _ (ask_begins (by omega) hk (fun _ => ?_))) (ask_shape (h.w k hk) he hn (by omega) hk)
        by_cases h0 : a = 0
        · have : vaM P k (S.X k) = .pop o := by unfold vaM; rw [ha]; simp only; rw [if_pos h0]
          rw [this] at hE
          exact hE.1 hd (by omega)
        · exact hEm (by omega)
  · have hd' : (stepOf (P.dq k a) S.l o).2.done = false := by simpa using hd
    have hmid := h.v.mid hk (v := vaM P k (S.X k)) rfl i1 (by rw [eo]; exact hd')
    rw [el, eo, ← i5] at hmid
    unfold tookW
    rw [if_neg hd]
    exact h.keep rfl hmid ((h.w k hk).acts he (fun o g => by cases g) (fun a' o' g => by cases g; exact ⟨han, hn⟩) (fun b o g => by cases g) (fun b g => by cases g))
theorem item_pushS {C : Cfg} {l : List Int} {o : OpS} (hr : C.base + (4 + C.cap + C.over) ≤ l.length) (hcap : 1 ≤ C.cap) (hc : CntOk C o) (hk : KindI true o) : (stepOf C l o).2.item = o.item := by
  rw [(view_step hr hcap hc).2]; exact item_push hk
theorem AllM.push (h : AllM P S) (hk : k < P.n) {b : Blk} {o : OpS} (ha : (S.X k).act = .push b o) (he : (S.X k).ended = false) :
    AllM P { S with l := (stepOf (P.dq k 0) S.l o).1, X := updM S.X k (pushedW (S.X k) b (stepOf (P.dq k 0) S.l o).2), cs := S.cs + 1 } := by
  obtain ⟨i1, i2, i3, i4, i5⟩ := va_push hk ha
  obtain ⟨hit, hob⟩ := (h.w k hk).push b o ha
  have hO : OpI P k (vaM P k (S.X k)) := (h.v.sh k hk).op i1
  have el : actL P S.l k (vaM P k (S.X k)) = (stepOf (P.dq k 0) S.l o).1 := by unfold actL; rw [i2, i3]
  have eo : actO P S.l k (vaM P k (S.X k)) = (stepOf (P.dq k 0) S.l o).2 := by unfold actO; rw [i2, i3]
  by_cases hd : (stepOf (P.dq k 0) S.l o).2.done = true
  · have hfin := h.v.fin hk (v := vaM P k (S.X k)) rfl i1 (by rw [eo]; exact hd) (u := .loc) bg_loc
    rw [el] at hfin
    unfold pushedW
    rw [if_pos hd]
    refine h.keep rfl hfin ⟨⟨fun g => (by simp only at g; rw [he] at g; cases g), fun ⟨o, g1, g2⟩ => by cases g1⟩, fun a o g => (by cases g), fun o g => (by cases g), fun b o g => (by cases g), fun b g => (by cases g), fun c hc => ?_⟩
    simp only at hc
    split at hc
    · exact (h.w k hk).kept c hc
    · rcases List.mem_append.1 hc with hc | hc
      · exact (h.w k hk).kept c hc
      · simp at hc; subst hc; exact hob
  · have hd' : (stepOf (P.dq k 0) S.l o).2.done = false := by simpa using hd
    have hmid := h.v.mid hk (v := vaM P k (S.X k)) rfl i1 (by rw [eo]; exact hd')
    rw [el, eo, ← i5] at hmid
    unfold pushedW
    rw [if_neg hd]
    refine h.keep rfl hmid ((h.w k hk).acts he (fun o g => by cases g) (fun a' o' g => by cases g) (fun b' o' g => ?_) (fun b g => by cases g))
    cases g
    refine ⟨?_, hob⟩
    have := item_pushS (h.v.ok.room hO.dq) h.v.ok.cap hO.cnt (by rw [← i4]; exact hO.kind)
    rw [i2, i3] at this
    rw [this]; exact hit
/-- An offer's step. -/
theorem AllM.ends (h : AllM P S) (hk : k < P.n) {o : OfS} (ha : (S.X k).act = .end_ o) (he : (S.X k).ended = false) :
    AllM P { S with l := (stepQ (P.Q k) S.l o).1, X := updM S.X k (endedW (S.X k) (stepQ (P.Q k) S.l o).2), cs := S.cs + 1 } := by
  have hv : yM P S.X k = .offer o := by unfold yM vaM; rw [ha]
  have hs : ShV P k (.offer o) := hv ▸ h.v.sh k hk
  have h0 : o.state = 0 := by
    rcases hs.2 with g | g
    · exact g
    · have := (h.w k hk).ended.2 ⟨o, ha, g⟩
      rw [he] at this; cases this
  obtain ⟨h1, h2⟩ := h.v.off hk hv h0
  have hn := (h.w k hk).offer o ha
  unfold endedW
  by_cases e2 : (stepQ (P.Q k) S.l o).2.state = 2
  · rw [if_neg (by omega)] at h1
    rw [if_pos e2]
    exact h.keep rfl h1 ⟨⟨fun _ => ⟨_, rfl, e2⟩, fun _ => rfl⟩, fun a o g => (by cases g), fun o g => hn, fun b o g => (by cases g), fun b g => (by cases g), (h.w k hk).kept⟩
  · rw [if_neg e2]
    by_cases e1 : (stepQ (P.Q k) S.l o).2.state = 1
    · rw [if_pos e1] at h1 ⊢
      exact h.keep rfl h1 ((h.w k hk).acts he (fun o g => by cases g) (fun a o g => by cases g) (fun b o g => by cases g) (fun b g => by cases g))
    · rw [if_neg e1] at h1 ⊢
      exact h.keep rfl h1 ((h.w k hk).acts he (fun o g => by cases g; exact ⟨e2, hn⟩) (fun a o g => by cases g) (fun b o g => by cases g) (fun b g => by cases g))
/-- Who is at nothing and stays so, or begins a push. -/
theorem AllM.loc (h : AllM P S) (hk : k < P.n) (hl : vaM P k (S.X k) = .loc) {S' : MS} {x : MW} (hX : S'.X = updM S.X k x) (hL : S'.l = S.l) (hv : BgV P S.l k (vaM P k x)) (hw : ShW P k x) : AllM P S' :=
  h.keep hX (by rw [hL]; exact h.v.set hk hl hv) hw
/-- A pop begun. -/
def popX (x : MW) : MW := { x with act := .take 0 (opNew .popReadBottom 0) }
def preM (S : MS) (k : Nat) : MS := { S with X := updM S.X k (popX (S.X k)) }
theorem pre_at (S : MS) (k : Nat) : (preM S k).X k = popX (S.X k) := updM_at _ _ _
theorem idle_pop (h : AllM P S) (hk : k < P.n) (ha : (S.X k).act = .choose) (he : (S.X k).ended = false) (hn : (S.X k).hands = [] ∧ (S.X k).places = [] ∧ (S.X k).kept = []) : AllM P (preM S k) := by
  have hv := h.v.ok.n1
  refine h.loc hk (by unfold vaM; rw [ha]) rfl rfl ?_ ((h.w k hk).acts he (fun o g => by cases g) (fun a o g => by cases g; exact ⟨by omega, hn⟩) (fun b o g => by cases g) (fun b g => by cases g))
  exact bg_pop hk
theorem take_pre (P : MP) (S : MS) (k : Nat) (a : Nat) (o : OpS) : takeM P S k (S.X k) a o = takeM P (preM S k) k ((preM S k).X k) a o := by
  rw [pre_at]
  unfold takeM preM
  simp only
  rw [updM_twice]
  congr 2
theorem obj_t {P : MP} {r : Int} {b : Blk} (h : P.obj r = some b) : b.t = r := by
  unfold MP.obj at h
  cases hr : readOf P.hw P.cl r with
  | none => rw [hr] at h; cases h
  | some c =>
    rw [hr] at h
    simp only at h
    split at h
    · cases h
    · cases h
      exact (readOf_some hr).1
theorem AllM.chooses (h : AllM P S) (hk : k < P.n) (ha : (S.X k).act = .choose) (he : (S.X k).ended = false) : AllM P (chooseM P S k (S.X k)) := by
  have hl : vaM P k (S.X k) = .loc := by unfold vaM; rw [ha]
  have hw := h.w k hk
  unfold chooseM
  cases hh : (S.X k).hands with
  | cons r hs =>
    simp only
    by_cases h0 : r = 0
    · rw [if_pos h0]
      exact h.loc hk hl rfl rfl (by rw [show vaM P k { S.X k with hands := hs } = .loc from by unfold vaM; simp only; rw [ha]]; exact bg_loc) ⟨hw.ended, fun a o g => (by simp only at g; rw [ha] at g; cases g), fun o g => (by simp only at g; rw [ha] at g; cases g), fun b o g => (by simp only at g; rw [ha] at g; cases g), fun b g => (by simp only at g; rw [ha] at g; cases g), hw.kept⟩
    · rw [if_neg h0]
      cases ho : P.obj r with
      | none =>
        simp only
        exact h.loc hk hl rfl rfl (by rw [show vaM P k { S.X k with hands := hs } = .loc from by unfold vaM; simp only; rw [ha]]; exact bg_loc) ⟨hw.ended, fun a o g => (by simp only at g; rw [ha] at g; cases g), fun o g => (by simp only at g; rw [ha] at g; cases g), fun b o g => (by simp only at g; rw [ha] at g; cases g), fun b g => (by simp only at g; rw [ha] at g; cases g), hw.kept⟩
      | some b =>
        simp only
        refine h.loc hk hl rfl rfl bg_loc ⟨⟨fun g => (by simp only at g; rw [he] at g; cases g), fun ⟨o, g, _⟩ => by cases g⟩, fun a o g => (by cases g), fun o g => (by cases g), fun b o g => (by cases g), fun c g => ?_, hw.kept⟩
        cases g
        rw [obj_t ho]; exact ho
  | nil =>
    simp only
    cases hp : (S.X k).places with
    | cons p ps =>
      simp only
      exact h.loc hk hl rfl rfl (by rw [show vaM P k { S.X k with hands := [P.word p], places := ps, seen := (S.X k).seen + oneIf ps } = .loc from by unfold vaM; simp only; rw [ha]]; exact bg_loc) ⟨hw.ended, fun a o g => (by simp only at g; rw [ha] at g; cases g), fun o g => (by simp only at g; rw [ha] at g; cases g), fun b o g => (by simp only at g; rw [ha] at g; cases g), fun b g => (by simp only at g; rw [ha] at g; cases g), hw.kept⟩
    | nil =>
      simp only
      cases hq : (S.X k).kept.getLast? with
      | some b =>
        simp only
        refine h.loc hk hl rfl rfl bg_loc ⟨⟨fun g => (by simp only [scanW] at g; rw [he] at g; cases g), fun ⟨o, g, _⟩ => by cases g⟩, fun a o g => (by cases g), fun o g => (by cases g), fun b o g => (by cases g), fun c g => (by cases g), fun c hc => hw.kept c ((List.dropLast_sublist _).subset hc)⟩
      | none =>
        simp only
        have hkn : (S.X k).kept = [] := List.getLast?_eq_none_iff.1 hq
        have h1 := idle_pop h hk ha he ⟨hh, hp, hkn⟩
        rw [take_pre P S k 0 (opNew .popReadBottom 0)]
        exact h1.take hk (a := 0) (o := opNew .popReadBottom 0) (by rw [pre_at]; rfl) (by rw [pre_at]; exact he)
theorem AllM.step (h : AllM P S) (hk : k < P.n) : AllM P (stepM P S k) := by
  unfold stepM
  by_cases he : (S.X k).ended = true
  · rw [if_pos he]; exact h
  rw [if_neg he]
  have he' : (S.X k).ended = false := by simpa using he
  have hw := h.w k hk
  cases ha : (S.X k).act with
  | choose => exact h.chooses hk ha he'
  | mark b =>
    simp only
    have hl : vaM P k (S.X k) = .loc := by unfold vaM; rw [ha]
    have hb := hw.mark b ha
    by_cases hf : (Bt.markC P.hw.length S.sz b.t b.s).1 = true
    · refine h.loc hk hl (x := { S.X k with act := .push b (opNew .pushReadBottom b.t) }) (by simp [hf]) rfl (bg_push hk _) (hw.acts he' (fun o g => by cases g) (fun a o g => by cases g) (fun c o g => by cases g; exact ⟨rfl, hb⟩) (fun b g => by cases g))
    · refine h.loc hk hl (x := { S.X k with act := .choose }) (by simp [hf]) rfl bg_loc (hw.acts he' (fun o g => by cases g) (fun a o g => by cases g) (fun c o g => by cases g) (fun b g => by cases g))
  | push b o => exact h.push hk ha he'
  | take a o => exact h.take hk ha he'
  | open_ v =>
    simp only
    have hl : vaM P k (S.X k) = .loc := by unfold vaM; rw [ha]
    cases ho : P.obj v with
    | none =>
      exact h.loc hk hl rfl rfl bg_loc (hw.acts he' (fun o g => by cases g) (fun a o g => by cases g) (fun c o g => by cases g) (fun b g => by cases g))
    | some b =>
      refine h.loc hk hl rfl rfl bg_loc ⟨⟨fun g => (by simp only [scanW] at g; rw [he'] at g; cases g), fun ⟨o, g, _⟩ => by cases g⟩, fun a o g => (by cases g), fun o g => (by cases g), fun b o g => (by cases g), fun c g => (by cases g), hw.kept⟩
  | end_ o => exact h.ends hk ha he'
end
end Go.Proofs.YtgbclfhgpkmcnaaGreatDoor

/-
  The heap as workers see it (package mark's memory): what object, places and ref tell.
-/
namespace Go.Proofs.YtgbclfhgpkmcnaaGreatDoor
open Go.RowKit
set_option linter.unusedVariables false

/-- The heap's value. -/
def mv (ph : Nat) (co : Option Addr) (len cap : Nat) : Value := .agg #[.pointer (some ⟨ph, 0, none⟩), .slice co len cap]

theorem obj_some {P : MP} {r : Int} {b : Blk} (h : P.obj r = some b) : readOf P.hw P.cl r = some b ∧ b.k ≠ 0 := by
  unfold MP.obj at h
  split at h
  · rename_i c hc
    split at h
    · cases h
    · cases h; exact ⟨hc, by assumption⟩
  · cases h
theorem obj_none {P : MP} {r : Int} (h : P.obj r = none) : readOf P.hw P.cl r = none ∨ ∃ b, readOf P.hw P.cl r = some b ∧ b.k = 0 := by
  unfold MP.obj at h
  split at h
  · rename_i c hc
    split at h
    · exact .inr ⟨c, hc, by assumption⟩
    · cases h
  · rename_i hc; exact .inl hc

theorem readE_none {l : List Int} {cs : List Cls} {t : Int} (h : readOf l cs t = none) : readE l cs t ≠ 0 := by
  unfold readE
  rw [h]
  split
  · decide
  · simp

section
variable (w : World) (ph qh len cap : Nat) (co : Option Addr) (P : MP) (s : Int)

set_option maxRecDepth 100000 in
theorem object_some (r : Int) (b : Blk) (hl : P.hw.length ≤ 65536) (hm : Mem w ph qh P.hw s) (hc : CRow w co len P.cl) (h : P.obj r = some b) :
    Calls Tryz.prog 181 #[mv ph co len cap, .int .i64 r] w fun e w' => e = .returned (.tuple #[b.val, .bool true]) ∧ Mem w' ph qh P.hw (wrap64 (s + P.acc r)) ∧ Turned [ph, qh] w w' := by
  obtain ⟨h1, h2⟩ := obj_some h
  obtain ⟨e1, e2, e3, e4, e5, e6, e7, x, e8, e9⟩ := readOf_some h1
  have hacc : P.acc r = 1 := by unfold MP.acc; rw [if_pos (by omega)]
  rw [hacc]
  obtain ⟨i, rfl, hi, hx⟩ := wordAt_some e8
  have g1 : ¬ ((i : Int) < 0) := by omega
  have g2 : ¬ ((P.hw.length : Int) ≤ i) := by omega
  obtain ⟨w0, hw0⟩ : ∃ w0, w0 = (w.alloc (.cells #[.pointer (some ⟨ph, 0, none⟩), .slice co len cap] 114)).alloc (.cells #[.int .i64 0, .int .i64 0, .int .i64 0, .int .i64 0] 54) := ⟨_, rfl⟩
  have ht0 : Turned [] w w0 := by rw [hw0]; exact ((Turned.refl [] w).alloc _).alloc _
  have hg0 : w0.heap[w.heap.size]? = some (.cells #[.pointer (some ⟨ph, 0, none⟩), .slice co len cap] 114) := by
    rw [hw0, Below.heap_alloc _ _ _ (by simp)]; exact heap_alloc_new _ _
  have hr0 : w0.heap[w.heap.size + 1]? = some (.cells #[.int .i64 0, .int .i64 0, .int .i64 0, .int .i64 0] 54) := by
    rw [hw0, show w.heap.size + 1 = (w.alloc (.cells #[.pointer (some ⟨ph, 0, none⟩), .slice co len cap] 114)).heap.size by simp]; exact heap_alloc_new _ _
  have lp := hm.ltp
  have lq := hm.ltq
  have HE := hide (fun w' (t : Turned [ph, qh] w0 w') => And.intro (t.at hg0 (by simp; omega)) (t.at hr0 (by simp; omega)))
  have hm0 := hm.turned ht0 (by simp) (by simp)
  have HL := hide (len_mem ph qh P.hw s w0 hm0)
  have HD := hide (load_in ph qh P.hw s w0 i x hx hm0)
  have HR := hide (fun w' (t : Turned [ph, qh] w0 w') (m : Mem w' ph qh P.hw (wrap64 (s + 1))) => read_some (.pointer (some ⟨ph, 0, none⟩)) P.hw co len cap P.cl i b w' hl m.any ((hc.turned0 ht0).keep t (by
    intro k hk
    simp at hk
    rcases hk with rfl | rfl
    · exact ⟨_, _, _, hm0.head, by decide⟩
    · exact ⟨_, _, _, hm0.row, by decide⟩)).rd h1)
  have HT0 := hide ht0
  have m0 : w0.cell? ⟨w.heap.size, 0, none⟩ = some (.pointer (some ⟨ph, 0, none⟩)) := by rw [cell_of_heap hg0]; rfl
  have hk : ¬ (b.k = 0) := h2
  unfold mv Blk.val
  clear hm hm0 hc h h1 h2 ht0 hg0 hr0 e1 e2 e3 e4 e5 e6 e7 e8 e9 hx hacc hl
  generalize P.hw.length = hn at *
  generalize P.hw = hw at *
  go_enter Tryz.func181, Tryz.ntmps181
  go_wp2_with fail
  rw [← hw0]
  clear hw0
  refine HL.out.mono ?_
  rintro e w' ⟨rfl, rfl⟩
  clear HL
  go_wp2_with fail
  refine HD.out.mono ?_
  rintro e w1 ⟨rfl, m1, t1⟩
  have c := (HE.out w1 t1).1
  have n0 : w1.cell? ⟨w.heap.size, 0, none⟩ = some (.pointer (some ⟨ph, 0, none⟩)) := by rw [cell_of_heap c]; rfl
  have n1 : w1.cell? ⟨w.heap.size, 1, none⟩ = some (.slice co len cap) := by rw [cell_of_heap c]; rfl
  have H1 := hide (And.intro m1 t1)
  clear m0 m1 t1 c HD
  go_wp2_with fail
  refine (HR.out w1 H1.out.2 H1.out.1).mono ?_
  rintro e w2 ⟨rfl, t2⟩
  have t12 := H1.out.2.trans (t2.mono (by simp))
  have c := (HE.out w2 t12).2
  have x0 := cell_of_heap c 0
  have x1 := cell_of_heap c 1
  have x2 := cell_of_heap c 2
  have x3 := cell_of_heap c 3
  have xf := fun i => show World.frozen? w2 ⟨w.heap.size + 1, i, none⟩ = false by simp [World.frozen?, c]
  have xf0 := xf 0
  have xf1 := xf 1
  have xf2 := xf 2
  have xf3 := xf 3
  have H2 := hide (And.intro (H1.out.1.turned t2 (by simp) (by simp)) t12)
  have hsz : w.heap.size + 1 < w2.heap.size := lt_of_heap c
  have hfin := four_set c (.int .i64 b.t) (.int .i64 b.k) (.int .i64 b.n) (.int .i64 b.s)
  have hfin2 := ((Turned.refl [] _).alloc (.cells #[.int .i64 b.t, .int .i64 b.k, .int .i64 b.n, .int .i64 b.s] 54)).at hfin (by simp)
  have HF := hide hfin2
  clear hfin hfin2 xf c t2 t12 HR HE H1 n0 n1
  go_wp2_with fail
  have t3 : Turned [w.heap.size + 1] w2 (((((w2.setCell ⟨w.heap.size + 1, 0, none⟩ (.int .i64 b.t)).setCell ⟨w.heap.size + 1, 1, none⟩ (.int .i64 b.k)).setCell ⟨w.heap.size + 1, 2, none⟩ (.int .i64 b.n)).setCell ⟨w.heap.size + 1, 3, none⟩ (.int .i64 b.s)).alloc (.cells #[.int .i64 b.t, .int .i64 b.k, .int .i64 b.n, .int .i64 b.s] 54)) :=
    (((((Turned.refl _ _).setCell (by simp) _).setCell (by simp) _).setCell (by simp) _).setCell (by simp) _).alloc _
  have y0 := cell_of_heap HF.out 0
  have y1 := cell_of_heap HF.out 1
  have y2 := cell_of_heap HF.out 2
  have y3 := cell_of_heap HF.out 3
  refine bodyPost_ret (v := .tuple #[.agg #[.int .i64 b.t, .int .i64 b.k, .int .i64 b.n, .int .i64 b.s], .bool true]) (by simp [results, Tryz.results181, go_sem, y0, y1, y2, y3]) rfl ⟨rfl, H2.out.1.turned t3 (by simp; omega) (by simp; omega), ((HT0.out.mono (by simp)).trans H2.out.2).trans_new t3 (by simp)⟩
set_option maxRecDepth 100000 in
theorem object_bad (i : Nat) (x : Int) (b : Blk) (E : Int) (hm : Mem w ph qh P.hw s) (hx : P.hw[i]? = some x) (hE : E ≠ 0 ∨ b.k = 0)
    (HRd : ∀ w', Turned [ph, qh] w w' → Mem w' ph qh P.hw (wrap64 (s + 1)) → Calls Tryz.prog 184 #[.pointer (some ⟨ph, 0, none⟩), .slice co len cap, .int .i64 i] w' fun e w'' => e = .returned (.tuple #[.agg #[.int .i64 b.t, .int .i64 b.k, .int .i64 b.n, .int .i64 b.s], .int .i64 E]) ∧ Turned [] w' w'') :
    Calls Tryz.prog 181 #[mv ph co len cap, .int .i64 i] w fun e w' => e = .returned (.tuple #[Blk.zero.val, .bool false]) ∧ Mem w' ph qh P.hw (wrap64 (s + 1)) ∧ Turned [ph, qh] w w' := by
  have hi : i < P.hw.length := (List.getElem?_eq_some_iff.1 hx).1
  have g1 : ¬ ((i : Int) < 0) := by omega
  have g2 : ¬ ((P.hw.length : Int) ≤ i) := by omega
  obtain ⟨w0, hw0⟩ : ∃ w0, w0 = (w.alloc (.cells #[.pointer (some ⟨ph, 0, none⟩), .slice co len cap] 114)).alloc (.cells #[.int .i64 0, .int .i64 0, .int .i64 0, .int .i64 0] 54) := ⟨_, rfl⟩
  have ht0 : Turned [] w w0 := by rw [hw0]; exact ((Turned.refl [] w).alloc _).alloc _
  have hg0 : w0.heap[w.heap.size]? = some (.cells #[.pointer (some ⟨ph, 0, none⟩), .slice co len cap] 114) := by
    rw [hw0, Below.heap_alloc _ _ _ (by simp)]; exact heap_alloc_new _ _
  have hr0 : w0.heap[w.heap.size + 1]? = some (.cells #[.int .i64 0, .int .i64 0, .int .i64 0, .int .i64 0] 54) := by
    rw [hw0, show w.heap.size + 1 = (w.alloc (.cells #[.pointer (some ⟨ph, 0, none⟩), .slice co len cap] 114)).heap.size by simp]; exact heap_alloc_new _ _
  have lp := hm.ltp
  have lq := hm.ltq
  have HE := hide (fun w' (t : Turned [ph, qh] w0 w') => And.intro (t.at hg0 (by simp; omega)) (t.at hr0 (by simp; omega)))
  have hm0 := hm.turned ht0 (by simp) (by simp)
  have HL := hide (len_mem ph qh P.hw s w0 hm0)
  have HD := hide (load_in ph qh P.hw s w0 i x hx hm0)
  have HR := hide (fun w' (t : Turned [ph, qh] w0 w') (m : Mem w' ph qh P.hw (wrap64 (s + 1))) => HRd w' ((ht0.mono (by simp)).trans t) m)
  have HT0 := hide ht0
  have m0 : w0.cell? ⟨w.heap.size, 0, none⟩ = some (.pointer (some ⟨ph, 0, none⟩)) := by rw [cell_of_heap hg0]; rfl
  unfold mv Blk.val Blk.zero
  simp only
  clear hm hm0 ht0 hg0 hr0 hx HRd
  generalize P.hw.length = hn at *
  generalize P.hw = hw at *
  go_enter Tryz.func181, Tryz.ntmps181
  go_wp2_with fail
  rw [← hw0]
  clear hw0
  refine HL.out.mono ?_
  rintro e w' ⟨rfl, rfl⟩
  clear HL
  go_wp2_with fail
  refine HD.out.mono ?_
  rintro e w1 ⟨rfl, m1, t1⟩
  have c := (HE.out w1 t1).1
  have n0 : w1.cell? ⟨w.heap.size, 0, none⟩ = some (.pointer (some ⟨ph, 0, none⟩)) := by rw [cell_of_heap c]; rfl
  have n1 : w1.cell? ⟨w.heap.size, 1, none⟩ = some (.slice co len cap) := by rw [cell_of_heap c]; rfl
  have H1 := hide (And.intro m1 t1)
  clear m0 m1 t1 c HD
  go_wp2_with fail
  refine (HR.out w1 H1.out.2 H1.out.1).mono ?_
  rintro e w2 ⟨rfl, t2⟩
  have t12 := H1.out.2.trans (t2.mono (by simp))
  have c := (HE.out w2 t12).2
  have x0 := cell_of_heap c 0
  have x1 := cell_of_heap c 1
  have x2 := cell_of_heap c 2
  have x3 := cell_of_heap c 3
  have xf := fun i => show World.frozen? w2 ⟨w.heap.size + 1, i, none⟩ = false by simp [World.frozen?, c]
  have xf0 := xf 0
  have xf1 := xf 1
  have xf2 := xf 2
  have xf3 := xf 3
  have H2 := hide (And.intro (H1.out.1.turned t2 (by simp) (by simp)) t12)
  have hsz : w.heap.size + 1 < w2.heap.size := lt_of_heap c
  have hfin := four_set c (.int .i64 0) (.int .i64 0) (.int .i64 0) (.int .i64 0)
  have hfin2 := ((Turned.refl [] _).alloc (.cells #[.int .i64 b.t, .int .i64 b.k, .int .i64 b.n, .int .i64 b.s] 54)).at hfin (by simp)
  have HF := hide hfin2
  clear hfin hfin2 xf c t2 t12 HR HE H1 n0 n1
  have t3 : Turned [w.heap.size + 1] w2 (((((w2.setCell ⟨w.heap.size + 1, 0, none⟩ (.int .i64 0)).setCell ⟨w.heap.size + 1, 1, none⟩ (.int .i64 0)).setCell ⟨w.heap.size + 1, 2, none⟩ (.int .i64 0)).setCell ⟨w.heap.size + 1, 3, none⟩ (.int .i64 0)).alloc (.cells #[.int .i64 b.t, .int .i64 b.k, .int .i64 b.n, .int .i64 b.s] 54)) :=
    (((((Turned.refl _ _).setCell (by simp) _).setCell (by simp) _).setCell (by simp) _).setCell (by simp) _).alloc _
  have HT3 := hide t3
  clear t3
  by_cases hE0 : E = 0
  · have hk : b.k = 0 := by rcases hE with h | h; exact absurd hE0 h; exact h
    subst hE0
    rw [hk] at HF HT3
    rw [hk]
    clear hE hk
    go_wp2_with fail
    have y0 := cell_of_heap HF.out 0
    have y1 := cell_of_heap HF.out 1
    have y2 := cell_of_heap HF.out 2
    have y3 := cell_of_heap HF.out 3
    refine bodyPost_ret (v := .tuple #[.agg #[.int .i64 0, .int .i64 0, .int .i64 0, .int .i64 0], .bool false]) (by simp [results, Tryz.results181, go_sem, y0, y1, y2, y3]) rfl ⟨rfl, H2.out.1.turned HT3.out (by simp; omega) (by simp; omega), ((HT0.out.mono (by simp)).trans H2.out.2).trans_new HT3.out (by simp)⟩
  · clear hE
    go_wp2_with fail
    have y0 := cell_of_heap HF.out 0
    have y1 := cell_of_heap HF.out 1
    have y2 := cell_of_heap HF.out 2
    have y3 := cell_of_heap HF.out 3
    refine bodyPost_ret (v := .tuple #[.agg #[.int .i64 0, .int .i64 0, .int .i64 0, .int .i64 0], .bool false]) (by simp [results, Tryz.results181, go_sem, y0, y1, y2, y3]) rfl ⟨rfl, H2.out.1.turned HT3.out (by simp; omega) (by simp; omega), ((HT0.out.mono (by simp)).trans H2.out.2).trans_new HT3.out (by simp)⟩

set_option maxRecDepth 100000 in
theorem object_out (r : Int) (hm : Mem w ph qh P.hw s) (h : r < 0 ∨ (P.hw.length : Int) ≤ r) :
    Calls Tryz.prog 181 #[mv ph co len cap, .int .i64 r] w fun e w' => e = .returned (.tuple #[Blk.zero.val, .bool false]) ∧ Turned [] w w' := by
  obtain ⟨w0, hw0⟩ : ∃ w0, w0 = (w.alloc (.cells #[.pointer (some ⟨ph, 0, none⟩), .slice co len cap] 114)).alloc (.cells #[.int .i64 0, .int .i64 0, .int .i64 0, .int .i64 0] 54) := ⟨_, rfl⟩
  have ht0 : Turned [] w w0 := by rw [hw0]; exact ((Turned.refl [] w).alloc _).alloc _
  have hg0 : w0.heap[w.heap.size]? = some (.cells #[.pointer (some ⟨ph, 0, none⟩), .slice co len cap] 114) := by
    rw [hw0, Below.heap_alloc _ _ _ (by simp)]; exact heap_alloc_new _ _
  have hr0 : w0.heap[w.heap.size + 1]? = some (.cells #[.int .i64 0, .int .i64 0, .int .i64 0, .int .i64 0] 54) := by
    rw [hw0, show w.heap.size + 1 = (w.alloc (.cells #[.pointer (some ⟨ph, 0, none⟩), .slice co len cap] 114)).heap.size by simp]; exact heap_alloc_new _ _
  have hm0 := hm.turned ht0 (by simp) (by simp)
  have HL := hide (len_mem ph qh P.hw s w0 hm0)
  have m0 : w0.cell? ⟨w.heap.size, 0, none⟩ = some (.pointer (some ⟨ph, 0, none⟩)) := by rw [cell_of_heap hg0]; rfl
  have x0 := cell_of_heap hr0 0
  have x1 := cell_of_heap hr0 1
  have x2 := cell_of_heap hr0 2
  have x3 := cell_of_heap hr0 3
  have xf := fun i => show World.frozen? w0 ⟨w.heap.size + 1, i, none⟩ = false by simp [World.frozen?, hr0]
  have xf0 := xf 0
  have xf1 := xf 1
  have xf2 := xf 2
  have xf3 := xf 3
  have HF := hide (four_set hr0 (.int .i64 0) (.int .i64 0) (.int .i64 0) (.int .i64 0))
  have t3 : Turned [] w ((((w0.setCell ⟨w.heap.size + 1, 0, none⟩ (.int .i64 0)).setCell ⟨w.heap.size + 1, 1, none⟩ (.int .i64 0)).setCell ⟨w.heap.size + 1, 2, none⟩ (.int .i64 0)).setCell ⟨w.heap.size + 1, 3, none⟩ (.int .i64 0)) :=
    (((ht0.setCell (.inr (by simp)) _).setCell (.inr (by simp)) _).setCell (.inr (by simp)) _).setCell (.inr (by simp)) _
  have HT3 := hide t3
  have HT0 := hide ht0
  unfold mv Blk.val Blk.zero
  simp only
  clear hm hm0 ht0 hg0 hr0 xf t3
  by_cases h1 : r < 0
  · clear h
    go_enter Tryz.func181, Tryz.ntmps181
    go_wp2_with fail
    rw [← hw0]
    refine bodyPost_ret (v := .tuple #[.agg #[.int .i64 0, .int .i64 0, .int .i64 0, .int .i64 0], .bool false]) (by simp [results, Tryz.results181, go_sem, x0, x1, x2, x3]) rfl ⟨rfl, HT0.out⟩
  · have h2 : (P.hw.length : Int) ≤ r := by omega
    clear h
    generalize P.hw.length = hn at *
    go_enter Tryz.func181, Tryz.ntmps181
    go_wp2_with fail
    rw [← hw0]
    clear hw0
    refine HL.out.mono ?_
    rintro e w' ⟨rfl, rfl⟩
    clear HL
    go_wp2_with fail
    have y0 := cell_of_heap HF.out 0
    have y1 := cell_of_heap HF.out 1
    have y2 := cell_of_heap HF.out 2
    have y3 := cell_of_heap HF.out 3
    refine bodyPost_ret (v := .tuple #[.agg #[.int .i64 0, .int .i64 0, .int .i64 0, .int .i64 0], .bool false]) (by simp [results, Tryz.results181, go_sem, y0, y1, y2, y3]) rfl ⟨rfl, HT3.out⟩

/-- There is no object. -/
theorem object_none (r : Int) (hr : In64 r) (hl : P.hw.length ≤ 65536) (hs : wrap64 s = s) (hm : Mem w ph qh P.hw s) (hc : CRow w co len P.cl) (h : P.obj r = none) :
    Calls Tryz.prog 181 #[mv ph co len cap, .int .i64 r] w fun e w' => e = .returned (.tuple #[Blk.zero.val, .bool false]) ∧ Mem w' ph qh P.hw (wrap64 (s + P.acc r)) ∧ Turned [ph, qh] w w' := by
  by_cases ho : r < 0 ∨ (P.hw.length : Int) ≤ r
  · have ha : P.acc r = 0 := by unfold MP.acc; rw [if_neg (by omega)]
    rw [ha, Int.add_zero, hs]
    refine (object_out w ph qh len cap co P s r hm ho).mono ?_
    rintro e w' ⟨rfl, t⟩
    exact ⟨rfl, hm.turned t (by simp) (by simp), t.mono (by simp)⟩
  · have ha : P.acc r = 1 := by unfold MP.acc; rw [if_pos (by omega)]
    rw [ha]
    obtain ⟨i, rfl⟩ : ∃ i : Nat, r = i := ⟨r.toNat, by omega⟩
    obtain ⟨x, hx⟩ : ∃ x, P.hw[i]? = some x := ⟨P.hw[i]'(by omega), by simp⟩
    have hk : ∀ w', Turned [ph, qh] w w' → CRow w' co len P.cl := fun w' t => hc.keep t (by
      intro k hk
      simp at hk
      rcases hk with rfl | rfl
      · exact ⟨_, _, _, hm.head, by decide⟩
      · exact ⟨_, _, _, hm.row, by decide⟩)
    rcases obj_none h with h1 | ⟨b, h1, h2⟩
    · refine object_bad w ph qh len cap co P s i x Blk.zero (readE P.hw P.cl i) hm hx (.inl (readE_none h1)) (fun w' t m => ?_)
      exact read_none (.pointer (some ⟨ph, 0, none⟩)) P.hw co len cap P.cl i w' hl m.any (hk w' t).rd hr h1
    · refine object_bad w ph qh len cap co P s i x b 0 hm hx (.inr h2) (fun w' t m => ?_)
      exact read_some (.pointer (some ⟨ph, 0, none⟩)) P.hw co len cap P.cl i b w' hl m.any (hk w' t).rd h1

/-- A reference's word. -/
theorem refw_any (i : Nat) (x : Int) (hx : P.hw[i]? = some x) (hm : Mem w ph qh P.hw s) :
    Calls Tryz.prog 183 #[mv ph co len cap, .int .i64 i] w fun e w' => e = .returned (.int .i64 x) ∧ Mem w' ph qh P.hw (wrap64 (s + 1)) ∧ Turned [ph, qh] w w' := by
  obtain ⟨w0, hw0⟩ : ∃ w0, w0 = w.alloc (.cells #[.pointer (some ⟨ph, 0, none⟩), .slice co len cap] 114) := ⟨_, rfl⟩
  have ht0 : Turned [] w w0 := by rw [hw0]; exact (Turned.refl [] w).alloc _
  have hg0 : w0.heap[w.heap.size]? = some (.cells #[.pointer (some ⟨ph, 0, none⟩), .slice co len cap] 114) := by
    rw [hw0]; exact heap_alloc_new _ _
  have m0 : w0.cell? ⟨w.heap.size, 0, none⟩ = some (.pointer (some ⟨ph, 0, none⟩)) := by rw [cell_of_heap hg0]; rfl
  have HD := hide (load_in ph qh P.hw s w0 i x hx (hm.turned ht0 (by simp) (by simp)))
  have HT0 := hide ht0
  unfold mv
  clear hm hx ht0 hg0
  go_enter Tryz.func183, Tryz.ntmps183
  go_wp2_with fail
  rw [← hw0]
  clear hw0
  refine HD.out.mono ?_
  rintro e w1 ⟨rfl, m1, t1⟩
  have H1 := hide (And.intro m1 ((HT0.out.mono (by simp)).trans t1))
  clear m1 t1 HD HT0 m0
  go_wp2_with fail
  go_ret
  exact ⟨rfl, H1.out⟩

set_option maxRecDepth 100000 in
/-- Where an object's references stand: a row of its own. -/
theorem places_any (b : Blk) (hn : In64 b.n) (ht : 0 ≤ b.t ∧ b.t ≤ 65536) (hc : CRow w co len P.cl) :
    Calls Tryz.prog 182 #[mv ph co len cap, b.val] w fun e w' => ∃ g c, e = .returned (.slice (some ⟨g, 0, none⟩) (P.places b).length (P.places b).length) ∧ w.heap.size ≤ g ∧ w'.heap[g]? = some (.cells c 3 (0, 0)) ∧ c.size = (P.places b).length ∧ (∀ (i : Nat) x, (P.places b)[i]? = some x → c[i]? = some (.int .i64 x)) ∧ Turned [] w w' := by
  obtain ⟨w0, hw0⟩ : ∃ w0, w0 = (w.alloc (.cells #[.pointer (some ⟨ph, 0, none⟩), .slice co len cap] 114)).alloc (.cells #[.int .i64 b.t, .int .i64 b.k, .int .i64 b.n, .int .i64 b.s] 54) := ⟨_, rfl⟩
  have ht0 : Turned [] w w0 := by rw [hw0]; exact ((Turned.refl [] w).alloc _).alloc _
  have hg0 : w0.heap[w.heap.size]? = some (.cells #[.pointer (some ⟨ph, 0, none⟩), .slice co len cap] 114) := by
    rw [hw0, Below.heap_alloc _ _ _ (by simp)]; exact heap_alloc_new _ _
  have hr0 : w0.heap[w.heap.size + 1]? = some (.cells #[.int .i64 b.t, .int .i64 b.k, .int .i64 b.n, .int .i64 b.s] 54) := by
    rw [hw0, show w.heap.size + 1 = (w.alloc (.cells #[.pointer (some ⟨ph, 0, none⟩), .slice co len cap] 114)).heap.size by simp]; exact heap_alloc_new _ _
  have m1 : w0.cell? ⟨w.heap.size, 1, none⟩ = some (.slice co len cap) := by rw [cell_of_heap hg0]; rfl
  have r1 : w0.cell? ⟨w.heap.size + 1, 1, none⟩ = some (.int .i64 b.k) := by rw [cell_of_heap hr0]; rfl
  have r2 : w0.cell? ⟨w.heap.size + 1, 2, none⟩ = some (.int .i64 b.n) := by rw [cell_of_heap hr0]; rfl
  have HC := hide (refs_block co len cap P.cl b.k b.n w0 hn (hc.turned0 ht0).rd)
  have hm65 : (refsOf P.cl b.k b.n).toNat ≤ 65535 := by have := refsOf_range P.cl b.k b.n; omega
  have HX : Hid ((P.places b).length = (refsOf P.cl b.k b.n).toNat ∧ ∀ (i : Nat), i < (refsOf P.cl b.k b.n).toNat → (P.places b)[i]? = some ((i : Int) + 1 + b.t)) := by
    unfold MP.places
    refine ⟨by simp [rowTo_length], fun i hi => ?_⟩
    rw [List.getElem?_map, rowTo_get hi]
    rfl
  rw [HX.out.1]
  have HX2 := hide HX.out.2
  have HX3 := hide HX.out.1
  generalize P.places b = L at *
  clear HX
  generalize (refsOf P.cl b.k b.n).toNat = m at *
  have HR0 := hide hr0
  have HT0 := hide ht0
  unfold mv Blk.val
  clear hc hg0 hr0 ht0
  go_enter Tryz.func182, Tryz.ntmps182
  go_wp2_with fail
  rw [← hw0]
  clear hw0
  refine HC.out.mono ?_
  rintro e w1 ⟨g, cp, rfl, hrd, t1, hg, rfl, c, hh, hsz⟩
  have HI : Hid (w1.heap[g]? = some (.cells c 3 (0, 0)) ∧ c.size = cp ∧ ∀ i : Nat, i < cp → c[i]? = some (.int .i64 ((i : Int) + 1))) := by
    refine ⟨hh, hsz, fun i hi => ?_⟩
    obtain ⟨b', off, e1, e2⟩ := hrd.cell i _ (rowTo_get hi)
    cases e1
    rw [Nat.zero_add, cell_of_heap hh] at e2
    exact e2
  have hgw : w.heap.size + 1 < g := by have := lt_of_heap HR0.out; omega
  have hz : w1.cell? ⟨w.heap.size + 1, 0, none⟩ = some (.int .i64 b.t) := by rw [cell_of_heap (t1.at HR0.out (by simp))]; rfl
  have HT1 := hide (HT0.out.trans t1)
  clear hrd t1 hg hh hsz HC m1 r1 r2 HR0 HT0
  go_wp2_with fail
  go_loopw [16] (fun i wr => ∃ (j : Nat) (c : Array Value), j ≤ cp ∧ i = .int .i64 j ∧ wr.cell? ⟨w.heap.size + 1, 0, none⟩ = some (.int .i64 b.t) ∧ Hid (wr.heap[g]? = some (.cells c 3 (0, 0)) ∧ c.size = cp ∧ ∀ i : Nat, i < cp → c[i]? = some (.int .i64 (if i < j then (i : Int) + 1 + b.t else (i : Int) + 1))) ∧ Hid (Turned [] w wr)) (fun i _ => cp - (intOf i).toNat)
  case atStart => exact ⟨0, c, Nat.zero_le _, rfl, hz, ⟨HI.out.1, HI.out.2.1, fun i hi => by simpa using HI.out.2.2 i hi⟩, HT1⟩
  case round =>
    obtain ⟨j, c', hj, rfl, hz', HI', HTr⟩ := hrel
    clear HI
    by_cases hlt : j < cp
    · have hc := HI'.out.1
      have hcell : wr.cell? ⟨g, j, none⟩ = some (.int .i64 ((j : Int) + 1)) := by rw [cell_of_heap hc, HI'.out.2.2 j hlt]; simp
      have hfz : wr.frozen? ⟨g, j, none⟩ = false := by simp [World.frozen?, hc]
      have hw64 : wrap64 ((j : Int) + 1 + b.t) = (j : Int) + 1 + b.t := w64 _ (by omega)
      have hw65 : IntKind.i64.wrap ((j : Int) + 1 + b.t) = (j : Int) + 1 + b.t := by rw [IntKind.wrap_i64]; omega
      have HI2 : Hid ((wr.setCell ⟨g, j, none⟩ (.int .i64 ((j : Int) + 1 + b.t))).heap[g]? = some (.cells (c'.setIfInBounds j (.int .i64 ((j : Int) + 1 + b.t))) 3 (0, 0)) ∧ (c'.setIfInBounds j (.int .i64 ((j : Int) + 1 + b.t))).size = cp ∧ ∀ i : Nat, i < cp → (c'.setIfInBounds j (.int .i64 ((j : Int) + 1 + b.t)))[i]? = some (.int .i64 (if i < j + 1 then (i : Int) + 1 + b.t else (i : Int) + 1))) := by
        refine ⟨heap_setCell_at _ _ _ _ _ _ hc _, by simp [HI'.out.2.1], fun i hi => ?_⟩
        by_cases he : i = j
        · subst he
          rw [Array.getElem?_setIfInBounds_self_of_lt (by have := HI'.out.2.1; omega)]
          simp
        · rw [Array.getElem?_setIfInBounds_ne (by omega), HI'.out.2.2 i hi]
          by_cases h1 : i < j
          · rw [if_pos h1, if_pos (by omega)]
          · rw [if_neg h1, if_neg (by omega)]
      have HT3 := hide (HTr.out.setCell (p := ⟨g, j, none⟩) (.inr (by show w.heap.size ≤ g; omega)) (.int .i64 ((j : Int) + 1 + b.t)))
      have hz3 : (wr.setCell ⟨g, j, none⟩ (.int .i64 ((j : Int) + 1 + b.t))).cell? ⟨w.heap.size + 1, 0, none⟩ = some (.int .i64 b.t) := by
        rw [World.cell?_setCell_far _ _ _ _ (by show g ≠ w.heap.size + 1; omega)]; exact hz'
      have HZ3 := hide hz3
      clear hc HI' HTr hz3 hz
      go_wp2_with fail
      go_region
      go_wp2_with fail
      go_roundw
      case rel => exact ⟨j + 1, _, by omega, by go_num, HZ3.out, HI2, hide HT3.out.drew⟩
      case measure => simp [intOf]; omega
    · have hjm : j = cp := by omega
      subst hjm
      go_wp2_with fail
      go_ret
      refine ⟨g, c', rfl, by omega, HI'.out.1, HI'.out.2.1, fun i x hx => ?_, HTr.out⟩
      have hi : i < j := by
        by_cases hi : i < j
        · exact hi
        · have h1 := HX3.out
          have := (List.getElem?_eq_some_iff.1 hx).1
          omega
      rw [HX2.out i hi] at hx
      cases hx
      have := HI'.out.2.2 i hi
      rw [if_pos hi] at this
      exact this
end
end Go.Proofs.YtgbclfhgpkmcnaaGreatDoor

/-
  slices.Grow and slices.Concat of rows of deques.
-/
namespace Go.Proofs.YtgbclfhgpkmcnaaGreatDoor
open Go.RowKit
set_option linter.unusedVariables false

set_option maxRecDepth 10000 in
/-- slices.Grow of nil. -/
theorem grow_dqs (w : World) (n : Nat) (hn : n ≤ 1000000) :
    Calls Tryz.prog 68 #[.slice none 0 0, .int .i64 n] w fun e w' => ∃ v, e = .returned v ∧ w'.ownsRow w.heap.size 120 1 v 0 [] ∧ Turned [] w w' := by
  obtain ⟨i0, hi, hi0⟩ := Option.map_eq_some_iff.1 Tryz.infoDq
  simp only [Prod.mk.injEq] at hi0
  obtain ⟨hz0, hz1, hz2⟩ := hi0
  have und := Tryz.underlying84
  have undi : Tryz.prog.underlying 3 = some (.int .i64) := by kernel_rfl
  by_cases h0 : n = 0
  · subst h0
    go_enter Tryz.func68, Tryz.ntmps68
    go_wp2_with fail
    go_ret
    exact ⟨_, rfl, World.ownsRow_nil _ _ _ _, Turned.refl _ _⟩
  · have hr := fun ty => Lib.run_append_nil_zeros (P := Tryz.prog) w 84 3 ty 120 i0 (.pointer none) .i64 .i64 und undi hi hz0 n (by omega) (by omega) (by omega) (by rw [hz2]; omega)
    have hge := grownCap_ge w n 0 120
    have hle := grownCap_le_maxLen w n 0 120 (by unfold maxLen; omega)
    generalize grownCap w n 0 120 = G at *
    have hpos : (0 : Int) < (n : Int) := by omega
    go_enter Tryz.func68, Tryz.ntmps68
    go_wp2_with (at_builtin; refine Lib.wpList_append_run _ rfl _ _ _ _ rfl _ _ rfl rfl _ _ (hr _) ?_)
    go_ret
    refine ⟨_, rfl, ?_, ((Turned.refl [] w).drew).alloc _⟩
    have := World.ownsRow_made (base := w.heap.size) (e := 120) (size := 1) w.drew (Builtin.zeroCells #[Value.pointer none] n ++ Builtin.zeroCells #[Value.pointer none] (G - n)) G (Nat.le_refl _) hle (by simp [Builtin.zeroCells]; omega)
    exact this

/-- A slice of words that can be read. -/
def IP (w : World) (v : Value) (l : List Nat) : Prop := (v = .slice none 0 0 ∧ l = []) ∨ ∃ g off cap, v = .slice (some ⟨g, off, none⟩) l.length cap ∧ g < w.heap.size ∧ ∀ i x, l[i]? = some x → w.cell? ⟨g, off + i, none⟩ = some (pd x)
theorem IP.turned {w w' : World} {v : Value} {l : List Nat} (h : IP w v l) (t : Turned [] w w') : IP w' v l := by
  rcases h with h | ⟨g, off, cap, h1, h2, h3⟩
  · exact .inl h
  · exact .inr ⟨g, off, cap, h1, Nat.lt_of_lt_of_le h2 t.size, fun i x hx => by rw [t.cell (p := ⟨g, off + i, none⟩) h2 (by simp)]; exact h3 i x hx⟩
theorem IP.shape {w : World} {v : Value} {l : List Nat} (h : IP w v l) : ∃ ao cp, v = .slice ao l.length cp := by
  rcases h with ⟨rfl, rfl⟩ | ⟨g, off, cp, rfl, _⟩
  · exact ⟨none, 0, rfl⟩
  · exact ⟨_, cp, rfl⟩
set_option maxRecDepth 10000 in
theorem concat_dqs (w : World) (B cap : Nat) (vs : List Value) (ls : List (List Nat)) (hlen : ls.length = vs.length) (hn : vs.length ≤ 100) (hB : ∀ (i : Nat) v, vs[i]? = some v → w.cell? ⟨B, i, none⟩ = some v) (hI : ∀ (i : Nat) v, vs[i]? = some v → ∃ l, ls[i]? = some l ∧ IP w v l) (hm : ∀ l, l ∈ ls → l.length ≤ 10000) :
    Calls Tryz.prog 55 #[.slice (some ⟨B, 0, none⟩) vs.length cap] w fun e w' => ∃ v, e = .returned v ∧ (∃ n, w'.ownsRow w.heap.size 120 1 v n (ls.flatten.map pd)) ∧ Turned [] w w' := by
  have hsucc : ∀ (i : Nat) l, ls[i]? = some l → (ls.take (i + 1)).flatten = (ls.take i).flatten ++ l := by
    intro i l hl
    rw [List.take_add_one, hl, List.flatten_append]
    simp
  have hsum : ∀ i : Nat, i ≤ vs.length → (ls.take i).flatten.length ≤ i * 10000 := by
    intro i
    induction i with
    | zero => intro _; simp
    | succ i ih =>
      intro hi
      obtain ⟨l, hl⟩ : ∃ l, ls[i]? = some l := ⟨_, List.getElem?_eq_getElem (by omega)⟩
      rw [hsucc i l hl, List.length_append]
      have h1 := ih (by omega)
      have h2 := hm l (List.mem_of_getElem? hl)
      omega
  have HS := hide hsum
  have HC := hide hsucc
  have HI := hide hI
  have HB := hide hB
  have HLN := hide hlen
  have HM := hide hm
  have HG := hide (fun W n hn => grow_dqs W n hn)
  obtain ⟨i0, hi, hi0⟩ := Option.map_eq_some_iff.1 Tryz.infoDq
  simp only [Prod.mk.injEq] at hi0
  obtain ⟨hz0, hz1, hz2⟩ := hi0
  clear hsum hsucc hI hB hlen hm
  go_enter Tryz.func55, Tryz.ntmps55
  go_wp2_with fail
  go_loopg [3, 5, 11] vs.length (fun gg s3 _ s11 wr => ∃ i k : Nat, s3 = .int .i64 (k : Int) ∧ s11 = .int .i64 (i : Int) ∧ i ≤ vs.length ∧ vs.length - i ≤ gg ∧ k ≤ 1000000 ∧ Aside ((ls.take i).flatten.length = k) ∧ Aside (wr = w))
  case atStart => exact ⟨0, 0, rfl, rfl, by omega, by omega, by omega, rfl, rfl⟩
  case round =>
    obtain ⟨i, k, rfl, rfl, hiv, hgg, hk, hsz, hwr⟩ := hrel
    have hwr' : w = wr := hwr.out.symm
    subst hwr'
    by_cases hlt : i < vs.length
    · have hltz : (i : Int) < (vs.length : Int) := by omega
      obtain ⟨v, hv⟩ : ∃ v, vs[i]? = some v := ⟨_, List.getElem?_eq_getElem hlt⟩
      obtain ⟨l, hl, hir⟩ := HI.out i v hv
      have hc := HB.out i v hv
      have hll := HM.out l (List.mem_of_getElem? hl)
      have hs2 := HS.out (i + 1) (by omega)
      have hfl := HC.out i l hl
      have hk2 : k + l.length ≤ 1000000 := by
        rw [hfl, List.length_append, hsz.out] at hs2
        omega
      have HK2 := hide (show (ls.take (i + 1)).flatten.length = k + l.length by rw [hfl, List.length_append, hsz.out])
      obtain ⟨ao, cp, hvv⟩ : ∃ ao cp, v = .slice ao l.length cp := by
        rcases hir with ⟨rfl, rfl⟩ | ⟨g, off, cp, rfl, _⟩
        · exact ⟨none, 0, rfl⟩
        · exact ⟨_, cp, rfl⟩
      subst hvv
      clear hir hs2 hfl hv hl
      have hneg : ¬ ((k : Int) + (l.length : Int) < 0) := by omega
      generalize l.length = n at *
      go_wp2_with fail
      go_roundg (vs.length - (i + 1))
      case measure => omega
      case rel => exact ⟨i + 1, k + n, by go_num, by go_num, by omega, Nat.le_refl _, hk2, HK2.out, rfl⟩
    · have hltz : ¬ (i : Int) < (vs.length : Int) := by omega
      have e : i = vs.length := by omega
      subst e
      go_wp2_with fail
      refine (HG.out _ k hk).mono ?_
      rintro e w1 ⟨v1, rfl, ho1, ht1⟩
      have HO1 := hide ho1
      have HT1 := hide ht1
      obtain ⟨-, ao1, cap1, hv1, -⟩ := ownsRow_any ho1
      subst hv1
      clear ho1 ht1 HG
      go_wp2_with fail
      go_loopg [6, 8, 27] vs.length (fun gg s6 _ s27 wr => ∃ (i m cp : Nat) (ao : Option Addr), s6 = .slice ao m cp ∧ s27 = .int .i64 (i : Int) ∧ i ≤ vs.length ∧ vs.length - i ≤ gg ∧ Aside ((ls.take i).flatten.length = m) ∧ Aside (wr.ownsRow w.heap.size 120 1 (.slice ao m cp) m ((ls.take i).flatten.map pd)) ∧ Aside (Turned [] w wr))
      case atStart => exact ⟨0, 0, cap1, ao1, rfl, rfl, by omega, by omega, rfl, HO1.out, HT1.out⟩
      case round =>
        obtain ⟨j, m, cp, ao, rfl, rfl, hjv, hgg2, hm2, hown, htu⟩ := hrel
        by_cases hlt2 : j < vs.length
        · have hltz2 : (j : Int) < (vs.length : Int) := by omega
          obtain ⟨v, hv⟩ : ∃ v, vs[j]? = some v := ⟨_, List.getElem?_eq_getElem hlt2⟩
          obtain ⟨l, hl, hir⟩ := HI.out j v hv
          have hc0 := HB.out j v hv
          have hc : wr.cell? ⟨B, j, none⟩ = some v := by rw [htu.out.cell (p := ⟨B, j, none⟩) (block_lt hc0) (by simp)]; exact hc0
          have hir2 := hir.turned htu.out
          have hs2 := HS.out (j + 1) (by omega)
          have hfl := HC.out j l hl
          have hk2 : m + l.length ≤ 1000000 := by
            rw [hfl, List.length_append, hm2.out] at hs2
            omega
          have HFL := hide hfl
          clear hs2 hfl hv hl hc0 hir
          rcases hir2 with ⟨rfl, rfl⟩ | ⟨g, off, cp2, rfl, hg, hcell⟩
          · go_wp2_with (at_builtin; refine wpList_append_own_none rfl _ _ 84 rfl w.heap.size 120 i0 1 Tryz.underlying84 hi _ _ _ rfl hown.out rfl ?_)
            go_roundg (vs.length - (j + 1))
            case measure => omega
            case rel =>
              have e : (ls.take (j + 1)).flatten = (ls.take j).flatten := by rw [HFL.out, List.append_nil]
              exact ⟨j + 1, m, cp, ao, rfl, by go_num, by omega, Nat.le_refl _, by rw [e]; exact hm2, by rw [e]; exact hown, htu⟩
          · have HCE : Hid (∀ t u, (l.map pd)[t]? = some u → wr.cell? (Addr.add ⟨g, off, none⟩ t) = some u) := by
              intro t u hu
              rw [List.getElem?_map] at hu
              obtain ⟨x, hx, rfl⟩ := Option.map_eq_some_iff.1 hu
              rw [show Addr.add ⟨g, off, none⟩ t = ⟨g, off + t, none⟩ by by_cases ht : t = 0 <;> simp [Addr.add, ht]]
              exact hcell t x hx
            clear hcell
            go_wp2_with (at_builtin; (refine wpList_append_own _ rfl _ _ 84 rfl w.heap.size 120 i0 (.pointer none) 1 8 Tryz.underlying84 hi hz0 hz1 hz2 rfl (by decide) _ _ _ rfl hown.out ⟨g, off, none⟩ l.length cp2 (l.map pd) rfl (by simp) HCE.out (by intro u hu; obtain ⟨x, _, rfl⟩ := List.mem_map.1 hu; rfl) (by unfold maxLen; omega) (by omega) htu.out.size ?_); intro v' w3 hown' hgrow3 hnil3; have HO3 := hide hown'; have HT3 := hide (htu.out.grown hgrow3 (fun k hk => .inr (ownsRow_lt hown.out k hk).1)); clear hown' hgrow3 hnil3)
            obtain ⟨-, ao3, cap3, hv3, -⟩ := ownsRow_any HO3.out
            subst hv3
            go_wp2_with fail
            go_roundg (vs.length - (j + 1))
            case measure => omega
            case rel =>
              refine ⟨j + 1, m + l.length, cap3, ao3, rfl, by go_num, by omega, Nat.le_refl _, ?_, ?_, HT3.out⟩
              · rw [HFL.out, List.length_append, hm2.out]; rfl
              · rw [HFL.out, List.map_append]; exact HO3.out
        · have hltz2 : ¬ (j : Int) < (vs.length : Int) := by omega
          have e : j = vs.length := by omega
          subst e
          have e2 : ls.take vs.length = ls := by rw [← HLN.out, List.take_length]
          rw [e2] at hm2 hown
          go_wp2_with fail
          go_ret
          exact ⟨.slice ao m cp, rfl, ⟨m, by rw [← List.map_flatten]; exact hown.out⟩, htu.out⟩

end Go.Proofs.YtgbclfhgpkmcnaaGreatDoor
