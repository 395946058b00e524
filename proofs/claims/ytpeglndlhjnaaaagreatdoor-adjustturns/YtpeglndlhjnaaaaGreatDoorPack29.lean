/-
  Texts of the proof, several in one: AdjPure.
-/
import Derived.Test.YtpeglndlhjnaaaaGreatDoorPack22
import Derived.Test.YtpeglndlhjnaaaaGreatDoorPack12
import Derived.Test.YtpeglndlhjnaaaaGreatDoorPack3
/-
  Turning references, without memory: workers, their steps.
-/
namespace Go.Proofs.YtpeglndlhjnaaaaGreatDoor
open Go.RowKit Bt
set_option linter.unusedVariables false

/-- A worker: does it still go; its next step (0 choose, 1 read, 2 store); the words in which blocks may begin; the places it has still to read; the one it read last; what is to be stored there. -/
structure AdW where
  on : Bool
  ph : Nat
  fr : Nat
  en : Nat
  pl : List Nat
  at_ : Nat
  rf : Int
deriving DecidableEq
/-- The state: the heap's words and accesses, the control's, the workers, the fault. -/
structure AdS where
  hw : List Int
  ac : Int
  cl : List Int
  cc : Int
  ws : List AdW
  ft : Int
deriving DecidableEq

/-- The least marked block's beginning. -/
def nxA (S : Nat → Nat) (fr e : Nat) : Option Nat := (List.range' fr (e - fr)).find? fun i => decide (0 < S i)
theorem nxA_some {S : Nat → Nat} {fr e i : Nat} (h : nxA S fr e = some i) : fr ≤ i ∧ i < e ∧ 0 < S i ∧ ∀ j, fr ≤ j → j < i → S j = 0 := by
  unfold nxA at h
  obtain ⟨h1, h2⟩ := List.find?_eq_some_iff_append.1 h
  obtain ⟨l1, l2, h3, h4⟩ := h2
  have h1' : 0 < S i := by simpa using h1
  have hm : i ∈ List.range' fr (e - fr) := by rw [h3]; simp
  rw [List.mem_range'_1] at hm
  refine ⟨hm.1, by omega, h1', fun j hj1 hj2 => ?_⟩
  have hj : j ∈ List.range' fr (e - fr) := by rw [List.mem_range'_1]; omega
  have hpw : (List.range' fr (e - fr)).Pairwise (· < ·) := List.pairwise_lt_range'
  rw [h3] at hj hpw
  rcases List.mem_append.1 hj with hj | hj
  · have := h4 j hj
    simpa using this
  · rw [List.pairwise_append] at hpw
    rcases List.mem_cons.1 hj with rfl | hj
    · omega
    · have := (List.pairwise_cons.1 hpw.2.1).1 j hj
      omega
theorem nxA_none {S : Nat → Nat} {fr e : Nat} (h : nxA S fr e = none) {j : Nat} (h1 : fr ≤ j) (h2 : j < e) : S j = 0 := by
  unfold nxA at h
  have := List.find?_eq_none.1 h j (by rw [List.mem_range'_1]; omega)
  simpa using this
/-- What a header says. -/
def hdC (h : Int) : Int := if isHead h then partC h else 0
def hdL (h : Int) : Int := if isHead h then partL h else 0
/-- Where the references of a block stand, as far as they have cells. -/
def plA (cs : List Cls) (N at_ : Nat) (h : Int) : List Nat := ((List.range (refsOf cs (hdC h) (hdL h)).toNat).map fun i => at_ + (i + 1)).filter fun p => decide (p < N)
/-- Where a marked block's word goes. -/
noncomputable def fwA (P : PN) (S : Nat → Nat) (x : Nat) : Nat := if x < P.d then x else P.d + (cnt (live S) x - cnt (live S) P.d)
def okA (S : Nat → Nat) (N : Nat) (r : Int) : Bool := decide (r = 0 ∨ (0 ≤ r ∧ r < (N : Int) ∧ 0 < S r.toNat))
noncomputable def toA (P : PN) (S : Nat → Nat) (N : Nat) (r : Int) : Int := if r = 0 then 0 else if 0 ≤ r ∧ r < (N : Int) ∧ 0 < S r.toNat then (fwA P S r.toNat : Nat) else r
def goA14 (x : AdW) : AdW := { x with ph := if x.pl = [] then 0 else 1 }
def takeA (P : PN) (s : AdS) (k : Nat) (x : AdW) : AdS :=
  if s.cl.getD 0 0 < (P.R : Int) then { s with cl := s.cl.set 0 (s.cl.getD 0 0 + 1), cc := s.cc + 1, ws := s.ws.set k { x with fr := P.ed (s.cl.getD 0 0).toNat, en := P.ed ((s.cl.getD 0 0).toNat + 1) } }
  else { s with cl := s.cl.set 0 (s.cl.getD 0 0 + 1), cc := s.cc + 1, ws := s.ws.set k { x with on := false } }
def openA (cs : List Cls) (N : Nat) (s : AdS) (k : Nat) (x : AdW) (at_ : Nat) : AdS :=
  { s with ac := wrap64 (s.ac + 1), ws := s.ws.set k (goA14 { x with fr := at_ + 1, pl := plA cs N at_ (s.hw.getD at_ 0) }) }
noncomputable def readA (P : PN) (S : Nat → Nat) (N : Nat) (s : AdS) (k : Nat) (x : AdW) : AdS :=
  match x.pl with
  | [] => s
  | p :: l =>
    if okA S N (s.hw.getD p 0) = false then { s with ac := wrap64 (s.ac + 1), ft := 13, ws := s.ws.set k (goA14 { x with at_ := p, pl := l }) }
    else if s.hw.getD p 0 = 0 then { s with ac := wrap64 (s.ac + 1), ws := s.ws.set k (goA14 { x with at_ := p, pl := l }) }
    else { s with ac := wrap64 (s.ac + 1), ws := s.ws.set k { x with at_ := p, pl := l, rf := toA P S N (s.hw.getD p 0), ph := 2 } }
def storeA (s : AdS) (k : Nat) (x : AdW) : AdS :=
  { s with hw := s.hw.set x.at_ x.rf, ac := wrap64 (s.ac + 1), ws := s.ws.set k (goA14 x) }
/-- A worker's step. -/
noncomputable def workA (P : PN) (S : Nat → Nat) (cs : List Cls) (N : Nat) (s : AdS) (k : Nat) (x : AdW) : AdS :=
  if x.ph = 0 then
    match nxA S x.fr x.en with
    | none => takeA P s k x
    | some at_ => openA cs N s k x at_
  else if x.ph = 1 then readA P S N s k x
  else storeA s k x
noncomputable def stepA14 (P : PN) (S : Nat → Nat) (cs : List Cls) (N : Nat) (s : AdS) (k : Nat) : AdS :=
  match s.ws[k]? with
  | none => s
  | some x => if x.on = true then workA P S cs N s k x else s
/-- What a step asks. -/
structure MayA (S : Nat → Nat) (N : Nat) (s : AdS) (x : AdW) : Prop where
  cl0 : ∃ r, s.cl[0]? = some r ∧ 0 ≤ r ∧ r < 1000000000
  cc0 : 0 ≤ s.cc ∧ s.cc < 1000000000
  len : s.hw.length = N
  fr6 : x.fr ≤ N
  to6 : x.en ≤ N
  rd : x.ph = 1 → x.pl ≠ []
  pl6 : ∀ p, p ∈ x.pl → p < N
  at6 : x.at_ < N ∨ x.ph ≠ 2
  ph2 : x.ph ≤ 2
  in64 : ∀ y, y ∈ s.hw → -9223372036854775808 ≤ y ∧ y ≤ 9223372036854775807
  pll : x.pl.length ≤ 65536
end Go.Proofs.YtpeglndlhjnaaaaGreatDoor
