/-
  The crew of QuietEnds without memory: a worker that has something ('Busy') goes on with each step of its own, but where it waits for its deque's lock, which somebody else has then ('busy_move', 'lock_held'). No Go is walked here.
-/
import Derived.Test.YtokabpgdklihlaaQuietDeq
namespace Go.Proofs.Ytokabpgdklihlaa
set_option linter.unusedVariables false

def posO : Stp → Nat
  | .pushReadBottom => 7 | .pushReadTop => 6 | .pushSlot => 2 | .pushBottom => 1 | .pushLock => 5 | .pushCount => 4 | .pushCell => 3 | .pushCounted => 2 | .free => 1
  | .popReadBottom => 11 | .popBottom => 10 | .popReadTop => 9 | .popSlot => 1 | .popLast => 8 | .popSwap => 7 | .popWon => 1 | .popNothing => 6
  | .takeLock => 5 | .takeCount => 4 | .takeCell => 3 | .takeCounted => 2
  | _ => 12
def posW (x : WkS) : Nat :=
  match x.act with
  | .none => 12
  | .op _ o => posO o.at_
  | .offer _ => 0
def atLock (x : WkS) : Prop := ∃ i o, x.act = .op i o ∧ (o.at_ = .pushLock ∨ o.at_ = .takeLock)

theorem pos_step {C : Cfg} {l : List Int} {o : OpS} (hd : o.done = false) (ho : ownerAt o.at_ = true) (hd' : (stepOf C l o).2.done = false) :
    posO (stepOf C l o).2.at_ < posO o.at_ ∨ ((stepOf C l o).2 = o ∧ rd C l 2 ≠ 0 ∧ (o.at_ = .pushLock ∨ o.at_ = .takeLock)) := by
  obtain ⟨a, dn, t, u, n, i, en⟩ := o
  simp only at hd ho
  subst hd
  cases a <;> simp only [ownerAt, Bool.false_eq_true] at ho
  all_goals first
    | (simp [stepOf] at hd'; done)
    | (simp [stepOf, posO]; done)
    | (revert hd'; simp only [stepOf, Bool.false_eq_true, if_false]; split <;> simp_all [posO]; done)
    | (revert hd'; simp only [stepOf, Bool.false_eq_true, if_false]; split <;> (try split) <;> simp_all [posO]; done)

/-- It has something, in hands or in its deque. -/
def Busy (n : Nat) (S : GS) (W : Nat) : Prop := (S.X W).hands ≠ [] ∨ 0 < hasD oneF n S.l S.X W

theorem empty_hasD {n : Nat} {S : GS} {W : Nat} (he : EmptyV (viewOf (cOf (QE n) W) S.l)) (hd : (ownOp (S.X W) W).done = true) : hasD oneF n S.l S.X W = 0 := by
  unfold hasD
  rw [show partOf S.X W none = ownOp (S.X W) W from rfl, bot_done hd]
  unfold worth ringW stackW
  rw [he.1, he.2]
  simp [sumTo]

theorem busy_act {n : Nat} {S : GS} (h : AllG n S) {W : Nat} (hW : W < n) (hb : Busy n S W) :
    (S.X W).ended = false ∧ ((S.X W).act = .none ∨ ∃ o, (S.X W).act = .op W o ∧ o.done = false ∧ 0 ≤ (S.X W).kind ∧ (S.X W).kind ≤ 1 ∧ ownerAt o.at_ = true) := by
  have hs := h.crew.shape W hW
  have hE := h.emp W hW
  unfold ShapeW at hs
  unfold EmpW at hE
  cases ha : (S.X W).act with
  | none =>
    rw [ha] at hs
    exact ⟨hs, .inl rfl⟩
  | offer o =>
    rw [ha] at hs hE
    simp only at hs hE
    rcases hb with g | g
    · exact absurd hs.1 g
    · rw [empty_hasD hE (by simp [ownOp, ha, opDone])] at g
      omega
  | op i o =>
    rw [ha] at hs hE
    simp only at hs hE
    obtain ⟨he, hd, hi, hc, hki, hei, hway⟩ := hs
    refine ⟨he, .inr ?_⟩
    have hk1 : 0 ≤ (S.X W).kind ∧ (S.X W).kind ≤ 1 ∧ i = W := by
      rcases hway with ⟨g1, g2, _⟩ | ⟨g1, g2, _⟩ | ⟨g1, g2⟩
      · omega
      · omega
      · exfalso
        rcases hb with g | g
        · exact g g2
        · rw [empty_hasD (hE.2 (by omega)) (by simp only [ownOp, ha]; rw [if_neg (by omega)]; rfl)] at g
          omega
    obtain ⟨q1, q2, rfl⟩ := hk1
    have hk := (h.crew.wells i hW).kind
    rw [show partOf S.X i none = o by simp only [partOf, ownOp, ha]; rw [if_pos ⟨trivial, q2⟩]] at hk
    exact ⟨o, rfl, hd, q1, q2, hk hd⟩

theorem posW_next (n k : Nat) (x : WkS) : posW (nextS n k x 0) < 12 := by
  unfold nextS
  cases x.hands with
  | cons y ys => simp [posW, posO, opNew]
  | nil => simp [posW, posO, opNew]

theorem busy_move {n : Nat} {S : GS} (h : AllG n S) {W : Nat} (hW : W < n) (hb : Busy n S W) (hb' : Busy n (stepG (QE n) n S W) W) (hne : ¬ EvW n S.l (S.X W)) :
    posW ((stepG (QE n) n S W).X W) < posW (S.X W) ∨ ((stepG (QE n) n S W).X W = S.X W ∧ atLock (S.X W) ∧ rd (cOf (QE n) W) S.l 2 ≠ 0) := by
  obtain ⟨he, hact⟩ := busy_act h hW hb
  have hact' := (busy_act (h.step hW) hW hb').2
  have hs := h.crew.shape W hW
  have hf := h.push hW
  rw [move_eq] at hact' ⊢
  have hne' : ¬ (S.X W).ended = true := by simp [he]
  rcases hact with ha | ⟨o, ha, hd, k0, k1, ho⟩
  · have hy : moveW n W S.l (S.X W) = nextS n W (S.X W) 0 := by
      unfold moveW stepG
      simp only
      rw [if_neg hne', ha]
      simp only [updX_at]
    rw [hy]
    left
    rw [show posW (S.X W) = 12 by simp only [posW, ha]]
    exact posW_next n W _
  · have hf' := hf W o ha
    have hev : ¬ ((stepOf (cOf (QE n) W) S.l o).2.done = true ∧ (stepOf (cOf (QE n) W) S.l o).2.errno = 0) := fun g => hne ⟨he, W, o, ha, g.1, g.2⟩
    unfold ShapeW at hs
    rw [ha] at hs
    simp only at hs
    obtain ⟨_, _, hi, hc, hki, hei, hway⟩ := hs
    by_cases hdn : (stepOf (cOf (QE n) W) S.l o).2.done = true
    · exfalso
      have he0 : (stepOf (cOf (QE n) W) S.l o).2.errno ≠ 0 := fun g => hev ⟨hdn, g⟩
      have kn : (S.X W).kind ≠ 0 := fun g => he0 (hf' g hdn)
      have hk1 : (S.X W).kind = 1 := by omega
      have hn0 : (((S.X W).kind == 0) : Bool) = false := by simp [kn]
      rw [hn0] at hki hei
      have ht : takeAt o.at_ = true := by have := (hki hd).1; simpa using this
      have her : o.at_ = .free → o.errno = 0 ∨ o.errno = 15 := fun g => by have := hei.2 hd g; simpa using this
      have hh : (S.X W).hands = [] := by
        rcases hway with g | g | g
        · exact absurd g.1 kn
        · exact g.2.2
        · exact g.2
      have hv : valOf (stepOf (cOf (QE n) W) S.l o).2 = (0, (stepOf (cOf (QE n) W) S.l o).2.errno) := by simp [valOf, hdn, he0]
      have hy : moveW n W S.l (S.X W) = (overS n W { S.X W with act := .op W (stepOf (cOf (QE n) W) S.l o).2 } 0 (stepOf (cOf (QE n) W) S.l o).2.errno).1 := by
        unfold moveW stepG
        simp only
        rw [if_neg hne', ha]
        simp only
        rw [if_pos hdn]
        simp only [updX_at, hv]
      rcases step_fails hd ht her hdn he0 with ⟨g1, _⟩ | ⟨g1, g2⟩
      · rw [g1] at ho; cases ho
      · have hn1 : (1 : Int) ≤ n := by have := h.crew.n1; omega
        have hk2 : (moveW n W S.l (S.X W)).kind = 2 ∧ (moveW n W S.l (S.X W)).act ≠ .none := by
          rw [hy, g2]
          unfold overS
          simp only
          rw [if_neg (by omega), if_neg (by omega), if_neg (by omega)]
          unfold nextS
          simp only [hh, hk1]
          rw [if_neg (by omega), if_pos hn1]
          exact ⟨rfl, fun e => by cases e⟩
        rcases hact' with g | ⟨_, _, _, _, g, _⟩
        · exact hk2.2 g
        · rw [hk2.1] at g; omega
    · have hy : moveW n W S.l (S.X W) = { S.X W with act := .op W (stepOf (cOf (QE n) W) S.l o).2 } := by
        unfold moveW stepG
        simp only
        rw [if_neg hne', ha]
        simp only
        rw [if_neg hdn]
        simp only [updX_at]
      rw [hy]
      rcases pos_step hd ho (by simpa using hdn) with g | ⟨g1, g2, g3⟩
      · left
        simp only [posW, ha]
        exact g
      · right
        refine ⟨?_, ⟨W, o, ha, g3⟩, g2⟩
        rw [g1, ← ha]

/-- Nobody else is there. -/
def Idle (n : Nat) (S : GS) : Prop := ∀ i, n ≤ i → (S.X i).act = .none
theorem Idle.step {n : Nat} {S : GS} (h : Idle n S) {k : Nat} (hk : k < n) : Idle n (stepG (QE n) n S k) := fun i hi => by
  rw [move_other n S (by omega)]; exact h i hi

theorem lock_held {n : Nat} {S : GS} (h : AllG n S) (hI : Idle n S) {W : Nat} (hW : W < n) (hb : Busy n S W) (hl : atLock (S.X W)) (hr : rd (cOf (QE n) W) S.l 2 ≠ 0) : ∃ i, i < n ∧ i ≠ W ∧ hasL W (S.X i) = true := by
  have hD := h.crew.wells W hW
  have hL : (viewOf (cOf (QE n) W) S.l).L = 1 := by
    rcases hD.lock with g | g
    · exact absurd g hr
    · exact g
  obtain ⟨a, ha⟩ := hD.held hL
  obtain ⟨j, o, hj, hat⟩ := hl
  obtain ⟨he, hact⟩ := busy_act h hW hb
  rcases hact with g | ⟨o2, g, hd, k0, k1, ho⟩
  · rw [hj] at g; cases g
  rw [hj] at g
  cases g
  cases a with
  | none =>
    exfalso
    rw [show partOf S.X W none = o by simp only [partOf, ownOp, hj]; rw [if_pos ⟨trivial, k1⟩]] at ha
    rcases hat with e | e <;> simp [hn, e, holdsAt] at ha
  | some i =>
    have hi : ∃ o', (S.X i).act = .op W o' ∧ 2 ≤ (S.X i).kind ∧ hn o' = 1 := by
      simp only [partOf, thfOp] at ha
      cases hx : (S.X i).act with
      | none => rw [hx] at ha; simp [hn, opDone] at ha
      | offer q => rw [hx] at ha; simp [hn, opDone] at ha
      | op j2 o' =>
        rw [hx] at ha
        simp only at ha
        by_cases e : j2 = W ∧ 2 ≤ (S.X i).kind
        · rw [if_pos e] at ha
          obtain ⟨rfl, e2⟩ := e
          exact ⟨o', rfl, e2, ha⟩
        · rw [if_neg e] at ha; simp [hn, opDone] at ha
    obtain ⟨o', hx, hk2, hh⟩ := hi
    have hin : i < n := by
      by_cases g : i < n
      · exact g
      · have := hI i (by omega); rw [hx] at this; cases this
    have hiW : i ≠ W := fun e => by subst e; omega
    refine ⟨i, hin, hiW, ?_⟩
    have hs := h.crew.shape i hin
    unfold ShapeW at hs
    rw [hx] at hs
    simp only at hs
    obtain ⟨_, hd', _, _, hki, _⟩ := hs
    have hn0 : (((S.X i).kind == 0) : Bool) = false := by simp; omega
    rw [hn0] at hki
    have ht : takeAt o'.at_ = true := by have := (hki hd').1; simpa using this
    have hse : 0 < sess o'.at_ := by
      unfold hn at hh
      rw [hd'] at hh
      revert hh ht
      cases o'.at_ <;> simp [holdsAt, takeAt, sess]
    unfold hasL
    rw [hx]
    simp [hse]
    omega
end Go.Proofs.Ytokabpgdklihlaa
