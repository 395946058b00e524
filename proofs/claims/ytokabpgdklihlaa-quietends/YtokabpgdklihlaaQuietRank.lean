/-
  The crew of QuietEnds without memory: how far another worker is from the lock of a worker's deque ('farW'), and what is left of its session there ('cW'): what each step does to it ('cW_move'). No Go is walked here.
-/
import Derived.Test.YtokabpgdklihlaaQuietMay
namespace Go.Proofs.Ytokabpgdklihlaa
set_option linter.unusedVariables false

/-- A worker behind its own step, by the cells at hand. -/
def moveW (n k : Nat) (l : List Int) (x : WkS) : WkS := (stepG (QE n) n ⟨l, fun _ => x, 0⟩ k).X k
theorem move_eq (n : Nat) (S : GS) (k : Nat) : (stepG (QE n) n S k).X k = moveW n k S.l (S.X k) := by
  unfold moveW stepG
  by_cases he : (S.X k).ended = true
  · rw [if_pos he, if_pos he]
  · rw [if_neg he, if_neg he]
    cases (S.X k).act with
    | none => simp only [updX_at]
    | offer o => simp only [updX_at]
    | op i o =>
      simp only
      by_cases hd : (stepOf (cOf (QE n) i) S.l o).2.done = true
      · rw [if_pos hd, if_pos hd]; simp only [updX_at]
      · rw [if_neg hd, if_neg hd]; simp only [updX_at]
theorem move_other (n : Nat) (S : GS) {k i : Nat} (h : i ≠ k) : (stepG (QE n) n S k).X i = S.X i := by
  unfold stepG
  by_cases he : (S.X k).ended = true
  · rw [if_pos he]
  · rw [if_neg he]
    cases (S.X k).act with
    | none => exact updX_ne _ _ h
    | offer o => exact updX_ne _ _ h
    | op i o =>
      simp only
      split <;> exact updX_ne _ _ h

/-- This step is an event: an operation is done, and told no error. -/
def EvW (n : Nat) (l : List Int) (x : WkS) : Prop := x.ended = false ∧ ∃ i o, x.act = .op i o ∧ (stepOf (cOf (QE n) i) l o).2.done = true ∧ (stepOf (cOf (QE n) i) l o).2.errno = 0

/-- Steps that are left of a take that finds nothing. -/
def remT : Stp → Nat
  | .popReadBottom => 7 | .popBottom => 6 | .popReadTop => 5 | .popSlot => 4 | .popLast => 6 | .popSwap => 5 | .popWon => 4 | .popNothing => 4
  | .stealReadTop => 5 | .stealReadBottom => 4 | .stealSlot => 7 | .stealSwap => 6
  | .takeLock => 3 | .takeCount => 2 | .takeCell => 3 | .takeCounted => 2 | .free => 1
  | _ => 0
/-- Steps to the lock, of a take at that deque. -/
def remL : Stp → Nat
  | .popReadBottom => 4 | .popBottom => 3 | .popReadTop => 2 | .popSlot => 1 | .popLast => 3 | .popSwap => 2 | .popWon => 1 | .popNothing => 1
  | .stealReadTop => 2 | .stealReadBottom => 1 | .stealSlot => 4 | .stealSwap => 3
  | .takeLock => 0
  | _ => 0
/-- What is left of a session at a lock. -/
def sess : Stp → Nat
  | .takeCount => 4 | .takeCell => 3 | .takeCounted => 2 | .free => 1
  | _ => 0
def offD : QStp → Nat
  | .countIn => 5 | .readCount => 4 | .readTop => 3 | .readBottom => 2 | .readStack => 2 | .countOut => 1

/-- Has it the lock of deque W, as a thief? -/
def hasL (W : Nat) (x : WkS) : Bool :=
  match x.act with
  | .op i o => decide (i = W) && decide (x.kind ≠ 0) && decide (0 < sess o.at_)
  | _ => false
def popP (W : Nat) : Nat := 9 + 5 * W
/-- Steps till it stands at the lock of deque W. -/
def farW (n W : Nat) (x : WkS) : Nat :=
  if x.ended then 100 else
  match x.act with
  | .none => popP W + 1
  | .offer o => offD o.at_ + popP W
  | .op i o =>
    if x.kind = 0 then 100
    else if x.kind = 1 then remT o.at_ + (5 * W + 2)
    else if i < W then remT o.at_ + (5 * (W - i - 1) + 2)
    else if i = W then remL o.at_
    else remT o.at_ + 5 * (n - 1 - i) + 5 + popP W
def cW (n W m : Nat) (x : WkS) : Nat :=
  match x.act with
  | .op i o => if i = W ∧ x.kind ≠ 0 ∧ 0 < sess o.at_ ∧ x.ended = false then sess o.at_ else if farW n W x ≤ m then 5 else 0
  | _ => if farW n W x ≤ m then 5 else 0

theorem far_next {n k W : Nat} {x : WkS} {after : Int} (he : x.ended = false) (hn : 1 ≤ n) (ha : 0 ≤ after) (hh : x.hands = []) :
    farW n W (nextS n k x after) = if after < 1 then popP W else if after ≤ n then (if after - 1 < W then 5 + (5 * (W - (after - 1).toNat - 1) + 2) else if after - 1 = W then 2 else 5 + 5 * (n - 1 - (after - 1).toNat) + 5 + popP W) else 5 + popP W := by
  unfold nextS
  rw [hh]
  simp only
  by_cases h1 : after < 1
  · simp only [h1, if_true, farW, he, Bool.false_eq_true, if_false]
    simp [opNew, remT, popP]
    omega
  · simp only [h1, if_false]
    by_cases h2 : after ≤ n
    · simp only [h2, if_true, farW, he, Bool.false_eq_true, if_false]
      have e0 : ¬ after + 1 = 0 := by omega
      have e1 : ¬ after + 1 = 1 := by omega
      simp only [e0, e1, if_false, opNew, remT, remL]
      by_cases h3 : after - 1 < W
      · rw [if_pos (by omega), if_pos h3]
      · rw [if_neg (by omega), if_neg h3]
        by_cases h4 : after - 1 = W
        · rw [if_pos (by omega), if_pos h4]
        · rw [if_neg (by omega), if_neg h4]
    · simp only [h2, if_false, farW, he, Bool.false_eq_true]
      simp [ofNew, offD]

theorem step_rem {C : Cfg} {l : List Int} {o : OpS} (hd : o.done = false) (ht : takeAt o.at_ = true) (hd' : (stepOf C l o).2.done = false) :
    remT o.at_ ≤ remT (stepOf C l o).2.at_ + 1 ∧ (sess (stepOf C l o).2.at_ = 0 → remL o.at_ ≤ remL (stepOf C l o).2.at_ + 1) ∧ (sess o.at_ = 0 → 0 < sess (stepOf C l o).2.at_ → o.at_ = .takeLock) ∧ (0 < sess o.at_ → 0 < sess (stepOf C l o).2.at_ ∧ sess (stepOf C l o).2.at_ + 1 ≤ sess o.at_) := by
  obtain ⟨a, dn, t, u, n, i, en⟩ := o
  simp only at hd ht
  subst hd
  cases a <;> simp only [takeAt, Bool.false_eq_true] at ht
  all_goals first
    | (simp [stepOf] at hd'; done)
    | (simp [stepOf, remT, remL, sess]; done)
    | (revert hd'; simp only [stepOf, Bool.false_eq_true, if_false]; split <;> simp [remT, remL, sess]; done)
    | (revert hd'; simp only [stepOf, Bool.false_eq_true, if_false]; split <;> (try split) <;> simp [remT, remL, sess]; done)

theorem step_fails {C : Cfg} {l : List Int} {o : OpS} (hd : o.done = false) (ht : takeAt o.at_ = true) (he : o.at_ = .free → o.errno = 0 ∨ o.errno = 15) (hd' : (stepOf C l o).2.done = true) (hne : (stepOf C l o).2.errno ≠ 0) :
    (o.at_ = .stealSwap ∧ (stepOf C l o).2.errno = 16) ∨ (o.at_ = .free ∧ (stepOf C l o).2.errno = 15) := by
  obtain ⟨a, dn, t, u, n, i, en⟩ := o
  simp only at hd ht he
  subst hd
  cases a <;> simp only [takeAt, Bool.false_eq_true] at ht
  all_goals first
    | (simp [stepOf] at hd'; done)
    | (simp [stepOf] at hne; done)
    | (revert hd' hne; simp only [stepOf, Bool.false_eq_true, if_false]; split <;> simp; done)
    | (revert hd' hne; simp only [stepOf, Bool.false_eq_true, if_false]; split <;> (try split) <;> simp; done)
    | (simp [stepOf] at hd' hne ⊢; have := he rfl; omega)

theorem off_step {Q : QC} {l : List Int} {o : OfS} (h0 : o.state = 0) (h1 : (stepQ Q l o).2.state ≠ 1) (h2 : (stepQ Q l o).2.state ≠ 2) : offD o.at_ ≤ offD (stepQ Q l o).2.at_ + 1 := by
  obtain ⟨a, st, k, t⟩ := o
  simp only at h0
  subst h0
  cases a
  case countIn => simp [stepQ, offD]
  case readCount =>
    by_cases hc : cnt Q l = Q.n
    · exact absurd (by simp [stepQ, hc]) h2
    · simp only [stepQ, hc, if_true, if_false, lookQ]
      split <;> simp [offD]
  case readTop => simp [stepQ, offD]
  case readBottom =>
    simp only [stepQ, if_true]
    split <;> simp [offD]
  case readStack =>
    by_cases hc : 0 < rd (cOf Q k) l 3
    · simp [stepQ, hc, offD]
    · simp only [stepQ, hc, if_true, if_false, lookQ]
      split <;> simp [offD]
  case countOut => exact absurd (by simp [stepQ]) h1
theorem off_one {Q : QC} {l : List Int} {o : OfS} (h0 : o.state = 0) (h1 : (stepQ Q l o).2.state = 1) : o.at_ = .countOut := by
  obtain ⟨a, st, k, t⟩ := o
  simp only at h0
  subst h0
  cases a
  all_goals first
    | rfl
    | (simp [stepQ] at h1; done)
    | (revert h1; simp only [stepQ, if_true]; split <;> simp [lookQ]; done)
end Go.Proofs.Ytokabpgdklihlaa
