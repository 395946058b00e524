/-
  The crew of QuietEnds without memory, once nobody has anything: each worker's way to an offer from which it doesn't come back ('goW'), which each step makes less, but where it waits for a lock ('go_move'). No Go is walked here.
-/
import Derived.Test.YtokabpgdklihlaaQuietZero
namespace Go.Proofs.Ytokabpgdklihlaa
set_option linter.unusedVariables false

def baseS : Stp → Nat
  | .stealReadTop => 11 | .stealReadBottom => 10 | .stealSlot => 9 | .stealSwap => 8 | .takeLock => 5 | .takeCount => 4 | .takeCell => 3 | .takeCounted => 2 | .free => 1
  | _ => 12
def staleS (τ : Int) (o : OpS) : Nat := if (o.at_ = .stealReadBottom ∨ o.at_ = .stealSlot ∨ o.at_ = .stealSwap) ∧ o.top ≠ τ then 20 else 0
/-- The way to an offer, without waiting; τ: the tops. -/
def goW (n : Nat) (τ : Nat → Int) (x : WkS) : Nat :=
  if x.ended then 0 else
  match x.act with
  | .none => 12 + 11 * n
  | .offer o => if o.at_ = .countOut then 12 + 11 * n else if o.at_ = .readBottom ∧ o.top < τ o.k then 13 + 11 * n else 0
  | .op i o => if x.kind = 1 then posO o.at_ + 11 * n else baseS o.at_ + staleS (τ i) o + 11 * (n - 1 - i)

theorem go_next {n k : Nat} {τ : Nat → Int} {x : WkS} (he : x.ended = false) (hh : x.hands = []) (af : Int) (ha : 0 ≤ af) :
    goW n τ (nextS n k x af) = if af < 1 then 11 + 11 * n else if af ≤ n then 11 + 11 * (n - 1 - (af - 1).toNat) else 0 := by
  unfold nextS
  rw [hh]
  simp only
  by_cases h1 : af < 1
  · simp only [h1, if_true, goW, he, Bool.false_eq_true, if_false]
    simp [opNew, posO]
  · simp only [h1, if_false]
    by_cases h2 : af ≤ n
    · simp only [h2, if_true, goW, he, Bool.false_eq_true, if_false]
      have e1 : ¬ af + 1 = 1 := by omega
      simp only [e1, if_false, opNew, baseS, staleS]
      simp
    · simp only [h2, if_false, goW, he, Bool.false_eq_true]
      simp [ofNew]

theorem steal_step {C : Cfg} {l : List Int} {o : OpS} (hd : o.done = false) (ht : thiefAt o.at_ = true) (hd' : (stepOf C l o).2.done = false) :
    baseS (stepOf C l o).2.at_ + staleS (rd C l 0) (stepOf C l o).2 < baseS o.at_ + staleS (rd C l 0) o ∨ ((stepOf C l o).2 = o ∧ rd C l 2 ≠ 0 ∧ o.at_ = .takeLock) := by
  obtain ⟨a, dn, t, u, n, i, en⟩ := o
  simp only at hd ht
  subst hd
  cases a <;> simp only [thiefAt, Bool.false_eq_true] at ht
  case stealReadTop => left; simp [stepOf, baseS, staleS]
  case stealReadBottom =>
    left
    simp only [stepOf, Bool.false_eq_true, if_false]
    split <;> simp [baseS, staleS] <;> split <;> omega
  case stealSlot => left; simp [stepOf, baseS, staleS]
  case stealSwap => revert hd'; simp only [stepOf, Bool.false_eq_true, if_false]; split <;> simp
  case takeLock =>
    by_cases g : rd C l 2 = 0
    · left; simp [stepOf, g, baseS, staleS]
    · right; simp [stepOf, g]
  case takeCount =>
    left
    simp only [stepOf, Bool.false_eq_true, if_false]
    split <;> simp [baseS, staleS]
  case takeCell => left; simp [stepOf, baseS, staleS]
  case takeCounted => left; simp [stepOf, baseS, staleS]
  case free => simp [stepOf] at hd'

theorem go_look {n : Nat} {τ : Nat → Int} {x : WkS} {o : OfS} {q : Nat} (he : x.ended = false) : goW n τ { x with act := .offer (lookQ (QE n) o q) } = 0 := by
  unfold goW lookQ
  rw [if_neg (by simp [he])]
  simp only
  by_cases g : q = (QE n).cs.length
  · simp [g]
  · simp [g]

/-- It waits at a lock. -/
def waits (n : Nat) (l : List Int) (x : WkS) : Prop := ∃ i o, x.act = .op i o ∧ o.at_ = .takeLock ∧ rd (cOf (QE n) i) l 2 ≠ 0

theorem go_move {n : Nat} {S : GS} (h : AllG n S) (hz : Zer n S) {k : Nat} (hk : k < n) (hne : ¬ EvW n S.l (S.X k)) (τ : Nat → Int) (hτ : ∀ j, j < n → rd (cOf (QE n) j) S.l 0 = τ j) :
    (goW n τ (S.X k) = 0 ∧ goW n τ (moveW n k S.l (S.X k)) = 0) ∨ goW n τ (moveW n k S.l (S.X k)) < goW n τ (S.X k) ∨ (moveW n k S.l (S.X k) = S.X k ∧ waits n S.l (S.X k)) := by
  have hs := h.crew.shape k hk
  have hh := hz.hands k hk
  have hW := h.crew.wells
  have hn1 := h.crew.n1
  have hpart : ∀ i o, (S.X k).act = .op i o → i < n → o.done = false → ((S.X k).kind ≤ 1 → i = k) → 0 ≤ (S.X k).kind → ((S.X k).kind ≤ 1 → ownerAt o.at_ = true) ∧ (2 ≤ (S.X k).kind → thiefAt o.at_ = true) := fun i o ha hi hd hik _ => by
    refine ⟨fun g => ?_, fun g => ?_⟩
    · have e := hik g
      subst e
      have := (hW i hi).kind
      rw [show partOf S.X i none = o by simp only [partOf, ownOp, ha]; rw [if_pos ⟨trivial, g⟩]] at this
      exact this hd
    · have := (hW i hi).kinds k
      rw [show partOf S.X i (some k) = o by simp only [partOf, thfOp, ha]; rw [if_pos ⟨trivial, g⟩]] at this
      exact this hd
  generalize S.X k = x at *
  by_cases he : x.ended = true
  · left
    have e : moveW n k S.l x = x := by unfold moveW stepG; simp only; rw [if_pos he]
    rw [e]
    have : goW n τ x = 0 := by unfold goW; rw [if_pos he]
    exact ⟨this, this⟩
  have he' : x.ended = false := by simpa using he
  unfold ShapeW at hs
  cases ha : x.act with
  | none =>
    right; left
    have hy : moveW n k S.l x = nextS n k x 0 := by
      unfold moveW stepG; simp only; rw [if_neg he, ha]; simp only [updX_at]
    rw [hy, go_next he' hh 0 (by omega)]
    unfold goW
    rw [if_neg he, ha]
    simp
  | offer o =>
    rw [ha] at hs
    simp only at hs
    have h0 : o.state = 0 := by
      rcases hs.2 with g | g
      · exact g.1
      · rw [he'] at g; cases g.2
    have hq : QOk (QE n) o := by
      rcases hs.2 with g | g
      · exact g.2.2
      · rw [he'] at g; cases g.2
    have hy : moveW n k S.l x = if (stepQ (QE n) S.l o).2.state = 2 then { x with act := .offer (stepQ (QE n) S.l o).2, ended := true } else if (stepQ (QE n) S.l o).2.state = 1 then nextS n k { x with act := .offer (stepQ (QE n) S.l o).2 } 0 else { x with act := .offer (stepQ (QE n) S.l o).2 } := by
      unfold moveW stepG; simp only; rw [if_neg he, ha]; simp only [updX_at]
    have hx : goW n τ x = if o.at_ = .countOut then 12 + 11 * n else if o.at_ = .readBottom ∧ o.top < τ o.k then 13 + 11 * n else 0 := by
      unfold goW; rw [if_neg he, ha]
    have hcs : (QE n).cs.length = n := by simp [QE, csE]
    obtain ⟨a, st, q, t⟩ := o
    simp only at h0
    subst h0
    cases a
    case countIn =>
      left
      have e : (stepQ (QE n) S.l ⟨.countIn, 0, q, t⟩).2 = ⟨.readCount, 0, q, t⟩ := by simp [stepQ]
      rw [e, if_neg (by simp), if_neg (by simp)] at hy
      rw [hy, hx]
      simp [goW, he']
    case readCount =>
      left
      by_cases hc : cnt (QE n) S.l = (QE n).n
      · have e : (stepQ (QE n) S.l ⟨.readCount, 0, q, t⟩).2 = ⟨.readCount, 2, q, t⟩ := by simp [stepQ, hc]
        rw [e, if_pos rfl] at hy
        rw [hy, hx]
        simp [goW]
      · have e : (stepQ (QE n) S.l ⟨.readCount, 0, q, t⟩).2 = lookQ (QE n) ⟨.readCount, 0, q, t⟩ 0 := by simp [stepQ, hc]
        rw [e, if_neg (by simp [lookQ]), if_neg (by simp [lookQ])] at hy
        rw [hy, hx, go_look he']
        simp
    case readTop =>
      left
      simp only [QOk, hcs] at hq
      have e : (stepQ (QE n) S.l ⟨.readTop, 0, q, t⟩).2 = ⟨.readBottom, 0, q, rd (cOf (QE n) q) S.l 0⟩ := by simp [stepQ]
      rw [e, if_neg (by simp), if_neg (by simp)] at hy
      rw [hy, hx]
      simp [goW, he', hτ q hq]
    case readBottom =>
      simp only [QOk, hcs] at hq
      have hb := hz.bot q hq
      rw [hτ q hq] at hb
      by_cases g : t < rd (cOf (QE n) q) S.l 1
      · right; left
        have g2 : t < τ q := by omega
        have e : (stepQ (QE n) S.l ⟨.readBottom, 0, q, t⟩).2 = ⟨.countOut, 0, q, t⟩ := by simp [stepQ, g]
        rw [e, if_neg (by simp), if_neg (by simp)] at hy
        rw [hy, hx]
        simp [goW, he', g2]
      · have e : (stepQ (QE n) S.l ⟨.readBottom, 0, q, t⟩).2 = ⟨.readStack, 0, q, t⟩ := by simp [stepQ, g]
        rw [e, if_neg (by simp), if_neg (by simp)] at hy
        rw [hy, hx]
        by_cases g2 : t < τ q
        · right; left
          simp [goW, he', g2]
          omega
        · left
          simp [goW, he', g2]
    case readStack =>
      left
      simp only [QOk, hcs] at hq
      have hb := hz.stk q hq
      have g : ¬ 0 < rd (cOf (QE n) q) S.l 3 := by omega
      have e : (stepQ (QE n) S.l ⟨.readStack, 0, q, t⟩).2 = lookQ (QE n) ⟨.readStack, 0, q, t⟩ (q + 1) := by simp [stepQ, g]
      rw [e, if_neg (by simp [lookQ]), if_neg (by simp [lookQ])] at hy
      rw [hy, hx, go_look he']
      simp
    case countOut =>
      right; left
      have e1 : (stepQ (QE n) S.l ⟨.countOut, 0, q, t⟩).2.state = 1 := by simp [stepQ]
      rw [if_neg (by rw [e1]; decide), if_pos e1] at hy
      rw [hy, hx, go_next (by exact he') (by exact hh) 0 (by omega)]
      simp
  | op i o =>
    rw [ha] at hs
    simp only at hs
    obtain ⟨_, hd, hi, hc, hki, hei, hway⟩ := hs
    have k0 : x.kind ≠ 0 := fun g => by
      rcases hway with ⟨_, _, rest, g3⟩ | g3 | g3
      · rw [hh] at g3; cases g3
      · omega
      · omega
    have hkk : (x.kind = 1 ∧ i = k) ∨ x.kind = (i : Int) + 2 := by
      rcases hway with g | g | g
      · exact absurd g.1 k0
      · exact .inl ⟨g.1, g.2.1⟩
      · exact .inr g.1
    obtain ⟨hown, hthf⟩ := hpart i o ha hi hd (fun g => by omega) (by omega)
    have hn0 : ((x.kind == 0) : Bool) = false := by simp [k0]
    rw [hn0] at hki hei
    have ht : takeAt o.at_ = true := by have := (hki hd).1; simpa using this
    have her : o.at_ = .free → o.errno = 0 ∨ o.errno = 15 := fun g => by have := hei.2 hd g; simpa using this
    have hev : ¬ ((stepOf (cOf (QE n) i) S.l o).2.done = true ∧ (stepOf (cOf (QE n) i) S.l o).2.errno = 0) := fun g => hne ⟨he', i, o, ha, g.1, g.2⟩
    right
    by_cases hdn : (stepOf (cOf (QE n) i) S.l o).2.done = true
    · left
      have he0 : (stepOf (cOf (QE n) i) S.l o).2.errno ≠ 0 := fun g => hev ⟨hdn, g⟩
      have hv : valOf (stepOf (cOf (QE n) i) S.l o).2 = (0, (stepOf (cOf (QE n) i) S.l o).2.errno) := by simp [valOf, hdn, he0]
      have hy : moveW n k S.l x = (overS n k { x with act := .op i (stepOf (cOf (QE n) i) S.l o).2 } 0 (stepOf (cOf (QE n) i) S.l o).2.errno).1 := by
        unfold moveW stepG
        simp only
        rw [if_neg he, ha]
        simp only
        rw [if_pos hdn]
        simp only [updX_at, hv]
      rw [hy]
      unfold overS
      simp only [k0, if_false, he0]
      have hx1 : x.kind = 1 → goW n τ x = posO o.at_ + 11 * n := fun g => by unfold goW; rw [if_neg he, ha]; simp [g]
      have hx2 : x.kind = (i : Int) + 2 → goW n τ x = baseS o.at_ + staleS (τ i) o + 11 * (n - 1 - i) := fun g => by unfold goW; rw [if_neg he, ha]; simp only; rw [if_neg (by omega)]
      rcases step_fails hd ht her hdn he0 with ⟨f1, f2⟩ | ⟨f1, f2⟩
      · rw [if_pos f2]
        rcases hkk with ⟨g, _⟩ | g
        · have := hown (by omega); rw [f1] at this; cases this
        · simp only
          rw [go_next (by exact he') (by exact hh) _ (by omega), hx2 g, f1, g, if_neg (by omega), if_pos (by omega), show ((i : Int) + 2 - 1 - 1).toNat = i by omega]
          have htop : o.top ≠ τ i := fun e => by
            have e2 : rd (cOf (QE n) i) S.l 0 = o.top := by rw [hτ i hi, e]
            obtain ⟨a, dn, t, u, c, it, en⟩ := o
            simp only at f1 e2 hd
            subst f1 hd
            exact he0 (by simp [stepOf, e2])
          have hst : staleS (τ i) o = 20 := by unfold staleS; rw [if_pos ⟨.inr (.inr f1), htop⟩]
          rw [hst]
          simp [baseS]
      · rw [if_neg (by omega)]
        rcases hkk with ⟨g, _⟩ | g
        · simp only
          rw [go_next (by exact he') (by exact hh) _ (by omega), hx1 g, f1, g, if_neg (by omega), if_pos (by omega)]
          simp [posO]
          omega
        · simp only
          rw [go_next (by exact he') (by exact hh) _ (by omega), hx2 g, f1, g, if_neg (by omega)]
          have e1 : baseS .free = 1 := rfl
          rw [e1, show ((i : Int) + 2 - 1).toNat = i + 1 by omega]
          split <;> omega
    · have hy : moveW n k S.l x = { x with act := .op i (stepOf (cOf (QE n) i) S.l o).2 } := by
        unfold moveW stepG
        simp only
        rw [if_neg he, ha]
        simp only
        rw [if_neg hdn]
        simp only [updX_at]
      have hdn' : (stepOf (cOf (QE n) i) S.l o).2.done = false := by simpa using hdn
      rcases hkk with ⟨g, hik⟩ | g
      · rcases pos_step hd (hown (by omega)) hdn' with q | ⟨q1, q2, q3⟩
        · left
          rw [hy]
          simp only [goW, he', ha, g, Bool.false_eq_true, if_false, if_true]
          omega
        · right
          refine ⟨by rw [hy, q1, ← ha], i, o, ha, ?_, q2⟩
          rcases q3 with q3 | q3
          · rw [q3] at ht; cases ht
          · exact q3
      · rcases steal_step (C := cOf (QE n) i) (l := S.l) hd (hthf (by omega)) hdn' with q | ⟨q1, q2, q3⟩
        · left
          rw [hy]
          have e1 : ¬ x.kind = 1 := by omega
          simp only [goW, he', ha, e1, Bool.false_eq_true, if_false]
          rw [hτ i hi] at q
          omega
        · right
          exact ⟨by rw [hy, q1, ← ha], i, o, ha, q3, q2⟩
end Go.Proofs.Ytokabpgdklihlaa
