/-
  The crew of QuietEnds without memory: who acts at which deque ('partOf'), and that all deques are well ('Wells') through a worker's step and what it begins next. No Go is walked here.
-/
import Derived.Test.YtokabpgdklihlaaQuietEndsQ
import Derived.Test.YtokabpgdklihlaaDequeWorth
namespace Go.Proofs.Ytokabpgdklihlaa
set_option linter.unusedVariables false

/-- An operation that is none. -/
def opDone : OpS := ⟨.free, true, 0, 0, 0, 0, 1⟩
/-- What an operation may be begun as; or none. -/
def Begins (a : Option Nat) (o : OpS) : Prop := o.done = true ∨ ∃ st x, o = opNew st x ∧ ((a = none ∧ (st = .pushReadBottom ∨ st = .popReadBottom)) ∨ (a ≠ none ∧ st = .stealReadTop))

theorem DI.redo {C : Cfg} {v : DV} {p : Option Nat → OpS} (h : DI C v p) (a : Option Nat) (o : OpS) (hd : (p a).done = true) (ho : o.done = true) : DI C v (updP p a o) := by
  have hn' : ∀ b, hn (updP p a o b) = hn (p b) := by
    intro b
    by_cases hb : b = a
    · rw [hb, updP_at, hn_done ho, hn_done hd]
    · rw [updP_ne _ _ hb]
  have hf : o.done = false → False := fun g => by rw [ho] at g; cases g
  have hs : ∀ b, StkI C v (updP p a o b) := by
    intro b
    by_cases hb : b = a
    · rw [hb, updP_at]; exact fun g => (hf g).elim
    · rw [updP_ne _ _ hb]; exact h.stk b
  have hheld : v.L = 1 → ∃ b, hn (updP p a o b) = 1 := fun g => by
    obtain ⟨b, hb⟩ := h.held g
    exact ⟨b, by rw [hn']; exact hb⟩
  cases a with
  | none =>
    have hw := h.own
    have hr := h.room
    have hT : v.T ≤ v.B := by unfold OwnI at hw; rw [hd, if_pos rfl] at hw; exact hw
    have hmid : ¬ mid (p none) := fun g => by rw [g.1] at hd; cases hd
    refine ⟨h.cap, h.lock, fun g b => by rw [hn']; exact h.free g b, hheld, fun b c gb gc => h.one b c (by rw [← hn' b]; exact gb) (by rw [← hn' c]; exact gc), ?_, fun i => ?_, ?_, ?_, ?_, fun i => ?_, fun i => ?_, h.stkN, hs⟩
    · rw [updP_at]; exact fun g => (hf g).elim
    · rw [updP_ne _ _ (by simp)]; exact h.kinds i
    · rw [updP_at]; unfold OwnI; rw [ho, if_pos rfl]; exact hT
    · rw [updP_at]; exact fun g => (hf g).elim
    · have e : bot v (p none) = v.B := by unfold bot; rw [hd]; rfl
      have e2 : bot v o = v.B := by unfold bot; rw [ho]; rfl
      rw [e] at hr
      rw [updP_at, e2]; exact hr
    · rw [updP_at, updP_ne _ _ (by simp)]
      refine thi_mono (Int.le_refl _) (fun _ g => ?_) (h.thf i)
      rcases g with g | g
      · exact .inl g
      · exact absurd g.2 hmid
    · rw [updP_ne _ _ (by simp)]; exact h.tak i
  | some j =>
    refine ⟨h.cap, h.lock, fun g b => by rw [hn']; exact h.free g b, hheld, fun b c gb gc => h.one b c (by rw [← hn' b]; exact gb) (by rw [← hn' c]; exact gc), ?_, fun i => ?_, ?_, ?_, ?_, fun i => ?_, fun i => ?_, h.stkN, hs⟩
    · rw [updP_ne _ _ (by simp)]; exact h.kind
    · by_cases hi : i = j
      · rw [hi, updP_at]; exact fun g => (hf g).elim
      · rw [updP_ne _ _ (by simpa using hi)]; exact h.kinds i
    · rw [updP_ne _ _ (by simp)]; exact h.own
    · rw [updP_ne _ _ (by simp)]; exact h.slot
    · rw [updP_ne _ _ (by simp)]; exact h.room
    · rw [updP_ne _ _ (show (none : Option Nat) ≠ some j by simp)]
      by_cases hi : i = j
      · rw [hi, updP_at]; exact fun g => (hf g).elim
      · rw [updP_ne _ _ (by simpa using hi)]; exact h.thf i
    · by_cases hi : i = j
      · rw [hi, updP_at]; exact fun g => (hf g).elim
      · rw [updP_ne _ _ (by simpa using hi)]; exact h.tak i

theorem DI.set {C : Cfg} {v : DV} {p : Option Nat → OpS} (h : DI C v p) (a : Option Nat) (o : OpS) (hd : (p a).done = true) (ho : Begins a o) : DI C v (updP p a o) := by
  rcases ho with ho | ⟨st, x, rfl, hst⟩
  · exact h.redo a o hd ho
  · exact h.begin a hd st x hst

/-- A worker's operation at deque j, as its owner; as a thief. -/
def ownOp (x : WkS) (j : Nat) : OpS :=
  match x.act with
  | .op i o => if i = j ∧ x.kind ≤ 1 then o else opDone
  | _ => opDone
def thfOp (x : WkS) (j : Nat) : OpS :=
  match x.act with
  | .op i o => if i = j ∧ 2 ≤ x.kind then o else opDone
  | _ => opDone
def partOf (X : Nat → WkS) (j : Nat) : Option Nat → OpS
  | none => ownOp (X j) j
  | some i => thfOp (X i) j

theorem part_upd_own (X : Nat → WkS) (k : Nat) (x : WkS) : partOf (updX X k x) k = updP (updP (partOf X k) none (ownOp x k)) (some k) (thfOp x k) := by
  funext b
  cases b with
  | none => simp [partOf, updX, updP]
  | some i => by_cases h : i = k <;> simp [partOf, updX, updP, h]
theorem part_upd_other (X : Nat → WkS) {k j : Nat} (hj : j ≠ k) (x : WkS) : partOf (updX X k x) j = updP (partOf X j) (some k) (thfOp x j) := by
  funext b
  cases b with
  | none => simp [partOf, updX, updP, hj]
  | some i => by_cases h : i = k <;> simp [partOf, updX, updP, h]

/-- All deques are well. -/
def Wells (n : Nat) (l : List Int) (X : Nat → WkS) : Prop := ∀ j, j < n → DI (cOf (QE n) j) (viewOf (cOf (QE n) j) l) (partOf X j)

theorem Wells.set {n : Nat} {l : List Int} {X : Nat → WkS} (h : Wells n l X) (k : Nat) (x : WkS) (h1 : (ownOp (X k) k).done = true) (h2 : ∀ j, (thfOp (X k) j).done = true) (h3 : Begins none (ownOp x k)) (h4 : ∀ j, Begins (some k) (thfOp x j)) : Wells n l (updX X k x) := by
  intro j hj
  by_cases e : j = k
  · subst e
    rw [part_upd_own]
    refine DI.set (DI.set (h j hj) none _ h1 h3) (some j) _ ?_ (h4 j)
    rw [updP_ne _ _ (by simp)]
    exact h2 j
  · rw [part_upd_other X e]
    exact (h j hj).set (some k) _ (h2 j) (h4 j)

theorem cOf_QE {n j : Nat} (hj : j < n) : cOf (QE n) j = ⟨1 + 90 * j, 2, 80⟩ := by
  unfold cOf QE csE
  simp [List.getD_eq_getElem?_getD, hj]

/-- Who a worker is at the deque it acts on. -/
def roleOf (k : Nat) (x : WkS) : Option Nat := if x.kind ≤ 1 then none else some k

/-- An operation's step: the deques behind it. -/
theorem Wells.act {n : Nat} {l : List Int} {X : Nat → WkS} (h : Wells n l X) (hl : 1 + 90 * n ≤ l.length) {k i : Nat} {o : OpS} (hi : i < n) (ha : (X k).act = .op i o) (hw : (X k).kind ≤ 1 → i = k) (hc : CntOk (cOf (QE n) i) o) :
    Wells n (stepOf (cOf (QE n) i) l o).1 (updX X k { X k with act := .op i (stepOf (cOf (QE n) i) l o).2 }) := by
  intro j hj
  have ci := cOf_QE hi
  have cj := cOf_QE hj
  have hcap : 1 ≤ (cOf (QE n) i).cap := by rw [ci]; simp
  by_cases e : j = i
  · subst e
    have hr : (cOf (QE n) j).base + (4 + (cOf (QE n) j).cap + (cOf (QE n) j).over) ≤ l.length := by rw [cj]; simp only; omega
    obtain ⟨v1, v2⟩ := view_step hr hcap hc
    rw [v1]
    have hs := (h j hj).step (roleOf k (X k))
    have hp : partOf X j (roleOf k (X k)) = o := by
      unfold roleOf
      by_cases hk : (X k).kind ≤ 1
      · have := hw hk
        subst this
        rw [if_pos hk]
        simp [partOf, ownOp, ha, hk]
      · rw [if_neg hk]
        have hk2 : 2 ≤ (X k).kind := by omega
        simp [partOf, thfOp, ha, hk2]
    unfold stepP at hs
    rw [hp] at hs
    simp only at hs
    have hu : partOf (updX X k { X k with act := .op j (stepOf (cOf (QE n) j) l o).2 }) j = updP (partOf X j) (roleOf k (X k)) (stepV (cOf (QE n) j) (viewOf (cOf (QE n) j) l) o).2 := by
      rw [v2]
      unfold roleOf
      by_cases hk : (X k).kind ≤ 1
      · have := hw hk
        subst this
        have hk2 : ¬ 2 ≤ (X j).kind := by omega
        rw [if_pos hk, part_upd_own]
        funext b
        cases b with
        | none => simp [updP, ownOp, hk]
        | some q => by_cases hq : q = j <;> simp [updP, thfOp, partOf, hk2, hq, ha]
      · have hk2 : 2 ≤ (X k).kind := by omega
        rw [if_neg hk]
        by_cases hjk : j = k
        · subst hjk
          rw [part_upd_own]
          funext b
          cases b with
          | none => simp [updP, ownOp, partOf, hk, ha]
          | some q => by_cases hq : q = j <;> simp [updP, thfOp, hk2, hq]
        · rw [part_upd_other X hjk]
          simp [thfOp, hk2]
    rw [hu]
    exact hs
  · have hap : (cOf (QE n) i).base + (4 + (cOf (QE n) i).cap + (cOf (QE n) i).over) ≤ (cOf (QE n) j).base ∨ (cOf (QE n) j).base + (4 + (cOf (QE n) j).cap + (cOf (QE n) j).over) ≤ (cOf (QE n) i).base := by
      rw [ci, cj]; simp only; omega
    rw [view_other hc hcap hap]
    have hu : partOf (updX X k { X k with act := .op i (stepOf (cOf (QE n) i) l o).2 }) j = partOf X j := by
      have e' : ¬ i = j := fun q => e q.symm
      funext b
      cases b with
      | none => by_cases hq : j = k <;> simp [partOf, updX, ownOp, hq]; subst hq; simp [ha, e']
      | some q => by_cases hq : q = k <;> simp [partOf, updX, thfOp, hq]; simp [ha, e']
    rw [hu]
    exact h j hj
end Go.Proofs.Ytokabpgdklihlaa
