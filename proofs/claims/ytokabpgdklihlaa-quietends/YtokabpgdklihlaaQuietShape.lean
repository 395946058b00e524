/-
  The crew of QuietEnds without memory: the shape of a worker ('ShapeW'), and that shapes and deques stay well through every step of the crew in which no push is refused ('Crew.step'). No Go is walked here.
-/
import Derived.Test.YtokabpgdklihlaaQuietParts
namespace Go.Proofs.Ytokabpgdklihlaa
set_option linter.unusedVariables false

/-- What an operation may tell: a push 0 or 14 (full), a take 0, 15 (empty) or 16. -/
def ErrI (push : Bool) (o : OpS) : Prop :=
  (o.done = true → if push then o.errno = 0 ∨ o.errno = 14 else o.errno = 0 ∨ o.errno = 15 ∨ o.errno = 16) ∧
  (o.done = false → o.at_ = .free → if push then o.errno = 0 ∨ o.errno = 14 else o.errno = 0 ∨ o.errno = 15)

theorem err_step {C : Cfg} {v : DV} {push : Bool} {o : OpS} (hk : KindI push o) (h : ErrI push o) : ErrI push (stepV C v o).2 := by
  obtain ⟨a, dn, t, u, n, i, en⟩ := o
  cases dn
  case true => rw [stepV_done rfl]; exact h
  have hk' := hk rfl
  have h' := h.2 rfl
  cases push <;> cases a <;> simp only [pushAt, takeAt, Bool.false_eq_true, if_true, if_false, false_and, true_and, ne_eq, reduceCtorEq, not_false_eq_true, not_true_eq_false, false_implies, true_implies] at hk' h'
  all_goals try subst hk'
  all_goals first
    | (simp [stepV, ErrI]; done)
    | (simp [stepV, ErrI]; omega)
    | (simp only [stepV, Bool.false_eq_true, if_false]; split <;> simp [ErrI]; done)
    | (simp only [stepV, Bool.false_eq_true, if_false]; split <;> (try split) <;> simp [ErrI]; done)

theorem item_push {C : Cfg} {v : DV} {o : OpS} (hk : KindI true o) : (stepV C v o).2.item = o.item := by
  obtain ⟨a, dn, t, u, n, i, en⟩ := o
  cases dn
  case true => rw [stepV_done rfl]
  have hk' := (hk rfl).1
  cases a <;> simp only [pushAt, if_true, Bool.false_eq_true] at hk'
  all_goals first
    | (simp [stepV]; done)
    | (simp only [stepV, Bool.false_eq_true, if_false]; split <;> rfl)

/-- A worker as it may stand. -/
def ShapeW (n k : Nat) (x : WkS) : Prop :=
  match x.act with
  | .none => x.ended = false
  | .op i o => x.ended = false ∧ o.done = false ∧ i < n ∧ CntOk (cOf (QE n) i) o ∧ KindI (x.kind == 0) o ∧ ErrI (x.kind == 0) o ∧ ((x.kind = 0 ∧ i = k ∧ ∃ rest, x.hands = o.item :: rest) ∨ (x.kind = 1 ∧ i = k ∧ x.hands = []) ∨ (x.kind = i + 2 ∧ x.hands = []))
  | .offer o => x.hands = [] ∧ ((o.state = 0 ∧ x.ended = false ∧ QOk (QE n) o) ∨ (o.state = 2 ∧ x.ended = true))

theorem next_shape {n k : Nat} (hk : k < n) {x : WkS} (he : x.ended = false) {after : Int} : ShapeW n k (nextS n k x after) := by
  obtain ⟨hs, kd, ac, en⟩ := x
  unfold nextS
  cases hs with
  | cons y ys =>
    refine ⟨he, rfl, hk, trivial, fun _ => ⟨rfl, fun _ => rfl⟩, ⟨fun g => (by cases g), fun _ g => (by cases g)⟩, .inl ⟨rfl, rfl, ys, rfl⟩⟩
  | nil =>
    simp only
    by_cases h1 : after < 1
    · rw [if_pos h1]
      refine ⟨he, rfl, hk, trivial, fun _ => ⟨rfl, fun _ => rfl⟩, ⟨fun g => (by cases g), fun _ g => (by cases g)⟩, .inr (.inl ⟨rfl, rfl, rfl⟩)⟩
    · rw [if_neg h1]
      by_cases h2 : after ≤ n
      · rw [if_pos h2]
        have hz : ((after + 1 == 0 : Bool)) = false := by simp; omega
        simp only [ShapeW, hz]
        refine ⟨he, rfl, by omega, trivial, fun _ => ⟨rfl, fun _ => rfl⟩, ⟨fun g => (by cases g), fun _ g => (by cases g)⟩, .inr (.inr ⟨by omega, trivial⟩)⟩
      · rw [if_neg h2]
        exact ⟨rfl, .inl ⟨rfl, he, trivial⟩⟩

theorem next_begins (n k : Nat) (x : WkS) (after : Int) : Begins none (ownOp (nextS n k x after) k) ∧ ∀ j, Begins (some k) (thfOp (nextS n k x after) j) := by
  obtain ⟨hs, kd, ac, en⟩ := x
  unfold nextS
  cases hs with
  | cons y ys =>
    refine ⟨.inr ⟨.pushReadBottom, y, by simp [ownOp], .inl ⟨rfl, .inl rfl⟩⟩, fun j => .inl ?_⟩
    simp [thfOp, opDone]
  | nil =>
    simp only
    by_cases h1 : after < 1
    · rw [if_pos h1]
      refine ⟨.inr ⟨.popReadBottom, 0, by simp [ownOp], .inl ⟨rfl, .inr rfl⟩⟩, fun j => .inl ?_⟩
      simp [thfOp, opDone]
    · rw [if_neg h1]
      by_cases h2 : after ≤ n
      · rw [if_pos h2]
        have h3 : ¬ after + 1 ≤ 1 := by omega
        refine ⟨.inl (by simp [ownOp, opDone, h3]), fun j => ?_⟩
        by_cases hj : (after - 1).toNat = j
        · have h4 : 2 ≤ after + 1 := by omega
          exact .inr ⟨.stealReadTop, 0, by simp [thfOp, hj, h4], .inr ⟨by simp, rfl⟩⟩
        · exact .inl (by unfold thfOp; simp only; rw [if_neg (fun g => hj g.1)]; rfl)
      · rw [if_neg h2]
        exact ⟨.inl rfl, fun j => .inl rfl⟩

/-- The count's cell is no deque's. -/
theorem view_count {n j : Nat} (hj : j < n) (l : List Int) (x : Int) : viewOf (cOf (QE n) j) (l.set 0 x) = viewOf (cOf (QE n) j) l := by
  have h : ∀ i, rd (cOf (QE n) j) (l.set 0 x) i = rd (cOf (QE n) j) l i := fun i => by
    unfold rd
    rw [cOf_QE hj, List.getD_eq_getElem?_getD, List.getD_eq_getElem?_getD, List.getElem?_set, if_neg (by simp only; omega)]
  unfold viewOf
  simp only [h]
theorem view_stepQ {n j : Nat} (hj : j < n) (l : List Int) (o : OfS) : viewOf (cOf (QE n) j) (stepQ (QE n) l o).1 = viewOf (cOf (QE n) j) l := by
  unfold stepQ
  by_cases h : o.state = 0
  · rw [if_pos h]
    cases o.at_ <;> simp only
    case countIn => exact view_count hj l _
    case countOut => exact view_count hj l _
    case readCount => split <;> rfl
    case readStack => split <;> rfl
  · rw [if_neg h]

theorem csE_len (n : Nat) : (QE n).cs.length = n := by simp [QE, csE]
theorem qok_step {n : Nat} (hn : 1 ≤ n) {l : List Int} {o : OfS} (hs : o.state = 0) (h : QOk (QE n) o) : QOk (QE n) (stepQ (QE n) l o).2 ∧ ((stepQ (QE n) l o).2.state = 0 ∨ (stepQ (QE n) l o).2.state = 1 ∨ (stepQ (QE n) l o).2.state = 2) := by
  obtain ⟨a, st, k, t⟩ := o
  have hs' : st = 0 := hs
  subst hs'
  have hlen := csE_len n
  cases a <;> simp only [QOk] at h
  case countIn => simp [stepQ, QOk]
  case readCount =>
    by_cases hz : cnt (QE n) l = (QE n).n
    · simp [stepQ, QOk, hz]
    · have : ¬ 0 = (QE n).cs.length := by omega
      simp [stepQ, QOk, hz, lookQ, this]; omega
  case readTop => simp [stepQ, QOk, h]
  case readBottom => by_cases hz : t < rd (cOf (QE n) k) l 1 <;> simp [stepQ, QOk, hz, h]
  case readStack =>
    by_cases hz : 0 < rd (cOf (QE n) k) l 3
    · simp [stepQ, QOk, hz]
    · by_cases hy : k + 1 = (QE n).cs.length
      · simp [stepQ, QOk, hz, lookQ, hy]
      · simp [stepQ, QOk, hz, lookQ, hy]; omega
  case countOut => simp [stepQ, QOk]

/-- The crew is well. -/
structure Crew (n : Nat) (S : GS) : Prop where
  n1 : 1 ≤ n
  n4 : n ≤ 4
  len : S.l.length = 400
  wells : Wells n S.l S.X
  shape : ∀ k, k < n → ShapeW n k (S.X k)

/-- The worker's next step ends no push that finds all full. -/
def NoFull (n : Nat) (S : GS) (k : Nat) : Prop :=
  ∀ i o, (S.X k).act = .op i o → (S.X k).kind = 0 → (stepOf (cOf (QE n) i) S.l o).2.done = true → (stepOf (cOf (QE n) i) S.l o).2.errno = 0

theorem over_next {n k : Nat} {x : WkS} {v e : Int} (h : x.kind = 0 → e = 0) : ∃ y after, (overS n k x v e).1 = nextS n k y after ∧ y.ended = x.ended := by
  unfold overS
  by_cases h0 : x.kind = 0
  · rw [if_pos h0, if_pos (h h0)]
    exact ⟨_, _, rfl, rfl⟩
  · rw [if_neg h0]
    by_cases h1 : e = 0
    · rw [if_pos h1]; exact ⟨_, _, rfl, rfl⟩
    · rw [if_neg h1]
      by_cases h2 : e = 16
      · rw [if_pos h2]; exact ⟨_, _, rfl, rfl⟩
      · rw [if_neg h2]; exact ⟨_, _, rfl, rfl⟩

theorem updX_twice (X : Nat → WkS) (k : Nat) (x y : WkS) : updX (updX X k x) k y = updX X k y := by
  funext i; unfold updX; split <;> rfl
theorem updX_at (X : Nat → WkS) (k : Nat) (x : WkS) : updX X k x k = x := if_pos rfl
theorem updX_ne (X : Nat → WkS) {k i : Nat} (x : WkS) (h : i ≠ k) : updX X k x i = X i := if_neg h

theorem shape_upd {n k : Nat} {X : Nat → WkS} {x : WkS} (h : ∀ i, i < n → ShapeW n i (X i)) (hx : ShapeW n k x) : ∀ i, i < n → ShapeW n i (updX X k x i) := by
  intro i hi
  by_cases e : i = k
  · subst e; rw [updX_at]; exact hx
  · rw [updX_ne _ _ e]; exact h i hi

theorem Crew.step {n : Nat} {S : GS} (h : Crew n S) {k : Nat} (hk : k < n) (hf : NoFull n S k) : Crew n (stepG (QE n) n S k) := by
  have hsh := h.shape k hk
  unfold stepG
  by_cases he : (S.X k).ended = true
  · rw [if_pos he]; exact h
  rw [if_neg he]
  have he' : (S.X k).ended = false := by simpa using he
  unfold ShapeW at hsh
  cases ha : (S.X k).act with
  | none =>
    rw [ha] at hsh
    simp only
    refine ⟨h.n1, h.n4, h.len, ?_, shape_upd h.shape (next_shape hk he')⟩
    exact h.wells.set k _ (by simp [ownOp, ha, opDone]) (fun j => by simp [thfOp, ha, opDone]) (next_begins n k _ 0).1 (next_begins n k _ 0).2
  | offer o =>
    rw [ha] at hsh
    simp only at hsh ⊢
    obtain ⟨hh, hst | hst⟩ := hsh
    · obtain ⟨q1, q2⟩ := qok_step (l := S.l) h.n1 hst.1 hst.2.2
      have hw : Wells n (stepQ (QE n) S.l o).1 S.X := fun j hj => by rw [view_stepQ hj]; exact h.wells j hj
      have i1 : (ownOp (S.X k) k).done = true := by simp [ownOp, ha, opDone]
      have i2 : ∀ j, (thfOp (S.X k) j).done = true := fun j => by simp [thfOp, ha, opDone]
      have hlen : (stepQ (QE n) S.l o).1.length = 400 := by rw [stepQ_length]; exact h.len
      by_cases e2 : (stepQ (QE n) S.l o).2.state = 2
      · rw [if_pos e2]
        exact ⟨h.n1, h.n4, hlen, hw.set k _ i1 i2 (.inl rfl) (fun j => .inl rfl), shape_upd h.shape ⟨hh, .inr ⟨e2, rfl⟩⟩⟩
      · rw [if_neg e2]
        by_cases e1 : (stepQ (QE n) S.l o).2.state = 1
        · rw [if_pos e1]
          exact ⟨h.n1, h.n4, hlen, hw.set k _ i1 i2 (next_begins n k _ 0).1 (next_begins n k _ 0).2, shape_upd h.shape (next_shape hk he')⟩
        · rw [if_neg e1]
          exact ⟨h.n1, h.n4, hlen, hw.set k _ i1 i2 (.inl rfl) (fun j => .inl rfl), shape_upd h.shape ⟨hh, .inl ⟨by omega, he', q1⟩⟩⟩
    · rw [hst.2] at he'; cases he'
  | op i o =>
    rw [ha] at hsh
    simp only at hsh ⊢
    obtain ⟨_, hd, hi, hc, hki, hei, hway⟩ := hsh
    have hw : (S.X k).kind ≤ 1 → i = k := fun g => by omega
    have hn4 := h.n4
    have hl4 := h.len
    have hl : 1 + 90 * n ≤ S.l.length := by omega
    have W := h.wells.act hl hi ha hw hc
    have hr : (cOf (QE n) i).base + (4 + (cOf (QE n) i).cap + (cOf (QE n) i).over) ≤ S.l.length := by rw [cOf_QE hi]; simp only; omega
    have hcap : 1 ≤ (cOf (QE n) i).cap := by rw [cOf_QE hi]; simp
    obtain ⟨v1, v2⟩ := view_step hr hcap hc
    have hlen : (stepOf (cOf (QE n) i) S.l o).1.length = 400 := by rw [(step_sees _ _ _ hr hd).1]; exact h.len
    have hki' : KindI ((S.X k).kind == 0) (stepOf (cOf (QE n) i) S.l o).2 := by rw [v2]; exact kind_step hki
    have hei' : ErrI ((S.X k).kind == 0) (stepOf (cOf (QE n) i) S.l o).2 := by rw [v2]; exact err_step hki hei
    have hci' := cnt_own (cOf (QE n) i) S.l o hc
    have hit : (S.X k).kind = 0 → (stepOf (cOf (QE n) i) S.l o).2.item = o.item := fun g => by
      rw [v2]; exact item_push (by rw [g] at hki; exact hki)
    have hf' := hf i o ha
    generalize hl' : (stepOf (cOf (QE n) i) S.l o).1 = l' at *
    generalize ho' : (stepOf (cOf (QE n) i) S.l o).2 = o' at *
    by_cases hdn : o'.done = true
    · rw [if_pos hdn]
      have hv : (S.X k).kind = 0 → (valOf o').2 = 0 := fun g => by simp [valOf, hdn, hf' g hdn]
      obtain ⟨y, af, e1, e2⟩ := over_next (n := n) (k := k) (x := { S.X k with act := .op i o' }) (v := (valOf o').1) (e := (valOf o').2) hv
      refine ⟨h.n1, h.n4, hlen, ?_, ?_⟩
      · simp only
        rw [e1, ← updX_twice S.X k { S.X k with act := .op i o' }]
        refine W.set k _ ?_ (fun j => ?_) (next_begins n k _ _).1 (next_begins n k _ _).2
        · rw [updX_at]; simp only [ownOp]; split <;> first | exact hdn | rfl
        · rw [updX_at]; simp only [thfOp]; split <;> first | exact hdn | rfl
      · simp only
        rw [e1]
        exact shape_upd h.shape (next_shape hk (e2.trans he'))
    · rw [if_neg hdn]
      have hdn' : o'.done = false := by simpa using hdn
      refine ⟨h.n1, h.n4, hlen, W, shape_upd h.shape ?_⟩
      refine ⟨he', hdn', hi, hci', hki', hei', ?_⟩
      rcases hway with ⟨g1, g2, rest, g3⟩ | ⟨g1, g2, g3⟩ | ⟨g1, g3⟩
      · exact .inl ⟨g1, g2, rest, by rw [hit g1]; exact g3⟩
      · exact .inr (.inl ⟨g1, g2, g3⟩)
      · exact .inr (.inr ⟨g1, g3⟩)
end Go.Proofs.Ytokabpgdklihlaa
