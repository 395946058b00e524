/-
  The crew of QuietEnds without memory: numbers stay small ('Bnd'), and each step may be done ('may_all'). No Go is walked here.
-/
import Derived.Test.YtokabpgdklihlaaQuietInv
namespace Go.Proofs.Ytokabpgdklihlaa
set_option linter.unusedVariables false

/-- Top, bottom and what operations have seen of them are at most M. -/
structure Bnd (n : Nat) (M : Int) (S : GS) : Prop where
  nn : 0 ≤ M
  tb : ∀ j, j < n → (-M ≤ rd (cOf (QE n) j) S.l 0 ∧ rd (cOf (QE n) j) S.l 0 ≤ M) ∧ (-M ≤ rd (cOf (QE n) j) S.l 1 ∧ rd (cOf (QE n) j) S.l 1 ≤ M)
  op : ∀ k, k < n → ∀ i o, (S.X k).act = .op i o → (-M ≤ o.top ∧ o.top ≤ M) ∧ (-M ≤ o.bottom ∧ o.bottom ≤ M)

theorem next_op {n k : Nat} {y : WkS} {af : Int} {i : Nat} {o : OpS} (e : (nextS n k y af).act = .op i o) : o.top = 0 ∧ o.bottom = 0 := by
  unfold nextS at e
  split at e
  · cases e; exact ⟨rfl, rfl⟩
  · split at e
    · cases e; exact ⟨rfl, rfl⟩
    · split at e
      · cases e; exact ⟨rfl, rfl⟩
      · cases e

theorem Bnd.step {n : Nat} {S : GS} {M : Int} (h : Crew n S) (hB : Bnd n M S) {k : Nat} (hk : k < n) (hf : NoFull n S k) : Bnd n (M + 1) (stepG (QE n) n S k) := by
  have hM := hB.nn
  have hsh := h.shape k hk
  have up : Bnd n (M + 1) S := ⟨by omega, fun j hj => by have := hB.tb j hj; omega, fun j hj i o g => by have := hB.op j hj i o g; omega⟩
  -- a worker's new act
  have opS : ∀ x : WkS, (∀ i o, x.act = .op i o → (-(M + 1) ≤ o.top ∧ o.top ≤ M + 1) ∧ (-(M + 1) ≤ o.bottom ∧ o.bottom ≤ M + 1)) → ∀ j, j < n → ∀ i o, (updX S.X k x j).act = .op i o → (-(M + 1) ≤ o.top ∧ o.top ≤ M + 1) ∧ (-(M + 1) ≤ o.bottom ∧ o.bottom ≤ M + 1) := fun x hx j hj i o g => by
    by_cases e : j = k
    · subst e; rw [updX_at] at g; exact hx i o g
    · rw [updX_ne _ _ e] at g; exact up.op j hj i o g
  have nx : ∀ y af i o, (nextS n k y af).act = .op i o → (-(M + 1) ≤ o.top ∧ o.top ≤ M + 1) ∧ (-(M + 1) ≤ o.bottom ∧ o.bottom ≤ M + 1) := fun y af i o g => by
    have := next_op g
    omega
  unfold stepG
  by_cases he : (S.X k).ended = true
  · rw [if_pos he]; exact up
  rw [if_neg he]
  unfold ShapeW at hsh
  cases ha : (S.X k).act with
  | none => exact ⟨up.nn, up.tb, opS _ (nx _ _)⟩
  | offer o =>
    simp only
    refine ⟨up.nn, fun j hj => ?_, opS _ ?_⟩
    · have hv := view_stepQ hj S.l o
      have e0 : rd (cOf (QE n) j) (stepQ (QE n) S.l o).1 0 = rd (cOf (QE n) j) S.l 0 := congrArg DV.T hv
      have e1 : rd (cOf (QE n) j) (stepQ (QE n) S.l o).1 1 = rd (cOf (QE n) j) S.l 1 := congrArg DV.B hv
      simp only [e0, e1]
      exact up.tb j hj
    · by_cases e2 : (stepQ (QE n) S.l o).2.state = 2
      · rw [if_pos e2]; exact fun i o g => by cases g
      · rw [if_neg e2]
        by_cases e1 : (stepQ (QE n) S.l o).2.state = 1
        · rw [if_pos e1]; exact nx _ _
        · rw [if_neg e1]; exact fun i o g => by cases g
  | op i o =>
    rw [ha] at hsh
    simp only at hsh ⊢
    obtain ⟨_, hd, hi, hc, hki, hei, hway⟩ := hsh
    have hcap : 1 ≤ (cOf (QE n) i).cap := by rw [cOf_QE hi]; simp
    have ho := hB.op k hk i o ha
    have ht := hB.tb i hi
    have F := fit_own (cOf (QE n) i) S.l o M ⟨ht.1, ht.2, ho.1, ho.2, hc⟩
    have tb : ∀ j, j < n → (-(M + 1) ≤ rd (cOf (QE n) j) (stepOf (cOf (QE n) i) S.l o).1 0 ∧ rd (cOf (QE n) j) (stepOf (cOf (QE n) i) S.l o).1 0 ≤ M + 1) ∧ (-(M + 1) ≤ rd (cOf (QE n) j) (stepOf (cOf (QE n) i) S.l o).1 1 ∧ rd (cOf (QE n) j) (stepOf (cOf (QE n) i) S.l o).1 1 ≤ M + 1) := fun j hj => by
      by_cases hji : j = i
      · subst hji; exact ⟨F.t, F.b⟩
      · have hv : viewOf (cOf (QE n) j) (stepOf (cOf (QE n) i) S.l o).1 = viewOf (cOf (QE n) j) S.l := by
          refine view_other hc hcap ?_
          rw [cOf_QE hi, cOf_QE hj]; simp only; omega
        have e0 : rd (cOf (QE n) j) (stepOf (cOf (QE n) i) S.l o).1 0 = rd (cOf (QE n) j) S.l 0 := congrArg DV.T hv
        have e1 : rd (cOf (QE n) j) (stepOf (cOf (QE n) i) S.l o).1 1 = rd (cOf (QE n) j) S.l 1 := congrArg DV.B hv
        rw [e0, e1]
        exact up.tb j hj
    have hf' := hf i o ha
    have F3 := F.ot
    have F4 := F.ob
    clear F
    generalize hl' : (stepOf (cOf (QE n) i) S.l o).1 = l' at *
    generalize ho' : (stepOf (cOf (QE n) i) S.l o).2 = o' at *
    by_cases hdn : o'.done = true
    · rw [if_pos hdn]
      have hv : (S.X k).kind = 0 → (valOf o').2 = 0 := fun g => by simp [valOf, hdn, hf' g hdn]
      obtain ⟨y, af, e1, e2⟩ := over_next (n := n) (k := k) (x := { S.X k with act := .op i o' }) (v := (valOf o').1) (e := (valOf o').2) hv
      rw [e1]
      exact ⟨up.nn, tb, opS _ (nx _ _)⟩
    · rw [if_neg hdn]
      exact ⟨up.nn, tb, opS _ (fun i2 o2 g => by cases g; exact ⟨F3, F4⟩)⟩
theorem items_none {C : Cfg} {l : List Int} (h : EmptyV (viewOf C l)) : itemsOf C l = [] := by
  have e0 : rd C l 0 = rd C l 1 := h.1
  have e1 : rd C l 3 = 0 := h.2
  have h1 : heldOf C (rd C l 0) (rd C l 1) = 0 := by unfold heldOf; rw [if_pos (by omega)]
  have h2 : stackedOf C (rd C l 3) = 0 := by unfold stackedOf; rw [e1]; omega
  unfold itemsOf
  rw [h1, h2]
  simp [seg]

theorem may_all {n : Nat} {S : GS} {M : Int} (h : AllG n S) (hB : Bnd n M S) (hM : M ≤ 900000) (hdn : 0 ≤ S.dn ∧ S.dn ≤ 100000) {k : Nat} (hk : k < n) : MayG (QE n) n S k := by
  intro he
  have hsh := h.crew.shape k hk
  have hf := Cap.noFull h.crew h.cap hk
  obtain ⟨_, hin, _⟩ := h.crew.inside hk hf h.out
  have hn4 := h.crew.n4
  have hl4 := h.crew.len
  unfold ShapeW at hsh
  cases ha : (S.X k).act with
  | none => trivial
  | offer o =>
    rw [ha] at hsh
    simp only at hsh ⊢
    obtain ⟨hh, ⟨s0, _, q⟩ | hst⟩ := hsh
    · have hc := h.cnt
      unfold Cnt at hc
      have c1 := (sum_full (n := n) (g := fun k => inC (S.X k)) (fun j => inC_vals _)).1
      have c2 := sumTo_nn (n := n) (g := fun k => inC (S.X k)) (fun j _ => by have := inC_vals (S.X j); omega)
      refine ⟨by omega, q, fun e2 => ?_⟩
      have hr : (stepQ (QE n) S.l o).1 = S.l ∧ cnt (QE n) S.l = n := by
        obtain ⟨a, st, k2, t⟩ := o
        have s0' : st = 0 := s0
        subst s0'
        cases a
        case readCount =>
          by_cases hz : cnt (QE n) S.l = (QE n).n
          · exact ⟨by simp [stepQ, hz], hz⟩
          · simp [stepQ, hz, lookQ] at e2
        case countIn => simp [stepQ] at e2
        case readTop => simp [stepQ] at e2
        case readBottom => simp [stepQ] at e2
        case readStack => by_cases hz : 0 < rd (cOf (QE n) k2) S.l 3 <;> simp [stepQ, hz, lookQ] at e2
        case countOut => simp [stepQ] at e2
      rw [hr.1]
      intro i hi
      obtain ⟨g1, g2, _⟩ := h.crew.none h.emp h.cnt hr.2 i hi
      have hb := hB.tb i hi
      exact ⟨g1, items_none g2, by omega, by omega, by omega⟩
    · rw [hst.2] at he; cases he
  | op i o =>
    rw [ha] at hsh
    simp only at hsh ⊢
    obtain ⟨_, hd, hi, hc, hki, hei, hway⟩ := hsh
    have ho := hB.op k hk i o ha
    have ht := hB.tb i hi
    refine ⟨⟨by omega, by omega, by omega, by omega, hc⟩, fun g => ⟨?_, hdn⟩⟩
    have hr : (cOf (QE n) i).base + (4 + (cOf (QE n) i).cap + (cOf (QE n) i).over) ≤ S.l.length := by rw [cOf_QE hi]; simp only; omega
    have hcap : 1 ≤ (cOf (QE n) i).cap := by rw [cOf_QE hi]; simp
    have hei' : ErrI ((S.X k).kind == 0) (stepOf (cOf (QE n) i) S.l o).2 := by rw [(view_step hr hcap hc).2]; exact err_step hki hei
    have q := hei'.1 g
    unfold OverOk
    by_cases k0 : (S.X k).kind = 0
    · have e0 := hf i o ha k0 g
      refine .inl ⟨k0, by simp [valOf, g, e0], ?_⟩
      rcases hway with ⟨_, _, rest, g3⟩ | ⟨g1, _⟩ | ⟨g1, _⟩
      · rw [g3]; simp
      · omega
      · omega
    · have hb : ((S.X k).kind == 0) = false := by simp [k0]
      rw [hb] at q
      simp only [Bool.false_eq_true, if_false] at q
      have hh : (S.X k).hands = [] := by
        rcases hway with ⟨g1, _⟩ | ⟨_, _, g3⟩ | ⟨_, g3⟩
        · exact absurd g1 k0
        · exact g3
        · exact g3
      by_cases e0 : (stepOf (cOf (QE n) i) S.l o).2.errno = 0
      · have hv := hin _ ⟨i, o, he, ha, g, k0, e0, rfl⟩
        refine .inr (.inl ⟨by omega, by omega, hh, by simp [valOf, g, e0], ?_⟩)
        simp only [valOf, g, e0, if_true]
        omega
      · refine .inr (.inr ⟨by omega, by omega, ?_⟩)
        have : (valOf (stepOf (cOf (QE n) i) S.l o).2).2 = (stepOf (cOf (QE n) i) S.l o).2.errno := by simp [valOf, g, e0]
        omega
end Go.Proofs.Ytokabpgdklihlaa
