/-
  The crew of QuietEnds without memory: an owner whose pop finds nothing has an empty deque, and it stays so while others alone act there ('PopI', 'pop_own', 'pop_thief', 'empty_thief'). No Go is walked here.
-/
import Derived.Test.YtokabpgdklihlaaQuietSum
namespace Go.Proofs.Ytokabpgdklihlaa
set_option linter.unusedVariables false

/-- What a pop knows behind the slots. -/
def PopI (v : DV) (o : OpS) : Prop :=
  (o.done = true → o.errno = 15 → v.T = v.B ∧ v.N = 0) ∧
  (o.done = false → match o.at_ with
    | .takeLock | .takeCount | .takeCell | .takeCounted => v.T = v.B
    | .free => v.T = v.B ∧ (o.errno = 15 → v.N = 0)
    | _ => True)

theorem pop_own {C : Cfg} {v : DV} {o : OpS} (hki : KindI false o) (hk : o.done = false → ownerAt o.at_ = true) (ho : OwnI v.T v.B o) (hN : 0 ≤ v.N ∧ v.N ≤ C.over) (h : PopI v o) : PopI (stepV C v o).1 (stepV C v o).2 := by
  obtain ⟨a, dn, t, u, n, i, en⟩ := o
  cases dn
  case true => rw [stepV_done rfl]; exact h
  have h' := h.2 rfl
  have hk' := hk rfl
  obtain ⟨q1, q2⟩ := hki rfl
  have hs := stacked_in hN
  cases a <;> simp only [OwnI, Bool.false_eq_true, if_false, takeAt] at ho h' q1 q2
  case stealReadTop => simp [ownerAt] at hk'
  case stealReadBottom => simp [ownerAt] at hk'
  case stealSlot => simp [ownerAt] at hk'
  case stealSwap => simp [ownerAt] at hk'
  case popReadBottom => simp [stepV, PopI]
  case popBottom => simp [stepV, PopI]
  case popReadTop =>
    by_cases hz : v.T < u
    · simp [stepV, PopI, hz]
    · by_cases hy : v.T = u
      · simp [stepV, PopI, hy]
      · simp [stepV, PopI, hz, hy]
  case popSlot => simp [stepV, PopI]
  case popLast => simp [stepV, PopI]
  case popSwap => by_cases hz : v.T = t <;> simp [stepV, PopI, hz]
  case popWon => simp [stepV, PopI]
  case popNothing => simp [stepV, PopI, ho.1]
  case takeLock => by_cases hz : v.L = 0 <;> simp [stepV, PopI, hz, h']
  case takeCount =>
    have e0 : en = 0 := q2 (by simp)
    by_cases hz : stackedOf C v.N = 0
    · have hN0 : v.N = 0 := by omega
      simp [stepV, PopI, hz, h']
      exact hN0
    · simp [stepV, PopI, hz, h']
  case takeCell => simp [stepV, PopI, h']
  case takeCounted =>
    have e0 : en = 0 := q2 (by simp)
    simp [stepV, PopI, h', e0]
  case free =>
    refine ⟨fun _ g => ?_, fun g => ?_⟩
    · simp [stepV] at g ⊢
      exact ⟨h'.1, h'.2 g⟩
    · simp [stepV] at g

/-- A thief's step where nothing is left in the slots: nothing comes of it. -/
theorem thief_none {C : Cfg} {v : DV} {o x : OpS} (hk : x.done = false → thiefAt x.at_ = true) (ht : ThI v.T v.B o x) (hm : ¬ mid o) (e : v.T = v.B) : (stepV C v x).1.T = v.T ∧ (stepV C v x).1.B = v.B := by
  obtain ⟨eb, es, et | ⟨et, g1, g2, g3⟩⟩ := thief_sees (C := C) (v := v) hk
  · exact ⟨et, eb⟩
  · have ht' := ht g1
    rw [g2] at ht'
    rcases ht'.2 g3 with q | q
    · omega
    · exact absurd q.2 hm
theorem thief_empty {C : Cfg} {v : DV} {x : OpS} (hk : x.done = false → thiefAt x.at_ = true) (hs : StkI C v x) (e : v.N = 0) : (stepV C v x).1.N = 0 := by
  obtain ⟨a, dn, t, u, n, i, en⟩ := x
  cases dn
  case true => rw [stepV_done rfl]; exact e
  have hk' := hk rfl
  have hs' := hs rfl
  cases a <;> simp only at hs'
  case stealSwap => by_cases hz : v.T = t <;> simp [stepV, hz, e]
  case takeLock => by_cases hz : v.L = 0 <;> simp [stepV, hz, e]
  case takeCount => by_cases hz : stackedOf C v.N = 0 <;> simp only [stepV, hz, Bool.false_eq_true, if_false, if_true] <;> exact e
  case takeCounted => omega
  all_goals first | (simp [stepV, e]; done) | (simp [thiefAt] at hk')

theorem pop_thief {C : Cfg} {v : DV} {o x : OpS} (hk : x.done = false → thiefAt x.at_ = true) (ht : ThI v.T v.B o x) (hs : StkI C v x) (h : PopI v o) : PopI (stepV C v x).1 o := by
  refine ⟨fun hd g => ?_, fun hd => ?_⟩
  · obtain ⟨e1, e2⟩ := h.1 hd g
    obtain ⟨t1, t2⟩ := thief_none (C := C) hk ht (fun q => by rw [q.1] at hd; cases hd) e1
    exact ⟨by rw [t1, t2, e1], thief_empty hk hs e2⟩
  · have h' := h.2 hd
    obtain ⟨a, dn, t, u, n, i, en⟩ := o
    cases a <;> simp only at h' ⊢
    case free =>
      obtain ⟨t1, t2⟩ := thief_none (C := C) hk ht (fun q => by simp [mid] at q) h'.1
      exact ⟨by rw [t1, t2, h'.1], fun g => thief_empty hk hs (h'.2 g)⟩
    all_goals
      obtain ⟨t1, t2⟩ := thief_none (C := C) hk ht (fun q => by simp [mid] at q) h'
      rw [t1, t2, h']

/-- No owner at work, nothing there. -/
def EmptyV (v : DV) : Prop := v.T = v.B ∧ v.N = 0
theorem empty_thief {C : Cfg} {v : DV} {p : Option Nat → OpS} (h : DI C v p) (hd : (p none).done = true) (j : Nat) (e : EmptyV v) : EmptyV (stepV C v (p (some j))).1 := by
  obtain ⟨t1, t2⟩ := thief_none (C := C) (h.kinds j) (h.thf j) (fun q => by rw [q.1] at hd; cases hd) e.1
  exact ⟨by rw [t1, t2, e.1], thief_empty (h.kinds j) (h.stk (some j)) e.2⟩
/-- What a worker knows of its own deque. -/
def EmpW (n : Nat) (l : List Int) (k : Nat) (x : WkS) : Prop :=
  match x.act with
  | .none => True
  | .op i o => (x.kind = 1 → PopI (viewOf (cOf (QE n) k) l) o) ∧ (2 ≤ x.kind → EmptyV (viewOf (cOf (QE n) k) l))
  | .offer o => EmptyV (viewOf (cOf (QE n) k) l)
def Emp (n : Nat) (S : GS) : Prop := ∀ k, k < n → EmpW n S.l k (S.X k)

theorem emp_next {n : Nat} {l : List Int} {k : Nat} {x : WkS} {af : Int} (h : 1 ≤ af → EmptyV (viewOf (cOf (QE n) k) l)) : EmpW n l k (nextS n k x af) := by
  obtain ⟨hs, kd, ac, en⟩ := x
  unfold nextS
  cases hs with
  | cons y ys => exact ⟨fun g => (by cases g), fun g => (by simp at g)⟩
  | nil =>
    simp only
    by_cases h1 : af < 1
    · rw [if_pos h1]
      exact ⟨fun _ => ⟨fun g => (by cases g), fun _ => trivial⟩, fun g => (by simp at g)⟩
    · rw [if_neg h1]
      by_cases h2 : af ≤ n
      · rw [if_pos h2]
        exact ⟨fun g => (by simp only at g; omega), fun _ => h (by omega)⟩
      · rw [if_neg h2]
        exact h (by omega)
theorem emp_upd {n : Nat} {l : List Int} {X : Nat → WkS} {k : Nat} {x : WkS} (h : ∀ j, j < n → j ≠ k → EmpW n l j (X j)) (hx : EmpW n l k x) : ∀ j, j < n → EmpW n l j (updX X k x j) := by
  intro j hj
  by_cases e : j = k
  · subst e; rw [updX_at]; exact hx
  · rw [updX_ne _ _ e]; exact h j hj e

theorem Emp.step {n : Nat} {S : GS} (h : Crew n S) (hE : Emp n S) {k : Nat} (hk : k < n) (hf : NoFull n S k) : Emp n (stepG (QE n) n S k) := by
  have hsh := h.shape k hk
  have hEk := hE k hk
  unfold stepG
  by_cases he : (S.X k).ended = true
  · rw [if_pos he]; exact hE
  rw [if_neg he]
  have he' : (S.X k).ended = false := by simpa using he
  unfold ShapeW at hsh
  unfold EmpW at hEk
  cases ha : (S.X k).act with
  | none =>
    simp only
    exact emp_upd (fun j hj _ => hE j hj) (emp_next (fun g => by omega))
  | offer o =>
    rw [ha] at hsh hEk
    simp only at hsh hEk ⊢
    have hE' : ∀ j, j < n → EmpW n (stepQ (QE n) S.l o).1 j (S.X j) := fun j hj => by
      have := hE j hj
      unfold EmpW at this ⊢
      rw [view_stepQ hj]
      exact this
    refine emp_upd (fun j hj _ => hE' j hj) ?_
    by_cases e2 : (stepQ (QE n) S.l o).2.state = 2
    · rw [if_pos e2]
      show EmptyV _
      rw [view_stepQ hk]; exact hEk
    · rw [if_neg e2]
      by_cases e1 : (stepQ (QE n) S.l o).2.state = 1
      · rw [if_pos e1]; exact emp_next (fun g => by omega)
      · rw [if_neg e1]
        show EmptyV _
        rw [view_stepQ hk]; exact hEk
  | op i o =>
    rw [ha] at hsh hEk
    simp only at hsh hEk ⊢
    obtain ⟨_, hd, hi, hc, hki, hei, hway⟩ := hsh
    have hw : (S.X k).kind ≤ 1 → i = k := fun g => by omega
    have hn4 := h.n4
    have hl4 := h.len
    have hp := part_act ha hw
    have hr : (cOf (QE n) i).base + (4 + (cOf (QE n) i).cap + (cOf (QE n) i).over) ≤ S.l.length := by rw [cOf_QE hi]; simp only; omega
    have hcap : 1 ≤ (cOf (QE n) i).cap := by rw [cOf_QE hi]; simp
    obtain ⟨v1, v2⟩ := view_step hr hcap hc
    have hD := h.wells i hi
    have hoth : ∀ j, j < n → j ≠ i → viewOf (cOf (QE n) j) (stepOf (cOf (QE n) i) S.l o).1 = viewOf (cOf (QE n) j) S.l := fun j hj hji => by
      refine view_other hc hcap ?_
      rw [cOf_QE hi, cOf_QE hj]; simp only; omega
    have hei' : ErrI ((S.X k).kind == 0) (stepOf (cOf (QE n) i) S.l o).2 := by rw [v2]; exact err_step hki hei
    -- a thief at deque i
    have hthf : 2 ≤ (S.X k).kind → partOf S.X i (some k) = o := fun g => by
      unfold roleOf at hp
      rw [if_neg (by omega)] at hp
      exact hp
    -- the others
    have hE' : ∀ j, j < n → j ≠ k → EmpW n (stepOf (cOf (QE n) i) S.l o).1 j (S.X j) := fun j hj hjk => by
      have hEj := hE j hj
      by_cases hji : j = i
      · subst hji
        have hk2 : 2 ≤ (S.X k).kind := by
          rcases (show (S.X k).kind ≤ 1 ∨ 2 ≤ (S.X k).kind by omega) with q | q
          · exact absurd (hw q) hjk
          · exact q
        have hpk := hthf hk2
        unfold EmpW at hEj ⊢
        rw [v1]
        cases hj2 : (S.X j).act with
        | none => trivial
        | offer of =>
          rw [hj2] at hEj
          have := empty_thief hD (by simp [partOf, ownOp, hj2, opDone]) k hEj
          rw [hpk] at this
          exact this
        | op i2 o2 =>
          rw [hj2] at hEj
          refine ⟨fun g => ?_, fun g => ?_⟩
          · have hs2 := h.shape j hj
            unfold ShapeW at hs2
            rw [hj2] at hs2
            have hi2 : i2 = j := by
              obtain ⟨_, _, _, _, _, _, q | q | q⟩ := hs2
              · exact q.2.1
              · exact q.2.1
              · omega
            have hpn : partOf S.X j none = o2 := by
              simp [partOf, ownOp, hj2, hi2, g]
            have ht := hD.thf k
            have hs := hD.stk (some k)
            have hkk := hD.kinds k
            rw [hpk] at ht hs hkk
            rw [hpn] at ht
            exact pop_thief hkk ht hs (hEj.1 g)
          · have hg : ¬ (S.X j).kind ≤ 1 := by omega
            have := empty_thief hD (by simp [partOf, ownOp, hj2, hg, opDone]) k (hEj.2 g)
            rw [hpk] at this
            exact this
      · unfold EmpW at hEj ⊢
        rw [hoth j hj hji]
        exact hEj
    -- the worker itself
    have hpop : (S.X k).kind = 1 → PopI (viewOf (cOf (QE n) k) (stepOf (cOf (QE n) i) S.l o).1) (stepOf (cOf (QE n) i) S.l o).2 := fun g => by
      have hik := hw (by omega)
      subst hik
      unfold roleOf at hp
      rw [if_pos (by omega)] at hp
      have h1 := hD.kind
      have h2 := hD.own
      rw [hp] at h1 h2
      rw [v1, v2]
      refine pop_own ?_ h1 h2 hD.stkN (hEk.1 g)
      have : ((S.X i).kind == 0) = false := by rw [g]; rfl
      rw [this] at hki
      exact hki
    have hemp : 2 ≤ (S.X k).kind → EmptyV (viewOf (cOf (QE n) k) (stepOf (cOf (QE n) i) S.l o).1) := fun g => by
      by_cases hik : k = i
      · subst hik
        have hg : ¬ (S.X k).kind ≤ 1 := by omega
        have := empty_thief hD (by simp [partOf, ownOp, ha, hg, opDone]) k (hEk.2 g)
        rw [hthf g] at this
        rw [v1]
        exact this
      · rw [hoth k hk hik]; exact hEk.2 g
    have hf' := hf i o ha
    generalize hl' : (stepOf (cOf (QE n) i) S.l o).1 = l' at *
    generalize ho' : (stepOf (cOf (QE n) i) S.l o).2 = o' at *
    by_cases hdn : o'.done = true
    · rw [if_pos hdn]
      refine emp_upd hE' ?_
      unfold overS
      by_cases k0 : (S.X k).kind = 0
      · have hv : (valOf o').2 = 0 := by simp [valOf, hdn, hf' k0 hdn]
        simp only [k0, if_true, hv]
        exact emp_next (fun g => by omega)
      · simp only [k0, if_false]
        by_cases e0 : (valOf o').2 = 0
        · simp only [e0, if_true]
          exact emp_next (fun g => by omega)
        · simp only [e0, if_false]
          by_cases e16 : (valOf o').2 = 16
          · simp only [e16, if_true]
            exact emp_next (fun g => hemp (by omega))
          · simp only [e16, if_false]
            refine emp_next (fun g => ?_)
            by_cases k1 : (S.X k).kind = 1
            · have hb : ((S.X k).kind == 0) = false := by rw [k1]; rfl
              rw [hb] at hei'
              have q := hei'.1 hdn
              simp only [Bool.false_eq_true, if_false] at q
              have hve : (valOf o').2 = o'.errno ∨ (valOf o').2 = 0 := by
                by_cases z : o'.errno = 0 <;> simp [valOf, hdn, z]
              exact (hpop k1).1 hdn (by omega)
            · exact hemp (by omega)
    · rw [if_neg hdn]
      exact emp_upd hE' ⟨hpop, hemp⟩
end Go.Proofs.Ytokabpgdklihlaa
