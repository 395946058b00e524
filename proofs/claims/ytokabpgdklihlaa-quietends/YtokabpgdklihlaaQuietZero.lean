/-
  The crew of QuietEnds without memory, once no event is to come: nobody has anything ('Zer'), the tops stay ('top_step'). No Go is walked here.
-/
import Derived.Test.YtokabpgdklihlaaQuietTime
namespace Go.Proofs.Ytokabpgdklihlaa
set_option linter.unusedVariables false

theorem lenH_nn (n : Nat) (X : Nat → WkS) : 0 ≤ lenH n X := sumTo_nn (fun j hj => Int.natCast_nonneg _)
theorem evE_nn {n : Nat} {S : GS} (h : AllG n S) : 0 ≤ evE n S := by
  have a := h.crew.tot_nn (f := gW) (fun x => by have := gW_one x; omega)
  have b := lenH_nn n S.X
  unfold evE
  omega
theorem sumTo_many {g : Nat → Int} (h : ∀ j, 1 ≤ g j) : ∀ n : Nat, (n : Int) ≤ sumTo g n
  | 0 => Int.le_refl _
  | n + 1 => by
    show ((n + 1 : Nat) : Int) ≤ sumTo g n + g n
    have := sumTo_many h n
    have := h n
    omega

/-- Nobody has anything. -/
structure Zer (n : Nat) (S : GS) : Prop where
  hands : ∀ k, k < n → (S.X k).hands = []
  bot : ∀ j, j < n → rd (cOf (QE n) j) S.l 1 ≤ rd (cOf (QE n) j) S.l 0
  stk : ∀ j, j < n → rd (cOf (QE n) j) S.l 3 ≤ 0
theorem zer_of {n : Nat} {S : GS} (h : AllG n S) (he : evE n S = 0) : Zer n S := by
  have hg : ∀ x, 0 ≤ gW x := fun x => by have := gW_one x; omega
  have a := sumTo_nn (n := n) (g := fun k => hasW gW (S.X k)) (fun j hj => hasW_nn hg (h.crew.shape j hj))
  have b := sumTo_nn (n := n) (g := hasD gW n S.l S.X) (fun j hj => hasD_nn hg n S.l S.X j)
  have c := lenH_nn n S.X
  unfold evE totF at he
  have hD : ∀ j, j < n → hasD gW n S.l S.X j ≤ 0 := fun j hj => by
    have := sumTo_ge (g := hasD gW n S.l S.X) hj (fun i hi => hasD_nn hg n S.l S.X i)
    omega
  have key : ∀ j, j < n → bot (viewOf (cOf (QE n) j) S.l) (partOf S.X j none) ≤ (viewOf (cOf (QE n) j) S.l).T ∧ (viewOf (cOf (QE n) j) S.l).N ≤ 0 := fun j hj => by
    have h1 := hD j hj
    unfold hasD worth ringW stackW at h1
    have h2 := sumTo_many (g := fun i => gW ((viewOf (cOf (QE n) j) S.l).s (spot (cOf (QE n) j).cap ((viewOf (cOf (QE n) j) S.l).T + (i : Int))))) (fun i => gW_one _) (bot (viewOf (cOf (QE n) j) S.l) (partOf S.X j none) - (viewOf (cOf (QE n) j) S.l).T).toNat
    have h3 := sumTo_many (g := fun i => gW ((viewOf (cOf (QE n) j) S.l).k i)) (fun i => gW_one _) (viewOf (cOf (QE n) j) S.l).N.toNat
    omega
  refine ⟨fun k hk => ?_, fun j hj => ?_, fun j hj => (key j hj).2⟩
  · have := sumTo_ge (g := fun k => ((S.X k).hands.length : Int)) hk (fun i hi => Int.natCast_nonneg _)
    unfold lenH at c he
    refine List.eq_nil_of_length_eq_zero ?_
    omega
  · have h1 := (key j hj).1
    unfold Proofs.Ytokabpgdklihlaa.bot at h1
    have h2 : (viewOf (cOf (QE n) j) S.l).B = rd (cOf (QE n) j) S.l 1 := rfl
    have h3 : (viewOf (cOf (QE n) j) S.l).T = rd (cOf (QE n) j) S.l 0 := rfl
    split at h1 <;> omega

theorem top_op {C : Cfg} {l : List Int} {o : OpS} (hd : o.done = false) (h1 : ¬ ((stepOf C l o).2.done = false ∧ (stepOf C l o).2.at_ = .popWon)) (h2 : ¬ ((stepOf C l o).2.done = true ∧ (stepOf C l o).2.errno = 0)) : rd C (stepOf C l o).1 0 = rd C l 0 := by
  obtain ⟨a, dn, t, u, n, i, en⟩ := o
  simp only at hd
  subst hd
  have hw : ∀ b x, 0 < b → rd C (wr C l b x) 0 = rd C l 0 := fun b x hb => rd_wr_ne C l b 0 x (by omega)
  cases a
  case popSwap =>
    by_cases g : rd C l 0 = t
    · exact absurd (by simp [stepOf, g]) h1
    · simp [stepOf, g]
  case stealSwap =>
    by_cases g : rd C l 0 = t
    · exact absurd (by simp [stepOf, g]) h2
    · simp [stepOf, g]
  all_goals first
    | rfl
    | (simp only [stepOf, Bool.false_eq_true, if_false]; first | exact hw _ _ (by omega) | (unfold slotOf; exact hw _ _ (by omega)))
    | (simp only [stepOf, Bool.false_eq_true, if_false]; split <;> first | rfl | exact hw _ _ (by omega))

theorem top_step {n : Nat} {S : GS} (h : Crew n S) {k : Nat} (hk : k < n) (hne : ¬ EvW n S.l (S.X k)) (hz : ¬ onWay (moveW n k S.l (S.X k))) :
    ∀ j, j < n → rd (cOf (QE n) j) (stepG (QE n) n S k).l 0 = rd (cOf (QE n) j) S.l 0 := by
  intro j hj
  have hsh := h.shape k hk
  unfold moveW at hz
  unfold stepG at *
  by_cases he : (S.X k).ended = true
  · rw [if_pos he]
  rw [if_neg he]
  have he' : (S.X k).ended = false := by simpa using he
  simp only at hz
  rw [if_neg he] at hz
  unfold ShapeW at hsh
  cases ha : (S.X k).act with
  | none => rfl
  | offer o =>
    simp only
    have := view_stepQ (n := n) (l := S.l) (o := o) hj
    exact congrArg DV.T this
  | op i o =>
    rw [ha] at hsh hz
    simp only at hsh hz ⊢
    obtain ⟨_, hd, hi, hc, hki, hei, hway⟩ := hsh
    have hev : ¬ ((stepOf (cOf (QE n) i) S.l o).2.done = true ∧ (stepOf (cOf (QE n) i) S.l o).2.errno = 0) := fun g => hne ⟨he', i, o, ha, g.1, g.2⟩
    have hl : ∀ (a b : GS), a.l = (stepOf (cOf (QE n) i) S.l o).1 → b.l = (stepOf (cOf (QE n) i) S.l o).1 → (if (stepOf (cOf (QE n) i) S.l o).2.done = true then a else b).l = (stepOf (cOf (QE n) i) S.l o).1 := fun a b e1 e2 => by split <;> assumption
    rw [hl _ _ rfl rfl]
    have hn4 := h.n4
    have hl4 := h.len
    have ci := cOf_QE hi
    have hcap : 1 ≤ (cOf (QE n) i).cap := by rw [ci]; simp
    have hr : (cOf (QE n) i).base + (4 + (cOf (QE n) i).cap + (cOf (QE n) i).over) ≤ S.l.length := by rw [cOf_QE hi]; simp only; omega
    by_cases e : j = i
    · subst e
      refine top_op hd (fun g => hz ?_) hev
      have hki' : KindI ((S.X k).kind == 0) (stepOf (cOf (QE n) j) S.l o).2 := by
        rw [(view_step hr hcap hc).2]; exact kind_step hki
      rw [if_neg (by simp [g.1])]
      simp only [updX_at]
      obtain ⟨q1, q2⟩ := hki' g.1
      refine ⟨j, _, rfl, q2 (by rw [g.2]; decide), .inr ⟨?_, g.2⟩⟩
      intro e0
      rw [g.2] at q1
      simp [pushAt] at q1
      exact q1.1 e0
    · have hap : (cOf (QE n) i).base + (4 + (cOf (QE n) i).cap + (cOf (QE n) i).over) ≤ (cOf (QE n) j).base ∨ (cOf (QE n) j).base + (4 + (cOf (QE n) j).cap + (cOf (QE n) j).over) ≤ (cOf (QE n) i).base := by
        rw [ci, cOf_QE hj]; simp only; omega
      exact congrArg DV.T (view_other hc hcap hap)
end Go.Proofs.Ytokabpgdklihlaa
