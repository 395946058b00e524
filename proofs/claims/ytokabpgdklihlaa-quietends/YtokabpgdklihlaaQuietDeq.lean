/-
  The crew of QuietEnds without memory: what lies in each deque stays where no step is an event and nothing is on its way ('hasD_step'). No Go is walked here.
-/
import Derived.Test.YtokabpgdklihlaaQuietRound
namespace Go.Proofs.Ytokabpgdklihlaa
set_option linter.unusedVariables false

/-- An operation's step: what lies in each deque, and what is on its way. -/
theorem hasD_act {n : Nat} {l : List Int} {X : Nat → WkS} (h : Wells n l X) (f : Int → Int) (hl : 1 + 90 * n ≤ l.length) {k i : Nat} {o : OpS} (hkn : k < n) (hi : i < n) (ha : (X k).act = .op i o) (hw : (X k).kind ≤ 1 → i = k) (h0 : 0 ≤ (X k).kind) (hc : CntOk (cOf (QE n) i) o) (hki : KindI ((X k).kind == 0) o) :
    (∀ j, j < n → j ≠ i → hasD f n (stepOf (cOf (QE n) i) l o).1 (updX X k { X k with act := .op i (stepOf (cOf (QE n) i) l o).2 }) j = hasD f n l X j) ∧
    hasD f n (stepOf (cOf (QE n) i) l o).1 (updX X k { X k with act := .op i (stepOf (cOf (QE n) i) l o).2 }) i + way ((X k).kind == 0) f (stepOf (cOf (QE n) i) l o).2 = hasD f n l X i + way ((X k).kind == 0) f o := by
  have ci := cOf_QE hi
  have hcap : 1 ≤ (cOf (QE n) i).cap := by rw [ci]; simp
  have hr : (cOf (QE n) i).base + (4 + (cOf (QE n) i).cap + (cOf (QE n) i).over) ≤ l.length := by rw [ci]; simp only; omega
  obtain ⟨v1, v2⟩ := view_step hr hcap hc
  have hp := part_act ha hw
  constructor
  · intro j hj hji
    have hap : (cOf (QE n) i).base + (4 + (cOf (QE n) i).cap + (cOf (QE n) i).over) ≤ (cOf (QE n) j).base ∨ (cOf (QE n) j).base + (4 + (cOf (QE n) j).cap + (cOf (QE n) j).over) ≤ (cOf (QE n) i).base := by
      rw [ci, cOf_QE hj]; simp only; omega
    unfold hasD
    rw [part_act_none ha hw, if_neg (fun q => hji q.1), view_other hc hcap hap]
  · unfold hasD
    rw [part_act_none ha hw, v1, v2]
    by_cases hk : (X k).kind ≤ 1
    · rw [if_pos ⟨rfl, hk⟩]
      unfold roleOf at hp
      rw [if_pos hk] at hp
      have := (h i hi).worth_own f ((X k).kind == 0) (by rw [hp]; exact hki)
      rw [hp] at this ⊢
      exact this
    · rw [if_neg (fun q => hk q.2)]
      unfold roleOf at hp
      rw [if_neg hk] at hp
      have hb : ((X k).kind == 0) = false := by simp; omega
      rw [hb] at hki ⊢
      have := (h i hi).worth_thief f k (by rw [hp]; exact hki)
      rw [hp] at this
      exact this
theorem hasD_set {n : Nat} {l : List Int} {X : Nat → WkS} (f : Int → Int) {k : Nat} (y : WkS) (h1 : ∀ v, bot v (ownOp (X k) k) = v.B) (h2 : ∀ v, bot v (ownOp y k) = v.B) (j : Nat) : hasD f n l (updX X k y) j = hasD f n l X j := by
  unfold hasD
  by_cases e : j = k
  · subst e
    simp only [partOf, updX_at, h1, h2]
  · simp only [partOf, updX_ne _ _ e]
theorem hasD_stepQ {n : Nat} {l : List Int} {X : Nat → WkS} (f : Int → Int) (o : OfS) {j : Nat} (hj : j < n) : hasD f n (stepQ (QE n) l o).1 X j = hasD f n l X j := by
  unfold hasD
  rw [view_stepQ hj]

/-- Something is on its way: the worker's next step is an event. -/
def onWay (x : WkS) : Prop := ∃ i o, x.act = .op i o ∧ o.errno = 0 ∧ (o.at_ = .free ∨ (x.kind ≠ 0 ∧ o.at_ = .popWon))
theorem onWay_ev {n k : Nat} {l : List Int} {x : WkS} (hs : ShapeW n k x) (h : onWay x) : EvW n l x := by
  obtain ⟨i, o, ha, h0, h1⟩ := h
  unfold ShapeW at hs
  rw [ha] at hs
  simp only at hs
  obtain ⟨he, hd, _⟩ := hs
  refine ⟨he, i, o, ha, ?_⟩
  obtain ⟨a, dn, t, u, c, it, en⟩ := o
  simp only at hd h0 h1
  subst hd h0
  rcases h1 with rfl | ⟨_, rfl⟩
  · simp [stepOf]
  · simp [stepOf]
theorem way_none {x : WkS} {i : Nat} {o : OpS} (ha : x.act = .op i o) (hd : o.done = false) (hk : KindI (x.kind == 0) o) (h : ¬ onWay x) (f : Int → Int) : way (x.kind == 0) f o = 0 := by
  have h1 : ¬ (o.at_ = .free ∧ o.errno = 0) := fun g => h ⟨i, o, ha, g.2, .inl g.1⟩
  unfold way
  rw [hd]
  split
  · rw [if_neg (by simp; exact fun g => fun e => h1 ⟨g, e⟩)]
  · rename_i hz
    have hk0 : x.kind ≠ 0 := by simpa using hz
    rw [if_neg]
    rintro (⟨g1, g2⟩ | ⟨_, g⟩)
    · rcases g1 with g1 | g1
      · cases g1
      · exact h1 ⟨g1, g2⟩
    · have := (hk hd).2 (by rw [g]; decide)
      exact h ⟨i, o, ha, this, .inr ⟨hk0, g⟩⟩

theorem hasD_step {n : Nat} {S : GS} (h : Crew n S) {k : Nat} (hk : k < n) (hf : NoFull n S k) (f : Int → Int) (hne : ¬ EvW n S.l (S.X k)) (hz : ¬ onWay (moveW n k S.l (S.X k))) :
    ∀ j, j < n → hasD f n (stepG (QE n) n S k).l (stepG (QE n) n S k).X j = hasD f n S.l S.X j := by
  intro j hj
  have hsh := h.shape k hk
  have hz0 : ¬ onWay (S.X k) := fun g => hne (onWay_ev hsh g)
  rw [← move_eq] at hz
  unfold stepG EvW at *
  by_cases he : (S.X k).ended = true
  · rw [if_pos he]
  rw [if_neg he] at hz ⊢
  have he' : (S.X k).ended = false := by simpa using he
  unfold ShapeW at hsh
  cases ha : (S.X k).act with
  | none =>
    simp only
    exact hasD_set f _ (fun v => bot_done (by simp [ownOp, ha, opDone]) v) (fun v => bot_next n k _ _ v) j
  | offer o =>
    simp only
    have b1 : ∀ v, bot v (ownOp (S.X k) k) = v.B := fun v => bot_done (by simp [ownOp, ha, opDone]) v
    by_cases e2 : (stepQ (QE n) S.l o).2.state = 2
    · rw [if_pos e2, hasD_set f _ b1 (fun v => rfl) j, hasD_stepQ f o hj]
    · rw [if_neg e2]
      by_cases e1 : (stepQ (QE n) S.l o).2.state = 1
      · rw [if_pos e1, hasD_set f _ b1 (fun v => bot_next n k _ _ v) j, hasD_stepQ f o hj]
      · rw [if_neg e1, hasD_set f _ b1 (fun v => rfl) j, hasD_stepQ f o hj]
  | op i o =>
    rw [ha] at hsh hz hne
    simp only at hsh hz ⊢
    obtain ⟨_, hd, hi, hc, hki, hei, hway⟩ := hsh
    have hw : (S.X k).kind ≤ 1 → i = k := fun g => by omega
    have h0 : 0 ≤ (S.X k).kind := by omega
    have hn4 := h.n4
    have hl4 := h.len
    obtain ⟨A1, A2⟩ := hasD_act h.wells f (by omega) hk hi ha hw h0 hc hki
    have hw0 := way_none ha hd hki hz0 f
    have hf' := hf i o ha
    have hev : ¬ ((stepOf (cOf (QE n) i) S.l o).2.done = true ∧ (stepOf (cOf (QE n) i) S.l o).2.errno = 0) := fun g => hne ⟨he', i, o, rfl, g.1, g.2⟩
    have hr : (cOf (QE n) i).base + (4 + (cOf (QE n) i).cap + (cOf (QE n) i).over) ≤ S.l.length := by rw [cOf_QE hi]; simp only; omega
    have hcap : 1 ≤ (cOf (QE n) i).cap := by rw [cOf_QE hi]; simp
    have hki' : KindI ((S.X k).kind == 0) (stepOf (cOf (QE n) i) S.l o).2 := by
      rw [(view_step hr hcap hc).2]; exact kind_step hki
    generalize (stepOf (cOf (QE n) i) S.l o).1 = l' at *
    generalize (stepOf (cOf (QE n) i) S.l o).2 = o' at *
    by_cases hdn : o'.done = true
    · have he0 : o'.errno ≠ 0 := fun g => hev ⟨hdn, g⟩
      have k0 : (S.X k).kind ≠ 0 := fun g => he0 (hf' g hdn)
      have hb : ((S.X k).kind == 0) = false := by simp [k0]
      have hw1 : way ((S.X k).kind == 0) f o' = 0 := by rw [hb]; simp [way, hdn, he0]
      rw [if_pos hdn]
      simp only
      obtain ⟨y, af, e1, _⟩ := over_next (n := n) (k := k) (x := { S.X k with act := .op i o' }) (v := (valOf o').1) (e := (valOf o').2) (fun g => absurd g k0)
      rw [e1]
      have b1 : ∀ v, bot v (ownOp (updX S.X k { S.X k with act := .op i o' } k) k) = v.B := fun v => by
        rw [updX_at]; exact bot_done (own_done rfl hdn k) v
      rw [← updX_twice S.X k { S.X k with act := .op i o' }, hasD_set f _ b1 (fun v => bot_next n k _ _ v) j]
      by_cases e : j = i
      · subst e; omega
      · exact A1 j hj e
    · rw [if_neg hdn] at hz ⊢
      simp only at hz ⊢
      rw [updX_at] at hz
      have hw1 : way ((S.X k).kind == 0) f o' = 0 := way_none (x := { S.X k with act := .op i o' }) rfl (by simpa using hdn) hki' hz f
      rw [hw0, hw1] at A2
      by_cases e : j = i
      · subst e; simpa using A2
      · exact A1 j hj e
end Go.Proofs.Ytokabpgdklihlaa
