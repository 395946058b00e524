/-
  The crew of QuietEnds without memory: events are counted ('evE' falls by one at each, and stays else). No Go is walked here.
-/
import Derived.Test.YtokabpgdklihlaaQuietRank
namespace Go.Proofs.Ytokabpgdklihlaa
set_option linter.unusedVariables false

/-- What an item is worth: itself and all that comes of it. -/
def f1 (x : Int) : Int := if 0 ≤ x then 2 ^ (x.toNat + 1) - 1 else 1
def oneF (_ : Int) : Int := 1
theorem pow_pos2 (k : Nat) : (1 : Int) ≤ 2 ^ k := by
  induction k with
  | zero => simp
  | succ k ih => rw [Int.pow_succ]; omega
theorem f1_nn (x : Int) : 1 ≤ f1 x := by
  unfold f1
  split
  · have := pow_pos2 x.toNat
    rw [Int.pow_succ]
    omega
  · omega
theorem gain_f1 (v : Int) : gain f1 (some v) = -1 := by
  unfold gain
  by_cases h : 0 < v
  · obtain ⟨k, rfl⟩ : ∃ k : Nat, v = (k : Int) + 1 := ⟨(v - 1).toNat, by omega⟩
    simp only [h, if_true, f1]
    rw [if_pos (by omega), if_pos (by omega), show ((k : Int) + 1 - 1).toNat = k by omega, show ((k : Int) + 1).toNat = k + 1 by omega, Int.pow_succ 2 (k + 1)]
    omega
  · simp only [h, if_false, f1]
    split
    · rw [show v.toNat = 0 by omega]; decide
    · decide
/-- By this weight: one is less at each event. -/
def gW (x : Int) : Int := 2 * f1 x - 1
theorem gW_one (x : Int) : 1 ≤ gW x := by have := f1_nn x; unfold gW; omega
theorem gain_gW (v : Int) : gain gW (some v) = if 0 < v then -3 else -1 := by
  have h : (if 0 < v then f1 (v - 1) + f1 (v - 1) else 0) - f1 v = -1 := gain_f1 v
  show (if 0 < v then gW (v - 1) + gW (v - 1) else 0) - gW v = _
  by_cases hv : 0 < v
  · rw [if_pos hv] at h ⊢
    rw [if_pos hv]
    unfold gW
    omega
  · rw [if_neg hv] at h ⊢
    rw [if_neg hv]
    unfold gW
    omega

def lenH (n : Nat) (X : Nat → WkS) : Int := sumTo (fun k => ((X k).hands.length : Int)) n
/-- How many events are to come. -/
def evE (n : Nat) (S : GS) : Int := totF gW n S.l S.X + lenH n S.X

theorem hands_next (n k : Nat) (x : WkS) (af : Int) : (nextS n k x af).hands = x.hands := by
  unfold nextS
  split
  · rfl
  · split
    · rfl
    · split <;> rfl

theorem lenH_step (n : Nat) (S : GS) {k : Nat} (hk : k < n) : lenH n (stepG (QE n) n S k).X = lenH n S.X + ((moveW n k S.l (S.X k)).hands.length : Int) - ((S.X k).hands.length : Int) := by
  unfold lenH
  rw [sumTo_upd (g := fun k => ((S.X k).hands.length : Int)) hk (fun j hj hjk => by rw [move_other n S hjk]), move_eq]

/-- What comes of a worker's hands and of what is worked off. -/
theorem ev_move {n : Nat} {S : GS} (h : Crew n S) {k : Nat} (hk : k < n) (hf : NoFull n S k) :
    (¬ EvW n S.l (S.X k) → (moveW n k S.l (S.X k)).hands = (S.X k).hands ∧ (stepG (QE n) n S k).dn = S.dn) ∧
    (EvW n S.l (S.X k) → ((S.X k).kind = 0 ∧ (moveW n k S.l (S.X k)).hands.length + 1 = (S.X k).hands.length ∧ (stepG (QE n) n S k).dn = S.dn) ∨ ∃ v, Tells n S k v ∧ ((moveW n k S.l (S.X k)).hands.length : Int) = (S.X k).hands.length + (if 0 < v then 2 else 0)) := by
  have hsh := h.shape k hk
  rw [← move_eq]
  unfold stepG EvW
  by_cases he : (S.X k).ended = true
  · rw [if_pos he]
    exact ⟨fun _ => ⟨rfl, rfl⟩, fun g => by rw [he] at g; cases g.1⟩
  rw [if_neg he]
  have he' : (S.X k).ended = false := by simpa using he
  unfold ShapeW at hsh
  cases ha : (S.X k).act with
  | none =>
    simp only
    exact ⟨fun _ => ⟨by rw [updX_at, hands_next], trivial⟩, fun ⟨_, i, o, g, _⟩ => by cases g⟩
  | offer o =>
    simp only
    refine ⟨fun _ => ⟨?_, trivial⟩, fun ⟨_, i, o, g, _⟩ => by cases g⟩
    rw [updX_at]
    split
    · rfl
    · split
      · rw [hands_next]
      · rfl
  | op i o =>
    rw [ha] at hsh
    simp only at hsh ⊢
    obtain ⟨_, hd, hi, hc, hki, hei, hway⟩ := hsh
    have hf' := hf i o ha
    have tl : ∀ v, (stepOf (cOf (QE n) i) S.l o).2.done = true → (S.X k).kind ≠ 0 → (stepOf (cOf (QE n) i) S.l o).2.errno = 0 → (stepOf (cOf (QE n) i) S.l o).2.item = v → Tells n S k v := fun v g1 g2 g3 g4 => ⟨i, o, he', ha, g1, g2, g3, g4⟩
    generalize (stepOf (cOf (QE n) i) S.l o).1 = l' at *
    generalize ho' : (stepOf (cOf (QE n) i) S.l o).2 = o' at *
    by_cases hdn : o'.done = true
    · rw [if_pos hdn]
      simp only
      rw [updX_at]
      unfold overS
      by_cases k0 : (S.X k).kind = 0
      · have e0 := hf' k0 hdn
        have hv : (valOf o').2 = 0 := by simp [valOf, hdn, e0]
        simp only [k0, if_true, hv]
        refine ⟨fun g => absurd ⟨he', i, o, rfl, by rw [ho']; exact hdn, by rw [ho']; exact e0⟩ g, fun _ => .inl ⟨trivial, ?_, by omega⟩⟩
        rw [hands_next]
        rcases hway with ⟨_, _, rest, g3⟩ | ⟨g1, _⟩ | ⟨g1, _⟩
        · simp [g3]
        · omega
        · omega
      · have hh : (S.X k).hands = [] := by
          rcases hway with ⟨g1, _⟩ | ⟨_, _, g3⟩ | ⟨_, g3⟩
          · exact absurd g1 k0
          · exact g3
          · exact g3
        by_cases e0 : o'.errno = 0
        · have hv : valOf o' = (o'.item, 0) := by simp [valOf, hdn, e0]
          simp only [k0, if_false, hv, if_true]
          refine ⟨fun g => absurd ⟨he', i, o, rfl, by rw [ho']; exact hdn, by rw [ho']; exact e0⟩ g, fun _ => .inr ⟨o'.item, tl _ hdn k0 e0 rfl, ?_⟩⟩
          rw [hands_next]
          simp only [hh]
          split <;> simp
        · have hv : valOf o' = (0, o'.errno) := by simp [valOf, hdn, e0]
          simp only [k0, if_false, hv, e0]
          refine ⟨fun _ => ?_, fun ⟨_, i2, o2, g1, g2, g3⟩ => by cases g1; rw [ho'] at g3; exact absurd g3 e0⟩
          split
          · exact ⟨by rw [hands_next], by show S.dn + 0 = S.dn; omega⟩
          · exact ⟨by rw [hands_next], by show S.dn + 0 = S.dn; omega⟩
    · rw [if_neg hdn]
      simp only
      refine ⟨fun _ => ⟨by rw [updX_at], trivial⟩, fun ⟨_, i2, o2, g1, g2, g3⟩ => by cases g1; rw [ho'] at g2; exact absurd g2 hdn⟩

/-- At an event one is less to come; else as many. -/
theorem evE_step {n : Nat} {S : GS} (h : Crew n S) {k : Nat} (hk : k < n) (hf : NoFull n S k) :
    (EvW n S.l (S.X k) → evE n (stepG (QE n) n S k) = evE n S - 1) ∧ (¬ EvW n S.l (S.X k) → evE n (stepG (QE n) n S k) = evE n S) := by
  obtain ⟨w, h1, h2, h3⟩ := h.sum hk hf
  obtain ⟨m1, m2⟩ := ev_move h hk hf
  have hl := lenH_step n S hk
  unfold evE
  rw [h2 gW, hl]
  constructor
  · intro g
    rcases m2 g with ⟨_, e1, e2⟩ | ⟨v, e1, e2⟩
    · have hw : w = none := by
        cases w with
        | none => rfl
        | some v => simp only [one01] at h1; omega
      subst hw
      simp only [gain]
      omega
    · rw [h3 v e1, gain_gW, e2]
      split <;> omega
  · intro g
    obtain ⟨e1, e2⟩ := m1 g
    have hw : w = none := by
      cases w with
      | none => rfl
      | some v => simp only [one01] at h1; omega
    subst hw
    rw [e1]
    simp only [gain]
    omega
end Go.Proofs.Ytokabpgdklihlaa
