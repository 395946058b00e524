/-
  One block marked, one taken away, ranges cleared: by the sizes. No Go is walked here.
-/
import Derived.Test.YtcckflcjjgckoaaDoorBitsTurn
namespace Go.Proofs.YtcckflcjjgckoaaDoor.Bt
open Go.RowKit
set_option linter.unusedVariables false

def upd (S : Nat → Nat) (a z : Nat) : Nat → Nat := fun k => if k = a then z else S k
theorem upd_at (S : Nat → Nat) (a z : Nat) : upd S a z a = z := by unfold upd; rw [if_pos rfl]
theorem upd_ne (S : Nat → Nat) {a z k : Nat} (h : k ≠ a) : upd S a z k = S k := by unfold upd; rw [if_neg h]
theorem upd_upd (S : Nat → Nat) (a z y : Nat) : upd (upd S a z) a y = upd S a y := by
  funext k; unfold upd; split <;> rfl
theorem upd_same (S : Nat → Nat) (a : Nat) : upd S a (S a) = S := by
  funext k; unfold upd; split
  · rename_i h; rw [h]
  · rfl

/-- The words from a to a + z are nobody's. -/
def Free (S : Nat → Nat) (a z : Nat) : Prop := ∀ k, a ≤ k → k < a + z → live S k = false
theorem free_no {S : Nat → Nat} {a z b : Nat} (h : Free S a z) (hz : 1 ≤ z) (hb : 0 < S b) : b + S b ≤ a ∨ a + z ≤ b := by
  by_cases h1 : a < b + S b
  · by_cases h2 : b < a + z
    · exfalso
      have h3 := h (max a b) (by omega) (by omega)
      unfold live at h3
      rw [bo_false] at h3
      exact h3 ⟨b, by unfold Cov; omega⟩
    · omega
  · omega
theorem Bl.mark {n : Nat} {S : Nat → Nat} (h : Bl n S) {a z : Nat} (hz : 1 ≤ z) (ha : a + z ≤ n) (hf : Free S a z) : Bl n (upd S a z) := by
  constructor
  · intro b hb
    by_cases hba : b = a
    · subst hba; rw [upd_at]; exact ha
    · rw [upd_ne S hba] at hb ⊢; exact h.into b hb
  · intro b c hbc hb hc
    by_cases hba : b = a
    · subst hba
      rw [upd_at]
      rw [upd_ne S (by omega)] at hc
      have := free_no hf hz hc
      omega
    · rw [upd_ne S hba] at hb ⊢
      by_cases hca : c = a
      · subst hca
        have := free_no hf hz hb
        omega
      · rw [upd_ne S hca] at hc
        exact h.apart b c hbc hb hc
theorem Bl.off {n : Nat} {S : Nat → Nat} (h : Bl n S) (a : Nat) : Bl n (upd S a 0) := by
  have k : ∀ b, 0 < upd S a 0 b → upd S a 0 b = S b := by
    intro b hb
    by_cases hba : b = a
    · subst hba; rw [upd_at] at hb; omega
    · exact upd_ne S hba
  constructor
  · intro b hb
    have e := k b hb
    rw [e] at hb ⊢
    exact h.into b hb
  · intro b c hbc hb hc
    have e := k b hb
    have e2 := k c hc
    rw [e] at hb ⊢
    rw [e2] at hc
    exact h.apart b c hbc hb hc
theorem Bl.free_off {n : Nat} {S : Nat → Nat} (h : Bl n S) (a : Nat) : Free (upd S a 0) a (S a) := by
  intro k h1 h2
  unfold live
  rw [bo_false]
  rintro ⟨b, hb1, hb2⟩
  by_cases hba : b = a
  · subst hba; rw [upd_at] at hb2; omega
  · rw [upd_ne S hba] at hb2
    exact hba (h.one (k := k) ⟨hb1, hb2⟩ ⟨h1, h2⟩)

/-- The bits turned are those of the block. -/
theorem sides_mark {n : Nat} {S : Nat → Nat} {a z : Nat} (h0 : S a = 0) (hz : 1 ≤ z) (hf : Free S a z) (s k : Nat) (hs : s < 2) : turnF (sidesOf S) a (a + z - 1) s k = sidesOf (upd S a z) s k := by
  unfold turnF
  by_cases h : s = 0
  · subst h
    simp only [if_true]
    rw [sidesOf0, sidesOf0]
    unfold flip begs
    by_cases hk : k = a
    · subst hk
      rw [upd_at]
      simp [h0]
      omega
    · rw [upd_ne S hk]
      simp [hk]
  · have h1 : s = 1 := by omega
    subst h1
    simp only [if_neg (show ¬ (1 : Nat) = 0 by omega)]
    rw [sidesOf1, sidesOf1]
    unfold flip
    by_cases hk : k = a + z - 1
    · have e1 : ends S k = false := by
        unfold ends; rw [bo_false]
        rintro ⟨b, hb, hb2⟩
        have := free_no hf hz hb
        omega
      have e2 : ends (upd S a z) k = true := by
        unfold ends; rw [bo_true]
        exact ⟨a, by rw [upd_at]; omega, by rw [upd_at]; omega⟩
      rw [e1, e2, decide_eq_true hk]; rfl
    · rw [decide_eq_false hk, Bool.xor_false]
      rw [Bool.eq_iff_iff]
      unfold ends
      rw [bo_true, bo_true]
      constructor
      · rintro ⟨b, hb, hb2⟩
        have hba : b ≠ a := by intro e; subst e; omega
        exact ⟨b, by rw [upd_ne S hba]; exact hb, by rw [upd_ne S hba]; exact hb2⟩
      · rintro ⟨b, hb, hb2⟩
        have hba : b ≠ a := by intro e; subst e; rw [upd_at] at hb2; omega
        rw [upd_ne S hba] at hb hb2
        exact ⟨b, hb, hb2⟩
theorem flip_flip (f : Nat → Bool) (k : Nat) (j : Nat) : flip (flip f k) k j = f j := by
  unfold flip
  cases f j <;> cases decide (j = k) <;> rfl
theorem sides_off {n : Nat} {S : Nat → Nat} (h : Bl n S) {a : Nat} (ha : 0 < S a) (s k : Nat) (hs : s < 2) : turnF (sidesOf S) a (a + S a - 1) s k = sidesOf (upd S a 0) s k := by
  have h1 := fun k => sides_mark (n := n) (S := upd S a 0) (a := a) (z := S a) (upd_at S a 0) (by omega) (h.free_off a) s k hs
  rw [upd_upd, upd_same] at h1
  unfold turnF at h1 ⊢
  by_cases h0 : s = 0
  · subst h0
    simp only [if_true] at h1 ⊢
    have : flip (sidesOf S 0) a = flip (flip (sidesOf (upd S a 0) 0) a) a := by
      congr 1; funext k; exact (h1 k).symm
    rw [this, flip_flip]
  · have h2 : s = 1 := by omega
    subst h2
    simp only [if_neg (show ¬ (1 : Nat) = 0 by omega)] at h1 ⊢
    have : flip (sidesOf S 1) (a + S a - 1) = flip (flip (sidesOf (upd S a 0) 1) (a + S a - 1)) (a + S a - 1) := by
      congr 1; funext k; exact (h1 k).symm
    rw [this, flip_flip]

open Classical in
/-- What Mark tells, and the sizes behind it. -/
noncomputable def markT (n : Nat) (S : Nat → Nat) (x z : Int) : Bool × Int × (Nat → Nat) :=
  if ¬ (0 ≤ x ∧ x < n) then (false, 10, S)
  else if z < 1 ∨ n - x < z then (false, 11, S)
  else if 0 < S x.toNat then (false, 0, S)
  else if Free S x.toNat z.toNat then (true, 0, upd S x.toNat z.toNat)
  else (false, 11, S)
theorem markT_bl {n : Nat} {S : Nat → Nat} (h : Bl n S) (x z : Int) : Bl n (markT n S x z).2.2 := by
  unfold markT
  split
  · exact h
  · split
    · exact h
    · split
      · exact h
      · split
        · rename_i h1 h2 h3 h4
          exact h.mark (by omega) (by omega) h4
        · exact h
/-- What a range is cleared to. -/
def clr (S : Nat → Nat) (a b : Nat) : Nat → Nat := fun k => if a ≤ k ∧ k < b then 0 else S k
theorem Bl.clr {n : Nat} {S : Nat → Nat} (h : Bl n S) (a b : Nat) : Bl n (clr S a b) := by
  have k : ∀ c, 0 < YtcckflcjjgckoaaDoor.Bt.clr S a b c → YtcckflcjjgckoaaDoor.Bt.clr S a b c = S c := by
    intro c hc
    unfold YtcckflcjjgckoaaDoor.Bt.clr at hc ⊢
    split
    · rename_i h1; rw [if_pos h1] at hc; omega
    · rfl
  constructor
  · intro b hb
    have e := k b hb
    rw [e] at hb ⊢
    exact h.into b hb
  · intro b c hbc hb hc
    have e := k b hb
    have e2 := k c hc
    rw [e] at hb ⊢
    rw [e2] at hc
    exact h.apart b c hbc hb hc
theorem free_cnt (S : Nat → Nat) (a z : Nat) : Free S a z ↔ cntIn (live S) a (a + z) = 0 := by
  unfold cntIn
  rw [cnt_zero_iff]
  constructor
  · intro h j hj
    unfold inn
    by_cases h1 : a ≤ j
    · rw [h j h1 hj]; simp
    · simp [h1]
  · intro h k h1 h2
    have h3 := h k h2
    unfold inn at h3
    simpa [h1, h2] using h3
end Go.Proofs.YtcckflcjjgckoaaDoor.Bt
