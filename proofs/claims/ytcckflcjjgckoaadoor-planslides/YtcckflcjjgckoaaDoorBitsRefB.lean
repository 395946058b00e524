/-
  The document's own Count, Live and Over.
-/
import Derived.Test.YtcckflcjjgckoaaDoorBitsRef
namespace Go.Proofs.YtcckflcjjgckoaaDoor.Bt
open Go.RowKit
set_option linter.unusedVariables false

/-- The end of the last block that began ahead of i. -/
def EndAt (S : Nat → Nat) (i en : Nat) : Prop := (en ≤ i ∧ opn S i = false) ∨ ∃ a, a < i ∧ i < a + S a ∧ en = a + S a
theorem end_next {n : Nat} {S : Nat → Nat} (h : Bl n S) {i en : Nat} (he : EndAt S i en) : (live S i = decide (i < if 0 < S i then i + S i else en)) ∧ EndAt S (i + 1) (if 0 < S i then i + S i else en) := by
  have h1 := live_eq h i
  have h2 := opn_succ h i
  have hone : ∀ a, a ≤ i → i < a + S a → a + S a = i + 1 → opn S (i + 1) = false := by
    intro a ha1 ha2 ha3
    unfold opn; rw [bo_false]; rintro ⟨b, h3, h4⟩
    have := h.one (a := a) (b := b) (k := i) ⟨ha1, ha2⟩ ⟨by omega, by omega⟩
    subst this; omega
  by_cases hs : 0 < S i
  · rw [if_pos hs]
    have hl : live S i = true := by unfold live; rw [bo_true]; exact ⟨i, by unfold Cov; omega⟩
    refine ⟨by rw [hl]; simp; omega, ?_⟩
    by_cases h3 : S i = 1
    · exact .inl ⟨by omega, hone i (by omega) (by omega) (by omega)⟩
    · exact .inr ⟨i, by omega, by omega, rfl⟩
  · rw [if_neg hs]
    rcases he with ⟨h3, h4⟩ | ⟨a, h3, h4, h5⟩
    · have hb : begs S i = false := by unfold begs; simpa using hs
      rw [hb, h4] at h1
      have hl : live S i = false := by
        cases hl : live S i
        · rfl
        · rw [hl] at h1; simp at h1
      refine ⟨by rw [hl]; simp; omega, .inl ⟨by omega, ?_⟩⟩
      rw [hl] at h2
      cases ho : opn S (i + 1)
      · rfl
      · rw [ho] at h2; simp at h2
    · have hl : live S i = true := by unfold live; rw [bo_true]; exact ⟨a, by unfold Cov; omega⟩
      refine ⟨by rw [hl]; simp; omega, ?_⟩
      by_cases h6 : i + 1 < a + S a
      · exact .inr ⟨a, by omega, h6, h5⟩
      · exact .inl ⟨by omega, hone a (by omega) h4 (by omega)⟩
theorem end_le {n : Nat} {S : Nat → Nat} (h : Bl n S) {i en : Nat} (hi : i ≤ n) (he : EndAt S i en) : en ≤ n := by
  rcases he with ⟨h3, _⟩ | ⟨a, h3, h4, h5⟩
  · omega
  · have := h.into a (by omega); omega

end Go.Proofs.YtcckflcjjgckoaaDoor.Bt
