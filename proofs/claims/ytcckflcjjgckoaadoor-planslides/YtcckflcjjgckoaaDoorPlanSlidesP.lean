/-
  Where words go: one-to-one, rising, to no greater place. No Go is walked here.
-/
import Derived.Test.YtcckflcjjgckoaaDoorPlanLawP
namespace Go.Proofs.YtcckflcjjgckoaaDoor
open Go.RowKit Bt
set_option linter.unusedVariables false
set_option linter.unusedSimpArgs false

/-- Where the word i goes. -/
def fwd (P : PN) (L : Nat → Bool) (i : Nat) : Nat := if i < P.d then i else P.d + (cnt L i - cnt L P.d)
theorem fwd_le (P : PN) (L : Nat → Bool) (i : Nat) : fwd P L i ≤ i := by
  unfold fwd
  split
  · exact Nat.le_refl _
  · have := cnt_gap L (show P.d ≤ i by omega)
    omega
theorem fwd_live (P : PN) {L : Nat → Bool} {i : Nat} (h : L i = true) : fwd P L (i + 1) = fwd P L i + 1 := by
  unfold fwd
  by_cases h1 : i < P.d
  · rw [if_pos h1]
    by_cases h2 : i + 1 < P.d
    · rw [if_pos h2]
    · rw [if_neg h2, show i + 1 = P.d by omega]; omega
  · rw [if_neg h1, if_neg (by omega), cnt_at h]
    have := cnt_mono L (show P.d ≤ i by omega)
    omega
theorem fwd_dead (P : PN) {L : Nat → Bool} {i : Nat} : fwd P L i ≤ fwd P L (i + 1) := by
  unfold fwd
  by_cases h1 : i < P.d
  · rw [if_pos h1]
    split
    · omega
    · omega
  · rw [if_neg h1, if_neg (by omega)]
    have := cnt_mono L (show i ≤ i + 1 by omega)
    omega
theorem cnt_inj {L : Nat → Bool} {i j : Nat} (hi : L i = true) (hj : L j = true) (h : cnt L i = cnt L j) : i = j := by
  rcases Nat.lt_trichotomy i j with h1 | h1 | h1
  · have := cnt_mono L (show i + 1 ≤ j by omega)
    rw [cnt_at hi] at this
    omega
  · exact h1
  · have := cnt_mono L (show j + 1 ≤ i by omega)
    rw [cnt_at hj] at this
    omega
/-- The word that goes there is it. -/
theorem src_fwd {P : PN} {S : Nat → Nat} {i : Nat} {r : Int} (hi : live S i = true) (hit : i < P.t) (hd : P.d ≤ P.t) (h : IsSrc P S (fwd P (live S) i) r) : r = i := by
  unfold fwd at h
  by_cases h1 : i < P.d
  · rw [if_pos h1] at h
    rcases h with ⟨_, _, h2⟩ | ⟨_, h2, _⟩ | ⟨h2, _⟩ | ⟨h2, _⟩
    · exact h2
    · rw [hi] at h2; cases h2
    · omega
    · omega
  · rw [if_neg h1] at h
    have hm := cnt_mono (live S) (show P.d ≤ i by omega)
    rcases h with ⟨h2, _⟩ | ⟨h2, _⟩ | ⟨_, s, _, _, h3, h4, h5⟩ | ⟨_, h2, _⟩
    · omega
    · omega
    · have : s = i := cnt_inj h3 hi (by omega)
      omega
    · have h6 := cnt_mono (live S) (show i + 1 ≤ P.t by omega)
      rw [cnt_at hi] at h6
      omega
/-- Dead words ahead of Dense are no more than may be wasted. -/
theorem dense_dead {n : Nat} {S : Nat → Nat} (hs : Bl n S) {k v : Nat} {P : PN} (hP : Makes S 0 n k v P) : P.d - cnt (live S) P.d ≤ v := by
  obtain ⟨K, a1, a2⟩ := hP.d_
  have h1 := a1.may
  unfold deadTo at h1
  rw [hP.f_] at h1
  rw [show cnt (live S) 0 = 0 from rfl] at h1
  have h2 := a2.ge
  have h3 : ∀ m, P.ed K + m ≤ P.d → cnt (live S) (P.ed K + m) = cnt (live S) (P.ed K) + m := by
    intro m
    induction m with
    | zero => intro _; rfl
    | succ m ih =>
      intro hm
      rw [← Nat.add_assoc, cnt_at (a2.live (by omega) (by omega)), ih (by omega)]
      omega
  have h4 := h3 (P.d - P.ed K) (by omega)
  rw [show P.ed K + (P.d - P.ed K) = P.d by omega] at h4
  omega
end Go.Proofs.YtcckflcjjgckoaaDoor
