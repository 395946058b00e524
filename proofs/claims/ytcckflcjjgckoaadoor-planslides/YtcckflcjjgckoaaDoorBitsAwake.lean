/-
  awake: the answers that the document fixes.
-/
import Derived.Test.YtcckflcjjgckoaaDoorBitsNew
namespace Go.Proofs.YtcckflcjjgckoaaDoor.Bt
open Go.RowKit
set_option linter.unusedVariables false

def S0 : Nat → Nat := fun _ => 0
def S1 : Nat → Nat := upd S0 10 5
def S2 : Nat → Nat := upd S1 15 3
theorem S1_at (k : Nat) : S1 k = if k = 10 then 5 else 0 := rfl
theorem S2_at (k : Nat) : S2 k = if k = 15 then 3 else if k = 10 then 5 else 0 := rfl
theorem live0 (k : Nat) : live S0 k = false := by
  unfold live; rw [bo_false]
  rintro ⟨a, h1, h2⟩
  unfold S0 at h2
  omega
theorem live1 (k : Nat) : live S1 k = decide (10 ≤ k ∧ k < 15) := by
  rw [Bool.eq_iff_iff]
  unfold live
  rw [bo_true, decide_eq_true_eq]
  constructor
  · rintro ⟨a, h1, h2⟩
    rw [S1_at] at h2
    split at h2 <;> omega
  · intro h
    exact ⟨10, by omega, by rw [S1_at, if_pos rfl]; omega⟩
theorem live2 (k : Nat) : live S2 k = decide (10 ≤ k ∧ k < 18) := by
  rw [Bool.eq_iff_iff]
  unfold live
  rw [bo_true, decide_eq_true_eq]
  constructor
  · rintro ⟨a, h1, h2⟩
    rw [S2_at] at h2
    split at h2
    · omega
    · split at h2 <;> omega
  · intro h
    by_cases h1 : k < 15
    · exact ⟨10, by omega, by rw [S2_at, if_neg (by omega), if_pos rfl]; omega⟩
    · exact ⟨15, by omega, by rw [S2_at, if_pos rfl]; omega⟩
theorem mark_free {n : Nat} {S : Nat → Nat} {x z : Int} (h1 : 0 ≤ x ∧ x < n) (h2 : 1 ≤ z ∧ z ≤ n - x) (h3 : S x.toNat = 0) (h4 : Free S x.toNat z.toNat) : markT n S x z = (true, 0, upd S x.toNat z.toNat) := by
  unfold markT
  rw [if_neg (by simpa using h1), if_neg (by omega), if_neg (by omega), if_pos h4]
theorem mark_again {n : Nat} {S : Nat → Nat} {x z : Int} (h1 : 0 ≤ x ∧ x < n) (h2 : 1 ≤ z ∧ z ≤ n - x) (h3 : 0 < S x.toNat) : markT n S x z = (false, 0, S) := by
  unfold markT
  rw [if_neg (by simpa using h1), if_neg (by omega), if_pos h3]
theorem mark_over {n : Nat} {S : Nat → Nat} {x z : Int} (h1 : 0 ≤ x ∧ x < n) (h2 : 1 ≤ z ∧ z ≤ n - x) (h3 : S x.toNat = 0) (h4 : ¬ Free S x.toNat z.toNat) : markT n S x z = (false, 11, S) := by
  unfold markT
  rw [if_neg (by simpa using h1), if_neg (by omega), if_neg (by omega), if_neg h4]
theorem mark_big {n : Nat} {S : Nat → Nat} {x z : Int} (h1 : 0 ≤ x ∧ x < n) (h2 : z < 1 ∨ n - x < z) : markT n S x z = (false, 11, S) := by
  unfold markT
  rw [if_neg (by simpa using h1), if_pos h2]
theorem m1_eq : markT 100 S0 10 5 = (true, 0, S1) := mark_free (by omega) (by omega) rfl (fun k _ _ => live0 k)
theorem m2_eq : markT 100 S1 10 5 = (false, 0, S1) := mark_again (by omega) (by omega) (by decide)
theorem m3_eq : markT 100 S1 14 1 = (false, 11, S1) := mark_over (by omega) (by omega) rfl (fun h => by
  have := h 14 (by decide) (by decide)
  rw [live1] at this
  exact absurd this (by decide))
theorem m4_eq : markT 100 S1 15 3 = (true, 0, S2) := mark_free (by omega) (by omega) rfl (fun k h1 h2 => by
  rw [live1, decide_eq_false]
  have h3 : (15 : Int).toNat = 15 := rfl
  rw [h3] at h1
  omega)
theorem m5_eq : markT 100 S2 99 2 = (false, 11, S2) := mark_big (by omega) (by omega)
theorem bl1 : Bl 100 S1 := by have := markT_bl (Bl.none 100) 10 5; rw [show (fun _ => 0 : Nat → Nat) = S0 from rfl, m1_eq] at this; exact this
theorem bl2 : Bl 100 S2 := by have := markT_bl bl1 15 3; rw [m4_eq] at this; exact this
theorem cl_eq : cntIn (live S2) 0 100 = 8 := by
  have : live S2 = fun k => decide (10 ≤ k ∧ k < 18) := funext live2
  rw [this]; decide +kernel
theorem cl2_eq : cntIn (live S2) 12 16 = 4 := by
  have : live S2 = fun k => decide (10 ≤ k ∧ k < 18) := funext live2
  rw [this]; decide +kernel
theorem cc_eq : cntIn (begs S2) 0 15 = 1 := by decide +kernel
theorem IsNext.uniq {f : Nat → Bool} {a b : Nat} {r s : Int} (h : IsNext f a b r) (k : IsNext f a b s) : r = s := by
  rcases h with ⟨rfl, h1⟩ | ⟨i, rfl, h1, h2, h3, h4⟩ <;> rcases k with ⟨rfl, k1⟩ | ⟨j, rfl, k1, k2, k3, k4⟩
  · rfl
  · rw [h1 j k1 k2] at k3; cases k3
  · rw [k1 i h1 h2] at h3; cases h3
  · rcases Nat.lt_trichotomy i j with h5 | h5 | h5
    · rw [k4 i h1 h5] at h3; cases h3
    · rw [h5]
    · rw [h4 j k1 h5] at k3; cases k3
theorem nx_eq {r : Int} (h : IsNext (begs S2) 11 100 r) : r = 15 := by
  refine h.uniq (.inr ⟨15, rfl, by omega, by omega, by decide, fun j h1 h2 => ?_⟩)
  unfold begs
  rw [S2_at, if_neg (by omega), if_neg (by omega)]
  rfl
theorem IsOver.at {n : Nat} {S : Nat → Nat} (h : Bl n S) {k j : Nat} {a z : Int} {t : Bool} (hc : Cov S k j) (ho : IsOver S j a z t) : a = k ∧ z = S k ∧ t = true := by
  rcases ho with ⟨k2, j2, h1, h2, h3, h4, h5⟩ | ⟨h1, _⟩
  · have h6 : j2 = j := by omega
    subst h6
    have h7 := h.one h2 hc
    subst h7
    exact ⟨h3, h4, h5⟩
  · exact absurd hc (h1 k j rfl)
theorem ov_eq {a z : Int} {t : Bool} (h : IsOver S2 13 a z t) : a = 10 ∧ z = 5 ∧ t = true := by
  have := IsOver.at bl2 (k := 10) (j := 13) (by unfold Cov; rw [S2_at]; decide) h
  exact this
theorem ov2_eq {a z : Int} {t : Bool} (h : IsOver S2 9 a z t) : t = false := by
  rcases h with ⟨k, j, h1, h2, _⟩ | ⟨_, _, _, h⟩
  · exfalso
    have h3 : j = 9 := by omega
    subst h3
    have h4 : live S2 9 = true := by unfold live; rw [bo_true]; exact ⟨k, h2⟩
    rw [live2] at h4
    exact absurd h4 (by decide)
  · exact h

end Go.Proofs.YtcckflcjjgckoaaDoor.Bt
