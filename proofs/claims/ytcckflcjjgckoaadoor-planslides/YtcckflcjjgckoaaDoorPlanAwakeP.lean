/-
  The chapter's example of layer 13, reckoned out. No Go is walked here.
-/
import Derived.Test.YtcckflcjjgckoaaDoorPlanMarks
namespace Go.Proofs.YtcckflcjjgckoaaDoor
open Go.RowKit Bt
set_option linter.unusedVariables false
set_option linter.unusedSimpArgs false

def cs13 : List (Int × Int) := [(1, 3), (9, 3), (14, 3), (12, 2)]
def Sx1 : Nat → Nat := upd S0 1 3
def Sx2 : Nat → Nat := upd Sx1 9 3
def Sx3 : Nat → Nat := upd Sx2 14 3
def Sx : Nat → Nat := upd Sx3 12 2
theorem Sx1_at (k : Nat) : Sx1 k = if k = 1 then 3 else 0 := rfl
theorem Sx2_at (k : Nat) : Sx2 k = if k = 9 then 3 else if k = 1 then 3 else 0 := rfl
theorem Sx3_at (k : Nat) : Sx3 k = if k = 14 then 3 else if k = 9 then 3 else if k = 1 then 3 else 0 := rfl
theorem Sx_at (k : Nat) : Sx k = if k = 12 then 2 else if k = 14 then 3 else if k = 9 then 3 else if k = 1 then 3 else 0 := rfl
/-- No word of a stretch is live where no block meets it. -/
theorem free_of {S : Nat → Nat} {a z : Nat} (h : ∀ b, 0 < S b → b + S b ≤ a ∨ a + z ≤ b) : Free S a z := by
  intro k h1 h2
  unfold live
  rw [bo_false]
  rintro ⟨b, hb⟩
  unfold Cov at hb
  have := h b (by omega)
  omega
theorem mx1 : markT 30 S0 1 3 = (true, 0, Sx1) := mark_free (by omega) (by omega) rfl (fun k _ _ => live0 k)
theorem mx2 : markT 30 Sx1 9 3 = (true, 0, Sx2) := mark_free (by omega) (by omega) rfl (free_of (fun b hb => by
  rw [Sx1_at] at hb ⊢
  show _ ≤ 9 ∨ 9 + 3 ≤ b
  split at hb
  · rename_i h; subst h; simp
  · omega))
theorem mx3 : markT 30 Sx2 14 3 = (true, 0, Sx3) := mark_free (by omega) (by omega) rfl (free_of (fun b hb => by
  rw [Sx2_at] at hb ⊢
  show _ ≤ 14 ∨ 14 + 3 ≤ b
  split at hb
  · rename_i h; subst h; simp
  · split at hb
    · rename_i h; subst h; simp
    · omega))
theorem mx4 : markT 30 Sx3 12 2 = (true, 0, Sx) := mark_free (by omega) (by omega) rfl (free_of (fun b hb => by
  rw [Sx3_at] at hb ⊢
  show _ ≤ 12 ∨ 12 + 2 ≤ b
  split at hb
  · rename_i h; subst h; simp
  · split at hb
    · rename_i h; subst h; simp
    · split at hb
      · rename_i h; subst h; simp
      · omega))
theorem mkSx : mkS 30 cs13 4 = Sx := by
  have e1 : mkS 30 cs13 1 = Sx1 := by show (markT 30 S0 1 3).2.2 = _; rw [mx1]
  have e2 : mkS 30 cs13 2 = Sx2 := by show (markT 30 (mkS 30 cs13 1) 9 3).2.2 = _; rw [e1, mx2]
  have e3 : mkS 30 cs13 3 = Sx3 := by show (markT 30 (mkS 30 cs13 2) 14 3).2.2 = _; rw [e2, mx3]
  show (markT 30 (mkS 30 cs13 3) 12 2).2.2 = _
  rw [e3, mx4]
def Lx (k : Nat) : Bool := decide (1 ≤ k ∧ k < 4) || decide (9 ≤ k ∧ k < 17)
theorem liveSx : live Sx = Lx := by
  funext k
  rw [Bool.eq_iff_iff]
  unfold live Lx
  rw [bo_true, Bool.or_eq_true, decide_eq_true_eq, decide_eq_true_eq]
  constructor
  · rintro ⟨a, h1, h2⟩
    rw [Sx_at] at h2
    split at h2
    · omega
    · split at h2
      · omega
      · split at h2
        · omega
        · split at h2 <;> omega
  · intro h
    by_cases h1 : k < 4
    · exact ⟨1, by omega, by rw [Sx_at]; simp; omega⟩
    · by_cases h2 : k < 12
      · exact ⟨9, by omega, by rw [Sx_at]; simp; omega⟩
      · by_cases h3 : k < 14
        · exact ⟨12, by omega, by rw [Sx_at]; simp; omega⟩
        · exact ⟨14, by omega, by rw [Sx_at]; simp; omega⟩
def Px : PN := ⟨1, 21, 5, 6, 14⟩
theorem dead_at (d e : Nat) (K : Nat) : deadTo ⟨1, 21, 5, d, e⟩ Lx (PN.ed ⟨1, 21, 5, d, e⟩ K) = (min (1 + K * 5) 21 - 1) - (cnt Lx (min (1 + K * 5) 21) - 0) := rfl
theorem makesPx {P : PN} (h : Makes Sx 1 21 5 2 P) : P = Px := by
  obtain ⟨f, t, k, d, e⟩ := P
  obtain ⟨h1, h2, h3, h4, K, h5, h6⟩ := h
  simp only at h1 h2 h3 h4 h6
  subst h1 h2 h3
  rw [liveSx] at h4 h5
  have hR : PN.R ⟨1, 21, 5, d, e⟩ = 4 := by simp [PN.R]
  have hK : K = 1 := by
    have k1 := h5.le
    have k2 := h5.may
    have k3 := h5.most
    rw [hR] at k1 k3
    rw [dead_at] at k2 k3
    have : K = 0 ∨ K = 1 ∨ K = 2 ∨ K = 3 ∨ K = 4 := by omega
    rcases this with rfl | rfl | rfl | rfl | rfl
    · exfalso
      rcases k3 with k3 | k3
      · omega
      · revert k3; decide +kernel
    · rfl
    · exfalso; revert k2; decide +kernel
    · exfalso; revert k2; decide +kernel
    · exfalso; revert k2; decide +kernel
  subst hK
  have hed : PN.ed ⟨1, 21, 5, d, e⟩ 1 = 6 := rfl
  rw [hed] at h6
  have hd : d = 6 := by
    rcases h6 with ⟨a, a1, a2, a3⟩ | ⟨_, a1⟩
    · exfalso
      rw [Sx_at] at a2
      split at a2
      · omega
      · split at a2
        · omega
        · split at a2
          · omega
          · split at a2 <;> omega
    · exact a1
  subst hd
  have he : e = 14 := by rw [h4]; decide +kernel
  subst he
  rfl
theorem gapsPx {x : Nat} {L : List (Nat × Nat)} (h : GpF Sx 1 6 x L) (hx : 6 ≤ x) : L = [(4, 6)] := by
  have key : (x = 1 ∧ L = []) ∨ (x = 4 ∧ L = []) ∨ (x = 6 ∧ L = [(4, 6)]) := by
    clear hx
    induction h with
    | start => exact .inl ⟨rfl, rfl⟩
    | @block x L h1 h2 h3 ih =>
      rcases ih with ⟨rfl, rfl⟩ | ⟨rfl, rfl⟩ | ⟨rfl, rfl⟩
      · exact .inr (.inl ⟨rfl, rfl⟩)
      · exact absurd h3 (by decide)
      · omega
    | @gap x y L h1 h2 h3 h4 ih =>
      obtain ⟨a1, a2, a3, a4⟩ := h3
      rcases ih with ⟨rfl, rfl⟩ | ⟨rfl, rfl⟩ | ⟨rfl, rfl⟩
      · have := a4 1 (by omega) h4
        exact absurd this (by decide)
      · have hy : y = 6 := by
          rcases a3 with a3 | a3
          · exact a3
          · rw [Sx_at] at a3
            split at a3
            · omega
            · split at a3
              · omega
              · split at a3
                · omega
                · split at a3 <;> omega
        subst hy
        exact .inr (.inr ⟨rfl, rfl⟩)
      · omega
  rcases key with ⟨rfl, _⟩ | ⟨rfl, _⟩ | ⟨_, h1⟩
  · omega
  · omega
  · exact h1
theorem noCut1 : NoCut Sx 1 := fun a h1 h2 => by
  have : a = 0 := by omega
  subst this
  exact absurd h2 (by decide)
theorem noCut21 : NoCut Sx 21 := fun a h1 h2 => by
  rw [Sx_at] at h2
  split at h2
  · omega
  · split at h2
    · omega
    · split at h2
      · omega
      · split at h2 <;> omega
theorem okPx : Px.Ok := ⟨by decide, by decide, by decide, by decide⟩
theorem lv2 : lvR Px (live Sx) 2 = 5 := by rw [liveSx]; decide +kernel
theorem ah3 : ahR Px (live Sx) 3 = 7 := by rw [liveSx]; decide +kernel
theorem wt2 : wtR Px (live Sx) 2 = 1 := by rw [liveSx]; decide +kernel
theorem tk10 : tkR Px (live Sx) 1 0 = 1 := by rw [liveSx]; decide +kernel
theorem tk11 : tkR Px (live Sx) 1 1 = 3 := by rw [liveSx]; decide +kernel
theorem go20 : gF Px 2 = 11 := by decide +kernel
theorem go21 : gT Px 2 = 14 := by decide +kernel
theorem fw12 : (if 12 < Px.d then 12 else Px.d + (cnt (live Sx) 12 - cnt (live Sx) Px.d)) = 9 := by rw [liveSx]; decide +kernel
theorem src8 {r : Int} (h : IsSrc Px Sx 8 r) : r = 11 := by
  unfold IsSrc at h
  rw [liveSx] at h
  rcases h with ⟨h1, _⟩ | ⟨h1, _⟩ | ⟨_, s, h1, h2, h3, h4, rfl⟩ | ⟨_, h1, _⟩
  · exact absurd h1 (by decide)
  · exact absurd h1 (by decide)
  · have h5 : ∀ s, s < 21 → cnt Lx s = cnt Lx 6 + (8 - 6) → Lx s = true → s = 11 := by decide +kernel
    have h6 := h5 s h2 h4 h3
    omega
  · exact absurd h1 (by decide +kernel)
theorem src14 {r : Int} (h : IsSrc Px Sx 14 r) : r = -1 := by
  unfold IsSrc at h
  rw [liveSx] at h
  rcases h with ⟨h1, _⟩ | ⟨h1, _⟩ | ⟨_, s, h1, h2, h3, h4, rfl⟩ | ⟨_, _, h1⟩
  · exact absurd h1 (by decide)
  · exact absurd h1 (by decide)
  · have h5 : ∀ s, s < 21 → Lx s = true → cnt Lx s ≠ cnt Lx 6 + (14 - 6) := by decide +kernel
    exact absurd h4 (h5 s h2 h3)
  · exact h1
end Go.Proofs.YtcckflcjjgckoaaDoor
