/-
  What the statements of layer 13 ask of a plan, without memory.
-/
import Derived.Test.YtcckflcjjgckoaaDoorPlanAwake
namespace Go.Proofs.YtcckflcjjgckoaaDoor
open Go.RowKit Bt
set_option linter.unusedVariables false
set_option linter.unusedSimpArgs false

theorem noCut0 (S : Nat → Nat) : NoCut S 0 := fun a h => by omega
theorem noCutN {n : Nat} {S : Nat → Nat} (h : Bl n S) : NoCut S n := fun a h1 h2 => by
  have := h.into a (by omega)
  omega
theorem IsPast.mono {n : Nat} {S : Nat → Nat} (hs : Bl n S) {x y r s : Nat} (hx : IsPast S x r) (hy : IsPast S y s) (h : x ≤ y) : r ≤ s := by
  have h1 := hy.ge
  rcases hx with ⟨a, a1, a2, a3⟩ | ⟨_, a1⟩
  · by_cases h2 : y < a + S a
    · have : IsPast S y (a + S a) := .inl ⟨a, by omega, h2, rfl⟩
      have := IsPast.uniq hs hy this
      omega
    · omega
  · omega
theorem top_mono (L : Nat → Bool) {t d d' : Nat} (h1 : d ≤ d') (h2 : d' ≤ t) : d + (cnt L t - cnt L d) ≤ d' + (cnt L t - cnt L d') := by
  have a := cnt_gap L h1
  have b := cnt_mono L h1
  have c := cnt_mono L h2
  omega
theorem PN.ed_same {P Q : PN} (hf : P.f = Q.f) (ht : P.t = Q.t) (hk : P.k = Q.k) (K : Nat) : P.ed K = Q.ed K := by unfold PN.ed; rw [hf, ht, hk]
theorem PN.R_same {P Q : PN} (hf : P.f = Q.f) (ht : P.t = Q.t) (hk : P.k = Q.k) : P.R = Q.R := by unfold PN.R; rw [hf, ht, hk]
theorem dead_same {P Q : PN} (hf : P.f = Q.f) (L : Nat → Bool) (x : Nat) : deadTo P L x = deadTo Q L x := by unfold deadTo; rw [hf]
theorem Makes.ok {S : Nat → Nat} {f t k waste : Nat} {P : PN} (h : Makes S f t k waste P) (h1 : f ≤ t) (h2 : t ≤ 65536) (h3 : 1 ≤ k) (h4 : k ≤ 65536) : P.Ok :=
  ⟨by rw [h.f_, h.t_]; exact h1, by rw [h.t_]; exact h2, by rw [h.k_]; exact h3, by rw [h.k_]; exact h4⟩

/-- More waste: more stays. -/
theorem makes_more {n : Nat} {S : Nat → Nat} (hs : Bl n S) {f t k v v' : Nat} {P Q : PN} (hP : Makes S f t k v P) (hQ : Makes S f t k v' Q) (hv : v ≤ v') (h1 : f ≤ t) (h2 : t ≤ 65536) (h3 : 1 ≤ k) (h4 : k ≤ 65536) (hc : NoCut S t) : P.d ≤ Q.d ∧ P.e ≤ Q.e := by
  have okP := hP.ok h1 h2 h3 h4
  obtain ⟨K, a1, a2⟩ := hP.d_
  obtain ⟨K', b1, b2⟩ := hQ.d_
  have hf : P.f = Q.f := by rw [hP.f_, hQ.f_]
  have ht : P.t = Q.t := by rw [hP.t_, hQ.t_]
  have hk : P.k = Q.k := by rw [hP.k_, hQ.k_]
  have hKK : K ≤ K' := by
    by_cases h : K ≤ K'
    · exact h
    · exfalso
      have c1 := a1.le
      have c2 := a1.may
      rcases b1.most with c3 | c3
      · rw [← PN.R_same hf ht hk] at c3; omega
      · rw [← PN.ed_same hf ht hk, ← dead_same hf] at c3
        have c4 := deadTo_mono (P := P) (live S) (PN.ed_ge okP (K' + 1)) (PN.ed_mono P (show K' + 1 ≤ K by omega))
        omega
  have hed : P.ed K ≤ Q.ed K' := by rw [← PN.ed_same hf ht hk K']; exact PN.ed_mono P hKK
  have hd := IsPast.mono hs a2 b2 hed
  have hQt := hQ.dle hs hc
  refine ⟨hd, ?_⟩
  rw [hP.e_, hQ.e_]
  exact top_mono (live S) hd hQt
/-- With as much waste as there are words all stays. -/
theorem makes_all {n : Nat} {S : Nat → Nat} (hs : Bl n S) {k v : Nat} {P : PN} (hP : Makes S 0 n k v P) (hv : ∀ x, x ≤ n → deadTo P (live S) x ≤ v) (h2 : n ≤ 65536) (h3 : 1 ≤ k) (h4 : k ≤ 65536) : P.d = n ∧ P.e = n := by
  have okP := hP.ok (Nat.zero_le _) h2 h3 h4
  obtain ⟨K, a1, a2⟩ := hP.d_
  have hK : K = P.R := by
    rcases a1.most with h | h
    · exact h
    · have h5 := PN.ed_le P (K + 1)
      rw [hP.t_] at h5
      have := hv _ h5
      omega
  rw [hK, PN.ed_R okP, hP.t_] at a2
  have hd : P.d = n := IsPast.uniq hs a2 (.inr ⟨noCutN hs, rfl⟩)
  refine ⟨hd, ?_⟩
  rw [hP.e_, hd]
  omega
theorem dead_le (P : PN) (L : Nat → Bool) (x : Nat) : deadTo P L x ≤ x := by unfold deadTo; omega
end Go.Proofs.YtcckflcjjgckoaaDoor
