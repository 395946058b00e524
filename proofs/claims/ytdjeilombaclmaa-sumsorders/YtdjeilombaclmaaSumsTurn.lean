/-
  By turns all end; who has ended stays so.
-/
import Derived.Test.YtdjeilombaclmaaSumsStep
namespace Go.Proofs.Ytdjeilombaclmaa
open Go.RowKit
set_option linter.unusedVariables false

/-- By turns (the worker f j at the j-th step): somebody who goes has its turn soon, and so much is left. -/
def Tn (P : SP) (S : SS) (f : Nat → Nat) (j K : Nat) : Prop := S.ph = 3 ∨ ∃ d, d < P.n ∧ S.goes ((f (j + d) : Nat) : Int) = true ∧ S.left P * P.n + d + j ≤ K
section
variable {P : SP} {S : SS} {f : Nat → Nat} {j K : Nat}
theorem Tn.start (hI : Inv P S) (hf : ∀ k, k < P.n → ∃ d, d < P.n ∧ f (j + d) = k) (h : S.left P * P.n + P.n + j ≤ K + 1) : Tn P S f j K := by
  obtain ⟨k, hk, hg⟩ := hI.gi.one
  obtain ⟨d, hd, he⟩ := hf k hk
  exact .inr ⟨d, hd, by rw [he]; exact (goes_iff hI.gi hk).2 hg, by omega⟩
theorem next_step {k : Nat} (hk : k < P.n) : S.next P (k : Int) = S.step P k := by unfold SS.next; rw [if_pos (by omega), Int.toNat_natCast]
theorem next_stays {k : Int} (hg : ¬ (S.ph < 3 ∧ S.goes k = true)) : S.next P k = S := by
  unfold SS.next
  by_cases hk : 0 ≤ k ∧ k < P.n
  · rw [if_pos hk]
    unfold SS.step
    rw [Int.toNat_of_nonneg hk.1, if_neg hg]
  · rw [if_neg hk]
theorem Tn.step (hI : Inv P S) (h3 : S.ph ≠ 3) (hfn : f j < P.n) (hf : ∀ k, k < P.n → ∃ d, d < P.n ∧ f (j + 1 + d) = k) (h : Tn P S f j K) : Tn P (S.next P ((f j : Nat) : Int)) f (j + 1) K := by
  have hph : S.ph ≤ 3 := by cases hI.how <;> omega
  obtain ⟨d, hd, hg, hle⟩ := h.resolve_left h3
  by_cases hgo : S.goes ((f j : Nat) : Int) = true
  · rw [next_step hfn]
    obtain ⟨h1, h2⟩ := hI.step hfn (by omega) hgo
    refine Tn.start h1 hf ?_
    have h4 := Nat.mul_le_mul_right P.n h2
    rw [Nat.add_mul, Nat.one_mul] at h4
    omega
  · rw [next_stays (fun h => hgo h.2)]
    right
    cases d with
    | zero => exact absurd hg hgo
    | succ d => exact ⟨d, by omega, by rw [show j + 1 + d = j + (d + 1) by omega]; exact hg, by omega⟩
theorem Tn.over (h : Tn P S f j K) (hj : K < j) : S.ph = 3 := by
  rcases h with h | ⟨d, _, _, h⟩
  · exact h
  · omega
theorem Inv.left_next (hI : Inv P S) (k : Int) : (S.next P k).left P ≤ S.left P := by
  by_cases hg : S.ph < 3 ∧ S.goes k = true ∧ 0 ≤ k ∧ k < P.n
  · obtain ⟨j, rfl⟩ := Int.eq_ofNat_of_zero_le hg.2.2.1
    rw [next_step (by omega)]
    have := (hI.step (k := j) (by omega) hg.1 hg.2.1).2
    omega
  · have : S.next P k = S := by
      by_cases hk : 0 ≤ k ∧ k < P.n
      · exact next_stays (fun h => hg ⟨h.1, h.2, hk⟩)
      · unfold SS.next; rw [if_neg hk]
    rw [this]
    exact Nat.le_refl _
theorem left_fresh (hs : 0 < P.size) (hn : 0 < P.n) : (SS.fresh P).left P ≤ 2 * P.len + 3 * P.nb + 3 * P.n := by
  unfold SS.left SS.share
  have h1 : ((SS.fresh P).wk.map (fun W : SW => W.lim - W.pos)).sum = 0 := sum_zero _ _ (fun k W h => by
    simp [SS.fresh, List.getElem?_replicate] at h
    rw [← h.2]; rfl)
  rw [h1]
  simp [SS.fresh]
  omega

/-- Who has ended stays so. -/
theorem ended_stays (hI : Inv P S) {k i : Int} (h : S.ended P k = true) : (S.next P i).ended P k = true := by
  by_cases hr : 0 ≤ k ∧ k < P.n
  · by_cases h3 : S.ph = 3
    · rw [next_stays (fun h => by omega)]
      exact h
    · have h2 : S.ph = 2 ∧ S.goes k = false := by
        unfold SS.ended at h
        rw [decide_eq_false (by omega), decide_eq_false (by omega), decide_eq_false h3] at h
        simpa using h
      by_cases hg : S.ph < 3 ∧ S.goes i = true ∧ 0 ≤ i ∧ i < P.n
      · obtain ⟨j, rfl⟩ := Int.eq_ofNat_of_zero_le hg.2.2.1
        obtain ⟨m, rfl⟩ := Int.eq_ofNat_of_zero_le hr.1
        have hj : j < P.n := by omega
        have hm : m < P.n := by omega
        rw [next_step hj]
        have hgj := (goes_iff hI.gi hj).1 hg.2.1
        have hgm : (m : Int) ∈ S.ws.take S.came := by
          have := mt (goes_iff hI.gi hm).2 (by rw [h2.2]; simp)
          simpa using this
        unfold SS.step
        rw [if_pos ⟨hg.1, hg.2.1⟩]
        have hne : S.ph ≠ 1 := by omega
        obtain ⟨a, ha, hca, hperm, htk⟩ := arrive_facts hI.gi hj hgj
        have key : ∀ S1 : SS, S1.ws = S.ws → S1.came = S.came → S1.ph = S.ph → S1.ended P (m : Int) = true := fun S1 e1 e2 e3 => by
          unfold SS.ended SS.goes at h ⊢
          rw [e1, e2, e3]
          exact h
        unfold SS.work
        have hk := act_keeps P S j (S.wk.getD j ⟨0, 0, 0⟩)
        split
        · exact key _ hk.1 hk.2.1 hk.2.2.1
        · unfold SS.arrive
          rw [hk.1, hk.2.1, hk.2.2.1]
          split
          · unfold SS.ended
            rw [h2.1]
            simp
          · rename_i hl
            unfold SS.ended SS.goes
            simp only [h2.1, ha, Int.toNat_natCast]
            have hmem : (m : Int) ∉ (swp S.ws a S.came j).drop (S.came + 1) := by
              have hnd : (swp S.ws a S.came j).Nodup := hperm.nodup_iff.2 (ids_nodup _)
              rw [← List.take_append_drop (S.came + 1) (swp S.ws a S.came j), List.nodup_append] at hnd
              intro hmd
              exact hnd.2.2 (m : Int) (by rw [htk]; simp [hgm]) (m : Int) hmd rfl
            simp [hmem]
      · have : S.next P i = S := by
          by_cases hk : 0 ≤ i ∧ i < P.n
          · exact next_stays (fun h => hg ⟨h.1, h.2, hk⟩)
          · unfold SS.next; rw [if_neg hk]
        rw [this]
        exact h
  · unfold SS.ended
    rcases Int.lt_or_le k 0 with h1 | h1
    · rw [decide_eq_true h1]; simp
    · rw [decide_eq_true (show (P.n : Int) ≤ k by omega)]; simp
theorem ended_over (h3 : S.ph = 3) (k : Int) : S.ended P k = true := by unfold SS.ended; rw [decide_eq_true h3]; simp
end
end Go.Proofs.Ytdjeilombaclmaa
