/-
  Threads 0, 1 and so on of which the first ones are parked: without memory.
-/
import Derived.Test.YtclfeafmlngpnaaSafeAwake
namespace Go.Proofs.Ytclfeafmlngpnaa
set_option linter.unusedVariables false

/-- k threads, from 0 on; the first t are parked, the others run. -/
def mix (t k : Nat) : Th := (List.range k).map fun (i : Nat) => ((i : Int), if i < t then 2 else 1)
theorem mix_ok (t k : Nat) (hk : k ≤ 1000000) : Ok (mix t k) := by
  refine ⟨?_, fun p hp => ?_⟩
  · unfold mix
    rw [List.pairwise_map]
    exact List.pairwise_lt_range.imp (fun {a b} h => (by show (a : Int) < (b : Int); omega))
  · obtain ⟨i, hi, rfl⟩ := List.mem_map.1 hp
    have := List.mem_range.1 hi
    dsimp only
    split <;> omega
theorem mix_st (t k : Nat) (hk : k ≤ 1000000) (x : Int) : st (mix t k) x = if 0 ≤ x ∧ x < k then (if x < t then 2 else 1) else 0 := by
  by_cases h : 0 ≤ x ∧ x < k
  · rw [if_pos h]
    obtain ⟨i, rfl⟩ : ∃ i : Nat, x = i := ⟨x.toNat, by omega⟩
    have hm : ((i : Int), if i < t then (2 : Int) else 1) ∈ mix t k := List.mem_map.2 ⟨i, List.mem_range.2 (by omega), rfl⟩
    have h1 := st_of_mem (mix_ok t k hk) hm
    simp only at h1
    rw [h1]
    by_cases h2 : i < t
    · rw [if_pos h2, if_pos (by omega)]
    · rw [if_neg h2, if_neg (by omega)]
  · rw [if_neg h]
    refine st_none fun p hp => ?_
    obtain ⟨i, hi, rfl⟩ := List.mem_map.1 hp
    have := List.mem_range.1 hi
    dsimp only
    omega
theorem mix_length (t k : Nat) : (mix t k).length = k := by simp [mix]
theorem mix_add (k : Nat) (hk : k < 1000000) : addR false (mix 0 k) [(k : Int)] = (mix 0 (k + 1), 1) := by
  have h0 : st (mix 0 k) k = 0 := by rw [mix_st _ _ (by omega), if_neg (by omega)]
  have h1 : addL false (mix 0 k) k = mix 0 (k + 1) := by
    unfold addL
    rw [if_pos h0]
    refine Ok.ext ((mix_ok 0 k (by omega)).ins h0 (by decide) (by omega)) (mix_ok _ _ (by omega)) fun x => ?_
    rw [st_ins, mix_st _ _ (by omega), mix_st _ _ (by omega)]
    by_cases hx : x = k
    · rw [if_pos hx, if_pos (by omega), if_neg (by omega)]
      rfl
    · rw [if_neg hx]
      by_cases h2 : 0 ≤ x ∧ x < k
      · rw [if_pos h2, if_neg (by omega), if_pos (by omega)]
      · rw [if_neg h2, if_neg (by omega)]
  show (addL false (mix 0 k) k, if isNew (mix 0 k) k then 0 + 1 else 0) = _
  rw [h1, if_pos (by simp [isNew, h0])]
theorem mix_polls (t k : Nat) (hk : k < 1000000) (ht : t < k) : polls (mix t k) true t = true := by
  simp [polls]
  rw [mix_st _ _ (by omega), if_pos (by omega), if_neg (by omega)]
theorem mix_poll (t k : Nat) (hk : k < 1000000) (ht : t < k) : pollL (mix t k) true t = mix (t + 1) k := by
  unfold pollL
  rw [mix_polls t k hk ht, if_pos rfl]
  have h1 : st (mix t k) t ≠ 0 := by rw [mix_st _ _ (by omega), if_pos (by omega), if_neg (by omega)]; omega
  refine Ok.ext ((mix_ok t k (by omega)).upd _ (by omega)) (mix_ok _ _ (by omega)) fun x => ?_
  rw [st_upd h1, mix_st _ _ (by omega), mix_st _ _ (by omega)]
  by_cases hx : x = t
  · rw [if_pos hx, if_pos (by omega), if_pos (by omega)]
  · rw [if_neg hx]
    by_cases h2 : 0 ≤ x ∧ x < k
    · rw [if_pos h2, if_pos h2]
      by_cases h3 : x < t
      · rw [if_pos h3, if_pos (by omega)]
      · rw [if_neg h3, if_neg (by omega)]
    · rw [if_neg h2, if_neg h2]
theorem mix_reach (k : Nat) (hk : k < 1000000) : reach (mix k k) true = true := by
  have h := (still_iff (mix_ok k k (by omega))).2 fun x => by
    rw [mix_st _ _ (by omega)]
    split
    · rw [if_pos (by omega)]; omega
    · omega
  simp [reach, h]
theorem those_every {q : Int → Bool} {L : Th} (h : ∀ p, p ∈ L → q p.2 = true) : those q L = L.map Prod.fst := by
  unfold those
  rw [List.filter_eq_self.2 h]
theorem mix_resume (k : Nat) (hk : k < 1000000) : (resumeT (mix k k) true).length = k ∧ resumeL (mix k k) true = mix 0 k ∧ resumeA (mix k k) true = false := by
  unfold resumeT resumeL resumeA
  rw [mix_reach k hk, if_pos rfl, if_pos rfl, if_pos rfl]
  refine ⟨?_, ?_, rfl⟩
  · unfold parked inL
    rw [those_every fun p hp => ?_, List.length_map, mix_length]
    obtain ⟨i, hi, rfl⟩ := List.mem_map.1 hp
    have := List.mem_range.1 hi
    simp [this]
  · refine Ok.ext (resL_ok (mix_ok _ _ (by omega))) (mix_ok _ _ (by omega)) fun x => ?_
    rw [resL_st (mix_ok _ _ (by omega)), mix_st _ _ (by omega), mix_st _ _ (by omega)]
    by_cases h2 : 0 ≤ x ∧ x < k
    · have h4 : ¬ x < ((0 : Nat) : Int) := by omega
      simp only [h2, h4, and_self, if_true, if_false]
    · rw [if_neg h2, if_neg (by omega), if_neg h2]
theorem mix_in (k : Nat) : (inL [1] (mix 0 k)).length = k := by
  unfold inL
  rw [those_every fun p hp => ?_, List.length_map, mix_length]
  obtain ⟨i, hi, rfl⟩ := List.mem_map.1 hp
  simp
end Go.Proofs.Ytclfeafmlngpnaa
