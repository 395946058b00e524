/-
  SafeCalls: armed, it is reached just once each thread that runs has polled, is held, or has ended, in whatever order: true for every kinds and every order.
-/
import Derived.Test.YtclfeafmlngpnaaSafeAgainP
import Derived.Test.YtclfeafmlngpnaaLawKit
import Derived.Deep.Cut
import Derived.Deep.CutBlock
import Derived.Deep.CutRange
import Derived.Deep.DeepCutAuto
import Derived.Deep.LoopGhost
namespace Go.Proofs.Ytclfeafmlngpnaa
open Go.ChangeShapes Go.WideShapes Go.ChangeAt Go.RowKit Go.Maps
set_option linter.unusedVariables false

/-- Who runs: just those that are left (each counted from 0). -/
structure Left (lst : List Int) (L : Th) : Prop where
  nd : lst.Nodup
  runs : ∀ x, st L x = 1 ↔ x - 1 ∈ lst
theorem Left.still {lst : List Int} {L : Th} (h : Left lst L) (hL : Ok L) : still L = decide (lst = []) := by
  cases lst with
  | nil =>
    rw [(still_iff hL).2 fun x hx => by have := (h.runs x).1 hx; cases this]
    rfl
  | cons y l =>
    cases hs : Proofs.Ytclfeafmlngpnaa.still L with
    | false => simp
    | true =>
      have h1 := (still_iff hL).1 hs (y + 1)
      exact absurd ((h.runs (y + 1)).2 (by simp)) h1
theorem Left.step {lst : List Int} {L M : Th} (h : Left lst L) {k : Nat} {t : Int} (hk : lst[k]? = some t) (hM : ∀ x, x ≠ t + 1 → st M x = st L x) (ht : st M (t + 1) ≠ 1) : Left (lst.take k ++ lst.drop (k + 1)) M := by
  obtain ⟨hl, ht'⟩ := List.getElem?_eq_some_iff.1 hk
  have e : lst.take k ++ lst.drop (k + 1) = lst.eraseIdx k := (List.eraseIdx_eq_take_drop_succ lst k).symm
  have e2 : lst = lst.take k ++ t :: lst.drop (k + 1) := by
    rw [← ht', ← List.drop_eq_getElem_cons hl, List.take_append_drop]
  have hnd := h.nd
  rw [e2] at hnd
  have hnd2 := List.nodup_append.1 hnd
  have hnt : t ∉ lst.take k ++ lst.drop (k + 1) := by
    intro hm
    rcases List.mem_append.1 hm with hm | hm
    · exact hnd2.2.2 t hm t (by simp) rfl
    · exact (List.nodup_cons.1 hnd2.2.1).1 hm
  have hmem : ∀ y, y ∈ lst ↔ (y = t ∨ y ∈ lst.take k ++ lst.drop (k + 1)) := fun y => by
    rw [show y ∈ lst ↔ y ∈ lst.take k ++ t :: lst.drop (k + 1) by rw [← e2]]
    simp only [List.mem_append, List.mem_cons]
    constructor
    · rintro (h | h | h) <;> simp [h]
    · rintro (h | h | h) <;> simp [h]
  refine ⟨by rw [e]; exact h.nd.sublist (List.eraseIdx_sublist _ _), fun x => ?_⟩
  by_cases hx : x = t + 1
  · subst hx
    rw [show t + 1 - 1 = t by omega]
    exact ⟨fun h1 => absurd h1 ht, fun h1 => absurd h1 hnt⟩
  · rw [hM x hx, h.runs x, hmem (x - 1)]
    constructor
    · rintro (h1 | h1)
      · omega
      · exact h1
    · exact Or.inr

/-- A slice of numbers that came in. -/
theorem isRow_ird {w : World} {a : Option Addr} {len cap : Nat} {zs : List Int} (h : IsRow .i64 w a len cap zs) : IRd w a len (zs.take len) ∧ len ≤ 9223372036854775807 := by
  rcases h.cases with h0 | ⟨b, off, rfl, hl, hm, _, hc, hw⟩
  · subst h0
    exact ⟨by rw [List.take_zero]; exact IRd.nil _ _, by omega⟩
  · refine ⟨⟨by rw [List.length_take]; omega, fun x hx => ?_, fun i x hx => ⟨b, off, rfl, ?_⟩⟩, hm⟩
    · obtain ⟨i, hi⟩ := List.mem_iff_getElem?.1 hx
      rw [List.getElem?_take] at hi
      split at hi
      · have := hw i
        rw [List.getD_eq_getElem?_getD, hi] at this
        exact wf_range this
      · cases hi
    · rw [List.getElem?_take] at hx
      split at hx
      · rename_i h1
        rw [hc i h1, List.getD_eq_getElem?_getD, hx]
        rfl
      · cases hx

/-- 0, 1 and so on below k. -/
def upTo (k : Nat) : List Int := (List.range k).map fun (i : Nat) => (i : Int)
theorem upTo_length (k : Nat) : (upTo k).length = k := by simp [upTo]
theorem upTo_succ (k : Nat) : upTo (k + 1) = upTo k ++ [(k : Int)] := by simp [upTo, List.range_succ]
theorem mem_upTo {k : Nat} {x : Int} : x ∈ upTo k ↔ 0 ≤ x ∧ x < k := by
  unfold upTo
  constructor
  · intro h
    obtain ⟨i, hi, rfl⟩ := List.mem_map.1 h
    have := List.mem_range.1 hi
    omega
  · rintro ⟨h1, h2⟩
    exact List.mem_map.2 ⟨x.toNat, List.mem_range.2 (by omega), by omega⟩
theorem upTo_nodup (k : Nat) : (upTo k).Nodup := by
  unfold upTo
  exact List.pairwise_map.2 (List.pairwise_lt_range.imp (fun {a b} h => by show (a : Int) ≠ (b : Int); omega))

/-- Threads 1 to k, all of which run. -/
def all1 (k : Nat) : Th := (List.range k).map fun (i : Nat) => ((i : Int) + 1, (1 : Int))
theorem all1_ok (k : Nat) (hk : k ≤ 1000000) : Ok (all1 k) := by
  refine ⟨?_, fun p hp => ?_⟩
  · unfold all1
    rw [List.pairwise_map]
    exact List.pairwise_lt_range.imp (fun {a b} h => (by show (a : Int) + 1 < (b : Int) + 1; omega))
  · obtain ⟨i, hi, rfl⟩ := List.mem_map.1 hp
    have := List.mem_range.1 hi
    dsimp only
    omega
theorem all1_st (k : Nat) (hk : k ≤ 1000000) (x : Int) : st (all1 k) x = if 1 ≤ x ∧ x ≤ k then 1 else 0 := by
  by_cases h : 1 ≤ x ∧ x ≤ k
  · rw [if_pos h]
    obtain ⟨i, rfl⟩ : ∃ i : Nat, x = (i : Int) + 1 := ⟨(x - 1).toNat, by omega⟩
    have hm : ((i : Int) + 1, (1 : Int)) ∈ all1 k := List.mem_map.2 ⟨i, List.mem_range.2 (by omega), rfl⟩
    exact st_of_mem (all1_ok k hk) hm
  · rw [if_neg h]
    refine st_none fun p hp => ?_
    obtain ⟨i, hi, rfl⟩ := List.mem_map.1 hp
    have := List.mem_range.1 hi
    dsimp only
    omega
theorem all1_length (k : Nat) : (all1 k).length = k := by simp [all1]
theorem all1_add (k : Nat) (hk : k < 1000000) : addR false (all1 k) [(k : Int) + 1] = (all1 (k + 1), 1) := by
  have h0 : st (all1 k) ((k : Int) + 1) = 0 := by rw [all1_st _ (by omega), if_neg (by omega)]
  have h1 : addL false (all1 k) ((k : Int) + 1) = all1 (k + 1) := by
    unfold addL
    rw [if_pos h0]
    refine Ok.ext ((all1_ok k (by omega)).ins h0 (by decide) (by omega)) (all1_ok _ (by omega)) fun x => ?_
    rw [st_ins, all1_st _ (by omega), all1_st _ (by omega)]
    by_cases hx : x = (k : Int) + 1
    · rw [if_pos hx, if_pos (by omega)]
      rfl
    · rw [if_neg hx]
      by_cases h2 : 1 ≤ x ∧ x ≤ k
      · rw [if_pos h2, if_pos (by omega)]
      · rw [if_neg h2, if_neg (by omega)]
  show (addL false (all1 k) ((k : Int) + 1), if isNew (all1 k) ((k : Int) + 1) then 0 + 1 else 0) = _
  rw [h1, if_pos (by simp [isNew, h0])]
theorem all1_left (k : Nat) (hk : k ≤ 1000000) : Left (upTo k) (all1 k) :=
  ⟨upTo_nodup k, fun x => by
    rw [all1_st k hk, mem_upTo]
    constructor
    · intro h
      split at h <;> omega
    · intro h
      rw [if_pos (by omega)]⟩
end Go.Proofs.Ytclfeafmlngpnaa
