/-
  A line: threads 1 to k, of whom the first a have left.
-/
import Derived.Test.YtlbcbphkgaoliaaMonPick
namespace Go.Proofs.Ytlbcbphkgaoliaa
open Go.RowKit
set_option linter.unusedVariables false
def ln (a k : Nat) : List (Int × Int) := (List.range' (a + 1) (k - a)).map fun (i : Nat) => ((i : Int), 1)
theorem ln_nil (k : Nat) : ln k k = [] := by simp [ln]
theorem ln_cons {a k : Nat} (h : a < k) : ln a k = (((a + 1 : Nat) : Int), 1) :: ln (a + 1) k := by
  unfold ln
  rw [show k - a = (k - (a + 1)) + 1 by omega, List.range'_succ]
  rfl
theorem ln_snoc {a k : Nat} (h : a ≤ k) : ln a (k + 1) = ln a k ++ [(((k + 1 : Nat) : Int), 1)] := by
  unfold ln
  rw [show k + 1 - a = (k - a) + 1 by omega, List.range'_1_concat, List.map_append]
  simp only [List.map_cons, List.map_nil]
  rw [show a + 1 + (k - a) = k + 1 by omega]
theorem ln_len (a k : Nat) : (ln a k).length = k - a := by simp [ln]
def lM (a k : Nat) : Mon := if a < k then ⟨((a + 1 : Nat) : Int), 1, ln (a + 1) k, []⟩ else Mon.zero
def lS (a k : Nat) : Int → Bool := fun x => decide ((a : Int) + 2 ≤ x ∧ x ≤ k)
section
variable {B : Nat} {w : World} {p n j a k : Nat} {y : Int}
theorem lM_in (h : a < k) : lM a k = ⟨((a + 1 : Nat) : Int), 1, ln (a + 1) k, []⟩ := if_pos h
theorem lM_out (h : ¬ a < k) : lM a k = Mon.zero := if_neg h
theorem next_ln (h : a ≤ k) (x t : Int) : nextM ⟨x, t, ln a k, []⟩ = lM a k := by
  by_cases h1 : a < k
  · rw [ln_cons h1, lM_in h1]; rfl
  · have : a = k := by omega
    subst this
    rw [ln_nil, lM_out h1]; rfl
theorem l_enter (hj : j ≤ 40) (hy : I64 y) (hy0 : y ≠ 0) (hn : n ≤ 900000) (h : Solo B w p n y (lM 0 j) (lS 0 j)) :
    Calls Try.prog 21 #[.pointer (some ⟨p, 0, none⟩), .int .i64 ((j + 1 : Nat) : Int), .int .i64 y] w fun e w' => e = .returned (.tuple #[.bool (decide (j = 0)), .int .i64 0]) ∧ Solo B w' p (n + 2) y (lM 0 (j + 1)) (lS 0 (j + 1)) ∧ Bel B w w' := by
  have hx : I64 ((j + 1 : Nat) : Int) := ⟨by omega, by omega⟩
  have hS : lS 0 j ((j + 1 : Nat) : Int) = false := by unfold lS; rw [decide_eq_false]; omega
  by_cases h0 : j = 0
  · subst h0
    have hs : lS 0 0 = lS 0 (0 + 1) := by funext z; unfold lS; congr 1; simp only [eq_iff_iff]; omega
    have := enter_solo hx (by omega) hy hy0 hn h ⟨⟨by decide, by decide⟩, by decide⟩ hS
    rw [hs] at this
    exact this
  · have e0 := lM_in (a := 0) (k := j) (by omega)
    have e1 := lM_in (a := 0) (k := j + 1) (by omega)
    rw [e0] at h
    have hd1 : ¬ ((1 : Int) = ((j + 1 : Nat) : Int)) := by omega
    have hr : (decide ((((0 + 1 : Nat) : Int)) = 0) || decide ((((0 + 1 : Nat) : Int)) = ((j + 1 : Nat) : Int))) = false := by simp; omega
    have he : enterM ⟨((0 + 1 : Nat) : Int), 1, ln (0 + 1) j, []⟩ ((j + 1 : Nat) : Int) = lM 0 (j + 1) := by
      rw [e1, ln_snoc (by omega)]
      unfold enterM
      rw [if_neg (by simp only; omega), if_neg (by simp only; omega)]
    have hs : addS (lS 0 j) ((j + 1 : Nat) : Int) = lS 0 (j + 1) := by
      funext z
      unfold addS lS
      by_cases hz : z = ((j + 1 : Nat) : Int)
      · rw [if_pos hz, Eq.comm, decide_eq_true_eq]; omega
      · rw [if_neg hz]; congr 1; simp only [eq_iff_iff]; omega
    have := enter_solo hx (by omega) hy hy0 hn h ⟨⟨by simp, by simp⟩, by simp only [ln_len, List.length_nil]; omega⟩ hS
    rw [he] at this
    simp only [hr] at this
    rw [hs] at this
    rw [show decide (j = 0) = false by simp [h0]]
    exact this
theorem l_exit (ha : a < k) (hk : k ≤ 40) (hy : I64 y) (hy0 : y ≠ 0) (hn : n ≤ 900000) (h : Solo B w p n y (lM a k) (lS a k)) :
    Calls Try.prog 23 #[.pointer (some ⟨p, 0, none⟩), .int .i64 ((a + 1 : Nat) : Int), .int .i64 y] w fun e w' => e = .returned (.tuple #[.int .i64 (if a + 1 = k then 0 else ((a + 2 : Nat) : Int)), .int .i64 0]) ∧ Solo B w' p (n + 3) y (lM (a + 1) k) (lS (a + 1) k) ∧ Bel B w w' := by
  have hx : I64 ((a + 1 : Nat) : Int) := ⟨by omega, by omega⟩
  have hS : lS a k ((a + 1 : Nat) : Int) = false := by unfold lS; rw [decide_eq_false]; omega
  have e0 := lM_in ha
  rw [e0] at h
  have hnx := next_ln (a := a + 1) (k := k) (by omega) ((a + 1 : Nat) : Int) 1
  have hh : (lM (a + 1) k).h = if a + 1 = k then 0 else ((a + 2 : Nat) : Int) := by
    by_cases h1 : a + 1 = k
    · rw [if_pos h1, lM_out (by omega)]; rfl
    · rw [if_neg h1, lM_in (by omega)]
  have hlt : ¬ (0 : Int) < 1 - 1 := by decide
  have a1 : exitR ⟨((a + 1 : Nat) : Int), 1, ln (a + 1) k, []⟩ = if a + 1 = k then 0 else ((a + 2 : Nat) : Int) := by unfold exitR; rw [if_neg hlt, hnx, hh]
  have a2 : exitM ⟨((a + 1 : Nat) : Int), 1, ln (a + 1) k, []⟩ = lM (a + 1) k := by unfold exitM; rw [if_neg hlt, hnx]
  have a3 : exitS ⟨((a + 1 : Nat) : Int), 1, ln (a + 1) k, []⟩ (lS a k) = lS (a + 1) k := by
    unfold exitS
    rw [if_neg hlt, hnx, hh]
    funext z
    unfold subS lS
    by_cases h1 : a + 1 = k
    · rw [if_pos h1]
      by_cases hz : z = 0
      · rw [if_pos hz, Eq.comm, decide_eq_false]; omega
      · rw [if_neg hz]; congr 1; simp only [eq_iff_iff]; omega
    · rw [if_neg h1]
      by_cases hz : z = ((a + 2 : Nat) : Int)
      · rw [if_pos hz, Eq.comm, decide_eq_false]; omega
      · rw [if_neg hz]; congr 1; simp only [eq_iff_iff]; omega
  have hI : I64 (lM (a + 1) k).h := by rw [hh]; split <;> exact ⟨by omega, by omega⟩
  have hN : Neat (lM (a + 1) k) := by
    by_cases h1 : a + 1 < k
    · exact neat_h (by rw [lM_in h1]; simp only; omega)
    · rw [lM_out h1]; exact fun _ => rfl
  have := exit_solo (m := ⟨((a + 1 : Nat) : Int), 1, ln (a + 1) k, []⟩) hx (by omega) hy hy0 hn h ⟨⟨by simp, by simp⟩, by simp only [ln_len, List.length_nil]; omega⟩ (by rw [hnx]; exact hI) hS rfl (by rw [a2]; exact hN)
  rw [a1, a2, a3] at this
  exact this
end
end Go.Proofs.Ytlbcbphkgaoliaa
