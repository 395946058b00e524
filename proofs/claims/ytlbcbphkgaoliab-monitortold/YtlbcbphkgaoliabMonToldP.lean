/-
  Threads 1 to k, each having entered twice: aside, told, let in.
-/
import Derived.Test.YtlbcbphkgaoliabMonPick
namespace Go.Proofs.Ytlbcbphkgaoliab
open Go.RowKit
set_option linter.unusedVariables false
set_option linter.unusedSimpArgs false
def tl (a k : Nat) : List (Int × Int) := (List.range' (a + 1) (k - a)).map fun (i : Nat) => ((i : Int), 2)
theorem tl_nil (k : Nat) : tl k k = [] := by simp [tl]
theorem tl_cons {a k : Nat} (h : a < k) : tl a k = (((a + 1 : Nat) : Int), 2) :: tl (a + 1) k := by
  unfold tl
  rw [show k - a = (k - (a + 1)) + 1 by omega, List.range'_succ]
  rfl
theorem tl_snoc {a k : Nat} (h : a ≤ k) : tl a (k + 1) = tl a k ++ [(((k + 1 : Nat) : Int), 2)] := by
  unfold tl
  rw [show k + 1 - a = (k - a) + 1 by omega, List.range'_1_concat, List.map_append]
  simp only [List.map_cons, List.map_nil]
  rw [show a + 1 + (k - a) = k + 1 by omega]
theorem tl_len (a k : Nat) : (tl a k).length = k - a := by simp [tl]
theorem tl_app {a b k : Nat} (h : a ≤ b) : ∀ d, b + d = k → tl a b ++ tl b k = tl a k
  | 0, e => by have : b = k := by omega
               subst this; rw [tl_nil, List.append_nil]
  | d + 1, e => by
    have := tl_app h d (k := k - 1) (by omega)
    obtain ⟨k', rfl⟩ : ∃ k', k = k' + 1 := ⟨k - 1, by omega⟩
    rw [tl_snoc (a := b) (by omega), tl_snoc (a := a) (by omega), ← List.append_assoc]
    rw [show k' + 1 - 1 = k' by omega] at this
    rw [this]
/-- So many stand aside. -/
def aM (j : Nat) : Mon := ⟨0, 0, [], tl 0 j⟩
def aS (j : Nat) : Int → Bool := fun x => decide (1 ≤ x ∧ x ≤ (j : Int))
/-- So many are told. -/
def nM (m k : Nat) : Mon := ⟨99, 1, tl 0 m, tl m k⟩
/-- So many are out. -/
def oM (a k : Nat) : Mon := if a < k then ⟨((a + 1 : Nat) : Int), 2, tl (a + 1) k, []⟩ else Mon.zero
def oS (a k : Nat) : Int → Bool := fun x => decide ((a : Int) + 2 ≤ x ∧ x ≤ k)
theorem oM_in {a k : Nat} (h : a < k) : oM a k = ⟨((a + 1 : Nat) : Int), 2, tl (a + 1) k, []⟩ := if_pos h
theorem oM_out {a k : Nat} (h : ¬ a < k) : oM a k = Mon.zero := if_neg h
theorem next_tl {a k : Nat} (h : a ≤ k) (x t : Int) : nextM ⟨x, t, tl a k, []⟩ = oM a k := by
  by_cases h1 : a < k
  · rw [tl_cons h1, oM_in h1]; rfl
  · have : a = k := by omega
    subst this
    rw [tl_nil, oM_out h1]; rfl
theorem aM_zero : aM 0 = Mon.zero := rfl
theorem neat_a (j : Nat) : Neat (aM j) := by
  intro h
  cases j with
  | zero => rfl
  | succ j =>
    unfold Mon.gone aM at h
    rw [tl_cons (by omega)] at h
    simp at h
theorem tell_one {m k : Nat} (h : m < k) : tellM (nM m k) 1 = nM (m + 1) k := by
  unfold tellM nM
  simp only [Mon.mk.injEq, true_and]
  rw [tl_cons h]
  refine ⟨?_, rfl⟩
  rw [tl_snoc (a := 0) (by omega)]
  rfl
theorem tell_all {m k : Nat} (h : m ≤ k) : tellM (nM m k) (k - m) = ⟨99, 1, tl 0 k, []⟩ := by
  unfold tellM nM
  simp only [Mon.mk.injEq, true_and]
  refine ⟨?_, ?_⟩
  · rw [List.take_of_length_le (by rw [tl_len]; exact Nat.le_refl _)]
    exact tl_app (by omega) (k - m) (by omega)
  · rw [List.drop_of_length_le (by rw [tl_len]; exact Nat.le_refl _)]
section
variable {B : Nat} {w : World} {p n j a k m : Nat} {y : Int}
theorem a_wait (hj : j ≤ 40) (hy : I64 y) (hy0 : y ≠ 0) (hn : n ≤ 900000) (h : Solo B w p n y ⟨((j + 1 : Nat) : Int), 2, [], tl 0 j⟩ (aS j)) :
    Calls Try.prog 8 #[.pointer (some ⟨p, 0, none⟩), .int .i64 ((j + 1 : Nat) : Int), .int .i64 y] w fun e w' => e = .returned (.tuple #[.int .i64 0, .int .i64 0]) ∧ Solo B w' p (n + 3) y (aM (j + 1)) (aS (j + 1)) ∧ Bel B w w' := by
  have hx : I64 ((j + 1 : Nat) : Int) := ⟨by omega, by omega⟩
  have hS : aS j ((j + 1 : Nat) : Int) = false := by unfold aS; rw [decide_eq_false]; omega
  have e1 : waitM ⟨((j + 1 : Nat) : Int), 2, [], tl 0 j⟩ = aM (j + 1) := by
    unfold waitM asideM aM nextM
    simp only [Mon.mk.injEq, true_and]
    rw [tl_snoc (by omega)]
  have e2 : waitS ((j + 1 : Nat) : Int) ⟨((j + 1 : Nat) : Int), 2, [], tl 0 j⟩ (aS j) = aS (j + 1) := by
    unfold waitS
    rw [e1]
    funext z
    unfold subS addS aS aM
    by_cases hz : z = 0
    · rw [if_pos hz, Eq.comm, decide_eq_false]; omega
    · rw [if_neg hz]
      by_cases hz1 : z = ((j + 1 : Nat) : Int)
      · rw [if_pos hz1, Eq.comm, decide_eq_true_eq]; omega
      · rw [if_neg hz1]; congr 1; simp only [eq_iff_iff]; omega
  have := wait_solo (m := ⟨((j + 1 : Nat) : Int), 2, [], tl 0 j⟩) hx (by omega) hy hy0 hn h ⟨⟨by simp, by simp⟩, by simp only [tl_len, List.length_nil]; omega⟩ (by rw [e1]; exact ⟨by simp [aM], by simp [aM]⟩) hS rfl (by rw [e1]; exact neat_a _)
  rw [e1, e2] at this
  exact this
theorem a_enter1 (hj : j ≤ 40) (hy : I64 y) (hy0 : y ≠ 0) (hn : n ≤ 900000) (h : Solo B w p n y (aM j) (aS j)) :
    Calls Try.prog 7 #[.pointer (some ⟨p, 0, none⟩), .int .i64 ((j + 1 : Nat) : Int), .int .i64 y] w fun e w' => e = .returned (.tuple #[.bool true, .int .i64 0]) ∧ Solo B w' p (n + 2) y ⟨((j + 1 : Nat) : Int), 1, [], tl 0 j⟩ (aS j) ∧ Bel B w w' :=
  enter_solo (m := aM j) ⟨by omega, by omega⟩ (by omega) hy hy0 hn h ⟨⟨by simp [aM], by simp [aM]⟩, by simp only [aM, tl_len, List.length_nil]; omega⟩ (decide_eq_false (by omega))
theorem a_enter2 (hj : j ≤ 40) (hy : I64 y) (hy0 : y ≠ 0) (hn : n ≤ 900000) (h : Solo B w p n y ⟨((j + 1 : Nat) : Int), 1, [], tl 0 j⟩ (aS j)) :
    Calls Try.prog 7 #[.pointer (some ⟨p, 0, none⟩), .int .i64 ((j + 1 : Nat) : Int), .int .i64 y] w fun e w' => e = .returned (.tuple #[.bool true, .int .i64 0]) ∧ Solo B w' p (n + 2) y ⟨((j + 1 : Nat) : Int), 2, [], tl 0 j⟩ (aS j) ∧ Bel B w w' := by
  have := enter_solo (m := ⟨((j + 1 : Nat) : Int), 1, [], tl 0 j⟩) (x := ((j + 1 : Nat) : Int)) ⟨by omega, by omega⟩ (by omega) hy hy0 hn h ⟨⟨by simp, by simp⟩, by simp only [tl_len, List.length_nil]; omega⟩ (by unfold aS; rw [decide_eq_false]; omega)
  have e1 : (decide (((j + 1 : Nat) : Int) = 0) || decide (((j + 1 : Nat) : Int) = ((j + 1 : Nat) : Int))) = true := by simp
  have e2 : enterM ⟨((j + 1 : Nat) : Int), 1, [], tl 0 j⟩ ((j + 1 : Nat) : Int) = ⟨((j + 1 : Nat) : Int), 2, [], tl 0 j⟩ := by
    unfold enterM
    rw [if_neg (by simp only; omega), if_pos rfl]
    rfl
  rw [e2] at this
  simp only [e1] at this
  exact this
theorem a_ninety (hk : k ≤ 40) (hy : I64 y) (hy0 : y ≠ 0) (hn : n ≤ 900000) (h : Solo B w p n y (aM k) (aS k)) :
    Calls Try.prog 7 #[.pointer (some ⟨p, 0, none⟩), .int .i64 99, .int .i64 y] w fun e w' => e = .returned (.tuple #[.bool true, .int .i64 0]) ∧ Solo B w' p (n + 2) y (nM 0 k) (aS k) ∧ Bel B w w' := by
  have := enter_solo (m := aM k) (x := 99) ⟨by decide, by decide⟩ (by decide) hy hy0 hn h ⟨⟨by simp [aM], by simp [aM]⟩, by simp only [aM, tl_len, List.length_nil]; omega⟩ (by unfold aS; rw [decide_eq_false]; omega)
  have e2 : enterM (aM k) 99 = nM 0 k := by unfold nM; rw [tl_nil]; rfl
  rw [e2] at this
  exact this
theorem n_one (hk : k ≤ 40) (hm : m < k) (hy : I64 y) (hy0 : y ≠ 0) (hn : n ≤ 900000) (h : Solo B w p n y (nM m k) (aS k)) :
    Calls Try.prog 9 #[.pointer (some ⟨p, 0, none⟩), .int .i64 99, .int .i64 y, .bool false] w fun e w' => e = .returned (.tuple #[.int .i64 1, .int .i64 0]) ∧ Solo B w' p (n + 3) y (nM (m + 1) k) (aS k) ∧ Bel B w w' := by
  have e1 : notN false (nM m k) = 1 := by unfold notN nM; simp only [tl_len]; rw [if_neg (by decide)]; omega
  have := notify_solo (m := nM m k) (x := 99) false ⟨by decide, by decide⟩ (by decide) hy hy0 hn h ⟨⟨by simp [nM], by simp [nM]⟩, by simp only [nM, tl_len]; omega⟩ (by unfold aS; rw [decide_eq_false]; omega) rfl
  rw [e1, tell_one hm] at this
  exact this
theorem n_all (hk : k ≤ 40) (hm : m ≤ k) (hy : I64 y) (hy0 : y ≠ 0) (hn : n ≤ 900000) (h : Solo B w p n y (nM m k) (aS k)) :
    Calls Try.prog 9 #[.pointer (some ⟨p, 0, none⟩), .int .i64 99, .int .i64 y, .bool true] w fun e w' => e = .returned (.tuple #[.int .i64 ((k - m : Nat) : Int), .int .i64 0]) ∧ Solo B w' p (n + 3) y ⟨99, 1, tl 0 k, []⟩ (aS k) ∧ Bel B w w' := by
  have e1 : notN true (nM m k) = k - m := by unfold notN nM; simp [tl_len]
  have := notify_solo (m := nM m k) (x := 99) true ⟨by decide, by decide⟩ (by decide) hy hy0 hn h ⟨⟨by simp [nM], by simp [nM]⟩, by simp only [nM, tl_len]; omega⟩ (by unfold aS; rw [decide_eq_false]; omega) rfl
  rw [e1, tell_all hm] at this
  exact this
theorem neat_o (a k : Nat) : Neat (oM a k) := by
  by_cases h1 : a < k
  · exact neat_h (by rw [oM_in h1]; simp only; omega)
  · rw [oM_out h1]; exact fun _ => rfl
theorem oM_h (a k : Nat) : (oM a k).h = if a < k then ((a + 1 : Nat) : Int) else 0 := by
  by_cases h1 : a < k
  · rw [oM_in h1, if_pos h1]
  · rw [oM_out h1, if_neg h1]; rfl
theorem o_first (hk : k ≤ 40) (hk0 : 0 < k) (hy : I64 y) (hy0 : y ≠ 0) (hn : n ≤ 900000) (h : Solo B w p n y ⟨99, 1, tl 0 k, []⟩ (aS k)) :
    Calls Try.prog 11 #[.pointer (some ⟨p, 0, none⟩), .int .i64 99, .int .i64 y] w fun e w' => e = .returned (.tuple #[.int .i64 1, .int .i64 0]) ∧ Solo B w' p (n + 3) y (oM 0 k) (oS 0 k) ∧ Bel B w w' := by
  have hnx := next_tl (a := 0) (k := k) (by omega) 99 1
  have hlt : ¬ (0 : Int) < 1 - 1 := by decide
  have hh : (oM 0 k).h = 1 := by rw [oM_h, if_pos hk0]; rfl
  have a1 : exitR ⟨99, 1, tl 0 k, []⟩ = 1 := by unfold exitR; rw [if_neg hlt, hnx, hh]
  have a2 : exitM ⟨99, 1, tl 0 k, []⟩ = oM 0 k := by unfold exitM; rw [if_neg hlt, hnx]
  have a3 : exitS ⟨99, 1, tl 0 k, []⟩ (aS k) = oS 0 k := by
    unfold exitS
    rw [if_neg hlt, hnx, hh]
    funext z
    unfold subS aS oS
    by_cases hz : z = 1
    · rw [if_pos hz, Eq.comm, decide_eq_false]; omega
    · rw [if_neg hz]; congr 1; simp only [eq_iff_iff]; omega
  have := exit_solo (m := ⟨99, 1, tl 0 k, []⟩) (x := 99) ⟨by decide, by decide⟩ (by decide) hy hy0 hn h ⟨⟨by simp, by simp⟩, by simp only [tl_len, List.length_nil]; omega⟩ (by rw [hnx, hh]; exact i1) (decide_eq_false (by omega)) rfl (by rw [a2]; exact neat_o _ _)
  rw [a1, a2, a3] at this
  exact this
theorem o_exit1 (ha : a < k) (hk : k ≤ 40) (hy : I64 y) (hy0 : y ≠ 0) (hn : n ≤ 900000) (h : Solo B w p n y (oM a k) (oS a k)) :
    Calls Try.prog 11 #[.pointer (some ⟨p, 0, none⟩), .int .i64 ((a + 1 : Nat) : Int), .int .i64 y] w fun e w' => e = .returned (.tuple #[.int .i64 0, .int .i64 0]) ∧ Solo B w' p (n + 3) y ⟨((a + 1 : Nat) : Int), 1, tl (a + 1) k, []⟩ (oS a k) ∧ Bel B w w' := by
  rw [oM_in ha] at h
  have hnx := next_tl (a := a + 1) (k := k) (by omega) ((a + 1 : Nat) : Int) 2
  have hI : I64 (oM (a + 1) k).h := by rw [oM_h]; split <;> exact ⟨by omega, by omega⟩
  have := exit_solo (m := ⟨((a + 1 : Nat) : Int), 2, tl (a + 1) k, []⟩) (x := ((a + 1 : Nat) : Int)) ⟨by omega, by omega⟩ (by omega) hy hy0 hn h ⟨⟨by simp, by simp⟩, by simp only [tl_len, List.length_nil]; omega⟩ (by rw [hnx]; exact hI) (decide_eq_false (by omega)) rfl (neat_h (by show ((a + 1 : Nat) : Int) ≠ 0; omega))
  exact this
theorem o_exit2 (ha : a < k) (hk : k ≤ 40) (hy : I64 y) (hy0 : y ≠ 0) (hn : n ≤ 900000) (h : Solo B w p n y ⟨((a + 1 : Nat) : Int), 1, tl (a + 1) k, []⟩ (oS a k)) :
    Calls Try.prog 11 #[.pointer (some ⟨p, 0, none⟩), .int .i64 ((a + 1 : Nat) : Int), .int .i64 y] w fun e w' => e = .returned (.tuple #[.int .i64 (if a + 1 < k then ((a + 1 + 1 : Nat) : Int) else 0), .int .i64 0]) ∧ Solo B w' p (n + 3) y (oM (a + 1) k) (oS (a + 1) k) ∧ Bel B w w' := by
  have hnx := next_tl (a := a + 1) (k := k) (by omega) ((a + 1 : Nat) : Int) 1
  have hlt : ¬ (0 : Int) < 1 - 1 := by decide
  have hh := oM_h (a + 1) k
  have a1 : exitR ⟨((a + 1 : Nat) : Int), 1, tl (a + 1) k, []⟩ = if a + 1 < k then ((a + 1 + 1 : Nat) : Int) else 0 := by unfold exitR; rw [if_neg hlt, hnx, hh]
  have a2 : exitM ⟨((a + 1 : Nat) : Int), 1, tl (a + 1) k, []⟩ = oM (a + 1) k := by unfold exitM; rw [if_neg hlt, hnx]
  have a3 : exitS ⟨((a + 1 : Nat) : Int), 1, tl (a + 1) k, []⟩ (oS a k) = oS (a + 1) k := by
    unfold exitS
    rw [if_neg hlt, hnx, hh]
    funext z
    unfold subS oS
    by_cases h1 : a + 1 < k
    · rw [if_pos h1]
      by_cases hz : z = ((a + 1 + 1 : Nat) : Int)
      · rw [if_pos hz, Eq.comm, decide_eq_false]; omega
      · rw [if_neg hz]; congr 1; simp only [eq_iff_iff]; omega
    · rw [if_neg h1]
      by_cases hz : z = 0
      · rw [if_pos hz, Eq.comm, decide_eq_false]; omega
      · rw [if_neg hz]; congr 1; simp only [eq_iff_iff]; omega
  have hI : I64 (oM (a + 1) k).h := by rw [hh]; split <;> exact ⟨by omega, by omega⟩
  have := exit_solo (m := ⟨((a + 1 : Nat) : Int), 1, tl (a + 1) k, []⟩) (x := ((a + 1 : Nat) : Int)) ⟨by omega, by omega⟩ (by omega) hy hy0 hn h ⟨⟨by simp, by simp⟩, by simp only [tl_len, List.length_nil]; omega⟩ (by rw [hnx]; exact hI) (decide_eq_false (by omega)) rfl (by rw [a2]; exact neat_o _ _)
  rw [a1, a2, a3] at this
  exact this
end
end Go.Proofs.Ytlbcbphkgaoliab
