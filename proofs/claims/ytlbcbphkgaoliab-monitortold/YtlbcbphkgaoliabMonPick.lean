/-
  'pick' of the laws.
-/
import Derived.Test.YtlbcbphkgaoliabMonAwake
import Derived.Test.YtlbcbphkgaoliabLawKit
namespace Go.Proofs.Ytlbcbphkgaoliab
open Go.RowKit
set_option linter.unusedVariables false
theorem lpick_any (c : Int) (n : Nat) (w : World) (hc : (Lit.int .i64 c).wf = true) (hn : 0 < n ∧ n ≤ 1000000) :
    Calls Try.prog 6 #[.int .i64 c, .int .i64 n] w fun e w' => (∃ r : Nat, e = .returned (.int .i64 r) ∧ r < n) ∧ w' = w := by
  have hr := wf_range hc
  have hz : ¬ ((n : Int) = 0) := by omega
  have hm1 : ¬ ((n : Int) = -1) := by omega
  have key : ∀ x : Int, 0 ≤ x → ∃ r : Nat, (.int .i64 (x.tmod n) : Value) = .int .i64 (r : Int) ∧ r < n := by
    intro x hx
    refine ⟨(x.tmod n).toNat, ?_, ?_⟩
    · have := Int.tmod_nonneg (n : Int) hx
      rw [Int.toNat_of_nonneg this]
    · have h1 := Int.tmod_nonneg (n : Int) hx
      have h2 := Int.tmod_lt_of_pos x (b := (n : Int)) (by omega)
      omega
  have KEY := hide key
  clear key hc
  by_cases hneg : c < 0
  · go_enter Try.func6, Try.ntmps6
    go_wp2_with fail
    go_ret
    obtain ⟨r, h1, h2⟩ := KEY.out (-(c + 1)) (by omega)
    refine ⟨⟨r, ?_, h2⟩, rfl⟩
    rw [← h1, Int.neg_tmod]
    rfl
  · go_enter Try.func6, Try.ntmps6
    go_wp2_with fail
    go_ret
    obtain ⟨r, h1, h2⟩ := KEY.out c (by omega)
    refine ⟨⟨r, ?_, h2⟩, rfl⟩
    rw [← h1, Int.tmod_eq_emod_of_nonneg (by omega)]
    rfl

/-- Who has entered so many times. -/
def tM (j : Nat) : Mon := if j = 0 then Mon.zero else ⟨1, (j : Int), [], []⟩
/-- So, while another one waits; in the end that one holds. -/
def tQ (j : Nat) : Mon := if j = 0 then ⟨2, 1, [], []⟩ else ⟨1, (j : Int), [(2, 1)], []⟩
def tS (j : Nat) : Int → Bool := if j = 0 then subS (addS (fun _ => false) 2) 2 else addS (fun _ => false) 2
section
variable {B : Nat} {w : World} {p n j : Nat} {y : Int}
theorem i1 : I64 1 := ⟨by decide, by decide⟩
theorem i2 : I64 2 := ⟨by decide, by decide⟩
theorem t_enter (hj : j ≤ 50) (hy : I64 y) (hy0 : y ≠ 0) (hn : n ≤ 900000) (h : Solo B w p n y (tM j) (fun _ => false)) :
    Calls Try.prog 7 #[.pointer (some ⟨p, 0, none⟩), .int .i64 1, .int .i64 y] w fun e w' => e = .returned (.tuple #[.bool true, .int .i64 0]) ∧ Solo B w' p (n + 2) y (tM (j + 1)) (fun _ => false) ∧ Bel B w w' := by
  have e1 : (decide ((tM j).h = 0) || decide ((tM j).h = 1)) = true := by
    unfold tM
    by_cases h0 : j = 0
    · rw [if_pos h0]; rfl
    · rw [if_neg h0]; rfl
  have e2 : enterM (tM j) 1 = tM (j + 1) := by
    unfold tM
    by_cases h0 : j = 0
    · subst h0; rfl
    · rw [if_neg h0, if_neg (by omega)]
      unfold enterM
      simp
  have hf : Fine (tM j) := by
    unfold tM
    by_cases h0 : j = 0
    · rw [if_pos h0]; exact ⟨⟨by decide, by decide⟩, by decide⟩
    · rw [if_neg h0]; exact ⟨⟨by simp only; omega, by simp only; omega⟩, by simp⟩
  have := enter_solo i1 (by decide) hy hy0 hn h hf rfl
  rw [e1, e2] at this
  exact this
theorem t_other (hj : j ≤ 50) (hj0 : j ≠ 0) (hy : I64 y) (hy0 : y ≠ 0) (hn : n ≤ 900000) (h : Solo B w p n y (tM j) (fun _ => false)) :
    Calls Try.prog 7 #[.pointer (some ⟨p, 0, none⟩), .int .i64 2, .int .i64 y] w fun e w' => e = .returned (.tuple #[.bool false, .int .i64 0]) ∧ Solo B w' p (n + 2) y (tQ j) (tS j) ∧ Bel B w w' := by
  have e0 : tM j = ⟨1, (j : Int), [], []⟩ := by unfold tM; rw [if_neg hj0]
  have e3 : tQ j = ⟨1, (j : Int), [(2, 1)], []⟩ := by unfold tQ; rw [if_neg hj0]
  have e4 : tS j = addS (fun _ => false) 2 := by unfold tS; rw [if_neg hj0]
  rw [e0] at h
  rw [e3, e4]
  exact enter_solo i2 (by decide) hy hy0 hn h ⟨⟨by simp only; omega, by simp only; omega⟩, by simp⟩ rfl
theorem t_exit (hj : j + 1 ≤ 50) (hy : I64 y) (hy0 : y ≠ 0) (hn : n ≤ 900000) (h : Solo B w p n y (tQ (j + 1)) (tS (j + 1))) :
    Calls Try.prog 11 #[.pointer (some ⟨p, 0, none⟩), .int .i64 1, .int .i64 y] w fun e w' => e = .returned (.tuple #[.int .i64 (if j = 0 then 2 else 0), .int .i64 0]) ∧ Solo B w' p (n + 3) y (tQ j) (tS j) ∧ Bel B w w' := by
  have e3 : tQ (j + 1) = ⟨1, ((j + 1 : Nat) : Int), [(2, 1)], []⟩ := by unfold tQ; rw [if_neg (by omega)]
  have e4 : tS (j + 1) = addS (fun _ => false) 2 := by unfold tS; rw [if_neg (by omega)]
  rw [e3, e4] at h
  by_cases h0 : j = 0
  · subst h0
    exact exit_solo i1 (by decide) hy hy0 hn h ⟨⟨by decide, by decide⟩, by decide⟩ i2 rfl rfl (neat_h (by decide))
  · have hlt : (0 : Int) < ((j + 1 : Nat) : Int) - 1 := by omega
    have a1 : exitR ⟨1, ((j + 1 : Nat) : Int), [(2, 1)], []⟩ = 0 := by unfold exitR; rw [if_pos hlt]
    have a2 : exitM ⟨1, ((j + 1 : Nat) : Int), [(2, 1)], []⟩ = tQ j := by
      unfold exitM tQ
      rw [if_pos hlt, if_neg h0]
      simp only [Mon.mk.injEq, and_true, true_and]
      omega
    have a3 : exitS ⟨1, ((j + 1 : Nat) : Int), [(2, 1)], []⟩ (addS (fun _ => false) 2) = tS j := by unfold exitS tS; rw [if_pos hlt, if_neg h0]
    have := exit_solo (m := ⟨1, ((j + 1 : Nat) : Int), [(2, 1)], []⟩) i1 (by decide) hy hy0 hn h ⟨⟨by simp only; omega, by simp only; omega⟩, by simp⟩ i2 rfl rfl (by rw [a2]; exact neat_h (by unfold tQ; rw [if_neg h0]; simp))
    rw [a1, a2, a3] at this
    rw [if_neg h0]
    exact this
end
end Go.Proofs.Ytlbcbphkgaoliab
