/-
  Sums of sizes and counts of live words. No Go is walked here.
-/
import Derived.Test.YtcckflcjjgckoaaDoorBitsAwake
namespace Go.Proofs.YtcckflcjjgckoaaDoor.Bt
open Go.RowKit
set_option linter.unusedVariables false

/-- The sizes together, below m. -/
def tot (S : Nat → Nat) : Nat → Nat
  | 0 => 0
  | m + 1 => tot S m + S m
theorem tot_live_aux {n : Nat} {S : Nat → Nat} (h : Bl n S) (m : Nat) : ∃ r, tot S m = cnt (live S) m + r ∧ ((r = 0 ∧ opn S m = false) ∨ ∃ a, a < m ∧ m < a + S a ∧ r = a + S a - m) := by
  induction m with
  | zero => exact ⟨0, rfl, .inl ⟨rfl, opn_zero S⟩⟩
  | succ m ih =>
    obtain ⟨r, h1, h2⟩ := ih
    have hl := live_eq h m
    rw [tot, cnt, h1]
    by_cases hs : 0 < S m
    · have hb : begs S m = true := by unfold begs; simpa using hs
      have hr : r = 0 := by
        rcases h2 with ⟨h3, _⟩ | ⟨a, h3, h4, _⟩
        · exact h3
        · have := h.apart a m h3 (by omega) hs
          omega
      have hlv : live S m = true := by unfold live; rw [bo_true]; exact ⟨m, by unfold Cov; omega⟩
      refine ⟨S m - 1, by rw [hlv]; simp; omega, ?_⟩
      by_cases h1s : S m = 1
      · refine .inl ⟨by omega, ?_⟩
        unfold opn; rw [bo_false]; rintro ⟨a, h3, h4⟩
        have := h.one (a := a) (b := m) (k := m) ⟨by omega, by omega⟩ ⟨by omega, by omega⟩
        subst this; omega
      · exact .inr ⟨m, by omega, by omega, by omega⟩
    · have hs0 : S m = 0 := by omega
      rcases h2 with ⟨h3, h4⟩ | ⟨a, h3, h4, h5⟩
      · have hb : begs S m = false := by unfold begs; simpa using hs
        have hlv : (live S m).toNat = 0 := by rw [hl, hb, h4]; rfl
        refine ⟨0, by omega, .inl ⟨rfl, ?_⟩⟩
        have h6 := opn_succ h m
        cases ho : opn S (m + 1)
        · rfl
        · rw [ho] at h6
          have h7 : (true).toNat = 1 := rfl
          omega
      · have hlv : live S m = true := by unfold live; rw [bo_true]; exact ⟨a, by unfold Cov; omega⟩
        refine ⟨r - 1, by rw [hlv]; simp; omega, ?_⟩
        by_cases h6 : m + 1 < a + S a
        · exact .inr ⟨a, by omega, h6, by omega⟩
        · refine .inl ⟨by omega, ?_⟩
          unfold opn; rw [bo_false]; rintro ⟨b, h7, h8⟩
          have hbm : b ≠ m := by intro e; subst e; omega
          have := h.one (a := a) (b := b) (k := m) ⟨by omega, by omega⟩ ⟨by omega, by omega⟩
          subst this; omega
theorem tot_live {n : Nat} {S : Nat → Nat} (h : Bl n S) : tot S n = cnt (live S) n := by
  obtain ⟨r, h1, h2⟩ := tot_live_aux h n
  rcases h2 with ⟨h3, _⟩ | ⟨a, h3, h4, _⟩
  · omega
  · have := h.into a (by omega)
    omega
theorem tot_none (m : Nat) : tot S0 m = 0 := by
  induction m with
  | zero => rfl
  | succ m ih => rw [tot, ih]; rfl
theorem tot_congr {S T : Nat → Nat} {m : Nat} (h : ∀ k, k < m → S k = T k) : tot S m = tot T m := by
  induction m with
  | zero => rfl
  | succ m ih => rw [tot, tot, ih (fun k hk => h k (by omega)), h m (by omega)]
theorem tot_upd (S : Nat → Nat) (a z n : Nat) (ha : a < n) : tot (upd S a z) n + S a = tot S n + z := by
  induction n with
  | zero => omega
  | succ n ih =>
    rw [tot, tot]
    by_cases h : a = n
    · subst h
      rw [upd_at, tot_congr (S := upd S a z) (T := S) (fun k hk => upd_ne S (by omega))]
      omega
    · rw [upd_ne S (fun e => h e.symm)]
      have := ih (by omega)
      omega
theorem tot_skip {S : Nat → Nat} {a b : Nat} (hab : a ≤ b) (h : ∀ k, a ≤ k → k < b → begs S k = false) : tot S b = tot S a := by
  obtain ⟨d, rfl⟩ := Nat.exists_eq_add_of_le hab
  induction d with
  | zero => rfl
  | succ d ih =>
    rw [← Nat.add_assoc, tot, ih (by omega) (fun k h1 h2 => h k h1 (by omega))]
    have h1 := h (a + d) (by omega) (by omega)
    unfold begs at h1
    simp at h1
    omega
theorem cntIn_add (f : Nat → Bool) {x y : Nat} (h : x ≤ y) : cnt f x + cntIn f x y = cnt f y := by
  unfold cntIn
  obtain ⟨d, rfl⟩ := Nat.exists_eq_add_of_le h
  rw [cnt_add, cnt_add f x d]
  have h1 : cnt (inn f x (x + d)) x = 0 := cnt_zero fun j hj => by
    unfold inn
    have : ¬ x ≤ j := by omega
    simp [this]
  have h2 : cnt (fun j => inn f x (x + d) (x + j)) d = cnt (fun j => f (x + j)) d := cnt_congr fun j hj => by
    unfold inn
    have : x + j < x + d := by omega
    simp [this]
  omega
theorem cntIn_zero (f : Nat → Bool) (y : Nat) : cntIn f 0 y = cnt f y := by
  have := cntIn_add f (Nat.zero_le y)
  rw [show cnt f 0 = 0 from rfl] at this
  omega
/-- What Mark tells, in short. -/
theorem mark_sum {n : Nat} {S : Nat → Nat} (x z : Int) : ((markT n S x z).1 = true ∧ 0 ≤ x ∧ x < n ∧ 1 ≤ z ∧ z ≤ n - x ∧ S x.toNat = 0 ∧ Free S x.toNat z.toNat ∧ (markT n S x z).2.1 = 0 ∧ (markT n S x z).2.2 = upd S x.toNat z.toNat) ∨ ((markT n S x z).1 = false ∧ (markT n S x z).2.2 = S) := by
  unfold markT
  split
  · exact .inr ⟨rfl, rfl⟩
  · split
    · exact .inr ⟨rfl, rfl⟩
    · split
      · exact .inr ⟨rfl, rfl⟩
      · split
        · rename_i h1 h2 h3 h4
          exact .inl ⟨rfl, by omega, by omega, by omega, by omega, by omega, h4, rfl, rfl⟩
        · exact .inr ⟨rfl, rfl⟩
theorem wrap_few (n : Nat) (h : n < 9223372036854775808) : IntKind.i64.wrap (n : Int) = (n : Int) := by
  rw [IntKind.wrap_i64]
  omega
theorem ofInt_nat64 (n : Int) : (BitVec.ofInt 64 n).toNat = (n % 18446744073709551616).toNat := by
  simp [BitVec.toNat_ofInt]
theorem and1023 (n : Int) : bits .and .i64 n 1023 = n % 1024 := by
  show IntKind.i64.wrap ((BitVec.ofInt 64 n &&& BitVec.ofInt 64 1023).toNat : Int) = _
  have e1 : (BitVec.ofInt 64 1023).toNat = 2 ^ 10 - 1 := by decide
  rw [BitVec.toNat_and, ofInt_nat64, e1, Nat.and_two_pow_sub_one_eq_mod, wrap_few _ (by omega)]
  omega
end Go.Proofs.YtcckflcjjgckoaaDoor.Bt
