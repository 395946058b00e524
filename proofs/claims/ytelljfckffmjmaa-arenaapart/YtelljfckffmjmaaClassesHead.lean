/-
  What low, Header and Parts tell; the document's own Header and Parts tell the same.
-/
import Derived.Test.YtelljfckffmjmaaClassesBase
namespace Go.Proofs.Ytelljfckffmjmaa
open Go.RowKit
set_option linter.unusedVariables false

theorem wrap_few (n : Nat) (h : n < 9223372036854775808) : IntKind.i64.wrap (n : Int) = (n : Int) := by
  rw [IntKind.wrap_i64]
  omega
theorem ofInt_nat64 (n : Int) : (BitVec.ofInt 64 n).toNat = (n % 18446744073709551616).toNat := by
  simp [BitVec.toNat_ofInt]
theorem and_low (n : Int) (j : Nat) (hj : j ≤ 62) : bits .and .i64 n ((2 ^ j - 1 : Nat) : Int) = n % ((2 ^ j : Nat) : Int) := by
  show IntKind.i64.wrap ((BitVec.ofInt 64 n &&& BitVec.ofInt 64 ((2 ^ j - 1 : Nat) : Int)).toNat : Int) = _
  have h1 : 2 ^ j ≤ 2 ^ 62 := Nat.pow_le_pow_right (by omega) hj
  have h2 : 0 < 2 ^ j := Nat.two_pow_pos j
  have h3 : 2 ^ 62 = 4611686018427387904 := by decide
  have e1 : (((2 ^ j - 1 : Nat) : Int) % 18446744073709551616).toNat = 2 ^ j - 1 := by omega
  rw [BitVec.toNat_and, ofInt_nat64, ofInt_nat64, e1, Nat.and_two_pow_sub_one_eq_mod]
  have h4 : (n % 18446744073709551616).toNat % 2 ^ j < 2 ^ j := Nat.mod_lt _ h2
  rw [wrap_few _ (by omega)]
  have h5 : ((n % 18446744073709551616).toNat : Int) = n % 18446744073709551616 := Int.toNat_of_nonneg (Int.emod_nonneg _ (by omega))
  rw [Int.natCast_emod, h5]
  apply Int.emod_emod_of_dvd
  have h6 : (18446744073709551616 : Int) = ((2 ^ 64 : Nat) : Int) := by decide
  rw [h6]
  exact Int.natCast_dvd_natCast.2 (Nat.pow_dvd_pow 2 (by omega))
theorem and24 (n : Int) : bits .and .i64 n 16777215 = n % 16777216 := and_low n 24 (by omega)
theorem and32 (n : Int) : bits .and .i64 n 4294967295 = n % 4294967296 := and_low n 32 (by omega)
theorem or_apart (a b i : Nat) (hb : b < 2 ^ i) (hs : 2 ^ i * a + b < 9223372036854775808) : bits .or .i64 ((2 ^ i * a : Nat) : Int) (b : Int) = ((2 ^ i * a + b : Nat) : Int) := by
  show IntKind.i64.wrap ((BitVec.ofInt 64 ((2 ^ i * a : Nat) : Int) ||| BitVec.ofInt 64 (b : Int)).toNat : Int) = _
  have e1 : (((2 ^ i * a : Nat) : Int) % 18446744073709551616).toNat = 2 ^ i * a := by omega
  have e2 : ((b : Int) % 18446744073709551616).toNat = b := by omega
  rw [BitVec.toNat_or, ofInt_nat64, ofInt_nat64, e1, e2, ← Nat.two_pow_add_eq_or_of_lt hb]
  exact wrap_few _ hs
theorem or_mark (a : Int) (h : 0 ≤ a ∧ a < 16777216) : bits .or .i64 4611686018427387904 (a * 4294967296) = 4611686018427387904 + a * 4294967296 := by
  obtain ⟨n, rfl⟩ := Int.eq_ofNat_of_zero_le h.1
  have h1 := or_apart 1 (n * 4294967296) 62 (by omega) (by omega)
  have e1 : ((2 ^ 62 * 1 : Nat) : Int) = 4611686018427387904 := by decide
  have e2 : ((n * 4294967296 : Nat) : Int) = (n : Int) * 4294967296 := by omega
  rw [e1, e2] at h1
  rw [h1]
  omega
theorem or_length (a b : Int) (h : 0 ≤ a ∧ a < 16777216) (hb : 0 ≤ b ∧ b < 4294967296) : bits .or .i64 (4611686018427387904 + a * 4294967296) b = 4611686018427387904 + a * 4294967296 + b := by
  obtain ⟨n, rfl⟩ := Int.eq_ofNat_of_zero_le h.1
  obtain ⟨m, rfl⟩ := Int.eq_ofNat_of_zero_le hb.1
  have h1 := or_apart (1073741824 + n) m 32 (by omega) (by omega)
  have e1 : ((2 ^ 32 * (1073741824 + n) : Nat) : Int) = 4611686018427387904 + (n : Int) * 4294967296 := by omega
  rw [e1] at h1
  rw [h1]
  omega

theorem low24 (n : Int) (w : World) :
    Calls Try.prog 62 #[.int .i64 n, .int .i64 24] w fun e w' => e = .returned (.int .i64 (n % 16777216)) ∧ w' = w := by
  go_enter Try.func62, Try.ntmps62
  go_wp2_with fail
  go_ret
  refine ⟨?_, rfl⟩
  show Ending.returned (.int .i64 (bits .and .i64 n 16777215)) = _
  rw [and24]
theorem low32 (n : Int) (w : World) :
    Calls Try.prog 62 #[.int .i64 n, .int .i64 32] w fun e w' => e = .returned (.int .i64 (n % 4294967296)) ∧ w' = w := by
  go_enter Try.func62, Try.ntmps62
  go_wp2_with fail
  go_ret
  refine ⟨?_, rfl⟩
  show Ending.returned (.int .i64 (bits .and .i64 n 4294967295)) = _
  rw [and32]

def headOf (k n : Int) : Int := 4611686018427387904 + k % 16777216 * 4294967296 + n % 4294967296
theorem headOf_range (k n : Int) : 4611686018427387904 ≤ headOf k n ∧ headOf k n < 4683743612465315840 := by
  unfold headOf; omega

theorem header_any (k n : Int) (w : World) :
    Calls Try.prog 54 #[.int .i64 k, .int .i64 n] w fun e w' => e = .returned (.int .i64 (headOf k n)) ∧ w' = w := by
  have HK := hide (fun w => low24 k w)
  have HN := hide (fun w => low32 n w)
  have hk1 : 0 ≤ k % 16777216 ∧ k % 16777216 < 16777216 := by omega
  have hn1 : 0 ≤ n % 4294967296 ∧ n % 4294967296 < 4294967296 := by omega
  unfold headOf
  generalize k % 16777216 = a at *
  generalize n % 4294967296 = b at *
  go_enter Try.func54, Try.ntmps54
  go_wp2_with fail
  refine (HK.out _).mono ?_
  rintro e w1 ⟨rfl, rfl⟩
  go_wp2_with fail
  refine (HN.out _).mono ?_
  rintro e w1 ⟨rfl, rfl⟩
  go_wp2_with fail
  go_ret
  refine ⟨?_, rfl⟩
  show Ending.returned (.int .i64 (bits .or .i64 (bits .or .i64 4611686018427387904 (a * 4294967296)) b)) = _
  rw [or_mark a hk1, or_length a b hk1 hn1]

/-- What Parts tells. -/
def partC (h : Int) : Int := h / 4294967296 % 16777216
def partL (h : Int) : Int := h % 4294967296
def isHead (h : Int) : Bool := decide (headOf (partC h) (partL h) = h)

theorem rheader_any (k n : Int) (w : World) :
    Calls Try.prog 26 #[.int .i64 k, .int .i64 n] w fun e w' => e = .returned (.int .i64 (headOf k n)) ∧ w' = w := by
  have HK := hide (and24 k)
  have HN := hide (and32 n)
  have hk1 : 0 ≤ k % 16777216 ∧ k % 16777216 < 16777216 := by omega
  have hn1 : 0 ≤ n % 4294967296 ∧ n % 4294967296 < 4294967296 := by omega
  have hk2 := hk1
  have hn2 := hn1
  rw [← and24] at hk2
  rw [← and32] at hn2
  unfold headOf
  rw [← and24, ← and32]
  clear hk1 hn1
  go_enter Try.func26, Try.ntmps26
  go_wp2_with fail
  go_ret
  exact ⟨rfl, rfl⟩

theorem rparts_yes (h : Int) (w : World) (hh : isHead h = true) :
    Calls Try.prog 48 #[.int .i64 h] w fun e w' => e = .returned (.tuple #[.int .i64 (partC h), .int .i64 (partL h), .bool true]) ∧ w' = w := by
  have H3 := hide (fun w => rheader_any (partC h) (partL h) w)
  have h4 : headOf (partC h) (partL h) = h := by simpa [isHead] using hh
  rw [h4] at H3
  unfold partC partL at *
  rw [← and24, ← and32] at *
  clear hh h4
  go_enter Try.func48, Try.ntmps48
  go_wp2_with fail
  refine (H3.out _).mono ?_
  rintro e w1 ⟨rfl, rfl⟩
  go_wp2_with fail
  go_ret3
  exact ⟨rfl, rfl⟩
theorem rparts_no (h : Int) (w : World) (hh : isHead h = false) :
    Calls Try.prog 48 #[.int .i64 h] w fun e w' => e = .returned (.tuple #[.int .i64 0, .int .i64 0, .bool false]) ∧ w' = w := by
  have H3 := hide (fun w => rheader_any (partC h) (partL h) w)
  have h4 : ¬ headOf (partC h) (partL h) = h := by simpa [isHead] using hh
  generalize hc : headOf (partC h) (partL h) = c at *
  clear hc
  unfold partC partL at *
  rw [← and24, ← and32] at *
  clear hh
  go_enter Try.func48, Try.ntmps48
  go_wp2_with fail
  refine (H3.out _).mono ?_
  rintro e w1 ⟨rfl, rfl⟩
  go_wp2_with fail
  go_ret3
  exact ⟨rfl, rfl⟩
end Go.Proofs.Ytelljfckffmjmaa
