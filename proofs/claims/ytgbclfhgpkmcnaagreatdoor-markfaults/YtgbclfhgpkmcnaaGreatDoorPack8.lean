/-
  Texts of the proof, several in one: BitsWords, BitsZeros.
-/
import Derived.Test.YtgbclfhgpkmcnaaGreatDoorPack6
import Derived.BigQuiet
/-
  What OnesCount64, Len64, TrailingZeros64, and the program's part, bit, rowsTo and ones tell.
-/
namespace Go.Proofs.YtgbclfhgpkmcnaaGreatDoor.Bt
open Go.RowKit
set_option linter.unusedVariables false

theorem wrap_u64_nat (x : Nat) (h : x < 18446744073709551616) : IntKind.u64.wrap (x : Int) = (x : Int) := by rw [IntKind.wrap_u64]; omega

theorem k1_eq (x : Nat) (hx : x < 18446744073709551616) : IntKind.u64.wrap (bits .and .u64 ((x : Int) / 2) 6148914691236517205 + bits .and .u64 (x : Int) 6148914691236517205) = ((F1 8 x : Nat) : Int) ∧ F1 8 x < 18446744073709551616 := by
  have e : ((x : Int) / 2) = ((x / 2 : Nat) : Int) := by omega
  have c : (6148914691236517205 : Int) = ((6148914691236517205 : Nat) : Int) := rfl
  have m : m1 8 = 6148914691236517205 := by decide
  have h1 : x / 2 &&& 6148914691236517205 ≤ 6148914691236517205 := Nat.and_le_right
  have h2 : x &&& 6148914691236517205 ≤ 6148914691236517205 := Nat.and_le_right
  unfold F1
  rw [m, e, c, bits_and_u64_nat _ _ (by omega) (by omega), bits_and_u64_nat _ _ (by omega) (by omega), IntKind.wrap_u64]
  omega
theorem k2_eq (x : Nat) (hx : x < 18446744073709551616) : IntKind.u64.wrap (bits .and .u64 ((x : Int) / 4) 3689348814741910323 + bits .and .u64 (x : Int) 3689348814741910323) = ((F2 8 x : Nat) : Int) ∧ F2 8 x ≤ 7378697629483820646 := by
  have e : ((x : Int) / 4) = ((x / 4 : Nat) : Int) := by omega
  have c : (3689348814741910323 : Int) = ((3689348814741910323 : Nat) : Int) := rfl
  have m : m2 8 = 3689348814741910323 := by decide
  have h1 : x / 4 &&& 3689348814741910323 ≤ 3689348814741910323 := Nat.and_le_right
  have h2 : x &&& 3689348814741910323 ≤ 3689348814741910323 := Nat.and_le_right
  unfold F2
  rw [m, e, c, bits_and_u64_nat _ _ (by omega) (by omega), bits_and_u64_nat _ _ (by omega) (by omega), IntKind.wrap_u64]
  omega
theorem k3_eq (x : Nat) (hx : x ≤ 7378697629483820646) : bits .and .u64 (IntKind.u64.wrap ((x : Int) / 16 + (x : Int))) 1085102592571150095 = ((F3 8 x : Nat) : Int) := by
  have e : IntKind.u64.wrap ((x : Int) / 16 + (x : Int)) = ((x / 16 + x : Nat) : Int) := by rw [IntKind.wrap_u64]; omega
  have c : (1085102592571150095 : Int) = ((1085102592571150095 : Nat) : Int) := rfl
  have m : m3 8 = 1085102592571150095 := by decide
  unfold F3
  rw [m, e, c, bits_and_u64_nat _ _ (by omega) (by omega)]
theorem k4_eq (p : Nat) (d : Nat) (h : p + p / d < 18446744073709551616) : IntKind.u64.wrap ((p : Int) + (p : Int) / (d : Int)) = ((p + p / d : Nat) : Int) := by
  have e : ((p : Int) / (d : Int)) = ((p / d : Nat) : Int) := by simp
  rw [e, IntKind.wrap_u64]
  generalize p / d = q at *
  omega
theorem low7 (c : Nat) (h : c < 18446744073709551616) : bits .and .i64 (wrap64 (c : Int)) 127 = ((c % 128 : Nat) : Int) := by
  have ew : wrap64 (c : Int) = IntKind.i64.wrap (c : Int) := by unfold wrap64; exact (IntKind.wrap_i64 _).symm
  rw [ew]
  show IntKind.i64.wrap ((BitVec.ofInt 64 (IntKind.i64.wrap (c : Int)) &&& BitVec.ofInt 64 127).toNat : Int) = _
  have e1 : (BitVec.ofInt 64 (IntKind.i64.wrap (c : Int))).toNat = c := by
    rw [BitVec.toNat_ofInt, IntKind.wrap_i64]
    have : ((((c : Int) + 9223372036854775808) % 18446744073709551616 - 9223372036854775808) % ((2 ^ 64 : Nat) : Int)) = (c : Int) := by
      have : ((2 ^ 64 : Nat) : Int) = 18446744073709551616 := by decide
      rw [this]
      omega
    rw [this]
    rfl
  have e2 : (BitVec.ofInt 64 127).toNat = 2 ^ 7 - 1 := by decide
  rw [BitVec.toNat_and, e1, e2, Nat.and_two_pow_sub_one_eq_mod, IntKind.wrap_i64]
  omega

set_option maxHeartbeats 1000000 in
theorem ones64_any (x : Nat) (hx : x < 18446744073709551616) (w : World) :
    Calls Tryz.prog 39 #[.int .u64 x] w fun e w' => e = .returned (.int .i64 (cnt x.testBit 64 : Nat)) ∧ w' = w := by
  obtain ⟨p, hp, _, h1, h2, h3, h4⟩ := ones_sum x hx
  obtain ⟨k1, l1⟩ := k1_eq x hx
  obtain ⟨k2, l2⟩ := k2_eq _ l1
  have k3 := k3_eq _ l2
  rw [hp] at k3
  have k4 := k4_eq p 256 h1
  have k5 := k4_eq _ 65536 h2
  have k6 := k4_eq _ 4294967296 h3
  have k7 := low7 _ h3
  rw [h4] at k7
  clear hp h1 h2 h3 h4 l1 l2 hx
  go_enter Tryz.func39, Tryz.ntmps39
  go_wp2_with fail
  generalize F2 8 (F1 8 x) = z at *
  generalize F1 8 x = y at *
  generalize hc : cnt x.testBit 64 = c at *
  clear hc
  simp only [Int.cast_ofNat_Int] at k4 k5 k6 k7
  simp only [k4, k5, k6, k7]
  go_ret
  exact ⟨rfl, rfl⟩

theorem two_pow_lt64 {k : Nat} (h : k < 64) : 2 ^ k < 18446744073709551616 := Nat.pow_lt_pow_right (a := 2) (n := 64) (by omega) h
theorem bit_any (at_ : Nat) (w : World) (h : at_ < 1000000) :
    Calls Tryz.prog 42 #[.int .i64 (at_ : Int)] w fun e w' => e = .returned (.int .u64 (num (fun j => decide (j = at_ % 64)) 64 : Nat)) ∧ w' = w := by
  have h1 := num_one (at_ % 64) 64 (by omega)
  have h2 : IntKind.u64.wrap (2 ^ (at_ % 64) : Int) = ((2 ^ (at_ % 64) : Nat) : Int) := by
    have h3 := wrap_u64_nat _ (two_pow_lt64 (k := at_ % 64) (by omega))
    simpa using h3
  rw [h1]
  go_enter Tryz.func42, Tryz.ntmps42
  go_wp2_with fail
  rw [h2]
  go_ret
  exact ⟨rfl, rfl⟩

theorem mask (low sh : Nat) (A B : Int) (hA : A = IntKind.u64.wrap (18446744073709551615 * 2 ^ low)) (hB : B = 18446744073709551615 / 2 ^ sh) :
    bits .and .u64 A B = ((num (fun j => decide (low ≤ j) && decide (j + sh < 64)) 64 : Nat) : Int) := by
  obtain ⟨N, hN⟩ : ∃ N : Nat, N = 18446744073709551615 * 2 ^ low := ⟨_, rfl⟩
  have a0 : (18446744073709551615 * 2 ^ low : Int) = (N : Int) := by rw [hN, Int.natCast_mul, Int.natCast_pow]; simp
  have a1 : A = ((N % 18446744073709551616 : Nat) : Int) := by
    rw [hA, IntKind.wrap_u64, a0]
    omega
  obtain ⟨K, hK⟩ : ∃ K : Nat, K = 18446744073709551615 / 2 ^ sh := ⟨_, rfl⟩
  have b1 : B = (K : Int) := by
    rw [hB, hK, Int.natCast_ediv, Int.natCast_pow]
    simp
  have lb : K < 18446744073709551616 := by
    rw [hK]
    exact Nat.lt_of_le_of_lt (Nat.div_le_self _ _) (by omega)
  rw [a1, b1, bits_and_u64_nat _ _ (by omega) lb]
  refine congrArg (fun n : Nat => (n : Int)) (Nat.eq_of_testBit_eq fun j => ?_)
  have q1 := Nat.testBit_two_pow_sub_one 64 (j - low)
  have q2 := Nat.testBit_two_pow_sub_one 64 (sh + j)
  simp only [show (2 ^ 64 - 1 : Nat) = 18446744073709551615 by decide] at q1 q2
  have t1 : (N % 18446744073709551616).testBit j = (decide (j < 64) && (decide (low ≤ j) && decide (j - low < 64))) := by
    rw [hN, show (18446744073709551616 : Nat) = 2 ^ 64 by decide, Nat.testBit_mod_two_pow, Nat.testBit_mul_two_pow, q1]
  have t2 : K.testBit j = decide (sh + j < 64) := by
    rw [hK, ← Nat.shiftRight_eq_div_pow, Nat.testBit_shiftRight, q2]
  rw [num_bit, Nat.testBit_and, t1, t2]
  clear t1 t2 q1 q2 lb a1 b1 hK hN a0 hA hB
  rw [Bool.eq_iff_iff]
  simp only [Bool.and_eq_true, decide_eq_true_eq]
  omega

theorem part_any (i from_ to : Nat) (w : World) (hi : i < 2000) (hf : from_ ≤ 65536) (ht : to ≤ 65536) :
    Calls Tryz.prog 40 #[.int .i64 (i : Int), .int .i64 (from_ : Int), .int .i64 (to : Int)] w fun e w' => e = .returned (.int .u64 (num (fun j => decide (from_ ≤ 64 * i + j) && decide (64 * i + j < to)) 64 : Nat)) ∧ ∃ m, w' = w.drewN m := by
  go_enter Tryz.func40, Tryz.ntmps40
  go_wp2_with (go_quiet (fail))
  all_goals go_ret
  · refine ⟨?_, 0, rfl⟩
    rw [num_zero (fun j hj => by rw [← Bool.not_eq_true]; simp only [Bool.and_eq_true, decide_eq_true_eq]; omega)]
    rfl
  · refine ⟨?_, 0, rfl⟩
    rw [num_zero (fun j hj => by rw [← Bool.not_eq_true]; simp only [Bool.and_eq_true, decide_eq_true_eq]; omega)]
    rfl
  · refine ⟨?_, 0, rfl⟩
    rw [num_zero (fun j hj => by rw [← Bool.not_eq_true]; simp only [Bool.and_eq_true, decide_eq_true_eq]; omega)]
    rfl
  · refine ⟨congrArg (fun z : Int => Ending.returned (.int .u64 z)) ?_, _, rfl⟩
    refine (mask 0 0 _ _ (by first | rfl | decide | simp) (by first | rfl | decide | simp)).trans (congrArg (fun n : Nat => (n : Int)) (num_congr fun j hj => ?_))
    rw [Bool.eq_iff_iff]; simp only [Bool.and_eq_true, decide_eq_true_eq]; omega
  · refine ⟨congrArg (fun z : Int => Ending.returned (.int .u64 z)) ?_, _, rfl⟩
    refine (mask 0 ((64 - (to - i * 64) : Int).toNat) _ _ (by first | rfl | decide | simp) (by first | rfl | decide | simp)).trans (congrArg (fun n : Nat => (n : Int)) (num_congr fun j hj => ?_))
    rw [Bool.eq_iff_iff]; simp only [Bool.and_eq_true, decide_eq_true_eq]; omega
  · refine ⟨congrArg (fun z : Int => Ending.returned (.int .u64 z)) ?_, _, rfl⟩
    refine (mask ((from_ - i * 64 : Int).toNat) 0 _ _ (by first | rfl | decide | simp) (by first | rfl | decide | simp)).trans (congrArg (fun n : Nat => (n : Int)) (num_congr fun j hj => ?_))
    rw [Bool.eq_iff_iff]; simp only [Bool.and_eq_true, decide_eq_true_eq]; omega
  · refine ⟨congrArg (fun z : Int => Ending.returned (.int .u64 z)) ?_, _, rfl⟩
    refine (mask ((from_ - i * 64 : Int).toNat) ((64 - (to - i * 64) : Int).toNat) _ _ (by first | rfl | decide | simp) (by first | rfl | decide | simp)).trans (congrArg (fun n : Nat => (n : Int)) (num_congr fun j hj => ?_))
    rw [Bool.eq_iff_iff]; simp only [Bool.and_eq_true, decide_eq_true_eq]; omega

theorem rows_any (n : Nat) (w : World) (h : n ≤ 65536) :
    Calls Tryz.prog 34 #[.int .i64 (n : Int)] w fun e w' => e = .returned (.int .i64 ((n + 63) / 64 : Nat)) ∧ w' = w := by
  go_enter Tryz.func34, Tryz.ntmps34
  go_wp2_with fail
  go_ret
  refine ⟨congrArg (fun z : Int => Ending.returned (.int .i64 z)) ?_, rfl⟩
  go_num

theorem ones_any (x : Nat) (hx : x < 18446744073709551616) (w : World) :
    Calls Tryz.prog 112 #[.int .u64 x] w fun e w' => e = .returned (.int .u64 (cnt x.testBit 64 : Nat)) ∧ w' = w := by
  have H := hide (fun w => ones64_any x hx w)
  have hl := cnt_le x.testBit 64
  generalize cnt x.testBit 64 = c at *
  go_enter Tryz.func112, Tryz.ntmps112
  go_wp2_with fail
  refine (H.out _).mono ?_
  rintro e w1 ⟨rfl, rfl⟩
  go_wp2_with fail
  go_ret
  exact ⟨rfl, rfl⟩

end Go.Proofs.YtgbclfhgpkmcnaaGreatDoor.Bt

/-
  What TrailingZeros64 tells: the lowest bit; its table lies in block 0 ('Tab').
-/
namespace Go.Proofs.YtgbclfhgpkmcnaaGreatDoor.Bt
open Go.RowKit
set_option linter.unusedVariables false

/-- The library's table, in its variable. -/
def Tab (w : World) : Prop := ∀ j, j < 64 → w.cell? ⟨0, j, none⟩ = some (.int .u8 ((Lib.deBruijn64tab.getD j 0 : Nat) : Int))
theorem Tab.turned {w w' : World} {S : List Nat} (h : Tab w) (ht : Turned S w w') (hs : 0 ∉ S) : Tab w' := by
  intro j hj
  have h1 := h j hj
  rw [ht.cell (block_lt h1) hs]
  exact h1

set_option maxHeartbeats 1000000 in
theorem tz64_core (x k idx : Nat) (w : World) (hx0 : ((x : Int) == 0) = false)
    (key : IntKind.u64.wrap (bits BinOp.and IntKind.u64 (x : Int) (IntKind.u64.wrap (-(x : Int))) * 285870213051353865) / 288230376151711744 = (idx : Int))
    (hi : idx < 64) (hk : k < 64) (hcell : w.cell? ⟨0, idx, none⟩ = some (.int .u8 k)) :
    Calls Tryz.prog 65 #[.int .u64 x] w fun e w' => e = .returned (.int .i64 k) ∧ w' = w := by
  go_enter Tryz.func65, Tryz.ntmps65
  go_wp2_with (simp only [key])
  go_ret
  exact ⟨rfl, rfl⟩
theorem tz64_key (x a : Nat) (hx : x < 18446744073709551616) (hx0 : x ≠ 0) (hlow : x &&& (18446744073709551616 - x) = a) :
    IntKind.u64.wrap (bits BinOp.and IntKind.u64 (x : Int) (IntKind.u64.wrap (-(x : Int))) * 285870213051353865) / 288230376151711744 = ((a * 285870213051353865 % 18446744073709551616 / 288230376151711744 : Nat) : Int) := by
  have e1 : IntKind.u64.wrap (-(x : Int)) = ((18446744073709551616 - x : Nat) : Int) := by rw [IntKind.wrap_u64]; omega
  rw [e1, bits_and_u64_nat x _ hx (by omega), hlow, IntKind.wrap_u64]
  omega
theorem ctz_bit {x : Nat} (h0 : x ≠ 0) (hx : x < 2 ^ 64) : x.testBit (Lib.ctz 64 x) = true ∧ ∀ j, j < Lib.ctz 64 x → x.testBit j = false := by
  obtain ⟨m, hm, hk⟩ := Lib.ctzFrom_spec 64 x (by omega) hx
  have e : Lib.ctz 64 x = Lib.ctzFrom 64 x := by unfold Lib.ctz; rw [if_neg h0]
  rw [e]
  generalize Lib.ctzFrom 64 x = c at *
  rw [Nat.mul_comm] at hm
  constructor
  · rw [hm, Nat.testBit_mul_two_pow]
    simp
  · intro j hj
    rw [hm, Nat.testBit_mul_two_pow]
    have : ¬ c ≤ j := by omega
    simp [this]
theorem tz64_any (x k : Nat) (hx : x < 18446744073709551616) (hk : x.testBit k = true) (hl : ∀ j, j < k → x.testBit j = false) (w : World) (hT : Tab w) :
    Calls Tryz.prog 65 #[.int .u64 (x : Int)] w fun e w' => e = .returned (.int .i64 (k : Int)) ∧ w' = w := by
  have hx0 : x ≠ 0 := by intro h; subst h; simp at hk
  obtain ⟨h1, h2⟩ := ctz_bit hx0 hx
  have hc : Lib.ctz 64 x = k := by
    rcases Nat.lt_trichotomy (Lib.ctz 64 x) k with h | h | h
    · rw [hl _ h] at h1; cases h1
    · exact h
    · rw [h2 _ h] at hk; cases hk
  obtain ⟨hlow, hk6⟩ := Lib.lowest_bit 64 x hx0 hx
  obtain ⟨hi, htab⟩ := Lib.deBruijn64_at _ hk6
  have hcell := hT _ hi
  rw [htab] at hcell
  rw [← hc]
  exact tz64_core x _ _ w (by simp; omega) (tz64_key x _ hx hx0 hlow) hi hk6 hcell
end Go.Proofs.YtgbclfhgpkmcnaaGreatDoor.Bt
