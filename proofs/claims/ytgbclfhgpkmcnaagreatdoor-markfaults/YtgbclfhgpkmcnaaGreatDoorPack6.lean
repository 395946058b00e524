/-
  Texts of the proof, several in one: BitsNum.
-/
import Derived.Test.YtgbclfhgpkmcnaaGreatDoorPack1
import Derived.Laws.Bits64b
import Derived.Lib.TrailingZeros
import Derived.Lib.BitFns
/-
  Numbers of 64 bits as functions from places; counting; what the library's bit counts tell. No Go is walked here.
-/
namespace Go.Proofs.YtgbclfhgpkmcnaaGreatDoor.Bt
open Go.RowKit
set_option linter.unusedVariables false

/-- The number whose bits are f's, below m. -/
def num (f : Nat → Bool) : Nat → Nat
  | 0 => 0
  | m + 1 => 2 ^ m * (f m).toNat + num f m
/-- How many of f's first m are true. -/
def cnt (f : Nat → Bool) : Nat → Nat
  | 0 => 0
  | m + 1 => cnt f m + (f m).toNat

theorem toNat_le1 (b : Bool) : b.toNat ≤ 1 := by cases b <;> decide
theorem num_lt (f : Nat → Bool) (m : Nat) : num f m < 2 ^ m := by
  induction m with
  | zero => simp [num]
  | succ m ih =>
    have h1 := toNat_le1 (f m)
    have h2 : 2 ^ m * (f m).toNat ≤ 2 ^ m * 1 := Nat.mul_le_mul_left _ h1
    rw [num, Nat.pow_succ]
    omega
theorem num_lt64 (f : Nat → Bool) : num f 64 < 18446744073709551616 := num_lt f 64
theorem num_bit (f : Nat → Bool) (m j : Nat) : (num f m).testBit j = (decide (j < m) && f j) := by
  induction m with
  | zero => simp [num]
  | succ m ih =>
    rw [num, Nat.testBit_two_pow_mul_add _ (num_lt f m)]
    by_cases h : j < m
    · have : j < m + 1 := by omega
      simp [h, this, ih]
    · by_cases h2 : j = m
      · subst h2
        simp
        cases f j <;> simp
      · have h3 : ¬ j < m + 1 := by omega
        obtain ⟨d, hd⟩ : ∃ d, j - m = d + 1 := ⟨j - m - 1, by omega⟩
        rw [if_neg h, hd]
        simp [h3]
        cases f m
        · simp
        · rw [Nat.testBit_succ]; simp
theorem num_congr {f g : Nat → Bool} {m : Nat} (h : ∀ j, j < m → f j = g j) : num f m = num g m := by
  induction m with
  | zero => rfl
  | succ m ih => rw [num, num, ih (fun j hj => h j (by omega)), h m (by omega)]
theorem cnt_congr {f g : Nat → Bool} {m : Nat} (h : ∀ j, j < m → f j = g j) : cnt f m = cnt g m := by
  induction m with
  | zero => rfl
  | succ m ih => rw [cnt, cnt, ih (fun j hj => h j (by omega)), h m (by omega)]
theorem eq_num {x m : Nat} (h : x < 2 ^ m) : x = num x.testBit m := by
  apply Nat.eq_of_testBit_eq
  intro i
  rw [num_bit]
  by_cases hi : i < m
  · simp [hi]
  · simp [hi]
    exact Nat.testBit_lt_two_pow (Nat.lt_of_lt_of_le h (Nat.pow_le_pow_right (by omega) (by omega)))
theorem num_and (f g : Nat → Bool) (m : Nat) : num f m &&& num g m = num (fun j => f j && g j) m := by
  apply Nat.eq_of_testBit_eq
  intro i
  rw [Nat.testBit_and, num_bit, num_bit, num_bit]
  cases decide (i < m) <;> simp
theorem num_xor (f g : Nat → Bool) (m : Nat) : num f m ^^^ num g m = num (fun j => f j ^^ g j) m := by
  apply Nat.eq_of_testBit_eq
  intro i
  rw [Nat.testBit_xor, num_bit, num_bit, num_bit]
  cases decide (i < m) <;> simp
theorem num_one (k m : Nat) (h : k < m) : num (fun j => decide (j = k)) m = 2 ^ k := by
  apply Nat.eq_of_testBit_eq
  intro i
  rw [num_bit, Nat.testBit_two_pow]
  by_cases h1 : k = i
  · subst h1; simp [h]
  · simp [h1]; omega
theorem num_zero {f : Nat → Bool} {m : Nat} (h : ∀ j, j < m → f j = false) : num f m = 0 := by
  induction m with
  | zero => rfl
  | succ m ih => rw [num, ih (fun j hj => h j (by omega)), h m (by omega)]; rfl
theorem num_zero_iff {f : Nat → Bool} {m : Nat} : num f m = 0 ↔ ∀ j, j < m → f j = false := by
  constructor
  · intro h j hj
    have h1 := num_bit f m j
    rw [h] at h1
    simp [hj] at h1
    exact h1
  · exact num_zero
theorem cnt_zero {f : Nat → Bool} {m : Nat} (h : ∀ j, j < m → f j = false) : cnt f m = 0 := by
  induction m with
  | zero => rfl
  | succ m ih => rw [cnt, ih (fun j hj => h j (by omega)), h m (by omega)]; rfl
theorem cnt_zero_iff {f : Nat → Bool} {m : Nat} : cnt f m = 0 ↔ ∀ j, j < m → f j = false := by
  constructor
  · intro h
    induction m with
    | zero => intro j hj; omega
    | succ m ih =>
      rw [cnt] at h
      intro j hj
      by_cases hjm : j = m
      · subst hjm
        cases hf : f j
        · rfl
        · rw [hf] at h; simp at h
      · exact ih (by omega) j (by omega)
  · exact cnt_zero
theorem cnt_le (f : Nat → Bool) (m : Nat) : cnt f m ≤ m := by
  induction m with
  | zero => simp [cnt]
  | succ m ih => rw [cnt]; have := toNat_le1 (f m); omega
theorem cnt_add (f : Nat → Bool) (a m : Nat) : cnt f (a + m) = cnt f a + cnt (fun j => f (a + j)) m := by
  induction m with
  | zero => simp [cnt]
  | succ m ih => rw [← Nat.add_assoc, cnt, ih, cnt]; omega
/-- What is false from a on is not counted. -/
theorem cnt_stop {f : Nat → Bool} {a b : Nat} (hab : a ≤ b) (h : ∀ k, a ≤ k → k < b → f k = false) : cnt f b = cnt f a := by
  obtain ⟨d, rfl⟩ := Nat.exists_eq_add_of_le hab
  rw [cnt_add, cnt_zero (f := fun j => f (a + j)) (fun j hj => h (a + j) (by omega) (by omega))]
  omega

/-- OnesCount64, byte by byte. -/
def f1 (b : Nat) : Nat := (b / 2 &&& 85) + (b &&& 85)
def f2 (b : Nat) : Nat := (b / 4 &&& 51) + (b &&& 51)
def f3 (b : Nat) : Nat := (b / 16 + b) % 16
def m1 : Nat → Nat
  | 0 => 0
  | n + 1 => 85 + 256 * m1 n
def m2 : Nat → Nat
  | 0 => 0
  | n + 1 => 51 + 256 * m2 n
def m3 : Nat → Nat
  | 0 => 0
  | n + 1 => 15 + 256 * m3 n
theorem and_cons (a b c d : Nat) (ha : a < 256) (hc : c < 256) : (a + 256 * b) &&& (c + 256 * d) = (a &&& c) + 256 * (b &&& d) := by
  have hac : a &&& c < 2 ^ 8 := Nat.and_lt_two_pow _ (by omega)
  rw [Nat.add_comm a, Nat.add_comm c, Nat.add_comm (a &&& c)]
  apply Nat.eq_of_testBit_eq
  intro i
  rw [Nat.testBit_and, show (256 : Nat) = 2 ^ 8 by rfl, Nat.testBit_two_pow_mul_add _ (by omega), Nat.testBit_two_pow_mul_add _ (by omega), Nat.testBit_two_pow_mul_add _ hac]
  split <;> simp [Nat.testBit_and]
theorem half_low : ∀ (a : Fin 256) (r : Fin 2), ((a.val / 2 + 128 * r.val) &&& 85) = (a.val / 2 &&& 85) := by decide +kernel
theorem quart_low : ∀ (a : Fin 256) (r : Fin 4), ((a.val / 4 + 64 * r.val) &&& 51) = (a.val / 4 &&& 51) := by decide +kernel
theorem f1_lt : ∀ a : Fin 256, f1 a.val < 256 := by decide +kernel
theorem f2_lt : ∀ a : Fin 256, f2 a.val < 256 := by decide +kernel
theorem f21_low : ∀ a : Fin 256, f2 (f1 a.val) % 16 ≤ 4 ∧ f2 (f1 a.val) ≤ 68 := by decide +kernel
theorem f321 : ∀ a : Fin 256, f3 (f2 (f1 a.val)) = cnt a.val.testBit 8 := by decide +kernel
def F1 (n x : Nat) : Nat := (x / 2 &&& m1 n) + (x &&& m1 n)
def F2 (n x : Nat) : Nat := (x / 4 &&& m2 n) + (x &&& m2 n)
def F3 (n x : Nat) : Nat := (x / 16 + x) &&& m3 n
theorem F1_cons (n a b : Nat) (ha : a < 256) : F1 (n + 1) (a + 256 * b) = f1 a + 256 * F1 n b := by
  have e : (a + 256 * b) / 2 = (a / 2 + 128 * (b % 2)) + 256 * (b / 2) := by omega
  unfold F1 f1
  rw [m1, e, and_cons _ _ _ _ (by omega) (by omega), and_cons _ _ _ _ ha (by omega), half_low ⟨a, ha⟩ ⟨b % 2, by omega⟩]
  simp only
  omega
theorem F2_cons (n a b : Nat) (ha : a < 256) : F2 (n + 1) (a + 256 * b) = f2 a + 256 * F2 n b := by
  have e : (a + 256 * b) / 4 = (a / 4 + 64 * (b % 4)) + 256 * (b / 4) := by omega
  unfold F2 f2
  rw [m2, e, and_cons _ _ _ _ (by omega) (by omega), and_cons _ _ _ _ ha (by omega), quart_low ⟨a, ha⟩ ⟨b % 4, by omega⟩]
  simp only
  omega
theorem F3_cons (n a b : Nat) (ha : a ≤ 68) (hb : b % 16 ≤ 4) : F3 (n + 1) (a + 256 * b) = f3 a + 256 * F3 n b := by
  have e : (a + 256 * b) / 16 + (a + 256 * b) = (a / 16 + a + 16 * (b % 16)) + 256 * (b / 16 + b) := by omega
  unfold F3 f3
  rw [m3, e, and_cons _ _ _ _ (by omega) (by omega), show (15 : Nat) = 2 ^ 4 - 1 by rfl, Nat.and_two_pow_sub_one_eq_mod]
  omega
theorem F21_low (n x : Nat) : F2 n (F1 n x) % 16 ≤ 4 := by
  cases n with
  | zero => simp [F2, F1, m1, m2]
  | succ n =>
    have e : x = x % 256 + 256 * (x / 256) := by omega
    have h := f21_low ⟨x % 256, by omega⟩
    have h1 := f1_lt ⟨x % 256, by omega⟩
    simp only at h h1
    rw [e, F1_cons _ _ _ (by omega), F2_cons _ _ _ h1]
    omega
/-- The counts of the bytes, each in its byte. -/
theorem F321_cons (n x : Nat) : F3 (n + 1) (F2 (n + 1) (F1 (n + 1) x)) = cnt (x % 256).testBit 8 + 256 * F3 n (F2 n (F1 n (x / 256))) := by
  have e : x = x % 256 + 256 * (x / 256) := by omega
  have hl : x % 256 < 256 := by omega
  have h1 := f1_lt ⟨x % 256, hl⟩
  have h := f21_low ⟨x % 256, hl⟩
  have h3 := f321 ⟨x % 256, hl⟩
  simp only at h1 h h3
  conv => lhs; rw [e]
  rw [F1_cons _ _ _ hl, F2_cons _ _ _ h1, F3_cons _ _ _ h.2 (F21_low n _), h3]
theorem cnt_byte (x : Nat) : cnt (x % 256).testBit 8 = cnt x.testBit 8 := by
  apply cnt_congr
  intro j hj
  rw [show (256 : Nat) = 2 ^ 8 by rfl, Nat.testBit_mod_two_pow]
  simp [hj]
theorem cnt_bytes (x m : Nat) : cnt x.testBit (8 + m) = cnt (x % 256).testBit 8 + cnt (x / 256).testBit m := by
  rw [cnt_add, cnt_byte]
  congr 1
  apply cnt_congr
  intro j _
  rw [show (256 : Nat) = 2 ^ 8 by rfl, ← Nat.shiftRight_eq_div_pow, Nat.testBit_shiftRight]
theorem ones_sum (x : Nat) (hx : x < 18446744073709551616) :
    ∃ p : Nat, F3 8 (F2 8 (F1 8 x)) = p ∧ p < 18446744073709551616 ∧
      (let a := p + p / 256; let b := a + a / 65536; let c := b + b / 4294967296; a < 18446744073709551616 ∧ b < 18446744073709551616 ∧ c < 18446744073709551616 ∧ c % 128 = cnt x.testBit 64) := by
  have c0 := cnt_bytes x 56
  have c1 := cnt_bytes (x / 256) 48
  have c2 := cnt_bytes (x / 256 / 256) 40
  have c3 := cnt_bytes (x / 256 / 256 / 256) 32
  have c4 := cnt_bytes (x / 256 / 256 / 256 / 256) 24
  have c5 := cnt_bytes (x / 256 / 256 / 256 / 256 / 256) 16
  have c6 := cnt_bytes (x / 256 / 256 / 256 / 256 / 256 / 256) 8
  have c7 := cnt_bytes (x / 256 / 256 / 256 / 256 / 256 / 256 / 256) 0
  refine ⟨_, rfl, ?_⟩
  rw [F321_cons, F321_cons, F321_cons, F321_cons, F321_cons, F321_cons, F321_cons, F321_cons]
  have z : ∀ y, F3 0 y = 0 := fun y => by simp [F3, m3]
  rw [z]
  have l0 := cnt_le (x % 256).testBit 8
  have l1 := cnt_le (x / 256 % 256).testBit 8
  have l2 := cnt_le (x / 256 / 256 % 256).testBit 8
  have l3 := cnt_le (x / 256 / 256 / 256 % 256).testBit 8
  have l4 := cnt_le (x / 256 / 256 / 256 / 256 % 256).testBit 8
  have l5 := cnt_le (x / 256 / 256 / 256 / 256 / 256 % 256).testBit 8
  have l6 := cnt_le (x / 256 / 256 / 256 / 256 / 256 / 256 % 256).testBit 8
  have l7 := cnt_le (x / 256 / 256 / 256 / 256 / 256 / 256 / 256 % 256).testBit 8
  have z0 : cnt (x / 256 / 256 / 256 / 256 / 256 / 256 / 256 / 256).testBit 0 = 0 := rfl
  rw [z0] at c7
  simp only [Nat.reduceAdd] at c0 c1 c2 c3 c4 c5 c6 c7
  rw [c0, c1, c2, c3, c4, c5, c6, c7]
  clear c0 c1 c2 c3 c4 c5 c6 c7 z0 z hx
  generalize cnt (x % 256).testBit 8 = p0 at *
  generalize cnt (x / 256 % 256).testBit 8 = p1 at *
  generalize cnt (x / 256 / 256 % 256).testBit 8 = p2 at *
  generalize cnt (x / 256 / 256 / 256 % 256).testBit 8 = p3 at *
  generalize cnt (x / 256 / 256 / 256 / 256 % 256).testBit 8 = p4 at *
  generalize cnt (x / 256 / 256 / 256 / 256 / 256 % 256).testBit 8 = p5 at *
  generalize cnt (x / 256 / 256 / 256 / 256 / 256 / 256 % 256).testBit 8 = p6 at *
  generalize cnt (x / 256 / 256 / 256 / 256 / 256 / 256 / 256 % 256).testBit 8 = p7 at *
  obtain ⟨q7, h7⟩ : ∃ q, q = p7 + 256 * 0 := ⟨_, rfl⟩
  rw [← h7]
  obtain ⟨q6, h6⟩ : ∃ q, q = p6 + 256 * q7 := ⟨_, rfl⟩
  rw [← h6]
  obtain ⟨q5, h5⟩ : ∃ q, q = p5 + 256 * q6 := ⟨_, rfl⟩
  rw [← h5]
  obtain ⟨q4, h4⟩ : ∃ q, q = p4 + 256 * q5 := ⟨_, rfl⟩
  rw [← h4]
  obtain ⟨q3, h3⟩ : ∃ q, q = p3 + 256 * q4 := ⟨_, rfl⟩
  rw [← h3]
  obtain ⟨q2, h2⟩ : ∃ q, q = p2 + 256 * q3 := ⟨_, rfl⟩
  rw [← h2]
  obtain ⟨q1, h1⟩ : ∃ q, q = p1 + 256 * q2 := ⟨_, rfl⟩
  rw [← h1]
  obtain ⟨a, h0⟩ : ∃ q, q = p0 + 256 * q1 := ⟨_, rfl⟩
  rw [← h0]
  have b7 : q7 ≤ 8 := by omega
  have b6 : q6 ≤ 2056 := by omega
  have b5 : q5 ≤ 526344 := by omega
  have b4 : q4 ≤ 134744072 := by omega
  have b3 : q3 ≤ 34494482440 := by omega
  have b2 : q2 ≤ 8830587504648 := by omega
  have b1 : q1 ≤ 2260630401189896 := by omega
  have b0 : a ≤ 578721382704613384 := by omega
  have e1 : a / 256 = q1 := by clear h1 h2 h3 h4 h5 h6 h7; omega
  have e2 : (a + q1) / 65536 = q2 + q3 := by
    have e : a + q1 = (p0 + p1) + 256 * (p1 + p2) + 65536 * (q2 + q3) := by clear h4 h5 h6 h7 b0 b1 b2 b3 b4 b5 b6 b7 e1; omega
    rw [e]
    clear e h0 h1 h2 h3 h4 h5 h6 h7 b0 b1 b2 b3 b4 b5 b6 b7 e1
    omega
  have e3 : a + q1 + (q2 + q3) = (p0 + p1 + p2 + p3) + 256 * (p1 + p2 + p3 + p4) + 65536 * (q2 + q3 + q4 + q5) := by
    clear h6 h7 b0 b1 b2 b3 b4 b5 b6 b7 e1 e2 l0 l1 l2 l3 l4 l5 l6 l7
    omega
  have e4 : q2 + q3 + q4 + q5 = (p2 + p3 + p4 + p5) + 256 * (p3 + p4 + p5 + p6) + 65536 * (q4 + q5 + q6 + q7) := by
    clear h0 h1 b0 b1 b2 b3 b4 b5 b6 b7 e1 e2 e3 l0 l1 l2 l3 l4 l5 l6 l7
    omega
  have e5 : (a + q1 + (q2 + q3)) / 4294967296 = q4 + q5 + q6 + q7 := by
    rw [e3, e4]
    clear e3 e4 e1 e2 h0 h1 h2 h3 h4 h5 h6 h7 b0 b1 b2 b3 b4 b5 b6 b7
    omega
  have e6 : q4 + q5 + q6 + q7 = (p4 + p5 + p6 + p7) + 256 * (q5 + q6 + q7) := by
    clear h0 h1 h2 h3 b0 b1 b2 b3 b4 b5 b6 b7 e1 e2 e3 e4 e5 l0 l1 l2 l3 l4 l5 l6 l7
    omega
  clear h0 h1 h2 h3 h4 h5 h6 e4
  simp only
  rw [e1, e2, e5]
  refine ⟨by clear e1 e2 e3 e5 e6; omega, by clear e1 e2 e3 e5 e6; omega, by clear e1 e2 e3 e5 e6; omega, by clear e1 e2 e3 e5 e6; omega, ?_⟩
  rw [e3, e6]
  clear e1 e2 e3 e5 e6 b0 b1 b2 b3 b4 b5 b6 b7
  omega
end Go.Proofs.YtgbclfhgpkmcnaaGreatDoor.Bt
