/-
  Texts of the proof, several in one: BitsObj, BitsFirst, BitsCount, BitsBl, BitsOver, BitsLive.
-/
import Derived.Test.YtgbclfhgpkmcnaaGreatDoorPack8
import Derived.Test.YtgbclfhgpkmcnaaGreatDoorPack3
import Derived.Deep.QuietTactic
import Derived.BigQuiet
/-
  A Bits object in memory ('Brd': as it can be read, nil or not; 'Bts': as it is turned), and what Words, inside and keep tell.
-/
namespace Go.Proofs.YtgbclfhgpkmcnaaGreatDoor.Bt
open Go.RowKit
set_option linter.unusedVariables false

theorem cell_drewN (w : World) (m : Nat) (a : Addr) : (w.drewN m).cell? a = w.cell? a := rfl

/-- A row's number: of a side's words from 64 i on. -/
def rowN (f : Nat → Bool) (i : Nat) : Nat := num (fun j => f (64 * i + j)) 64
theorem rowN_lt (f : Nat → Bool) (i : Nat) : rowN f i < 18446744073709551616 := num_lt64 _

/-- A Bits object that can be read: nil, or a struct; F 0: where blocks begin, F 1: where they end. -/
structure Brd (w : World) (ov : Option Addr) (n : Nat) (F : Nat → Nat → Bool) : Prop where
  few : n ≤ 65536
  tab : Tab w
  head : ∀ a, ov = some a → ∃ p, a = ⟨p, 0, none⟩ ∧ w.cell? ⟨p, 0, none⟩ = some (.int .i64 (n : Int))
  some_ : 0 < n → ∃ p q R, ov = some ⟨p, 0, none⟩ ∧ w.cell? ⟨p, 0, none⟩ = some (.int .i64 (n : Int)) ∧ w.cell? ⟨p, 1, none⟩ = some (.slice (some ⟨q, 0, none⟩) R R) ∧ (R : Nat) = (n + 63) / 64 ∧ ∀ i s, i < R → s < 2 → w.cell? ⟨q, i * 2 + s, none⟩ = some (.int .u64 ((rowN (F s) i : Nat) : Int))
  nil : ov = none → n = 0

theorem Brd.turned {w w' : World} {ov : Option Addr} {n : Nat} {F : Nat → Nat → Bool} (h : Brd w ov n F) (t : Turned [] w w') : Brd w' ov n F := by
  have k : ∀ a x, w.cell? a = some x → w'.cell? a = some x := fun a x hx => by rw [t.cell (block_lt hx) (by simp)]; exact hx
  refine ⟨h.few, h.tab.turned t (by simp), fun a ha => ?_, fun hn => ?_, h.nil⟩
  · obtain ⟨p, h1, h2⟩ := h.head a ha
    exact ⟨p, h1, k _ _ h2⟩
  · obtain ⟨p, q, R, h1, h2, h3, h4, h5⟩ := h.some_ hn
    exact ⟨p, q, R, h1, k _ _ h2, k _ _ h3, h4, fun i s hi hs => k _ _ (h5 i s hi hs)⟩
theorem Brd.drewN {w : World} {ov : Option Addr} {n : Nat} {F : Nat → Nat → Bool} (h : Brd w ov n F) (m : Nat) : Brd (w.drewN m) ov n F :=
  h.turned ((Turned.refl _ _).drewN m)

theorem words_any (ov : Option Addr) (n : Nat) (F : Nat → Nat → Bool) (w : World) (h : Brd w ov n F) :
    Calls Tryz.prog 50 #[.pointer ov] w fun e w' => e = .returned (.int .i64 (n : Int)) ∧ w' = w := by
  cases ov with
  | none =>
    have h0 := h.nil rfl
    subst h0
    go_enter Tryz.func50, Tryz.ntmps50
    go_wp2_with fail
    go_ret
    exact ⟨rfl, rfl⟩
  | some a =>
    obtain ⟨p, rfl, c0⟩ := h.head a rfl
    clear h
    go_enter Tryz.func50, Tryz.ntmps50
    go_wp2_with fail
    go_ret
    exact ⟨rfl, rfl⟩

theorem inside_any (ov : Option Addr) (n : Nat) (F : Nat → Nat → Bool) (x : Int) (w : World) (h : Brd w ov n F) :
    Calls Tryz.prog 41 #[.pointer ov, .int .i64 x] w fun e w' => e = .returned (.bool (decide (0 ≤ x) && decide (x < n))) ∧ w' = w := by
  have H := hide (words_any ov n F w h)
  clear h
  by_cases h0 : 0 ≤ x
  · go_enter Tryz.func41, Tryz.ntmps41
    go_wp2_with fail
    refine H.out.mono ?_
    rintro e w1 ⟨rfl, rfl⟩
    go_wp2_with fail
    go_ret
    exact ⟨by simp [h0], rfl⟩
  · have hd : decide (0 ≤ x) = false := decide_eq_false h0
    go_enter Tryz.func41, Tryz.ntmps41
    go_wp2_with fail
    go_ret
    exact ⟨by simp, rfl⟩

/-- A range's end, kept. -/
def kp (n : Nat) (x : Int) : Nat := min x.toNat n
theorem kp_le (n : Nat) (x : Int) : kp n x ≤ n := Nat.min_le_right _ _
theorem kp_eq (n : Nat) (x : Int) (h : 0 ≤ x ∧ x ≤ n) : (kp n x : Int) = x := by unfold kp; omega

theorem keep_any (ov : Option Addr) (n : Nat) (F : Nat → Nat → Bool) (x y : Int) (w : World) (h : Brd w ov n F) :
    Calls Tryz.prog 38 #[.pointer ov, .int .i64 x, .int .i64 y] w fun e w' => e = .returned (.tuple #[.int .i64 (kp n x : Int), .int .i64 (kp n y : Int)]) ∧ w' = w := by
  have H := hide (words_any ov n F w h)
  have ex : (kp n x : Int) = min (max x 0) (n : Int) := by unfold kp; omega
  have ey : (kp n y : Int) = min (max y 0) (n : Int) := by unfold kp; omega
  rw [ex, ey]
  clear h ex ey
  go_enter Tryz.func38, Tryz.ntmps38
  go_wp2_with fail
  refine H.out.mono ?_
  rintro e w1 ⟨rfl, rfl⟩
  go_wp2_with fail
  go_ret2
  exact ⟨rfl, rfl⟩

theorem has_any (ov : Option Addr) (n : Nat) (F : Nat → Nat → Bool) (x : Int) (w : World) (h : Brd w ov n F) :
    Calls Tryz.prog 20 #[.pointer ov, .int .i64 x] w fun e w' => e = .returned (.bool (decide (0 ≤ x) && decide (x < n) && F 0 x.toNat)) ∧ ∃ m, w' = w.drewN m := by
  have H := hide (fun m => inside_any ov n F x (w.drewN m) (h.drewN m))
  by_cases h0 : 0 ≤ x ∧ x < n
  · obtain ⟨p, q, R, rfl, c0, c1, hR, hc⟩ := h.some_ (by omega)
    obtain ⟨k, rfl⟩ := Int.eq_ofNat_of_zero_le h0.1
    have hk : k < n := by omega
    have hn := h.few
    have HB := hide (fun m => bit_any k (w.drewN m) (by omega))
    have e1 : (decide (0 ≤ (k : Int)) && decide ((k : Int) < n)) = true := by simp; omega
    rw [e1] at H
    have c2 := hc (k / 64) 0 (by omega) (by omega)
    have ei : ((k : Int) / 64) = ((k / 64 : Nat) : Int) := by omega
    have l1 := rowN_lt (F 0) (k / 64)
    have l2 := num_lt64 (fun j => decide (j = k % 64))
    have key : bits .and .u64 ((rowN (F 0) (k / 64) : Nat) : Int) ((num (fun j => decide (j = k % 64)) 64 : Nat) : Int) = (((if F 0 k then 2 ^ (k % 64) else 0) : Nat) : Int) := by
      rw [bits_and_u64_nat _ _ l1 l2]
      refine congrArg (fun n : Nat => (n : Int)) ?_
      unfold rowN
      rw [num_and]
      by_cases hf : F 0 k = true
      · rw [if_pos hf, ← num_one (k % 64) 64 (by omega)]
        refine num_congr fun j hj => ?_
        by_cases hj2 : j = k % 64
        · subst hj2
          rw [show 64 * (k / 64) + k % 64 = k by omega, hf]
          simp
        · simp [hj2]
      · rw [if_neg hf]
        refine num_zero fun j hj => ?_
        by_cases hj2 : j = k % 64
        · subst hj2
          rw [show 64 * (k / 64) + k % 64 = k by omega]
          simp [hf]
        · simp [hj2]
    have hne : ((((if F 0 k then 2 ^ (k % 64) else 0 : Nat)) : Int) != 0) = F 0 k := by
      have := Nat.two_pow_pos (k % 64)
      cases F 0 k
      · rfl
      · simp only [if_true]
        generalize 2 ^ (k % 64) = y at *
        simp only [bne_iff_ne]
        omega
    rw [e1, Bool.true_and, Int.toNat_natCast, ← hne]
    have hi1 : k / 64 < R := by omega
    clear h hc e1 hR l1 l2 hne
    generalize rowN (F 0) (k / 64) = A at *
    generalize num (fun j => decide (j = k % 64)) 64 = B at *
    generalize (if F 0 k then 2 ^ (k % 64) else 0 : Nat) = C at *
    rw [Nat.add_zero] at c2
    generalize k / 64 = i at *
    have wi : IntKind.i64.wrap (i : Int) = (i : Int) := by rw [IntKind.wrap_i64]; omega
    go_enter Tryz.func20, Tryz.ntmps20
    go_wp2_with fail
    go_quiet (first | (go_at_call 41; exact Calls.quiet_of_same (H.out _)) | (go_at_call 42; exact Calls.quiet_of_same (HB.out _)))
    go_wp2_with fail
    go_ret
    exact ⟨rfl, _, rfl⟩
  · have e1 : (decide (0 ≤ x) && decide (x < n)) = false := by
      rw [← Bool.not_eq_true]; simp only [Bool.and_eq_true, decide_eq_true_eq]; exact h0
    rw [e1] at H
    rw [e1, Bool.false_and]
    clear h h0
    go_enter Tryz.func20, Tryz.ntmps20
    go_wp2_with fail
    go_quiet ((go_at_call 41; exact Calls.quiet_of_same (H.out _)))
    go_wp2_with fail
    go_ret
    exact ⟨rfl, _, rfl⟩
end Go.Proofs.YtgbclfhgpkmcnaaGreatDoor.Bt

/-
  What first, lastBegin and Next tell: the nearest word of a side.
-/
namespace Go.Proofs.YtgbclfhgpkmcnaaGreatDoor.Bt
open Go.RowKit
set_option linter.unusedVariables false

/-- r is the first k of a range with f k; -1: there is none. -/
def IsNext (f : Nat → Bool) (x y : Nat) (r : Int) : Prop :=
  (r = -1 ∧ ∀ k, x ≤ k → k < y → f k = false) ∨ ∃ k : Nat, r = k ∧ x ≤ k ∧ k < y ∧ f k = true ∧ ∀ j, x ≤ j → j < k → f j = false
/-- r is the last k to x with f k; -1: there is none. -/
def IsLast (f : Nat → Bool) (x : Nat) (r : Int) : Prop :=
  (r = -1 ∧ ∀ k, k ≤ x → f k = false) ∨ ∃ k : Nat, r = k ∧ k ≤ x ∧ f k = true ∧ ∀ j, k < j → j ≤ x → f j = false

/-- The lowest true bit, if there is one. -/
theorem low_bit (f : Nat → Bool) (m : Nat) : (∀ j, j < m → f j = false) ∨ ∃ k, k < m ∧ f k = true ∧ ∀ j, j < k → f j = false := by
  induction m with
  | zero => exact .inl fun j hj => by omega
  | succ m ih =>
    rcases ih with h | ⟨k, h1, h2⟩
    · cases hf : f m
      · refine .inl fun j hj => ?_
        by_cases hjm : j = m
        · subst hjm; exact hf
        · exact h j (by omega)
      · exact .inr ⟨m, by omega, hf, h⟩
    · exact .inr ⟨k, by omega, h2⟩
theorem high_bit (f : Nat → Bool) (m : Nat) : (∀ j, j < m → f j = false) ∨ ∃ k, k < m ∧ f k = true ∧ ∀ j, k < j → j < m → f j = false := by
  induction m with
  | zero => exact .inl fun j hj => by omega
  | succ m ih =>
    cases hf : f m
    · rcases ih with h | ⟨k, h1, h2, h3⟩
      · refine .inl fun j hj => ?_
        by_cases hjm : j = m
        · subst hjm; exact hf
        · exact h j (by omega)
      · refine .inr ⟨k, by omega, h2, fun j hj hjm => ?_⟩
        by_cases hjm2 : j = m
        · subst hjm2; exact hf
        · exact h3 j hj (by omega)
    · exact .inr ⟨m, by omega, hf, fun j hj hjm => by omega⟩

/-- A row, where it lies in a range. -/
def rowIn (f : Nat → Bool) (x y i : Nat) : Nat → Bool := fun j => f (64 * i + j) && (decide (x ≤ 64 * i + j) && decide (64 * i + j < y))
theorem row_and (f : Nat → Bool) (x y i : Nat) : bits .and .u64 ((rowN f i : Nat) : Int) ((num (fun j => decide (x ≤ 64 * i + j) && decide (64 * i + j < y)) 64 : Nat) : Int) = ((num (rowIn f x y i) 64 : Nat) : Int) := by
  rw [bits_and_u64_nat _ _ (rowN_lt f i) (num_lt64 _)]
  unfold rowN rowIn
  rw [num_and]

theorem first_any (ov : Option Addr) (n : Nat) (F : Nat → Nat → Bool) (s x y : Nat) (w : World) (h : Brd w ov n F) (hs : s < 2) (hx : x ≤ n) (hy : y ≤ n) :
    Calls Tryz.prog 48 #[.pointer ov, .int .i64 (s : Int), .int .i64 (x : Int), .int .i64 (y : Int)] w fun e w' => ∃ r : Int, e = .returned (.int .i64 r) ∧ IsNext (F s) x y r ∧ ∃ m, w' = w.drewN m := by
  have hn := h.few
  have hs2 : (s : Int) < 2 := by omega
  have HR := hide (fun w => rows_any y w (by omega))
  have HB := hide h
  obtain ⟨x0, ex⟩ : ∃ x0 : Nat, x0 = x / 64 := ⟨_, rfl⟩
  have exi : ((x : Int) / 64) = (x0 : Int) := by omega
  obtain ⟨y0, ey⟩ : ∃ y0 : Nat, y0 = (y + 63) / 64 := ⟨_, rfl⟩
  rw [← ey] at HR
  have HX := hide ex
  have HY := hide ey
  have hx0 : x0 ≤ 1024 := by omega
  have hy0 : y0 ≤ 1024 := by omega
  clear ex ey h
  go_enter Tryz.func48, Tryz.ntmps48
  go_wp2_with fail
  go_loopw [9] (fun i wr => ∃ (k m : Nat), x0 ≤ k ∧ k ≤ 1024 ∧ i = .int .i64 k ∧ Hid (∀ j, x ≤ j → j < 64 * k → j < y → F s j = false) ∧ Hid (wr = w.drewN m)) (fun i _ => y0 - (intOf i).toNat)
  case atStart => exact ⟨x0, 0, by omega, by omega, by go_num, fun j h1 h2 h3 => by have := HX.out; omega, rfl⟩
  case round =>
    obtain ⟨k, m, hk, hk1, rfl, HF, HW⟩ := hrel
    have HBr : Hid (Brd wr ov n F) := by rw [HW.out]; exact HB.out.drewN m
    go_wp2_with fail
    refine (HR.out _).mono ?_
    rintro e w1 ⟨rfl, rfl⟩
    by_cases hlt : k < y0
    · obtain ⟨p, q, R, rfl, c0, c1, hR, hc⟩ := HBr.out.some_ (by have := HY.out; omega)
      have hkR : k < R := by have := HY.out; omega
      have c2 := hc k s hkR hs
      have HP := hide (fun w => part_any k x y w (by omega) (by omega) (by omega))
      have key := row_and (F s) x y k
      have hl := num_lt64 (rowIn (F s) x y k)
      obtain ⟨A, eA⟩ : ∃ A, A = num (rowIn (F s) x y k) 64 := ⟨_, rfl⟩
      rw [← eA] at key hl
      have HA := hide eA
      clear eA hc c0 hR
      generalize rowN (F s) k = X at *
      generalize num (fun j => decide (x ≤ 64 * k + j) && decide (64 * k + j < y)) 64 = Y at *
      go_wp2_with fail
      go_quiet ((go_at_call 40; exact Calls.quiet_of (HP.out _)))
      rcases low_bit (rowIn (F s) x y k) 64 with hz | ⟨j, hj, hj1, hj2⟩
      · have h0 : A = 0 := by rw [HA.out]; exact num_zero hz
        subst h0
        have HF2 : Hid (∀ j, x ≤ j → j < 64 * (k + 1) → j < y → F s j = false) := by
          intro j h1 h2 h3
          by_cases hj : j < 64 * k
          · exact HF.out j h1 hj h3
          · have h4 := hz (j - 64 * k) (by omega)
            unfold rowIn at h4
            rw [show 64 * k + (j - 64 * k) = j by omega] at h4
            simpa [h1, h3] using h4
        clear hz HF
        go_wp2_with fail
        go_roundw
        case rel => exact ⟨k + 1, m + nq, by omega, by omega, by go_num, HF2, hide (by rw [HW.out, World.drewN_drewN])⟩
        case measure => simp [intOf]; omega
      · have ht1 : A.testBit j = true := by rw [HA.out, num_bit]; simp [hj, hj1]
        have ht2 : ∀ i, i < j → A.testBit i = false := fun i hi => by rw [HA.out, num_bit, hj2 i hi]; simp
        have hA0 : ¬ ((A : Int) = 0) := by intro h0; have h1 : A = 0 := by omega
                                           subst h1; simp at ht1
        have HT := hide (fun m => tz64_any A j hl ht1 ht2 (w1.drewN m) (HBr.out.tab.turned ((Turned.refl [] w1).drewN m) (by simp)))
        have HJ : Hid (IsNext (F s) x y ((k * 64 : Nat) + (j : Int))) := by
          unfold rowIn at hj1 hj2
          simp only [Bool.and_eq_true, decide_eq_true_eq] at hj1
          refine .inr ⟨64 * k + j, by omega, by omega, by omega, hj1.1, fun i h1 h2 => ?_⟩
          by_cases hi : i < 64 * k
          · exact HF.out i h1 hi (by omega)
          · have h4 := hj2 (i - 64 * k) (by omega)
            rw [show 64 * k + (i - 64 * k) = i by omega] at h4
            have h5 : i < y := by omega
            simpa [h1, h5] using h4
        clear ht1 ht2 hj1 hj2 HF
        go_wp2_with fail
        refine (HT.out _).mono ?_
        rintro e w1 ⟨rfl, rfl⟩
        go_wp2_with fail
        go_ret
        exact ⟨_, rfl, by simpa using HJ.out, m + nq, by rw [HW.out, World.drewN_drewN]⟩
    · go_wp2_with fail
      go_ret
      refine ⟨_, rfl, .inl ⟨rfl, fun j h1 h2 => HF.out j h1 (by have := HY.out; omega) h2⟩, m, HW.out⟩

theorem lastBegin_any (ov : Option Addr) (n : Nat) (F : Nat → Nat → Bool) (x : Nat) (w : World) (h : Brd w ov n F) (hx : x < n) :
    Calls Tryz.prog 138 #[.pointer ov, .int .i64 (x : Int)] w fun e w' => ∃ r : Int, e = .returned (.int .i64 r) ∧ IsLast (F 0) x r ∧ ∃ m, w' = w.drewN m := by
  have hn := h.few
  have HB := hide h
  obtain ⟨x0, ex⟩ : ∃ x0 : Nat, x0 = x / 64 := ⟨_, rfl⟩
  have exi : ((x : Int) / 64) = (x0 : Int) := by omega
  have HX := hide ex
  have hx0 : x0 ≤ 1024 := by omega
  clear ex h
  go_enter Tryz.func138, Tryz.ntmps138
  go_wp2_with fail
  go_loopw [5] (fun i wr => ∃ (c : Int) (m : Nat), -1 ≤ c ∧ c ≤ x0 ∧ i = .int .i64 c ∧ Hid (∀ j : Nat, 64 * (c + 1) ≤ j → j ≤ x → F 0 j = false) ∧ Hid (wr = w.drewN m)) (fun i _ => (intOf i + 1).toNat)
  case atStart => exact ⟨x0, 0, by omega, by omega, by go_num, fun j h1 h2 => by have := HX.out; omega, rfl⟩
  case round =>
    obtain ⟨c, m, hc0, hc1, rfl, HF, HW⟩ := hrel
    have HBr : Hid (Brd wr ov n F) := by rw [HW.out]; exact HB.out.drewN m
    by_cases hlt : 0 ≤ c
    · obtain ⟨k, rfl⟩ := Int.eq_ofNat_of_zero_le hlt
      have hk : k ≤ x0 := by omega
      obtain ⟨p, q, R, rfl, c0, c1, hR, hc⟩ := HBr.out.some_ (by omega)
      have hkR : k < R := by have := HX.out; omega
      have c2 := hc k 0 hkR (by omega)
      rw [Nat.add_zero] at c2
      have HP := hide (fun w => part_any k 0 (x + 1) w (by omega) (by omega) (by omega))
      have key := row_and (F 0) 0 (x + 1) k
      have hl := num_lt64 (rowIn (F 0) 0 (x + 1) k)
      obtain ⟨A, eA⟩ : ∃ A, A = num (rowIn (F 0) 0 (x + 1) k) 64 := ⟨_, rfl⟩
      rw [← eA] at key hl
      have HA := hide eA
      clear eA hc c0 hR
      generalize rowN (F 0) k = X at *
      generalize num (fun j => decide (0 ≤ 64 * k + j) && decide (64 * k + j < x + 1)) 64 = Y at *
      have ex1 : (((x + 1 : Nat)) : Int) = (x : Int) + 1 := by omega
      rw [ex1] at HP
      have e0 : (((0 : Nat)) : Int) = (0 : Int) := rfl
      rw [e0] at HP
      clear ex1 e0
      go_wp2_with fail
      go_quiet ((go_at_call 40; exact Calls.quiet_of (HP.out _)))
      rcases high_bit (rowIn (F 0) 0 (x + 1) k) 64 with hz | ⟨j, hj, hj1, hj2⟩
      · have h0 : A = 0 := by rw [HA.out]; exact num_zero hz
        subst h0
        have HF2 : Hid (∀ j : Nat, 64 * ((k : Int) - 1 + 1) ≤ j → j ≤ x → F 0 j = false) := by
          intro j h1 h2
          by_cases hj : 64 * ((k : Int) + 1) ≤ j
          · exact HF.out j hj h2
          · have h4 := hz (j - 64 * k) (by omega)
            unfold rowIn at h4
            rw [show 64 * k + (j - 64 * k) = j by omega] at h4
            have h5 : j < x + 1 := by omega
            simpa [h5] using h4
        clear hz HF
        go_wp2_with fail
        go_roundw
        case rel => exact ⟨(k : Int) - 1, m + nq, by omega, by omega, by go_num, HF2, hide (by rw [HW.out, World.drewN_drewN])⟩
        case measure => simp [intOf]
      · have ht1 : A.testBit j = true := by rw [HA.out, num_bit]; simp [hj, hj1]
        have ht2 : ∀ i, j < i → A.testBit i = false := fun i hi => by
          rw [HA.out, num_bit]
          by_cases hi2 : i < 64
          · rw [hj2 i hi hi2]; simp
          · simp [hi2]
        have hA0 : ¬ ((A : Int) = 0) := by intro h0; have h1 : A = 0 := by omega
                                           subst h1; simp at ht1
        have HT := hide (fun w => len64_any A j hj ht1 ht2 w)
        have HJ : Hid (IsLast (F 0) x ((k : Int) * 64 + (j + 1 : Nat) - 1)) := by
          unfold rowIn at hj1 hj2
          simp only [Bool.and_eq_true, decide_eq_true_eq] at hj1
          refine .inr ⟨64 * k + j, by omega, by omega, hj1.1, fun i h1 h2 => ?_⟩
          by_cases hi : 64 * ((k : Int) + 1) ≤ i
          · exact HF.out i hi h2
          · have h4 := hj2 (i - 64 * k) (by omega) (by omega)
            rw [show 64 * k + (i - 64 * k) = i by omega] at h4
            have h5 : i < x + 1 := by omega
            simpa [h5] using h4
        clear ht1 ht2 hj1 hj2 HF
        go_wp2_with fail
        refine (HT.out _).mono ?_
        rintro e w1 ⟨rfl, rfl⟩
        go_wp2_with fail
        go_ret
        exact ⟨_, rfl, by simpa using HJ.out, m + nq, by rw [HW.out, World.drewN_drewN]⟩
    · have hd : decide (0 ≤ c) = false := decide_eq_false hlt
      go_wp2_with fail
      go_ret
      refine ⟨_, rfl, .inl ⟨rfl, fun j h1 => HF.out j (by omega) h1⟩, m, HW.out⟩
end Go.Proofs.YtgbclfhgpkmcnaaGreatDoor.Bt

/-
  What Count tells; what Size, Over and Has tell of blocks that lie apart ('Bl').
-/
namespace Go.Proofs.YtgbclfhgpkmcnaaGreatDoor.Bt
open Go.RowKit
set_option linter.unusedVariables false

/-- Of a range. -/
def inn (f : Nat → Bool) (x y : Nat) : Nat → Bool := fun k => f k && (decide (x ≤ k) && decide (k < y))
/-- How many of a range. -/
def cntIn (f : Nat → Bool) (x y : Nat) : Nat := cnt (inn f x y) y
theorem cnt_num (f : Nat → Bool) (m : Nat) : cnt (num f m).testBit m = cnt f m := by
  refine cnt_congr fun j hj => ?_
  rw [num_bit]
  simp [hj]
theorem cntIn_le (f : Nat → Bool) (x y : Nat) : cntIn f x y ≤ y := cnt_le _ _
theorem cnt_inn (f : Nat → Bool) (x y b : Nat) (h : y ≤ b) : cnt (inn f x y) b = cntIn f x y := by
  unfold cntIn
  refine cnt_stop h fun k h1 h2 => ?_
  unfold inn
  have : ¬ k < y := by omega
  simp [this]
theorem cnt_inn_row (f : Nat → Bool) (x y i : Nat) : cnt (inn f x y) (64 * (i + 1)) = cnt (inn f x y) (64 * i) + cnt (rowIn f x y i) 64 := by
  rw [show 64 * (i + 1) = 64 * i + 64 by omega, cnt_add]
  rfl
theorem cnt_inn_low (f : Nat → Bool) (x y i : Nat) (h : 64 * i ≤ x) : cnt (inn f x y) (64 * i) = 0 := by
  refine cnt_zero fun j hj => ?_
  unfold inn
  have : ¬ x ≤ j := by omega
  simp [this]

theorem count_any (ov : Option Addr) (n : Nat) (F : Nat → Nat → Bool) (x y : Int) (w : World) (h : Brd w ov n F) :
    Calls Tryz.prog 19 #[.pointer ov, .int .i64 x, .int .i64 y] w fun e w' => e = .returned (.int .i64 (cntIn (F 0) (kp n x) (kp n y) : Nat)) ∧ ∃ m, w' = w.drewN m := by
  have hn := h.few
  have HK := hide (keep_any ov n F x y w h)
  have HB := hide h
  have ha := kp_le n x
  have hb := kp_le n y
  clear h
  generalize kp n x = a at *
  generalize kp n y = b at *
  have HR := hide (fun w => rows_any b w (by omega))
  obtain ⟨x0, ex⟩ : ∃ x0 : Nat, x0 = a / 64 := ⟨_, rfl⟩
  have exi : ((a : Int) / 64) = (x0 : Int) := by omega
  obtain ⟨y0, ey⟩ : ∃ y0 : Nat, y0 = (b + 63) / 64 := ⟨_, rfl⟩
  rw [← ey] at HR
  have HX := hide ex
  have HY := hide ey
  have hx0 : x0 ≤ 1024 := by omega
  have hy0 : y0 ≤ 1024 := by omega
  obtain ⟨c, ec⟩ : ∃ c, c = cntIn (F 0) a b := ⟨_, rfl⟩
  rw [← ec]
  have HC := hide ec
  clear ex ey ec
  go_enter Tryz.func19, Tryz.ntmps19
  go_wp2_with fail
  refine (HK.out).mono ?_
  rintro e w1 ⟨rfl, rfl⟩
  go_wp2_with fail
  refine (HR.out _).mono ?_
  rintro e w1 ⟨rfl, rfl⟩
  go_wp2_with fail
  go_loopw [8, 23] (fun s i wr => ∃ (k m z : Nat), (k : Int) ≤ 1024 ∧ z ≤ 65536 + 64 ∧ i = .int .i64 k ∧ s = .int .i64 z ∧ Hid (z = cnt (inn (F 0) a b) (64 * (x0 + k))) ∧ Hid (wr = w1.drewN m)) (fun _ i _ => (y0 - x0) - (intOf i).toNat)
  case atStart => exact ⟨0, 0, 0, by omega, by omega, rfl, rfl, (cnt_inn_low _ _ _ _ (by have := HX.out; omega)).symm, rfl⟩
  case round =>
    obtain ⟨k, m, z, hk, hz, rfl, rfl, HZ, HW⟩ := hrel
    have HBr : Hid (Brd wr ov n F) := by rw [HW.out]; exact HB.out.drewN m
    by_cases hlt : (k : Int) < (y0 : Int) - (x0 : Int)
    · obtain ⟨p, q, R, rfl, c0, c1, hR, hc⟩ := HBr.out.some_ (by have := HY.out; omega)
      obtain ⟨i, hi⟩ : ∃ i : Nat, i = x0 + k := ⟨_, rfl⟩
      have hii : (x0 : Int) + (k : Int) = (i : Int) := by omega
      have hkR : i < R := by have := HY.out; omega
      have c2 := hc i 0 hkR (by omega)
      rw [Nat.add_zero] at c2
      have HP := hide (fun w => part_any i a b w (by omega) (by omega) (by omega))
      have key := row_and (F 0) a b i
      have hl := num_lt64 (rowIn (F 0) a b i)
      have HO := hide (fun w => ones64_any _ hl w)
      have hz2 := cnt_le (rowIn (F 0) a b i) 64
      have hz3 : cnt (inn (F 0) a b) (64 * (i + 1)) ≤ 65536 + 64 := by
        by_cases hb2 : b ≤ 64 * (i + 1)
        · rw [cnt_inn _ _ _ _ hb2]; have := cntIn_le (F 0) a b; omega
        · have := cnt_le (inn (F 0) a b) (64 * (i + 1)); omega
      have HZ2 : Hid (z + cnt (rowIn (F 0) a b i) 64 = cnt (inn (F 0) a b) (64 * (x0 + (k + 1)))) := hide (by
        have h1 := cnt_inn_row (F 0) a b i
        rw [show x0 + (k + 1) = i + 1 by omega, h1, hi, ← HZ.out])
      have hz4 : z + cnt (rowIn (F 0) a b i) 64 ≤ 65536 + 64 := by rw [HZ2.out, show x0 + (k + 1) = i + 1 by omega]; exact hz3
      rw [cnt_num] at HO
      have HI := hide hi
      clear hc c0 hR hl HZ hz3 hi
      generalize num (rowIn (F 0) a b i) 64 = A at *
      generalize cnt (rowIn (F 0) a b i) 64 = d at *
      generalize rowN (F 0) i = X at *
      generalize num (fun j => decide (a ≤ 64 * i + j) && decide (64 * i + j < b)) 64 = Y at *
      have wi : IntKind.i64.wrap (i : Int) = (i : Int) := by rw [IntKind.wrap_i64]; omega
      go_wp2_with fail
      go_quiet (first | (go_at_call 40; exact Calls.quiet_of (HP.out _)) | (go_at_call 39; exact Calls.quiet_of_same (HO.out _)))
      go_wp2_with fail
      go_roundw
      case rel => exact ⟨k + 1, m + nq, z + d, by omega, by omega, by go_num, by go_num, HZ2, hide (by rw [HW.out, World.drewN_drewN])⟩
      case measure => simp [intOf]; omega
    · have hzc : z = c := by
        rw [HZ.out, HC.out]
        exact cnt_inn _ _ _ _ (by have := HY.out; omega)
      subst hzc
      go_wp2_with fail
      go_ret
      exact ⟨rfl, m, HW.out⟩
end Go.Proofs.YtgbclfhgpkmcnaaGreatDoor.Bt

/-
  Blocks that lie apart, by their sizes ('Bl'): where they begin and end, which words live, row by row. No Go is walked here.
-/
namespace Go.Proofs.YtgbclfhgpkmcnaaGreatDoor.Bt
open Go.RowKit
set_option linter.unusedVariables false

noncomputable def bo (p : Prop) : Bool := @decide p (Classical.propDecidable p)
theorem bo_true {p : Prop} : bo p = true ↔ p := by unfold bo; exact @decide_eq_true_iff p (Classical.propDecidable p)
theorem bo_false {p : Prop} : bo p = false ↔ ¬ p := by rw [← Bool.not_eq_true, bo_true]

/-- S a: the size of the block that begins at a; 0: none does. -/
structure Bl (n : Nat) (S : Nat → Nat) : Prop where
  into : ∀ a, 0 < S a → a + S a ≤ n
  apart : ∀ a b, a < b → 0 < S a → 0 < S b → a + S a ≤ b

/-- The word k is one of the block at a. -/
def Cov (S : Nat → Nat) (a k : Nat) : Prop := a ≤ k ∧ k < a + S a
theorem Bl.one {n : Nat} {S : Nat → Nat} (h : Bl n S) {a b k : Nat} (ha : Cov S a k) (hb : Cov S b k) : a = b := by
  unfold Cov at ha hb
  rcases Nat.lt_trichotomy a b with h1 | h1 | h1
  · have := h.apart a b h1 (by omega) (by omega); omega
  · exact h1
  · have := h.apart b a h1 (by omega) (by omega); omega
theorem Bl.far {n : Nat} {S : Nat → Nat} (h : Bl n S) {k : Nat} (hk : n ≤ k) : S k = 0 := by
  have := h.into k
  omega

def begs (S : Nat → Nat) (k : Nat) : Bool := decide (0 < S k)
noncomputable def ends (S : Nat → Nat) (k : Nat) : Bool := bo (∃ a, 0 < S a ∧ a + S a = k + 1)
noncomputable def live (S : Nat → Nat) (k : Nat) : Bool := bo (∃ a, Cov S a k)
noncomputable def opn (S : Nat → Nat) (k : Nat) : Bool := bo (∃ a, a < k ∧ k < a + S a)
noncomputable def sidesOf (S : Nat → Nat) : Nat → Nat → Bool := fun s => if s = 0 then begs S else ends S

theorem live_eq {n : Nat} {S : Nat → Nat} (h : Bl n S) (k : Nat) : (live S k).toNat = (begs S k).toNat + (opn S k).toNat := by
  cases hb : begs S k
  · have hb0 : ¬ 0 < S k := by simpa [begs] using hb
    cases ho : opn S k
    · have : live S k = false := by
        unfold live; rw [bo_false]
        rintro ⟨a, h1, h2⟩
        unfold opn at ho
        rw [bo_false] at ho
        by_cases hak : a = k
        · subst hak; omega
        · exact ho ⟨a, by omega, h2⟩
      rw [this]; rfl
    · have : live S k = true := by
        unfold live; rw [bo_true]
        unfold opn at ho
        rw [bo_true] at ho
        obtain ⟨a, h1, h2⟩ := ho
        exact ⟨a, by omega, h2⟩
      rw [this]; rfl
  · have hb0 : 0 < S k := by simpa [begs] using hb
    have ho : opn S k = false := by
      unfold opn; rw [bo_false]
      rintro ⟨a, h1, h2⟩
      have := h.apart a k h1 (by omega) hb0
      omega
    have : live S k = true := by
      unfold live; rw [bo_true]
      exact ⟨k, by omega, by omega⟩
    rw [ho, this]; rfl
theorem opn_succ {n : Nat} {S : Nat → Nat} (h : Bl n S) (k : Nat) : (opn S (k + 1)).toNat + (ends S k).toNat = (live S k).toNat := by
  cases hl : live S k
  · have h1 : ¬ ∃ a, Cov S a k := by unfold live at hl; rwa [bo_false] at hl
    have h2 : opn S (k + 1) = false := by
      unfold opn; rw [bo_false]; rintro ⟨a, h3, h4⟩; exact h1 ⟨a, by omega, by omega⟩
    have h3 : ends S k = false := by
      unfold ends; rw [bo_false]; rintro ⟨a, h3, h4⟩; exact h1 ⟨a, by omega, by omega⟩
    rw [h2, h3]; rfl
  · have h1 : ∃ a, Cov S a k := by unfold live at hl; rwa [bo_true] at hl
    obtain ⟨a, ha⟩ := h1
    by_cases he : a + S a = k + 1
    · have h2 : opn S (k + 1) = false := by
        unfold opn; rw [bo_false]; rintro ⟨b, h3, h4⟩
        have := h.one ha (b := b) ⟨by omega, by omega⟩
        subst this; omega
      have h3 : ends S k = true := by
        unfold ends; rw [bo_true]; exact ⟨a, by have := ha.1; omega, he⟩
      rw [h2, h3]; rfl
    · have h2 : opn S (k + 1) = true := by
        unfold opn; rw [bo_true]; exact ⟨a, by have := ha.1; omega, by have := ha.2; omega⟩
      have h3 : ends S k = false := by
        unfold ends; rw [bo_false]; rintro ⟨b, h3, h4⟩
        have := h.one ha (b := b) ⟨by omega, by omega⟩
        subst this; omega
      rw [h2, h3]; rfl
theorem opn_zero (S : Nat → Nat) : opn S 0 = false := by
  unfold opn; rw [bo_false]; rintro ⟨a, h1, _⟩; omega

/-- Read as numbers: the live words of a row. -/
theorem live_num {n : Nat} {S : Nat → Nat} (h : Bl n S) (c m : Nat) :
    num (fun j => live S (c + j)) m + num (fun j => begs S (c + j)) m + (opn S c).toNat = 2 * num (fun j => ends S (c + j)) m + 2 ^ m * (opn S (c + m)).toNat := by
  induction m with
  | zero => simp [num]
  | succ m ih =>
    have h1 := live_eq h (c + m)
    have h2 := opn_succ h (c + m)
    rw [num, num, num, Nat.pow_succ]
    rw [show c + (m + 1) = c + m + 1 by omega]
    generalize (live S (c + m)).toNat = L at *
    generalize (begs S (c + m)).toNat = B at *
    generalize (ends S (c + m)).toNat = E at *
    generalize (opn S (c + m + 1)).toNat = O1 at *
    generalize (opn S (c + m)).toNat = O0 at *
    generalize 2 ^ m = P at *
    have h3 : P * L = P * B + P * O0 := by rw [h1, Nat.mul_add]
    have h4 : P * L = P * O1 + P * E := by rw [← h2, Nat.mul_add]
    have h5 : P * 2 * O1 = 2 * (P * O1) := by rw [Nat.mul_comm P 2, Nat.mul_assoc]
    rw [h5]
    omega
theorem opn_cnt {n : Nat} {S : Nat → Nat} (h : Bl n S) (c m : Nat) :
    (opn S (c + m)).toNat + cnt (fun j => ends S (c + j)) m = (opn S c).toNat + cnt (fun j => begs S (c + j)) m := by
  induction m with
  | zero => simp [cnt]
  | succ m ih =>
    have h1 := live_eq h (c + m)
    have h2 := opn_succ h (c + m)
    rw [cnt, cnt]
    rw [show c + (m + 1) = c + m + 1 by omega]
    omega
/-- The row of live words, as the program reckons it. -/
theorem live_row {n : Nat} {S : Nat → Nat} (h : Bl n S) (i : Nat) :
    IntKind.u64.wrap (IntKind.u64.wrap (IntKind.u64.wrap (((rowN (ends S) i : Nat) : Int) * 2) - ((rowN (begs S) i : Nat) : Int)) - (((opn S (64 * i)).toNat : Nat) : Int)) = ((rowN (live S) i : Nat) : Int) := by
  have h1 := live_num h (64 * i) 64
  have l1 := rowN_lt (live S) i
  unfold rowN at l1 ⊢
  generalize num (fun j => live S (64 * i + j)) 64 = L at *
  generalize num (fun j => begs S (64 * i + j)) 64 = B at *
  generalize num (fun j => ends S (64 * i + j)) 64 = E at *
  generalize (opn S (64 * i)).toNat = O at *
  generalize (opn S (64 * i + 64)).toNat = O1 at *
  rw [IntKind.wrap_u64, IntKind.wrap_u64, IntKind.wrap_u64]
  have e : 2 ^ 64 = 18446744073709551616 := by decide
  rw [e] at h1
  omega
/-- The next row's open block. -/
theorem open_row {n : Nat} {S : Nat → Nat} (h : Bl n S) (i : Nat) :
    IntKind.u64.wrap ((((opn S (64 * i)).toNat : Nat) : Int) + IntKind.u64.wrap (((cnt (fun j => begs S (64 * i + j)) 64 : Nat) : Int) - ((cnt (fun j => ends S (64 * i + j)) 64 : Nat) : Int))) = (((opn S (64 * (i + 1))).toNat : Nat) : Int) := by
  have h1 := opn_cnt h (64 * i) 64
  rw [show 64 * (i + 1) = 64 * i + 64 by omega]
  have h2 := toNat_le1 (opn S (64 * i + 64))
  generalize cnt (fun j => begs S (64 * i + j)) 64 = B at *
  generalize cnt (fun j => ends S (64 * i + j)) 64 = E at *
  generalize (opn S (64 * i)).toNat = O at *
  generalize (opn S (64 * i + 64)).toNat = O1 at *
  rw [IntKind.wrap_u64, IntKind.wrap_u64]
  omega

theorem ends_next {n : Nat} {S : Nat → Nat} (h : Bl n S) {x : Nat} {r : Int} (hx : 0 < S x) (hr : IsNext (ends S) x n r) : r = x + S x - 1 := by
  have he : ends S (x + S x - 1) = true := by
    unfold ends; rw [bo_true]; exact ⟨x, hx, by omega⟩
  have hin := h.into x hx
  rcases hr with ⟨rfl, h1⟩ | ⟨k, rfl, h1, h2, h3, h4⟩
  · rw [h1 (x + S x - 1) (by omega) (by omega)] at he; cases he
  · unfold ends at h3
    rw [bo_true] at h3
    obtain ⟨a, ha, h5⟩ := h3
    by_cases hk : k = x + S x - 1
    · omega
    · by_cases hk2 : x + S x - 1 < k
      · rw [h4 _ (by omega) hk2] at he; cases he
      · have := h.one (a := a) (b := x) (k := k) ⟨by omega, by omega⟩ ⟨by omega, by omega⟩
        subst this
        omega
/-- What Over tells. -/
def IsOver (S : Nat → Nat) (x : Int) (a z : Int) (t : Bool) : Prop :=
  (∃ k j : Nat, x = j ∧ Cov S k j ∧ a = k ∧ z = S k ∧ t = true) ∨ ((∀ k j : Nat, x = j → ¬ Cov S k j) ∧ a = 0 ∧ z = 0 ∧ t = false)
/-- What Size tells. -/
def szI (S : Nat → Nat) (x : Int) : Nat := if 0 ≤ x then S x.toNat else 0
theorem szI_nat (S : Nat → Nat) (k : Nat) : szI S (k : Int) = S k := by unfold szI; rw [if_pos (by omega), Int.toNat_natCast]
theorem szI_neg (S : Nat → Nat) {x : Int} (h : x < 0) : szI S x = 0 := by unfold szI; rw [if_neg (by omega)]

theorem last_over {n : Nat} {S : Nat → Nat} (h : Bl n S) {x : Nat} {r : Int} (hr : IsLast (begs S) x r) :
    if (x : Int) - r < szI S r then IsOver S x r (szI S r) true else IsOver S x 0 0 false := by
  rcases hr with ⟨rfl, h1⟩ | ⟨k, rfl, h1, h2, h3⟩
  · rw [szI_neg S (by omega), if_neg (by omega)]
    refine .inr ⟨?_, rfl, rfl, rfl⟩
    intro k j hj hc
    have hj2 : j = x := by omega
    subst hj2
    have h4 := h1 k hc.1
    have h5 := hc.2
    have h6 := hc.1
    unfold begs at h4
    simp at h4
    omega
  · rw [szI_nat]
    split
    · exact .inl ⟨k, x, rfl, ⟨h1, by omega⟩, rfl, rfl, rfl⟩
    · rename_i h4
      refine .inr ⟨?_, rfl, rfl, rfl⟩
      intro a j hj hc
      have hj2 : j = x := by omega
      subst hj2
      have hb : 0 < S k := by simpa [begs] using h2
      have ha : 0 < S a := by have := hc.1; have := hc.2; omega
      rcases Nat.lt_trichotomy a k with h5 | h5 | h5
      · have := h.apart a k h5 ha hb
        have := hc.2
        omega
      · subst h5
        have := hc.2
        omega
      · have h6 := h3 a h5 hc.1
        unfold begs at h6
        simp at h6
        omega
end Go.Proofs.YtgbclfhgpkmcnaaGreatDoor.Bt

/-
  What Size, Over, open and Live tell of blocks that lie apart.
-/
namespace Go.Proofs.YtgbclfhgpkmcnaaGreatDoor.Bt
open Go.RowKit
set_option linter.unusedVariables false

theorem sidesOf0 (S : Nat → Nat) : sidesOf S 0 = begs S := rfl
theorem sidesOf1 (S : Nat → Nat) : sidesOf S 1 = ends S := rfl

theorem bhas_any (ov : Option Addr) (n : Nat) (S : Nat → Nat) (x : Int) (w : World) (h : Brd w ov n (sidesOf S)) (hs : Bl n S) :
    Calls Tryz.prog 20 #[.pointer ov, .int .i64 x] w fun e w' => e = .returned (.bool (decide (0 < szI S x))) ∧ ∃ m, w' = w.drewN m := by
  have h1 := has_any ov n _ x w h
  have e : (decide (0 ≤ x) && decide (x < n) && sidesOf S 0 x.toNat) = decide (0 < szI S x) := by
    rw [sidesOf0]
    unfold begs szI
    by_cases h0 : 0 ≤ x
    · by_cases h2 : x < n
      · simp [h0, h2]
      · have := hs.far (k := x.toNat) (by omega)
        simp [h0, h2, this]
    · simp [h0]
  rw [e] at h1
  exact h1

theorem size_any (ov : Option Addr) (n : Nat) (S : Nat → Nat) (x : Int) (w : World) (h : Brd w ov n (sidesOf S)) (hs : Bl n S) :
    Calls Tryz.prog 27 #[.pointer ov, .int .i64 x] w fun e w' => e = .returned (.int .i64 (szI S x : Nat)) ∧ ∃ m, w' = w.drewN m := by
  have H := hide (bhas_any ov n S x w h hs)
  by_cases h0 : 0 < szI S x
  · have hx : 0 ≤ x := by unfold szI at h0; split at h0 <;> omega
    obtain ⟨k, rfl⟩ := Int.eq_ofNat_of_zero_le hx
    rw [szI_nat] at h0 H
    rw [szI_nat]
    have hk := hs.into k h0
    obtain ⟨p, q, R, rfl, c0, c1, hR, hc⟩ := h.some_ (by omega)
    have hn := h.few
    have HF := hide (fun m => first_any (some ⟨p, 0, none⟩) n _ 1 k n (w.drewN m) (h.drewN m) (by omega) (by omega) (by omega))
    have ed : decide (0 < S k) = true := decide_eq_true h0
    rw [ed] at H
    have HS := hide hs
    have H0 := hide h0
    clear h hs hc c1 hR h0 ed
    go_enter Tryz.func27, Tryz.ntmps27
    go_wp2_with fail
    refine (H.out).mono ?_
    rintro e w1 ⟨rfl, m, rfl⟩
    go_wp2_with fail
    refine (HF.out m).mono ?_
    rintro e w1 ⟨r, rfl, hr, m2, rfl⟩
    have hr1 := ends_next HS.out H0.out hr
    have hb1 : (S k : Int) ≤ 65536 := by omega
    have hb2 := H0.out
    clear hr
    subst hr1
    go_wp2_with fail
    go_ret
    refine ⟨congrArg (fun z : Int => Ending.returned (.int .i64 z)) ?_, m + m2, by first | rfl | rw [World.drewN_drewN]⟩
    go_num
  · have ez : szI S x = 0 := by omega
    rw [ez] at H ⊢
    clear h0 ez h
    go_enter Tryz.func27, Tryz.ntmps27
    go_wp2_with fail
    refine (H.out).mono ?_
    rintro e w1 ⟨rfl, m, rfl⟩
    go_wp2_with fail
    go_ret
    exact ⟨rfl, m, rfl⟩

theorem over_any (ov : Option Addr) (n : Nat) (S : Nat → Nat) (x : Int) (w : World) (h : Brd w ov n (sidesOf S)) (hs : Bl n S) :
    Calls Tryz.prog 122 #[.pointer ov, .int .i64 x] w fun e w' => ∃ (a z : Int) (t : Bool), e = .returned (.tuple #[.int .i64 a, .int .i64 z, .bool t]) ∧ IsOver S x a z t ∧ ∃ m, w' = w.drewN m := by
  have H := hide (inside_any ov n _ x w h)
  by_cases h0 : 0 ≤ x ∧ x < n
  · have e1 : (decide (0 ≤ x) && decide (x < n)) = true := by simp only [Bool.and_eq_true, decide_eq_true_eq]; exact h0
    rw [e1] at H
    obtain ⟨k, rfl⟩ := Int.eq_ofNat_of_zero_le h0.1
    have hn := h.few
    have HL := hide (lastBegin_any ov n _ k w h (by omega))
    have HZ := hide (fun r m => size_any ov n S r (w.drewN m) (h.drewN m) hs)
    have HS := hide hs
    have hk : k < n := by omega
    clear h hs e1
    go_enter Tryz.func122, Tryz.ntmps122
    go_wp2_with fail
    refine (H.out).mono ?_
    rintro e w1 ⟨rfl, rfl⟩
    go_wp2_with fail
    refine (HL.out).mono ?_
    rintro e w1 ⟨r, rfl, hr, m, rfl⟩
    have HO := hide (last_over HS.out hr)
    have hr1 : -1 ≤ r ∧ r ≤ k := by
      rcases hr with ⟨rfl, _⟩ | ⟨j, rfl, h1, _⟩ <;> omega
    clear hr
    go_wp2_with fail
    refine (HZ.out r m).mono ?_
    rintro e w1 ⟨rfl, m2, rfl⟩
    generalize szI S r = z at *
    by_cases hlt : (k : Int) - r < (z : Int)
    · have HO2 := hide (HO.out)
      rw [if_pos hlt] at HO2
      clear HO
      go_wp2_with fail
      go_ret3
      exact ⟨_, _, _, rfl, HO2.out, m + m2, by first | rfl | rw [World.drewN_drewN]⟩
    · have HO2 := hide (HO.out)
      rw [if_neg hlt] at HO2
      clear HO
      go_wp2_with fail
      go_ret3
      exact ⟨_, _, _, rfl, HO2.out, m + m2, by first | rfl | rw [World.drewN_drewN]⟩
  · have e1 : (decide (0 ≤ x) && decide (x < n)) = false := by
      rw [← Bool.not_eq_true]; simp only [Bool.and_eq_true, decide_eq_true_eq]; exact h0
    rw [e1] at H
    have HO : Hid (IsOver S x 0 0 false) := by
      refine .inr ⟨?_, rfl, rfl, rfl⟩
      intro k j hj hc
      have := hs.into k (by have := hc.1; have := hc.2; omega)
      have := hc.2
      omega
    clear h hs e1
    go_enter Tryz.func122, Tryz.ntmps122
    go_wp2_with fail
    refine (H.out).mono ?_
    rintro e w1 ⟨rfl, rfl⟩
    go_wp2_with fail
    go_ret3
    exact ⟨_, _, _, rfl, HO.out, 0, rfl⟩

theorem open_any (ov : Option Addr) (n : Nat) (S : Nat → Nat) (x : Nat) (w : World) (h : Brd w ov n (sidesOf S)) (hs : Bl n S) :
    Calls Tryz.prog 111 #[.pointer ov, .int .i64 (x : Int)] w fun e w' => e = .returned (.int .u64 ((opn S x).toNat : Nat)) ∧ ∃ m, w' = w.drewN m := by
  have H := hide (over_any ov n S x w h hs)
  go_enter Tryz.func111, Tryz.ntmps111
  go_wp2_with fail
  refine (H.out).mono ?_
  rintro e w1 ⟨a, z, t, rfl, hr, m, rfl⟩
  rcases hr with ⟨k, j, hj, hc, rfl, rfl, rfl⟩ | ⟨hno, rfl, rfl, rfl⟩
  · have hj2 : j = x := by omega
    subst hj2
    by_cases hk : k < j
    · have ho : opn S j = true := by unfold opn; rw [bo_true]; exact ⟨k, hk, hc.2⟩
      go_wp2_with fail
      go_ret
      exact ⟨by rw [ho]; rfl, m, rfl⟩
    · have ho : opn S j = false := by
        unfold opn; rw [bo_false]; rintro ⟨b, h1, h2⟩
        have := hs.one (a := b) (b := k) (k := j) ⟨by omega, h2⟩ hc
        omega
      go_wp2_with fail
      go_ret
      exact ⟨by rw [ho]; rfl, m, rfl⟩
  · have ho : opn S x = false := by
      unfold opn; rw [bo_false]; rintro ⟨b, h1, h2⟩
      exact hno b x rfl ⟨by omega, h2⟩
    go_wp2_with fail
    go_ret
    exact ⟨by rw [ho]; rfl, m, rfl⟩
end Go.Proofs.YtgbclfhgpkmcnaaGreatDoor.Bt

/-
  What Live tells: how many live words stand in a range.
-/
namespace Go.Proofs.YtgbclfhgpkmcnaaGreatDoor.Bt
open Go.RowKit
set_option linter.unusedVariables false

set_option maxRecDepth 100000 in
theorem live_any (ov : Option Addr) (n : Nat) (S : Nat → Nat) (x y : Int) (w : World) (h : Brd w ov n (sidesOf S)) (hs : Bl n S) :
    Calls Tryz.prog 101 #[.pointer ov, .int .i64 x, .int .i64 y] w fun e w' => e = .returned (.int .i64 (cntIn (live S) (kp n x) (kp n y) : Nat)) ∧ Turned [] w w' := by
  have hn := h.few
  have HK := hide (keep_any ov n _ x y w h)
  have HB := hide h
  have ha := kp_le n x
  have hb := kp_le n y
  generalize kp n x = a at *
  generalize kp n y = b at *
  have HR := hide (fun w => rows_any b w (by omega))
  obtain ⟨x0, ex⟩ : ∃ x0 : Nat, x0 = a / 64 := ⟨_, rfl⟩
  have exi : ((a : Int) / 64) = (x0 : Int) := by omega
  obtain ⟨y0, ey⟩ : ∃ y0 : Nat, y0 = (b + 63) / 64 := ⟨_, rfl⟩
  rw [← ey] at HR
  have HX := hide ex
  have HY := hide ey
  have HS := hide hs
  have hx0 : x0 ≤ 1024 := by omega
  have hy0 : y0 ≤ 1024 := by omega
  obtain ⟨c, ec⟩ : ∃ c, c = cntIn (live S) a b := ⟨_, rfl⟩
  rw [← ec]
  have HC := hide ec
  have HO := hide (fun z => open_any ov n S (64 * z) w h hs)
  have HO0 := HO.out x0
  rw [show ((64 * x0 : Nat) : Int) = (x0 : Int) * 64 by omega] at HO0
  have HO1 := hide HO0
  obtain ⟨o0, eo⟩ : ∃ o0 : Nat, o0 = (opn S (64 * x0)).toNat := ⟨_, rfl⟩
  rw [← eo] at HO1
  have HE := hide eo
  clear ex ey ec h hs HO HO0 eo
  go_enter Tryz.func101, Tryz.ntmps101
  go_wp2_with fail
  refine (HK.out).mono ?_
  rintro e w1 ⟨rfl, rfl⟩
  go_wp2_with fail
  refine (HO1.out).mono ?_
  rintro e w2 ⟨rfl, m0, rfl⟩
  go_wp2_with fail
  refine (HR.out _).mono ?_
  rintro e w2 ⟨rfl, rfl⟩
  go_wp2_with fail
  go_loopw [8, 9, 30] (fun o s i wr => ∃ (k z oc : Nat), (k : Int) ≤ 1024 ∧ z ≤ 65536 + 64 ∧ oc ≤ 1 ∧ i = .int .i64 k ∧ s = .int .i64 z ∧ o = .int .u64 oc ∧ Hid (oc = (opn S (64 * (x0 + k))).toNat) ∧ Hid (z = cnt (inn (live S) a b) (64 * (x0 + k))) ∧ Hid (Turned [] w1 wr)) (fun _ _ i _ => (y0 - x0) - (intOf i).toNat)
  case atStart => exact ⟨0, 0, o0, by omega, by omega, by rw [HE.out]; exact toNat_le1 _, rfl, rfl, rfl, HE.out, (cnt_inn_low _ _ _ _ (by have := HX.out; omega)).symm, (Turned.refl [] w1).drewN m0⟩
  case round =>
    obtain ⟨k, z, oc, hk, hz, hoc, rfl, rfl, rfl, HOC, HZ, HT⟩ := hrel
    have HBr : Hid (Brd wr ov n (sidesOf S)) := HB.out.turned HT.out
    by_cases hlt : (k : Int) < (y0 : Int) - (x0 : Int)
    · obtain ⟨p, q, R, rfl, c0, c1, hR, hc⟩ := HBr.out.some_ (by have := HY.out; omega)
      obtain ⟨i, hi⟩ : ∃ i : Nat, i = x0 + k := ⟨_, rfl⟩
      have hii : (x0 : Int) + (k : Int) = (i : Int) := by omega
      have hkR : i < R := by have := HY.out; omega
      have c2 := hc i 0 hkR (by omega)
      rw [Nat.add_zero] at c2
      have c3 := hc i 1 hkR (by omega)
      rw [sidesOf0] at c2
      rw [sidesOf1] at c3
      have HP := hide (fun w => part_any i a b w (by omega) (by omega) (by omega))
      have key := row_and (live S) a b i
      have hl := num_lt64 (rowIn (live S) a b i)
      have HON := hide (fun w => ones64_any _ hl w)
      have hz2 := cnt_le (rowIn (live S) a b i) 64
      have hz3 : cnt (inn (live S) a b) (64 * (i + 1)) ≤ 65536 + 64 := by
        by_cases hb2 : b ≤ 64 * (i + 1)
        · rw [cnt_inn _ _ _ _ hb2]; have := cntIn_le (live S) a b; omega
        · have := cnt_le (inn (live S) a b) (64 * (i + 1)); omega
      have HZ2 : Hid (z + cnt (rowIn (live S) a b i) 64 = cnt (inn (live S) a b) (64 * (x0 + (k + 1)))) := hide (by
        have h1 := cnt_inn_row (live S) a b i
        rw [show x0 + (k + 1) = i + 1 by omega, h1, hi, ← HZ.out])
      have hz4 : z + cnt (rowIn (live S) a b i) 64 ≤ 65536 + 64 := by rw [HZ2.out, show x0 + (k + 1) = i + 1 by omega]; exact hz3
      rw [cnt_num] at HON
      have krow := live_row HS.out i
      have kopn := open_row HS.out i
      rw [show 64 * i = 64 * (x0 + k) by omega, ← HOC.out] at krow
      have hoc2 : (opn S (64 * (i + 1))).toNat ≤ 1 := toNat_le1 _
      rw [show 64 * i = 64 * (x0 + k) by omega, ← HOC.out] at kopn
      have HOC2 : Hid ((opn S (64 * (i + 1))).toNat = (opn S (64 * (x0 + (k + 1)))).toNat) := hide (by rw [hi, show x0 + k + 1 = x0 + (k + 1) by omega])
      have HN0 := hide (fun w => ones_any _ (rowN_lt (begs S) i) w)
      have HN1 := hide (fun w => ones_any _ (rowN_lt (ends S) i) w)
      have e0 : cnt (rowN (begs S) i).testBit 64 = cnt (fun j => begs S (64 * (x0 + k) + j)) 64 := by rw [← hi]; exact cnt_num _ _
      have e1 : cnt (rowN (ends S) i).testBit 64 = cnt (fun j => ends S (64 * (x0 + k) + j)) 64 := by rw [← hi]; exact cnt_num _ _
      rw [e0] at HN0
      rw [e1] at HN1
      have HI := hide hi
      have lb := rowN_lt (begs S) i
      have le := rowN_lt (ends S) i
      clear hc c0 hR hl HZ hz3 hi HOC e0 e1
      generalize (opn S (64 * (i + 1))).toNat = oc2 at *
      generalize cnt (fun j => begs S (64 * (x0 + k) + j)) 64 = cb at *
      generalize cnt (fun j => ends S (64 * (x0 + k) + j)) 64 = ce at *
      generalize num (rowIn (live S) a b i) 64 = A at *
      generalize cnt (rowIn (live S) a b i) 64 = d at *
      generalize rowN (live S) i = L at *
      generalize rowN (begs S) i = X at *
      generalize rowN (ends S) i = E at *
      generalize num (fun j => decide (a ≤ 64 * i + j) && decide (64 * i + j < b)) 64 = Y at *
      go_wp2_with fail
      have HT1 := hide (HT.out.alloc (Obj.cells #[Value.int IntKind.u64 (X : Int), Value.int IntKind.u64 (E : Int)] 99))
      have d0 : (wr.alloc (Obj.cells #[Value.int IntKind.u64 (X : Int), Value.int IntKind.u64 (E : Int)] 99)).cell? ⟨wr.heap.size, 0, none⟩ = some (.int .u64 (X : Int)) := by rw [cell_of_heap (heap_alloc_new _ _)]; rfl
      have d1 : (wr.alloc (Obj.cells #[Value.int IntKind.u64 (X : Int), Value.int IntKind.u64 (E : Int)] 99)).cell? ⟨wr.heap.size, 1, none⟩ = some (.int .u64 (E : Int)) := by rw [cell_of_heap (heap_alloc_new _ _)]; rfl
      generalize wr.alloc (Obj.cells #[Value.int IntKind.u64 (X : Int), Value.int IntKind.u64 (E : Int)] 99) = W1 at *
      generalize wr.heap.size = g at *
      clear c1 c2 c3
      refine (HP.out _).mono ?_
      rintro e w3 ⟨rfl, m3, rfl⟩
      have HT2 := hide (HT1.out.drewN m3)
      have d2 : (W1.drewN m3).cell? ⟨g, 0, none⟩ = some (.int .u64 (X : Int)) := d0
      have d3 : (W1.drewN m3).cell? ⟨g, 1, none⟩ = some (.int .u64 (E : Int)) := d1
      clear d0 d1 HT1
      generalize W1.drewN m3 = W2 at *
      go_wp2_with fail
      refine (HON.out _).mono ?_
      rintro e w3 ⟨rfl, rfl⟩
      go_wp2_with fail
      go_quiet ((go_at_call 112; first | exact Calls.quiet_of_same (HN0.out _) | exact Calls.quiet_of_same (HN1.out _)))
      go_wp2_with fail
      go_roundw
      case rel => exact ⟨k + 1, z + d, oc2, by omega, by omega, hoc2, by go_num, by go_num, rfl, HOC2.out, HZ2, hide (HT2.out.drewN nq)⟩
      case measure => simp [intOf]; omega
    · have hzc : z = c := by
        rw [HZ.out, HC.out]
        exact cnt_inn _ _ _ _ (by have := HY.out; omega)
      subst hzc
      go_wp2_with fail
      go_ret
      exact ⟨rfl, HT.out⟩
end Go.Proofs.YtgbclfhgpkmcnaaGreatDoor.Bt
