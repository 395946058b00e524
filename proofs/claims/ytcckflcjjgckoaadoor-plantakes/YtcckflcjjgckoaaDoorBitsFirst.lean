/-
  What first, lastBegin and Next tell: the nearest word of a side.
-/
import Derived.Test.YtcckflcjjgckoaaDoorBitsObj
namespace Go.Proofs.YtcckflcjjgckoaaDoor.Bt
open Go.RowKit
set_option linter.unusedVariables false

/-- r is the first k of a range with f k; -1: there is none. -/
def IsNext (f : Nat → Bool) (x y : Nat) (r : Int) : Prop :=
  (r = -1 ∧ ∀ k, x ≤ k → k < y → f k = false) ∨ ∃ k : Nat, r = k ∧ x ≤ k ∧ k < y ∧ f k = true ∧ ∀ j, x ≤ j → j < k → f j = false
/-- r is the last k to x with f k; -1: there is none. -/
def IsLast (f : Nat → Bool) (x : Nat) (r : Int) : Prop :=
  (r = -1 ∧ ∀ k, k ≤ x → f k = false) ∨ ∃ k : Nat, r = k ∧ k ≤ x ∧ f k = true ∧ ∀ j, k < j → j ≤ x → f j = false

/-- The lowest true bit, if there is one. -/
theorem low_bit (f : Nat → Bool) (m : Nat) : (∀ j, j < m → f j = false) ∨ ∃ k, k < m ∧ f k = true ∧ ∀ j, j < k → f j = false := by
  induction m with
  | zero => exact .inl fun j hj => by omega
  | succ m ih =>
    rcases ih with h | ⟨k, h1, h2⟩
    · cases hf : f m
      · refine .inl fun j hj => ?_
        by_cases hjm : j = m
        · subst hjm; exact hf
        · exact h j (by omega)
      · exact .inr ⟨m, by omega, hf, h⟩
    · exact .inr ⟨k, by omega, h2⟩
theorem high_bit (f : Nat → Bool) (m : Nat) : (∀ j, j < m → f j = false) ∨ ∃ k, k < m ∧ f k = true ∧ ∀ j, k < j → j < m → f j = false := by
  induction m with
  | zero => exact .inl fun j hj => by omega
  | succ m ih =>
    cases hf : f m
    · rcases ih with h | ⟨k, h1, h2, h3⟩
      · refine .inl fun j hj => ?_
        by_cases hjm : j = m
        · subst hjm; exact hf
        · exact h j (by omega)
      · refine .inr ⟨k, by omega, h2, fun j hj hjm => ?_⟩
        by_cases hjm2 : j = m
        · subst hjm2; exact hf
        · exact h3 j hj (by omega)
    · exact .inr ⟨m, by omega, hf, fun j hj hjm => by omega⟩

/-- A row, where it lies in a range. -/
def rowIn (f : Nat → Bool) (x y i : Nat) : Nat → Bool := fun j => f (64 * i + j) && (decide (x ≤ 64 * i + j) && decide (64 * i + j < y))
theorem row_and (f : Nat → Bool) (x y i : Nat) : bits .and .u64 ((rowN f i : Nat) : Int) ((num (fun j => decide (x ≤ 64 * i + j) && decide (64 * i + j < y)) 64 : Nat) : Int) = ((num (rowIn f x y i) 64 : Nat) : Int) := by
  rw [bits_and_u64_nat _ _ (rowN_lt f i) (num_lt64 _)]
  unfold rowN rowIn
  rw [num_and]

theorem first_any (ov : Option Addr) (n : Nat) (F : Nat → Nat → Bool) (s x y : Nat) (w : World) (h : Brd w ov n F) (hs : s < 2) (hx : x ≤ n) (hy : y ≤ n) :
    Calls Tryd.prog 56 #[.pointer ov, .int .i64 (s : Int), .int .i64 (x : Int), .int .i64 (y : Int)] w fun e w' => ∃ r : Int, e = .returned (.int .i64 r) ∧ IsNext (F s) x y r ∧ ∃ m, w' = w.drewN m := by
  have hn := h.few
  have hs2 : (s : Int) < 2 := by omega
  have HR := hide (fun w => rows_any y w (by omega))
  have HB := hide h
  obtain ⟨x0, ex⟩ : ∃ x0 : Nat, x0 = x / 64 := ⟨_, rfl⟩
  have exi : ((x : Int) / 64) = (x0 : Int) := by omega
  obtain ⟨y0, ey⟩ : ∃ y0 : Nat, y0 = (y + 63) / 64 := ⟨_, rfl⟩
  rw [← ey] at HR
  have HX := hide ex
  have HY := hide ey
  have hx0 : x0 ≤ 1024 := by omega
  have hy0 : y0 ≤ 1024 := by omega
  clear ex ey h
  go_enter Tryd.func56, Tryd.ntmps56
  go_wp2_with fail
  go_loopw [9] (fun i wr => ∃ (k m : Nat), x0 ≤ k ∧ k ≤ 1024 ∧ i = .int .i64 k ∧ Hid (∀ j, x ≤ j → j < 64 * k → j < y → F s j = false) ∧ Hid (wr = w.drewN m)) (fun i _ => y0 - (intOf i).toNat)
  case atStart => exact ⟨x0, 0, by omega, by omega, by go_num, fun j h1 h2 h3 => by have := HX.out; omega, rfl⟩
  case round =>
    obtain ⟨k, m, hk, hk1, rfl, HF, HW⟩ := hrel
    have HBr : Hid (Brd wr ov n F) := by rw [HW.out]; exact HB.out.drewN m
    go_wp2_with fail
    refine (HR.out _).mono ?_
    rintro e w1 ⟨rfl, rfl⟩
    by_cases hlt : k < y0
    · obtain ⟨p, q, R, rfl, c0, c1, hR, hc⟩ := HBr.out.some_ (by have := HY.out; omega)
      have hkR : k < R := by have := HY.out; omega
      have c2 := hc k s hkR hs
      have HP := hide (fun w => part_any k x y w (by omega) (by omega) (by omega))
      have key := row_and (F s) x y k
      have hl := num_lt64 (rowIn (F s) x y k)
      obtain ⟨A, eA⟩ : ∃ A, A = num (rowIn (F s) x y k) 64 := ⟨_, rfl⟩
      rw [← eA] at key hl
      have HA := hide eA
      clear eA hc c0 hR
      generalize rowN (F s) k = X at *
      generalize num (fun j => decide (x ≤ 64 * k + j) && decide (64 * k + j < y)) 64 = Y at *
      go_wp2_with fail
      go_quiet ((go_at_call 52; exact Calls.quiet_of (HP.out _)))
      rcases low_bit (rowIn (F s) x y k) 64 with hz | ⟨j, hj, hj1, hj2⟩
      · have h0 : A = 0 := by rw [HA.out]; exact num_zero hz
        subst h0
        have HF2 : Hid (∀ j, x ≤ j → j < 64 * (k + 1) → j < y → F s j = false) := by
          intro j h1 h2 h3
          by_cases hj : j < 64 * k
          · exact HF.out j h1 hj h3
          · have h4 := hz (j - 64 * k) (by omega)
            unfold rowIn at h4
            rw [show 64 * k + (j - 64 * k) = j by omega] at h4
            simpa [h1, h3] using h4
        clear hz HF
        go_wp2_with fail
        go_roundw
        case rel => exact ⟨k + 1, m + nq, by omega, by omega, by go_num, HF2, hide (by rw [HW.out, World.drewN_drewN])⟩
        case measure => simp [intOf]; omega
      · have ht1 : A.testBit j = true := by rw [HA.out, num_bit]; simp [hj, hj1]
        have ht2 : ∀ i, i < j → A.testBit i = false := fun i hi => by rw [HA.out, num_bit, hj2 i hi]; simp
        have hA0 : ¬ ((A : Int) = 0) := by intro h0; have h1 : A = 0 := by omega
                                           subst h1; simp at ht1
        have HT := hide (fun m => tz64_any A j hl ht1 ht2 (w1.drewN m) (HBr.out.tab.turned ((Turned.refl [] w1).drewN m) (by simp)))
        have HJ : Hid (IsNext (F s) x y ((k * 64 : Nat) + (j : Int))) := by
          unfold rowIn at hj1 hj2
          simp only [Bool.and_eq_true, decide_eq_true_eq] at hj1
          refine .inr ⟨64 * k + j, by omega, by omega, by omega, hj1.1, fun i h1 h2 => ?_⟩
          by_cases hi : i < 64 * k
          · exact HF.out i h1 hi (by omega)
          · have h4 := hj2 (i - 64 * k) (by omega)
            rw [show 64 * k + (i - 64 * k) = i by omega] at h4
            have h5 : i < y := by omega
            simpa [h1, h5] using h4
        clear ht1 ht2 hj1 hj2 HF
        go_wp2_with fail
        refine (HT.out _).mono ?_
        rintro e w1 ⟨rfl, rfl⟩
        go_wp2_with fail
        go_ret
        exact ⟨_, rfl, by simpa using HJ.out, m + nq, by rw [HW.out, World.drewN_drewN]⟩
    · go_wp2_with fail
      go_ret
      refine ⟨_, rfl, .inl ⟨rfl, fun j h1 h2 => HF.out j h1 (by have := HY.out; omega) h2⟩, m, HW.out⟩

theorem next_any (ov : Option Addr) (n : Nat) (F : Nat → Nat → Bool) (x y : Int) (w : World) (h : Brd w ov n F) :
    Calls Tryd.prog 48 #[.pointer ov, .int .i64 x, .int .i64 y] w fun e w' => ∃ r : Int, e = .returned (.int .i64 r) ∧ IsNext (F 0) (kp n x) (kp n y) r ∧ ∃ m, w' = w.drewN m := by
  have HK := hide (keep_any ov n F x y w h)
  have HF := hide (first_any ov n F 0 (kp n x) (kp n y) w h (by omega) (kp_le _ _) (kp_le _ _))
  go_enter Tryd.func48, Tryd.ntmps48
  generalize kp n x = a at *
  generalize kp n y = b at *
  go_wp2_with fail
  refine (HK.out).mono ?_
  rintro e w1 ⟨rfl, rfl⟩
  go_wp2_with fail
  refine (HF.out).mono ?_
  rintro e w1 ⟨r, rfl, hr, m, rfl⟩
  go_wp2_with fail
  go_ret
  exact ⟨r, rfl, hr, m, rfl⟩

theorem lastBegin_any (ov : Option Addr) (n : Nat) (F : Nat → Nat → Bool) (x : Nat) (w : World) (h : Brd w ov n F) (hx : x < n) :
    Calls Tryd.prog 39 #[.pointer ov, .int .i64 (x : Int)] w fun e w' => ∃ r : Int, e = .returned (.int .i64 r) ∧ IsLast (F 0) x r ∧ ∃ m, w' = w.drewN m := by
  have hn := h.few
  have HB := hide h
  obtain ⟨x0, ex⟩ : ∃ x0 : Nat, x0 = x / 64 := ⟨_, rfl⟩
  have exi : ((x : Int) / 64) = (x0 : Int) := by omega
  have HX := hide ex
  have hx0 : x0 ≤ 1024 := by omega
  clear ex h
  go_enter Tryd.func39, Tryd.ntmps39
  go_wp2_with fail
  go_loopw [5] (fun i wr => ∃ (c : Int) (m : Nat), -1 ≤ c ∧ c ≤ x0 ∧ i = .int .i64 c ∧ Hid (∀ j : Nat, 64 * (c + 1) ≤ j → j ≤ x → F 0 j = false) ∧ Hid (wr = w.drewN m)) (fun i _ => (intOf i + 1).toNat)
  case atStart => exact ⟨x0, 0, by omega, by omega, by go_num, fun j h1 h2 => by have := HX.out; omega, rfl⟩
  case round =>
    obtain ⟨c, m, hc0, hc1, rfl, HF, HW⟩ := hrel
    have HBr : Hid (Brd wr ov n F) := by rw [HW.out]; exact HB.out.drewN m
    by_cases hlt : 0 ≤ c
    · obtain ⟨k, rfl⟩ := Int.eq_ofNat_of_zero_le hlt
      have hk : k ≤ x0 := by omega
      obtain ⟨p, q, R, rfl, c0, c1, hR, hc⟩ := HBr.out.some_ (by omega)
      have hkR : k < R := by have := HX.out; omega
      have c2 := hc k 0 hkR (by omega)
      rw [Nat.add_zero] at c2
      have HP := hide (fun w => part_any k 0 (x + 1) w (by omega) (by omega) (by omega))
      have key := row_and (F 0) 0 (x + 1) k
      have hl := num_lt64 (rowIn (F 0) 0 (x + 1) k)
      obtain ⟨A, eA⟩ : ∃ A, A = num (rowIn (F 0) 0 (x + 1) k) 64 := ⟨_, rfl⟩
      rw [← eA] at key hl
      have HA := hide eA
      clear eA hc c0 hR
      generalize rowN (F 0) k = X at *
      generalize num (fun j => decide (0 ≤ 64 * k + j) && decide (64 * k + j < x + 1)) 64 = Y at *
      have ex1 : (((x + 1 : Nat)) : Int) = (x : Int) + 1 := by omega
      rw [ex1] at HP
      have e0 : (((0 : Nat)) : Int) = (0 : Int) := rfl
      rw [e0] at HP
      clear ex1 e0
      go_wp2_with fail
      go_quiet ((go_at_call 52; exact Calls.quiet_of (HP.out _)))
      rcases high_bit (rowIn (F 0) 0 (x + 1) k) 64 with hz | ⟨j, hj, hj1, hj2⟩
      · have h0 : A = 0 := by rw [HA.out]; exact num_zero hz
        subst h0
        have HF2 : Hid (∀ j : Nat, 64 * ((k : Int) - 1 + 1) ≤ j → j ≤ x → F 0 j = false) := by
          intro j h1 h2
          by_cases hj : 64 * ((k : Int) + 1) ≤ j
          · exact HF.out j hj h2
          · have h4 := hz (j - 64 * k) (by omega)
            unfold rowIn at h4
            rw [show 64 * k + (j - 64 * k) = j by omega] at h4
            have h5 : j < x + 1 := by omega
            simpa [h5] using h4
        clear hz HF
        go_wp2_with fail
        go_roundw
        case rel => exact ⟨(k : Int) - 1, m + nq, by omega, by omega, by go_num, HF2, hide (by rw [HW.out, World.drewN_drewN])⟩
        case measure => simp [intOf]
      · have ht1 : A.testBit j = true := by rw [HA.out, num_bit]; simp [hj, hj1]
        have ht2 : ∀ i, j < i → A.testBit i = false := fun i hi => by
          rw [HA.out, num_bit]
          by_cases hi2 : i < 64
          · rw [hj2 i hi hi2]; simp
          · simp [hi2]
        have hA0 : ¬ ((A : Int) = 0) := by intro h0; have h1 : A = 0 := by omega
                                           subst h1; simp at ht1
        have HT := hide (fun w => len64_any A j hj ht1 ht2 w)
        have HJ : Hid (IsLast (F 0) x ((k : Int) * 64 + (j + 1 : Nat) - 1)) := by
          unfold rowIn at hj1 hj2
          simp only [Bool.and_eq_true, decide_eq_true_eq] at hj1
          refine .inr ⟨64 * k + j, by omega, by omega, hj1.1, fun i h1 h2 => ?_⟩
          by_cases hi : 64 * ((k : Int) + 1) ≤ i
          · exact HF.out i hi h2
          · have h4 := hj2 (i - 64 * k) (by omega) (by omega)
            rw [show 64 * k + (i - 64 * k) = i by omega] at h4
            have h5 : i < x + 1 := by omega
            simpa [h5] using h4
        clear ht1 ht2 hj1 hj2 HF
        go_wp2_with fail
        refine (HT.out _).mono ?_
        rintro e w1 ⟨rfl, rfl⟩
        go_wp2_with fail
        go_ret
        exact ⟨_, rfl, by simpa using HJ.out, m + nq, by rw [HW.out, World.drewN_drewN]⟩
    · have hd : decide (0 ≤ c) = false := decide_eq_false hlt
      go_wp2_with fail
      go_ret
      refine ⟨_, rfl, .inl ⟨rfl, fun j h1 => HF.out j (by omega) h1⟩, m, HW.out⟩
end Go.Proofs.YtcckflcjjgckoaaDoor.Bt
