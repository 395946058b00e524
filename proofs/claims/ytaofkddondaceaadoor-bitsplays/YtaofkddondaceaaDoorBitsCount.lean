/-
  What Count tells; what Size, Over and Has tell of blocks that lie apart ('Bl').
-/
import Derived.Test.YtaofkddondaceaaDoorBitsFirst
namespace Go.Proofs.YtaofkddondaceaaDoor
open Go.RowKit
set_option linter.unusedVariables false

/-- Of a range. -/
def inn (f : Nat → Bool) (x y : Nat) : Nat → Bool := fun k => f k && (decide (x ≤ k) && decide (k < y))
/-- How many of a range. -/
def cntIn (f : Nat → Bool) (x y : Nat) : Nat := cnt (inn f x y) y
theorem cnt_num (f : Nat → Bool) (m : Nat) : cnt (num f m).testBit m = cnt f m := by
  refine cnt_congr fun j hj => ?_
  rw [num_bit]
  simp [hj]
theorem cntIn_le (f : Nat → Bool) (x y : Nat) : cntIn f x y ≤ y := cnt_le _ _
theorem cnt_inn (f : Nat → Bool) (x y b : Nat) (h : y ≤ b) : cnt (inn f x y) b = cntIn f x y := by
  unfold cntIn
  refine cnt_stop h fun k h1 h2 => ?_
  unfold inn
  have : ¬ k < y := by omega
  simp [this]
theorem cnt_inn_row (f : Nat → Bool) (x y i : Nat) : cnt (inn f x y) (64 * (i + 1)) = cnt (inn f x y) (64 * i) + cnt (rowIn f x y i) 64 := by
  rw [show 64 * (i + 1) = 64 * i + 64 by omega, cnt_add]
  rfl
theorem cnt_inn_low (f : Nat → Bool) (x y i : Nat) (h : 64 * i ≤ x) : cnt (inn f x y) (64 * i) = 0 := by
  refine cnt_zero fun j hj => ?_
  unfold inn
  have : ¬ x ≤ j := by omega
  simp [this]

theorem count_any (ov : Option Addr) (n : Nat) (F : Nat → Nat → Bool) (x y : Int) (w : World) (h : Brd w ov n F) :
    Calls Tryd.prog 23 #[.pointer ov, .int .i64 x, .int .i64 y] w fun e w' => e = .returned (.int .i64 (cntIn (F 0) (kp n x) (kp n y) : Nat)) ∧ ∃ m, w' = w.drewN m := by
  have hn := h.few
  have HK := hide (keep_any ov n F x y w h)
  have HB := hide h
  have ha := kp_le n x
  have hb := kp_le n y
  clear h
  generalize kp n x = a at *
  generalize kp n y = b at *
  have HR := hide (fun w => rows_any b w (by omega))
  obtain ⟨x0, ex⟩ : ∃ x0 : Nat, x0 = a / 64 := ⟨_, rfl⟩
  have exi : ((a : Int) / 64) = (x0 : Int) := by omega
  obtain ⟨y0, ey⟩ : ∃ y0 : Nat, y0 = (b + 63) / 64 := ⟨_, rfl⟩
  rw [← ey] at HR
  have HX := hide ex
  have HY := hide ey
  have hx0 : x0 ≤ 1024 := by omega
  have hy0 : y0 ≤ 1024 := by omega
  obtain ⟨c, ec⟩ : ∃ c, c = cntIn (F 0) a b := ⟨_, rfl⟩
  rw [← ec]
  have HC := hide ec
  clear ex ey ec
  go_enter Tryd.func23, Tryd.ntmps23
  go_wp2_with fail
  refine (HK.out).mono ?_
  rintro e w1 ⟨rfl, rfl⟩
  go_wp2_with fail
  refine (HR.out _).mono ?_
  rintro e w1 ⟨rfl, rfl⟩
  go_wp2_with fail
  go_loopw [8, 23] (fun s i wr => ∃ (k m z : Nat), (k : Int) ≤ 1024 ∧ z ≤ 65536 + 64 ∧ i = .int .i64 k ∧ s = .int .i64 z ∧ Hid (z = cnt (inn (F 0) a b) (64 * (x0 + k))) ∧ Hid (wr = w1.drewN m)) (fun _ i _ => (y0 - x0) - (intOf i).toNat)
  case atStart => exact ⟨0, 0, 0, by omega, by omega, rfl, rfl, (cnt_inn_low _ _ _ _ (by have := HX.out; omega)).symm, rfl⟩
  case round =>
    obtain ⟨k, m, z, hk, hz, rfl, rfl, HZ, HW⟩ := hrel
    have HBr : Hid (Brd wr ov n F) := by rw [HW.out]; exact HB.out.drewN m
    by_cases hlt : (k : Int) < (y0 : Int) - (x0 : Int)
    · obtain ⟨p, q, R, rfl, c0, c1, hR, hc⟩ := HBr.out.some_ (by have := HY.out; omega)
      obtain ⟨i, hi⟩ : ∃ i : Nat, i = x0 + k := ⟨_, rfl⟩
      have hii : (x0 : Int) + (k : Int) = (i : Int) := by omega
      have hkR : i < R := by have := HY.out; omega
      have c2 := hc i 0 hkR (by omega)
      rw [Nat.add_zero] at c2
      have HP := hide (fun w => part_any i a b w (by omega) (by omega) (by omega))
      have key := row_and (F 0) a b i
      have hl := num_lt64 (rowIn (F 0) a b i)
      have HO := hide (fun w => ones64_any _ hl w)
      have hz2 := cnt_le (rowIn (F 0) a b i) 64
      have hz3 : cnt (inn (F 0) a b) (64 * (i + 1)) ≤ 65536 + 64 := by
        by_cases hb2 : b ≤ 64 * (i + 1)
        · rw [cnt_inn _ _ _ _ hb2]; have := cntIn_le (F 0) a b; omega
        · have := cnt_le (inn (F 0) a b) (64 * (i + 1)); omega
      have HZ2 : Hid (z + cnt (rowIn (F 0) a b i) 64 = cnt (inn (F 0) a b) (64 * (x0 + (k + 1)))) := hide (by
        have h1 := cnt_inn_row (F 0) a b i
        rw [show x0 + (k + 1) = i + 1 by omega, h1, hi, ← HZ.out])
      have hz4 : z + cnt (rowIn (F 0) a b i) 64 ≤ 65536 + 64 := by rw [HZ2.out, show x0 + (k + 1) = i + 1 by omega]; exact hz3
      rw [cnt_num] at HO
      have HI := hide hi
      clear hc c0 hR hl HZ hz3 hi
      generalize num (rowIn (F 0) a b i) 64 = A at *
      generalize cnt (rowIn (F 0) a b i) 64 = d at *
      generalize rowN (F 0) i = X at *
      generalize num (fun j => decide (a ≤ 64 * i + j) && decide (64 * i + j < b)) 64 = Y at *
      have wi : IntKind.i64.wrap (i : Int) = (i : Int) := by rw [IntKind.wrap_i64]; omega
      go_wp2_with fail
      go_quiet (first | (go_at_call 37; exact Calls.quiet_of (HP.out _)) | (go_at_call 36; exact Calls.quiet_of_same (HO.out _)))
      go_wp2_with fail
      go_roundw
      case rel => exact ⟨k + 1, m + nq, z + d, by omega, by omega, by go_num, by go_num, HZ2, hide (by rw [HW.out, World.drewN_drewN])⟩
      case measure => simp [intOf]; omega
    · have hzc : z = c := by
        rw [HZ.out, HC.out]
        exact cnt_inn _ _ _ _ (by have := HY.out; omega)
      subst hzc
      go_wp2_with fail
      go_ret
      exact ⟨rfl, m, HW.out⟩
end Go.Proofs.YtaofkddondaceaaDoor
