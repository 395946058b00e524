/-
  What Live tells: how many live words stand in a range.
-/
import Derived.Test.YtcckflcjjgckoaaDoorBitsOver
namespace Go.Proofs.YtcckflcjjgckoaaDoor.Bt
open Go.RowKit
set_option linter.unusedVariables false

set_option maxRecDepth 100000 in
theorem live_any (ov : Option Addr) (n : Nat) (S : Nat → Nat) (x y : Int) (w : World) (h : Brd w ov n (sidesOf S)) (hs : Bl n S) :
    Calls Tryd.prog 24 #[.pointer ov, .int .i64 x, .int .i64 y] w fun e w' => e = .returned (.int .i64 (cntIn (live S) (kp n x) (kp n y) : Nat)) ∧ Turned [] w w' := by
  have hn := h.few
  have HK := hide (keep_any ov n _ x y w h)
  have HB := hide h
  have ha := kp_le n x
  have hb := kp_le n y
  generalize kp n x = a at *
  generalize kp n y = b at *
  have HR := hide (fun w => rows_any b w (by omega))
  obtain ⟨x0, ex⟩ : ∃ x0 : Nat, x0 = a / 64 := ⟨_, rfl⟩
  have exi : ((a : Int) / 64) = (x0 : Int) := by omega
  obtain ⟨y0, ey⟩ : ∃ y0 : Nat, y0 = (b + 63) / 64 := ⟨_, rfl⟩
  rw [← ey] at HR
  have HX := hide ex
  have HY := hide ey
  have HS := hide hs
  have hx0 : x0 ≤ 1024 := by omega
  have hy0 : y0 ≤ 1024 := by omega
  obtain ⟨c, ec⟩ : ∃ c, c = cntIn (live S) a b := ⟨_, rfl⟩
  rw [← ec]
  have HC := hide ec
  have HO := hide (fun z => open_any ov n S (64 * z) w h hs)
  have HO0 := HO.out x0
  rw [show ((64 * x0 : Nat) : Int) = (x0 : Int) * 64 by omega] at HO0
  have HO1 := hide HO0
  obtain ⟨o0, eo⟩ : ∃ o0 : Nat, o0 = (opn S (64 * x0)).toNat := ⟨_, rfl⟩
  rw [← eo] at HO1
  have HE := hide eo
  clear ex ey ec h hs HO HO0 eo
  go_enter Tryd.func24, Tryd.ntmps24
  go_wp2_with fail
  refine (HK.out).mono ?_
  rintro e w1 ⟨rfl, rfl⟩
  go_wp2_with fail
  refine (HO1.out).mono ?_
  rintro e w2 ⟨rfl, m0, rfl⟩
  go_wp2_with fail
  refine (HR.out _).mono ?_
  rintro e w2 ⟨rfl, rfl⟩
  go_wp2_with fail
  go_loopw [8, 9, 30] (fun o s i wr => ∃ (k z oc : Nat), (k : Int) ≤ 1024 ∧ z ≤ 65536 + 64 ∧ oc ≤ 1 ∧ i = .int .i64 k ∧ s = .int .i64 z ∧ o = .int .u64 oc ∧ Hid (oc = (opn S (64 * (x0 + k))).toNat) ∧ Hid (z = cnt (inn (live S) a b) (64 * (x0 + k))) ∧ Hid (Turned [] w1 wr)) (fun _ _ i _ => (y0 - x0) - (intOf i).toNat)
  case atStart => exact ⟨0, 0, o0, by omega, by omega, by rw [HE.out]; exact toNat_le1 _, rfl, rfl, rfl, HE.out, (cnt_inn_low _ _ _ _ (by have := HX.out; omega)).symm, (Turned.refl [] w1).drewN m0⟩
  case round =>
    obtain ⟨k, z, oc, hk, hz, hoc, rfl, rfl, rfl, HOC, HZ, HT⟩ := hrel
    have HBr : Hid (Brd wr ov n (sidesOf S)) := HB.out.turned HT.out
    by_cases hlt : (k : Int) < (y0 : Int) - (x0 : Int)
    · obtain ⟨p, q, R, rfl, c0, c1, hR, hc⟩ := HBr.out.some_ (by have := HY.out; omega)
      obtain ⟨i, hi⟩ : ∃ i : Nat, i = x0 + k := ⟨_, rfl⟩
      have hii : (x0 : Int) + (k : Int) = (i : Int) := by omega
      have hkR : i < R := by have := HY.out; omega
      have c2 := hc i 0 hkR (by omega)
      rw [Nat.add_zero] at c2
      have c3 := hc i 1 hkR (by omega)
      rw [sidesOf0] at c2
      rw [sidesOf1] at c3
      have HP := hide (fun w => part_any i a b w (by omega) (by omega) (by omega))
      have key := row_and (live S) a b i
      have hl := num_lt64 (rowIn (live S) a b i)
      have HON := hide (fun w => ones64_any _ hl w)
      have hz2 := cnt_le (rowIn (live S) a b i) 64
      have hz3 : cnt (inn (live S) a b) (64 * (i + 1)) ≤ 65536 + 64 := by
        by_cases hb2 : b ≤ 64 * (i + 1)
        · rw [cnt_inn _ _ _ _ hb2]; have := cntIn_le (live S) a b; omega
        · have := cnt_le (inn (live S) a b) (64 * (i + 1)); omega
      have HZ2 : Hid (z + cnt (rowIn (live S) a b i) 64 = cnt (inn (live S) a b) (64 * (x0 + (k + 1)))) := hide (by
        have h1 := cnt_inn_row (live S) a b i
        rw [show x0 + (k + 1) = i + 1 by omega, h1, hi, ← HZ.out])
      have hz4 : z + cnt (rowIn (live S) a b i) 64 ≤ 65536 + 64 := by rw [HZ2.out, show x0 + (k + 1) = i + 1 by omega]; exact hz3
      rw [cnt_num] at HON
      have krow := live_row HS.out i
      have kopn := open_row HS.out i
      rw [show 64 * i = 64 * (x0 + k) by omega, ← HOC.out] at krow
      have hoc2 : (opn S (64 * (i + 1))).toNat ≤ 1 := toNat_le1 _
      rw [show 64 * i = 64 * (x0 + k) by omega, ← HOC.out] at kopn
      have HOC2 : Hid ((opn S (64 * (i + 1))).toNat = (opn S (64 * (x0 + (k + 1)))).toNat) := hide (by rw [hi, show x0 + k + 1 = x0 + (k + 1) by omega])
      have HN0 := hide (fun w => ones_any _ (rowN_lt (begs S) i) w)
      have HN1 := hide (fun w => ones_any _ (rowN_lt (ends S) i) w)
      have e0 : cnt (rowN (begs S) i).testBit 64 = cnt (fun j => begs S (64 * (x0 + k) + j)) 64 := by rw [← hi]; exact cnt_num _ _
      have e1 : cnt (rowN (ends S) i).testBit 64 = cnt (fun j => ends S (64 * (x0 + k) + j)) 64 := by rw [← hi]; exact cnt_num _ _
      rw [e0] at HN0
      rw [e1] at HN1
      have HI := hide hi
      have lb := rowN_lt (begs S) i
      have le := rowN_lt (ends S) i
      clear hc c0 hR hl HZ hz3 hi HOC e0 e1
      generalize (opn S (64 * (i + 1))).toNat = oc2 at *
      generalize cnt (fun j => begs S (64 * (x0 + k) + j)) 64 = cb at *
      generalize cnt (fun j => ends S (64 * (x0 + k) + j)) 64 = ce at *
      generalize num (rowIn (live S) a b i) 64 = A at *
      generalize cnt (rowIn (live S) a b i) 64 = d at *
      generalize rowN (live S) i = L at *
      generalize rowN (begs S) i = X at *
      generalize rowN (ends S) i = E at *
      generalize num (fun j => decide (a ≤ 64 * i + j) && decide (64 * i + j < b)) 64 = Y at *
      go_wp2_with fail
      have HT1 := hide (HT.out.alloc (Obj.cells #[Value.int IntKind.u64 (X : Int), Value.int IntKind.u64 (E : Int)] 78))
      have d0 : (wr.alloc (Obj.cells #[Value.int IntKind.u64 (X : Int), Value.int IntKind.u64 (E : Int)] 78)).cell? ⟨wr.heap.size, 0, none⟩ = some (.int .u64 (X : Int)) := by rw [cell_of_heap (heap_alloc_new _ _)]; rfl
      have d1 : (wr.alloc (Obj.cells #[Value.int IntKind.u64 (X : Int), Value.int IntKind.u64 (E : Int)] 78)).cell? ⟨wr.heap.size, 1, none⟩ = some (.int .u64 (E : Int)) := by rw [cell_of_heap (heap_alloc_new _ _)]; rfl
      generalize wr.alloc (Obj.cells #[Value.int IntKind.u64 (X : Int), Value.int IntKind.u64 (E : Int)] 78) = W1 at *
      generalize wr.heap.size = g at *
      clear c1 c2 c3
      refine (HP.out _).mono ?_
      rintro e w3 ⟨rfl, m3, rfl⟩
      have HT2 := hide (HT1.out.drewN m3)
      have d2 : (W1.drewN m3).cell? ⟨g, 0, none⟩ = some (.int .u64 (X : Int)) := d0
      have d3 : (W1.drewN m3).cell? ⟨g, 1, none⟩ = some (.int .u64 (E : Int)) := d1
      clear d0 d1 HT1
      generalize W1.drewN m3 = W2 at *
      go_wp2_with fail
      refine (HON.out _).mono ?_
      rintro e w3 ⟨rfl, rfl⟩
      go_wp2_with fail
      go_quiet ((go_at_call 53; first | exact Calls.quiet_of_same (HN0.out _) | exact Calls.quiet_of_same (HN1.out _)))
      go_wp2_with fail
      go_roundw
      case rel => exact ⟨k + 1, z + d, oc2, by omega, by omega, hoc2, by go_num, by go_num, rfl, HOC2.out, HZ2, hide (HT2.out.drewN nq)⟩
      case measure => simp [intOf]; omega
    · have hzc : z = c := by
        rw [HZ.out, HC.out]
        exact cnt_inn _ _ _ _ (by have := HY.out; omega)
      subst hzc
      go_wp2_with fail
      go_ret
      exact ⟨rfl, HT.out⟩
end Go.Proofs.YtcckflcjjgckoaaDoor.Bt
