/-
  SafeStands: once all stand nobody runs till they are let go on, whatever comes; then all that were parked run: true for every threads that are held, and every calls, of bulk at most 1048576 together.
-/
import Derived.Test.YtclfeafmlngpnaaSafeStandsP
import Derived.Test.YtclfeafmlngpnaaSafeOpen
import Derived.Test.YtclfeafmlngpnaaSafeSame
import Derived.Deep.Cut
import Derived.Deep.CutBlock
import Derived.Deep.CutRange
import Derived.Deep.DeepCutAuto
import Derived.Deep.LoopGhost
namespace Go.Proofs.Ytclfeafmlngpnaa
open Go.ChangeShapes Go.WideShapes Go.ChangeAt Go.RowKit Go.Maps
set_option linter.unusedVariables false

theorem tmod6 (x : Int) : x.tmod 6 = -5 ∨ x.tmod 6 = -4 ∨ x.tmod 6 = -3 ∨ x.tmod 6 = -2 ∨ x.tmod 6 = -1 ∨ x.tmod 6 = 0 ∨ x.tmod 6 = 1 ∨ x.tmod 6 = 2 ∨ x.tmod 6 = 3 ∨ x.tmod 6 = 4 ∨ x.tmod 6 = 5 := by
  have h1 := Int.tmod_lt_of_pos x (show (0 : Int) < 6 by omega)
  have h2 := Int.lt_tmod_of_pos x (show (0 : Int) < 6 by omega)
  omega
theorem grow_le {n k : Nat} (h : n ≤ 20 + k * 1048576) : n ≤ 20 + (k + 1) * 1048576 := Nat.le_trans h (Nat.add_le_add_left (Nat.mul_le_mul_right _ (Nat.le_succ k)) 20)
theorem wrap_small {x : Int} (h : 0 ≤ x ∧ x ≤ 1000) : wrap64 x = x := by unfold wrap64; omega
theorem call_cells (w : World) (K At : Int) (aL : Option Addr) (lL cL : Nat) : (w.alloc (.cells #[.int .i64 K, .int .i64 At, .slice aL lL cL] 31)).cell? ⟨w.heap.size, 1, none⟩ = some (.int .i64 At) ∧ (w.alloc (.cells #[.int .i64 K, .int .i64 At, .slice aL lL cL] 31)).cell? ⟨w.heap.size, 2, none⟩ = some (.slice aL lL cL) :=
  ⟨by rw [cell_of_heap (heap_alloc_new _ _)]; rfl, by rw [cell_of_heap (heap_alloc_new _ _)]; rfl⟩

set_option maxHeartbeats 8000000 in
set_option maxRecDepth 100000 in
theorem safeStands_walk (ao : Option Addr) (len cap : Nat) (bs : Nat → Bool) (bo : Option Addr) (len2 cap2 : Nat) (w : World) (hb : BRd w ao len bs) (hl0 : len ≤ 9223372036854775807) (ho : OpsRd w bo len2) (hl1 : len ≤ 1048576) (hl2 : len2 ≤ 1048576) :
    Calls Try.prog 4 #[.slice ao len cap, .slice bo len2 cap2] w fun e w' => e = .returned (.bool true) ∧ Turned [] w w' := by
  have HB := hide hb
  have HO := hide ho
  have HAw := hide (awake_any w)
  clear hb ho hl0
  go_enter Try.func4, Try.ntmps4
  go_wp2_with fail
  refine HAw.out.mono ?_
  rintro e w1 ⟨rfl, t1⟩
  have HN := hide (sn_new w w1 t1)
  unfold ptr at HN
  clear t1 HAw
  go_wp2_with fail
  refine HN.out.mono ?_
  rintro e w2 ⟨rfl, h2, -⟩
  have H2 := hide h2
  clear h2 HN
  generalize w1.heap.size = a at *
  go_wp2_with fail
  go_loopg [7, 8] 22 (fun gg s7 s8 wr => ∃ (i : Nat) (L : Th), i ≤ 20 ∧ 20 - i ≤ gg ∧ s8 = .int .i64 (i : Int) ∧ s7 = .int .i64 (i : Int) ∧ Aside (One i L) ∧ Aside (Sn w wr a L false))
  case atStart => exact ⟨0, [], by omega, by omega, rfl, rfl, One.nil, H2.out⟩
  case round =>
    obtain ⟨i, L, hi, hgg, rfl, rfl, HI, HS⟩ := hrel
    go_upto_region 7 with fail
    go_cut [28] (fun s28 wc => ∃ bb : Bool, s28 = .bool bb ∧ Aside (bb = decide (i < len ∧ i < 20)) ∧ Aside (wc = wr))
    case first =>
      by_cases hil : i < len
      · have e1 : (i : Int) < (len : Int) := by omega
        by_cases hi2 : i < 20
        · have e2 : (i : Int) < 20 := by omega
          go_wp2_with fail
          go_meet
          case rel => exact ⟨true, by go_num, by show true = _; rw [decide_eq_true ⟨hil, hi2⟩], rfl⟩
        · have e2 : ¬ ((i : Int) < 20) := by omega
          go_wp2_with fail
          go_meet
          case rel => exact ⟨false, by go_num, by show false = _; rw [decide_eq_false (fun h => hi2 h.2)], rfl⟩
      · have e1 : ¬ ((i : Int) < (len : Int)) := by omega
        go_wp2_with fail
        go_meet
        case rel => exact ⟨false, by go_num, by show false = _; rw [decide_eq_false (fun h => hil h.1)], rfl⟩
    case rest =>
      obtain ⟨bb, rfl, hbb, hwc⟩ := hcut
      have hwc' := hwc.out
      subst hwc'
      have HBB := hide hbb.out
      clear hwc hbb
      obtain ⟨wr, hwr⟩ : ∃ wr, wr = wc := ⟨_, rfl⟩
      subst hwr
      cases bb
      · have HA := hide (sn_arm HS.out)
        unfold ptr at HA
        have HTw := hide HI.out.two
        have HLe := hide (show L.length ≤ 20 by have := HI.out.len; omega)
        go_wp2_with fail
        refine HA.out.mono ?_
        rintro e w3 ⟨rfl, h3, -⟩
        have H3 := hide h3
        clear h3 HA HS HI HBB hgg
        go_wp2_with fail
        go_loopg [9] 22 (fun gg s9 wr => ∃ (j : Nat) (M : Th), 1 ≤ j ∧ j ≤ i + 1 ∧ i + 1 - j ≤ gg ∧ s9 = .int .i64 (j : Int) ∧ Aside (Two j i M) ∧ Aside (M.length ≤ 20) ∧ Aside (Sn w wr a M true))
        case atStart => exact ⟨1, L, by omega, by omega, by omega, rfl, HTw.out, HLe.out, H3.out⟩
        case round =>
          obtain ⟨j, M, hj1, hj, hgg, rfl, HT, HL, HS⟩ := hrel
          by_cases hji : j ≤ i
          · have e1 : (j : Int) ≤ (i : Int) := by omega
            have h64 : In64 (j : Int) := in64_small (by omega)
            have HC := hide (sn_state HS.out j h64)
            have HP := hide (sn_poll HS.out j h64)
            have HT2 := hide HT.out.poll
            have HL2 := hide (show (pollL M true j).length ≤ 20 by rw [poll_length]; exact HL.out)
            unfold ptr at HC HP
            have hpb : polls M true j = decide (st M j = 1) := by simp [polls]
            rw [hpb] at HP
            generalize pollL M true j = M2 at *
            clear hpb HS HT
            by_cases hs : st M j = 1
            · rw [hs] at HC
              rw [decide_eq_true hs] at HP
              clear hs
              go_wp2_with fail
              refine HC.out.mono ?_
              rintro e w4 ⟨rfl, hw⟩
              rw [hw]
              clear hw w4 HC
              go_wp2_with fail
              refine HP.out.mono ?_
              rintro e w4 ⟨rfl, h4, -⟩
              have H4 := hide h4
              clear h4 HP
              go_wp2_with fail
              go_roundg (i + 1 - (j + 1))
              case measure => omega
              case rel => exact ⟨j + 1, M2, by omega, by omega, Nat.le_refl _, by first | rfl | (rw [wrap_small (by omega)]; rfl), HT2.out, HL2.out, H4.out⟩
            · rw [decide_eq_false hs] at HP
              have b1 : (st M j == 1) = false := by simp [hs]
              generalize st M j = sj at *
              go_wp2_with fail
              refine HC.out.mono ?_
              rintro e w4 ⟨rfl, hw⟩
              rw [hw]
              clear hw w4 HC
              go_wp2_with fail
              refine HP.out.mono ?_
              rintro e w4 ⟨rfl, h4, -⟩
              have H4 := hide h4
              clear h4 HP
              go_wp2_with fail
              go_roundg (i + 1 - (j + 1))
              case measure => omega
              case rel => exact ⟨j + 1, M2, by omega, by omega, Nat.le_refl _, by first | rfl | (rw [wrap_small (by omega)]; rfl), HT2.out, HL2.out, H4.out⟩
          · have hje : j = i + 1 := by omega
            subst hje
            have e1 : ¬ ((i + 1 : Nat) : Int) ≤ (i : Int) := by omega
            have HNR := hide HT.out.nr
            have HRe := hide (sn_reached HS.out)
            rw [show reach M true = true by simp [reach, HNR.out.still HS.out.ok]] at HRe
            unfold ptr at HRe
            have HL0 := hide (show M.length ≤ 20 + 0 * 1048576 by have := HL.out; omega)
            go_wp2_with fail
            refine HRe.out.mono ?_
            rintro e w4 ⟨rfl, h4, -⟩
            have H4 := hide h4
            clear h4 HRe HS HT HL
            go_wp2_with fail
            go_loopg [11] 62 (fun gg s11 wr => ∃ (k : Nat) (M : Th), k ≤ 60 ∧ 60 - k ≤ gg ∧ s11 = .int .i64 (k : Int) ∧ Aside (NR M) ∧ Aside (M.length ≤ 20 + k * 1048576) ∧ Aside (Sn w wr a M true))
            case atStart => exact ⟨0, M, by omega, by omega, rfl, HNR.out, HL0.out, H4.out⟩
            case round =>
              obtain ⟨k, M, hk, hgg, rfl, HNr, HL, HS⟩ := hrel
              go_upto_region 24 with fail
              go_cut [76] (fun s76 wc => ∃ bb : Bool, s76 = .bool bb ∧ Aside (bb = decide (k < len2 ∧ k < 60)) ∧ Aside (wc = wr))
              case first =>
                by_cases hil : k < len2
                · have e1 : (k : Int) < (len2 : Int) := by omega
                  by_cases hi2 : k < 60
                  · have e2 : (k : Int) < 60 := by omega
                    go_wp2_with fail
                    go_meet
                    case rel => exact ⟨true, by go_num, by show true = _; rw [decide_eq_true ⟨hil, hi2⟩], rfl⟩
                  · have e2 : ¬ ((k : Int) < 60) := by omega
                    go_wp2_with fail
                    go_meet
                    case rel => exact ⟨false, by go_num, by show false = _; rw [decide_eq_false (fun h => hi2 h.2)], rfl⟩
                · have e1 : ¬ ((k : Int) < (len2 : Int)) := by omega
                  go_wp2_with fail
                  go_meet
                  case rel => exact ⟨false, by go_num, by show false = _; rw [decide_eq_false (fun h => hil h.1)], rfl⟩
              case rest =>
                obtain ⟨bb, rfl, hbb, hwc⟩ := hcut
                have hwc' := hwc.out
                subst hwc'
                have HBB := hide hbb.out
                clear hwc hbb
                obtain ⟨wr, hwr⟩ : ∃ wr, wr = wc := ⟨_, rfl⟩
                subst hwr
                cases bb
                · have hML : M.length < 17592186044416 := HS.out.few
                  have HI2 := hide (sn_in (HS.out.next ((Turned.refl [] wr).alloc (.cells #[.int .i64 2] 3))) (some ⟨wr.heap.size, 0, none⟩) 1 1 [2] (one_new wr 2 (in64_small (by omega))) (by omega))
                  unfold ptr at HI2
                  have HOk := hide HS.out.ok
                  have HP64 := hide (in_in64 HS.out.ok [2])
                  have HPl := hide (show (parked M).length < 17592186044416 by have := in_length M [2]; unfold parked; omega)
                  obtain ⟨z1, z2⟩ := HNr.out.resumed HS.out.ok
                  have HZ1 := hide z1
                  have HZ2 := hide z2
                  have HRch := hide (show reach M true = true by simp [reach, HNr.out.still HS.out.ok])
                  clear z1 z2 HS hML
                  clear hk hi hj hl1 hl2 hgg HBB HL
                  go_wp2_with fail
                  refine HI2.out.mono ?_
                  rintro e w5 ⟨v5, rfl, r5, h5, -⟩
                  have HR5 : Hid (Row w5 _ v5 (parked M)) := r5
                  have HRs := hide (sn_resume h5)
                  rw [show resumeT M true = parked M by unfold resumeT; rw [HRch.out]; rfl, show resumeL M true = resL M by unfold resumeL; rw [HRch.out]; rfl, show resumeA M true = false by unfold resumeA; rw [HRch.out]; rfl] at HRs
                  unfold ptr at HRs
                  clear r5 h5 HI2
                  go_wp2_with fail
                  refine HRs.out.mono ?_
                  rintro e w6 ⟨v6, rfl, r6, h6, k6⟩
                  have HR6 := hide r6
                  have HR56 := hide (HR5.out.keeps k6)
                  have H6 := hide h6
                  have HSm := hide (same_rows w6 _ _ v6 v5 _ _ r6 HR56.out HP64.out HP64.out HPl.out HPl.out)
                  rw [decide_eq_true (rfl : parked M = parked M)] at HSm
                  clear r6 h6 k6 HRs HR5
                  go_wp2_with fail
                  refine HSm.out.mono ?_
                  rintro e w7 ⟨rfl, t7⟩
                  have H7 := hide (H6.out.next (t7.alloc (.cells #[.int .i64 1] 3)))
                  have HR57 := hide (HR56.out.keeps (Keeps.of_turned (t7.alloc (.cells #[.int .i64 1] 3))))
                  have HI7 := hide (sn_in H7.out (some ⟨w7.heap.size, 0, none⟩) 1 1 [1] (one_new w7 1 (in64_small (by omega))) (by omega))
                  rw [HZ1.out] at HI7
                  unfold ptr at HI7
                  clear t7 HSm H6 HR6 HR56
                  go_wp2_with fail
                  refine HI7.out.mono ?_
                  rintro e w8 ⟨v8, rfl, r8, h8, t8⟩
                  have H8 := hide h8
                  have HSm := hide (same_rows w8 _ _ v8 v5 _ _ r8 (HR57.out.keeps (Keeps.of_turned t8)) HP64.out HP64.out HPl.out HPl.out)
                  rw [decide_eq_true (rfl : parked M = parked M)] at HSm
                  clear r8 h8 t8 HI7 H7 HR57
                  go_wp2_with fail
                  refine HSm.out.mono ?_
                  rintro e w9 ⟨rfl, t9⟩
                  have H9 := hide (H8.out.next t9)
                  have HAm := hide (sn_armed H9.out)
                  unfold ptr at HAm
                  clear t9 HSm H8
                  go_wp2_with fail
                  refine HAm.out.mono ?_
                  rintro e w10 ⟨rfl, hw⟩
                  rw [hw]
                  clear hw w10 HAm
                  have HI9 := hide (sn_in (H9.out.next ((Turned.refl [] w9).alloc (.cells #[.int .i64 2] 3))) (some ⟨w9.heap.size, 0, none⟩) 1 1 [2] (one_new w9 2 (in64_small (by omega))) (by omega))
                  unfold ptr at HI9
                  go_wp2_with fail
                  refine HI9.out.mono ?_
                  rintro e w10 ⟨v, rfl, r10, h10, -⟩
                  obtain ⟨ao2, cp2, rfl⟩ := r10.size
                  rw [HZ2.out]
                  have HT := hide h10.turn
                  clear r10 h10 HI9
                  go_wp2_with fail
                  go_ret
                  exact ⟨rfl, HT.out⟩
                · obtain ⟨hk2, hk60⟩ : k < len2 ∧ k < 60 := of_decide_eq_true HBB.out.symm
                  have e1 : (k : Int) < (len2 : Int) := by omega
                  obtain ⟨b, off, K, At, aL, lL, cL, l, rfl, d0, d1, d2, hK, hAt, hl, hlL⟩ := HO.out.turned HS.out.turn k hk2
                  go_upto_block 6 with fail
                  obtain ⟨q1, q2⟩ := call_cells wr K At aL lL cL
                  have ht5 := (Turned.refl [] wr).alloc (.cells #[.int .i64 K, .int .i64 At, .slice aL lL cL] 31)
                  have H5 := hide (HS.out.next ht5)
                  have HI5 := hide (hl.turned ht5 (by simp))
                  clear ht5 hl HS d0 d1 d2 HBB
                  generalize wr.alloc (.cells #[.int .i64 K, .int .i64 At, .slice aL lL cL] 31) = w5 at *
                  generalize wr.heap.size = O at *
                  go_cut [90] (fun _ wc => ∃ R : Th, Aside (NR R) ∧ Aside (R.length ≤ 20 + (k + 1) * 1048576) ∧ Aside (Sn w wc a R true))
                  case first =>
                    have h6 := tmod6 K
                    generalize K.tmod 6 = kc at *
                    rcases h6 with rfl | rfl | rfl | rfl | rfl | rfl | rfl | rfl | rfl | rfl | rfl
                    · have HC := hide (sn_poll H5.out At hAt)
                      rw [HNr.out.poll true At, HNr.out.polls true At] at HC
                      have HN8 := hide HNr.out
                      have HL8 := hide (grow_le HL.out)
                      unfold ptr at HC
                      clear hk hk2 hk60 e1 hlL hi hj1 hji hl1 hl2
                      go_wp2_with fail
                      refine HC.out.mono ?_
                      rintro e w8 ⟨rfl, h8, -⟩
                      have H8 := hide h8
                      clear h8 HC
                      go_wp2_with fail
                      go_meet
                      case rel => exact ⟨_, HN8.out, HL8.out, H8.out⟩
                    · have HC := hide (sn_arm H5.out)
                      have HN8 := hide HNr.out
                      have HL8 := hide (grow_le HL.out)
                      unfold ptr at HC
                      clear hk hk2 hk60 e1 hlL hi hj1 hji hl1 hl2
                      go_wp2_with fail
                      refine HC.out.mono ?_
                      rintro e w8 ⟨rfl, h8, -⟩
                      have H8 := hide h8
                      clear h8 HC
                      go_wp2_with fail
                      go_meet
                      case rel => exact ⟨_, HN8.out, HL8.out, H8.out⟩
                    · have HC := hide (sn_hold H5.out At hAt)
                      rw [HNr.out.hold At] at HC
                      have HN8 := hide HNr.out
                      have HL8 := hide (grow_le HL.out)
                      generalize mustE (st M At) 1 = zq at *
                      unfold ptr at HC
                      clear hk hk2 hk60 e1 hlL hi hj1 hji hl1 hl2
                      go_wp2_with fail
                      refine HC.out.mono ?_
                      rintro e w8 ⟨rfl, h8, -⟩
                      have H8 := hide h8
                      clear h8 HC
                      go_wp2_with fail
                      go_meet
                      case rel => exact ⟨_, HN8.out, HL8.out, H8.out⟩
                    · have HC := hide (sn_free H5.out At hAt)
                      have HN8 := hide (HNr.out.free At)
                      have HL8 := hide (show (freeL M true At).length ≤ 20 + (k + 1) * 1048576 by rw [free_length]; exact grow_le HL.out)
                      generalize freeL M true At = R at *
                      generalize (decide (st M At = 3) && !true) = bq at *
                      generalize mustE (st M At) 3 = zq at *
                      unfold ptr at HC
                      clear hk hk2 hk60 e1 hlL hi hj1 hji hl1 hl2
                      go_wp2_with fail
                      refine HC.out.mono ?_
                      rintro e w8 ⟨rfl, h8, -⟩
                      have H8 := hide h8
                      clear h8 HC
                      go_wp2_with fail
                      go_meet
                      case rel => exact ⟨_, HN8.out, HL8.out, H8.out⟩
                    · have HC := hide (sn_end H5.out aL lL cL l HI5.out (by omega))
                      have HN8 := hide (HNr.out.end_ l)
                      have HL8 := hide (Nat.le_trans (end_length M l) (grow_le HL.out))
                      generalize endR M l = R at *
                      unfold ptr at HC
                      clear hk hk2 hk60 e1 hlL hi hj1 hji hl1 hl2
                      go_wp2_with fail
                      refine HC.out.mono ?_
                      rintro e w8 ⟨rfl, h8, -⟩
                      have H8 := hide h8
                      clear h8 HC
                      go_wp2_with fail
                      go_meet
                      case rel => exact ⟨_, HN8.out, HL8.out, H8.out⟩
                    · have HC := hide (sn_add H5.out aL lL cL l HI5.out (by have h2 := HL.out; omega))
                      have HN8 := hide (HNr.out.add l)
                      have HL8 := hide (show (addR true M l).1.length ≤ 20 + (k + 1) * 1048576 by have h1 := add_length true M l; have h2 := HL.out; have h3 := HI5.out.size; omega)
                      generalize addR true M l = R at *
                      unfold ptr at HC
                      clear hk hk2 hk60 e1 hlL hi hj1 hji hl1 hl2
                      go_wp2_with fail
                      refine HC.out.mono ?_
                      rintro e w8 ⟨rfl, h8, -⟩
                      have H8 := hide h8
                      clear h8 HC
                      go_wp2_with fail
                      go_meet
                      case rel => exact ⟨_, HN8.out, HL8.out, H8.out⟩
                    · have HC := hide (sn_end H5.out aL lL cL l HI5.out (by omega))
                      have HN8 := hide (HNr.out.end_ l)
                      have HL8 := hide (Nat.le_trans (end_length M l) (grow_le HL.out))
                      generalize endR M l = R at *
                      unfold ptr at HC
                      clear hk hk2 hk60 e1 hlL hi hj1 hji hl1 hl2
                      go_wp2_with fail
                      refine HC.out.mono ?_
                      rintro e w8 ⟨rfl, h8, -⟩
                      have H8 := hide h8
                      clear h8 HC
                      go_wp2_with fail
                      go_meet
                      case rel => exact ⟨_, HN8.out, HL8.out, H8.out⟩
                    · have HC := hide (sn_free H5.out At hAt)
                      have HN8 := hide (HNr.out.free At)
                      have HL8 := hide (show (freeL M true At).length ≤ 20 + (k + 1) * 1048576 by rw [free_length]; exact grow_le HL.out)
                      generalize freeL M true At = R at *
                      generalize (decide (st M At = 3) && !true) = bq at *
                      generalize mustE (st M At) 3 = zq at *
                      unfold ptr at HC
                      clear hk hk2 hk60 e1 hlL hi hj1 hji hl1 hl2
                      go_wp2_with fail
                      refine HC.out.mono ?_
                      rintro e w8 ⟨rfl, h8, -⟩
                      have H8 := hide h8
                      clear h8 HC
                      go_wp2_with fail
                      go_meet
                      case rel => exact ⟨_, HN8.out, HL8.out, H8.out⟩
                    · have HC := hide (sn_hold H5.out At hAt)
                      rw [HNr.out.hold At] at HC
                      have HN8 := hide HNr.out
                      have HL8 := hide (grow_le HL.out)
                      generalize mustE (st M At) 1 = zq at *
                      unfold ptr at HC
                      clear hk hk2 hk60 e1 hlL hi hj1 hji hl1 hl2
                      go_wp2_with fail
                      refine HC.out.mono ?_
                      rintro e w8 ⟨rfl, h8, -⟩
                      have H8 := hide h8
                      clear h8 HC
                      go_wp2_with fail
                      go_meet
                      case rel => exact ⟨_, HN8.out, HL8.out, H8.out⟩
                    · have HC := hide (sn_arm H5.out)
                      have HN8 := hide HNr.out
                      have HL8 := hide (grow_le HL.out)
                      unfold ptr at HC
                      clear hk hk2 hk60 e1 hlL hi hj1 hji hl1 hl2
                      go_wp2_with fail
                      refine HC.out.mono ?_
                      rintro e w8 ⟨rfl, h8, -⟩
                      have H8 := hide h8
                      clear h8 HC
                      go_wp2_with fail
                      go_meet
                      case rel => exact ⟨_, HN8.out, HL8.out, H8.out⟩
                    · have HC := hide (sn_poll H5.out At hAt)
                      rw [HNr.out.poll true At, HNr.out.polls true At] at HC
                      have HN8 := hide HNr.out
                      have HL8 := hide (grow_le HL.out)
                      unfold ptr at HC
                      clear hk hk2 hk60 e1 hlL hi hj1 hji hl1 hl2
                      go_wp2_with fail
                      refine HC.out.mono ?_
                      rintro e w8 ⟨rfl, h8, -⟩
                      have H8 := hide h8
                      clear h8 HC
                      go_wp2_with fail
                      go_meet
                      case rel => exact ⟨_, HN8.out, HL8.out, H8.out⟩
                  case rest =>
                    obtain ⟨R, HN8, HL8, HS8⟩ := hcut
                    have HRe := hide (sn_reached HS8.out)
                    rw [show reach R true = true by simp [reach, HN8.out.still HS8.out.ok]] at HRe
                    unfold ptr at HRe
                    have HNo := hide (HN8.out.none HS8.out.ok)
                    have HAr := hide (show k < 60 ∧ 60 - k ≤ gk from ⟨hk60, hgg⟩)
                    clear hk hk2 hk60 e1 hlL hi hj1 hji hl1 hl2 hgg
                    go_wp2_with fail
                    refine HRe.out.mono ?_
                    rintro e w9 ⟨rfl, h9, -⟩
                    have HIn := hide (sn_in (h9.next ((Turned.refl [] w9).alloc (.cells #[.int .i64 1] 3))) (some ⟨w9.heap.size, 0, none⟩) 1 1 [1] (one_new w9 1 (in64_small (by omega))) (by omega))
                    unfold ptr at HIn
                    clear h9 HRe HS8
                    go_wp2_with fail
                    refine HIn.out.mono ?_
                    rintro e w10 ⟨v, rfl, r10, h10, -⟩
                    obtain ⟨ao2, cp2, rfl⟩ := r10.size
                    rw [HNo.out]
                    have H10 := hide h10
                    clear r10 h10 HIn
                    go_wp2_with fail
                    obtain ⟨hk60, hgg⟩ := HAr.out
                    go_roundg (60 - (k + 1))
                    case measure => omega
                    case rel => exact ⟨k + 1, R, by omega, Nat.le_refl _, by first | rfl | (rw [wrap_small (by omega)]; rfl), HN8.out, HL8.out, H10.out⟩
      · obtain ⟨hil, hi2⟩ : i < len ∧ i < 20 := of_decide_eq_true HBB.out.symm
        have c1 : (i : Int) < (len : Int) := by omega
        have HE1 := hide (show wrap64 ((i : Int) + 1) = (i : Int) + 1 from wrap_small (by omega))
        have h64 : In64 ((i : Int) + 1) := in64_small (by omega)
        have HA := hide (sn_add (HS.out.next ((Turned.refl [] wr).alloc (.cells #[.int .i64 ((i : Int) + 1)] 3))) (some ⟨wr.heap.size, 0, none⟩) 1 1 [(i : Int) + 1] (one_new wr _ h64) (by have := HI.out.len; omega))
        unfold ptr at HA
        obtain ⟨q1, q2⟩ := HI.out.add
        have HQ1 := hide q1
        have HQ2 := hide q2
        clear q1 q2
        generalize addR false L [(i : Int) + 1] = M at *
        have e1 := HE1.out
        go_wp2_with fail
        refine HA.out.mono ?_
        rintro e w3 ⟨rfl, h3, -⟩
        have H3 := hide h3
        obtain ⟨g, off, rfl, hc⟩ := HB.out.turned h3.turn i hil
        have HH := hide (sn_hold h3 ((i : Int) + 1) h64)
        rw [HQ2.out, show mustE 1 1 = 0 by decide] at HH
        unfold ptr at HH
        clear h3 HA HS
        cases hbi : bs i
        · rw [hbi] at hc
          go_wp2_with fail
          clear e1
          go_roundg (20 - (i + 1))
          case measure => omega
          case rel => exact ⟨i + 1, _, by omega, Nat.le_refl _, by first | rfl | (rw [HE1.out]; rfl), by first | rfl | (rw [HE1.out]; rfl), HQ1.out, H3.out⟩
        · rw [hbi] at hc
          go_wp2_with fail
          refine HH.out.mono ?_
          rintro e w4 ⟨rfl, h4, -⟩
          have H4 := hide h4
          have HQ4 := hide (HQ1.out.hold ((i : Int) + 1))
          clear h4 HH H3
          go_wp2_with fail
          clear e1
          go_roundg (20 - (i + 1))
          case measure => omega
          case rel => exact ⟨i + 1, _, by omega, Nat.le_refl _, by first | rfl | (rw [HE1.out]; rfl), by first | rfl | (rw [HE1.out]; rfl), HQ4.out, H4.out⟩

set_option maxRecDepth 100000 in
theorem safeStands_lifted (os : Os) (started : os.Started) (H : Type) (enc : TypeId × Value → H) (F : Stop.Interp) :
    ReturnsInHanded {} Try.checked os 4 .any ((Rows.OpenSpec.upto Rows.safeStandsSpec).pre6 enc Try.prog Try.f4 Rows.safeStandsUptoRow.domain false) (((Rows.OpenSpec.upto Rows.safeStandsSpec).at F).post enc Try.prog Try.f4 false true false false) := by
  refine returnsInHanded_of_cond (C := Try.checked) (s := Rows.OpenSpec.upto Rows.safeStandsSpec) (k := Rows.uptoSmall) rfl own started (by kernel_rfl) Try.func4
    (OpenSpec.witness (enc := enc) (C := Try.checked) (s := Rows.OpenSpec.upto Rows.safeStandsSpec) (k := Rows.uptoSmall) rfl false ⟨#[], #[.slice none 0 0, .slice none 0 0], []⟩ 8 (by kernel_rfl) (by kernel_rfl) (by kernel_rfl)
      (x := ([.nil, .nil], [], [])) (by kernel_rfl) rfl (by kernel_rfl)) ?_
  intro W base args ds gs before hval0 hW _ hk _
  have hval : ∀ (j : Nat) t v, Try.f4.params[j]? = some t → args[j]? = some v → Value.okWide Try.prog W .any base t v := hval0
  have hW' := hW
  obtain ⟨p, q, hA0, hV, rfl, hfz, hnd⟩ := hW
  have hA : DataW.TrodAll enc Try.prog W 0 (fun _ => true) true Try.f4.params.toList args.toList ds p := hA0
  rw [Try.params4] at hA hval
  obtain ⟨v0, vs0, d0, ds0, p0, q0, hargs, rfl, rfl, h0, r0⟩ := trodAll_cons hA
  obtain ⟨v1, vs1, d1, ds1, p1, q1, rfl, rfl, rfl, h1, r1⟩ := trodAll_cons r0
  obtain ⟨rfl, rfl, rfl⟩ := trodAll_nil r1
  obtain rfl : args = #[v0, v1] := by cases args; simp_all
  obtain ⟨rfl, rfl⟩ := trodVars_none hV
  have hbulk := bulk_small hk
  simp only [List.append_nil, Rows.uptoBulkAll] at hbulk hW'
  obtain ⟨a0, len0, cap0, rfl⟩ := okWide_slice Try.underlying44 (hval 0 44 v0 rfl rfl)
  have k0 := h0
  have lt0 : ∀ x ∈ p0, x.block < W.heap.size := by obtain ⟨m, hm⟩ := k0; exact DataW.trod_lt m _ _ _ hm
  obtain ⟨z0, w0, l0⟩ : ∃ bs, BRd W a0 len0 bs ∧ len0 ≤ 9223372036854775807 := by
    obtain ⟨fuel, hf⟩ := h0
    rcases Go.Deep.open_bools Try.underlying44 Try.underlying4 (by kernel_rfl) hf with ⟨hcs, _⟩ | ⟨x, l, c, bs, hcs, _, hl, hm, _, hcell⟩
    · simp [Value.cells] at hcs
      obtain ⟨rfl, rfl, rfl⟩ := hcs
      exact ⟨fun _ => false, fun i hi => by omega, by omega⟩
    · simp [Value.cells] at hcs
      obtain ⟨rfl, rfl, rfl⟩ := hcs
      refine ⟨bs, fun i hi => ?_, by unfold maxLen at hm; omega⟩
      have hsp : x.spot = none := by
        have := World.cell?_spot (hcell 0 (by omega))
        simpa [Addr.add] using this
      have h5 := hcell i (by omega)
      obtain ⟨b, off, spot⟩ := x
      simp at hsp
      subst hsp
      rw [show Addr.add ⟨b, off, none⟩ i = ⟨b, off + i, none⟩ by simp [Addr.add]] at h5
      exact ⟨b, off, rfl, h5⟩
  obtain ⟨a1, len1, cap1, rfl⟩ := okWide_slice Try.underlying22 (hval 1 22 v1 rfl rfl)
  have k1 := h1
  have lt1 : ∀ x ∈ p1, x.block < W.heap.size := by obtain ⟨m, hm⟩ := k1; exact DataW.trod_lt m _ _ _ hm
  have w1 := open_things h1 (by omega)
  have b0 : len0 ≤ 1048576 := by have := slice_few Try.underlying44 k0; omega
  have b1 : len1 ≤ 1048576 := by have := slice_few Try.underlying22 k1; omega
  clear hA0 hval0
  refine (safeStands_walk a0 len0 cap0 z0 a1 len1 cap1 W w0 l0 w1 b0 b1).mono fun e W' ⟨he, ht⟩ => ?_
  subst he
  have bel : Below W.heap.size W W' := ht.below0
  exact ⟨_, rfl, _, _, _, [], _, [], hW', trodAll_mk1 (shut_bool Try.underlying4 _), (trodAll_cons_mk (Below.trod laidOut (by kernel_rfl) (of_decide_eq_true (by kernel_rfl)) k0 bel lt0) (trodAll_cons_mk (Below.trod laidOut (by kernel_rfl) (of_decide_eq_true (by kernel_rfl)) k1 bel lt1) trodAll_mk0)), rfl, bel.frame _, fun h => by cases h⟩

theorem safeStands_over : Rows.safeStandsUptoRow.holds Try.pinned (Rows.OpenSpec.upto Rows.safeStandsSpec) :=
  OpenClaim.holds_of_cond 4 Try.f4 rfl rfl rfl rfl rfl rfl rfl ⟨rfl, rfl, rfl, rfl, rfl⟩ rfl rfl rfl rfl rfl (by kernel_rfl) Try.func4 (by kernel_rfl)
    (of_decide_eq_true (by kernel_rfl)) (by unfold Func.isWrapper; first | (rw [if_pos (by decide +kernel)]; kernel_rfl) | (rw [if_neg (by decide +kernel)]; exact ⟨rfl, rfl⟩))
    (fun os started H enc _ F => safeStands_lifted os started H enc F)

theorem safeStands_holds : Rows.SafeStandsUptoSaid := safeStands_over
end Go.Proofs.Ytclfeafmlngpnaa
