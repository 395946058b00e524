/-
  SafePlays, the walk: threads come, go, poll, wait, and stand still, call by call, as the document's object does: for calls of bulk at most 1048576.
-/
import Derived.Test.YtclfeafmlngpnaaSafeBoth
namespace Go.Proofs.Ytclfeafmlngpnaa
open Go.ChangeShapes Go.WideShapes Go.ChangeAt Go.RowKit Go.Maps
set_option linter.unusedVariables false

theorem tmod9 (x : Int) : -8 ≤ x.tmod 9 ∧ x.tmod 9 ≤ 8 := by
  have h1 := Int.tmod_lt_of_pos x (show (0 : Int) < 9 by omega)
  have h2 := Int.lt_tmod_of_pos x (show (0 : Int) < 9 by omega)
  omega
theorem wrap_small {x : Int} (h : 0 ≤ x ∧ x ≤ 1000) : wrap64 x = x := by unfold wrap64; omega

set_option maxHeartbeats 16000000 in
set_option maxRecDepth 100000 in
theorem safePlays_walk (ao : Option Addr) (len cap : Nat) (w : World) (ho : OpsRd w ao len) (hl1 : len ≤ 1048576) :
    Calls Try.prog 3 #[.slice ao len cap] w fun e w' => e = .returned (.bool true) ∧ Turned [] w w' := by
  have HO := hide ho
  have HAw := hide (awake_any w)
  clear ho
  go_enter Try.func3, Try.ntmps3
  go_wp2_with fail
  refine HAw.out.mono ?_
  rintro e w1 ⟨rfl, t1⟩
  have HN := hide (sn_new w w1 t1)
  unfold ptr at HN
  clear t1 HAw
  go_wp2_with fail
  refine HN.out.mono ?_
  rintro e w2 ⟨rfl, h2, -⟩
  go_upto_region 4 with fail
  have HB0 : Hid (Bo w (w2.alloc (.cells #[.slice none 0 0, .slice none 0 0, .bool false] 29)) w1.heap.size w2.heap.size [] false) := by
    refine ⟨h2.next ((Turned.refl [] w2).alloc _), .slice none 0 0, .slice none 0 0, heap_alloc_new _ _, row_nil _ _, row_nil _ _, fun k hk => (by cases hk), Ok.nil, by simp, h2.turn.size⟩
  clear h2 HN
  generalize w2.alloc (.cells #[.slice none 0 0, .slice none 0 0, .bool false] 29) = w3 at *
  generalize w2.heap.size = r at *
  generalize w1.heap.size = a at *
  go_wp2_with fail
  go_loopg [6] 152 (fun gg s6 wr => ∃ (k : Nat) (L : Th) (ar : Bool), k ≤ 150 ∧ 150 - k ≤ gg ∧ s6 = .int .i64 (k : Int) ∧ Aside (L.length ≤ k * 1048576) ∧ Aside (Bo w wr a r L ar))
  case atStart => exact ⟨0, [], false, by omega, by omega, rfl, by show _ ≤ _; simp, HB0.out⟩
  case round =>
    obtain ⟨k, L, ar, hk, hgg, rfl, HL, HB⟩ := hrel
    go_upto_region 7 with fail
    go_cut [32] (fun s32 wc => ∃ bb : Bool, s32 = .bool bb ∧ Aside (bb = decide (k < len ∧ k < 150)) ∧ Aside (wc = wr))
    case first =>
      by_cases hil : k < len
      · have e1 : (k : Int) < (len : Int) := by omega
        by_cases hi2 : k < 150
        · have e2 : (k : Int) < 150 := by omega
          go_wp2_with fail
          go_meet
          case rel => exact ⟨true, by go_num, by show true = _; rw [decide_eq_true ⟨hil, hi2⟩], rfl⟩
        · have e2 : ¬ ((k : Int) < 150) := by omega
          go_wp2_with fail
          go_meet
          case rel => exact ⟨false, by go_num, by show false = _; rw [decide_eq_false (fun h => hi2 h.2)], rfl⟩
      · have e1 : ¬ ((k : Int) < (len : Int)) := by omega
        go_wp2_with fail
        go_meet
        case rel => exact ⟨false, by go_num, by show false = _; rw [decide_eq_false (fun h => hil h.1)], rfl⟩
    case rest =>
      obtain ⟨bb, rfl, hbb, hwc⟩ := hcut
      have hwc' := hwc.out
      subst hwc'
      have HBB := hide hbb.out
      clear hwc hbb
      obtain ⟨wr, hwr⟩ : ∃ wr, wr = wc := ⟨_, rfl⟩
      subst hwr
      cases bb
      · have HT := hide HB.out.1.turn
        go_wp2_with fail
        go_ret
        exact ⟨rfl, HT.out⟩
      · obtain ⟨hk2, hk150⟩ : k < len ∧ k < 150 := of_decide_eq_true HBB.out.symm
        have e1 : (k : Int) < (len : Int) := by omega
        obtain ⟨b0, off0, K, At, aL, lL, cL, l, rfl, y0, y1, y2, hK, hAt, hl, hlL⟩ := HO.out k hk2
        have d0 := (HB.out.1.turn.cell (block_lt y0) (by simp)).trans y0
        have d1 := (HB.out.1.turn.cell (block_lt y1) (by simp)).trans y1
        have d2 := (HB.out.1.turn.cell (block_lt y2) (by simp)).trans y2
        clear y0 y1 y2
        go_upto_if 43 with fail
        have HPl : Hid (Pl w (wr.alloc (.cells #[.int .i64 K, .int .i64 At, .slice aL lL cL] 31)) a r wr.heap.size L L ar ar ⟨K, At, aL, lL, cL, l⟩) := HB.out.call (c := ⟨K, At, aL, lL, cL, l⟩) ((Turned.refl [] wr).alloc _) (heap_alloc_new _ _) hl hAt hlL
        have HLl := hide (show L.length + lL ≤ (k + 1) * 1048576 ∧ (k + 1) * 1048576 ≤ 150 * 1048576 from ⟨by rw [Nat.add_mul, Nat.one_mul]; exact Nat.add_le_add HL.out hlL, Nat.mul_le_mul_right _ hk150⟩)
        clear d0 d1 d2 HB hl HBB HL e1
        generalize wr.alloc (.cells #[.int .i64 K, .int .i64 At, .slice aL lL cL] 31) = w5 at *
        generalize wr.heap.size = O at *
        go_cut [8] (fun v wd => ∃ kk : Int, v = .int .i64 kk ∧ 0 ≤ kk ∧ kk < 9 ∧ Aside (wd = w5))
        case first =>
          have ht9 := tmod9 K
          generalize K.tmod 9 = kt at *
          by_cases hkt : kt < 0
          · go_wp2_with fail
            go_meet
            case rel => exact ⟨kt + 9, by go_num, by omega, by omega, rfl⟩
          · go_wp2_with fail
            go_meet
            case rel => exact ⟨kt, rfl, by omega, by omega, rfl⟩
        case rest =>
          obtain ⟨kk, rfl, hk0, hk9, hwc⟩ := hcut
          have hwc' := hwc.out
          subst hwc'
          clear hwc
          obtain ⟨w6, hw6⟩ : ∃ w6, w6 = wc := ⟨_, rfl⟩
          subst hw6
          go_upto_block 2 with fail
          go_cut [9] (fun s9 wc => s9 = .bool true ∧ ∃ (Lq : Th) (aq : Bool), Aside (Lq.length ≤ (k + 1) * 1048576) ∧ Aside (Pl w wc a r O Lq Lq aq aq ⟨K, At, aL, lL, cL, l⟩))
          case first =>
            obtain rfl | rfl | rfl | rfl | rfl | rfl | rfl | rfl | rfl : kk = 0 ∨ kk = 1 ∨ kk = 2 ∨ kk = 3 ∨ kk = 4 ∨ kk = 5 ∨ kk = 6 ∨ kk = 7 ∨ kk = 8 := by omega
            · as_aux_lemma =>
              have HLN := hide (show L.length + lL < 17592186044416 by have := HLl.out; omega)
              have HFew := hide hlL
              clear hk hk2 hk150 hgg hk0 hk9 hl1 hAt hK hlL
              have c2 : w6.cell? ⟨O, 2, none⟩ = some (.slice aL lL cL) := HPl.out.c2
              have HSz := hide HPl.out.i.size
              obtain ⟨wz, hwz⟩ : ∃ wz, wz = w6 := ⟨_, rfl⟩
              have HP0 : Hid (Pl w w6 a r O L (cntR isNew (addL ar) L (l.take 0)).1 ar ar ⟨K, At, aL, lL, cL, l⟩) := HPl
              clear hwz wz
              have hlb : lL ≤ 1048576 := HFew.out
              go_wp2_with fail
              go_loopg [10, 11] 1048578 (fun gg s10 s11 wr => ∃ (j : Nat), j ≤ lL ∧ lL - j ≤ gg ∧ s11 = .int .i64 (j : Int) ∧ s10 = .int .i64 ((cntR isNew (addL ar) L (l.take j)).2 : Int) ∧ Aside (Pl w wr a r O L (cntR isNew (addL ar) L (l.take j)).1 ar ar ⟨K, At, aL, lL, cL, l⟩))
              case atStart => exact ⟨0, by omega, by omega, rfl, rfl, HP0.out⟩
              case round =>
                obtain ⟨j, hj, hgj, rfl, rfl, HJ⟩ := hrel
                have f2 : wr.cell? ⟨O, 2, none⟩ = some (.slice aL lL cL) := HJ.out.c2
                by_cases hjl : j < lL
                · have e2 : (j : Int) < (lL : Int) := by omega
                  obtain ⟨x, hx⟩ : ∃ x, l[j]? = some x := ⟨_, List.getElem?_eq_getElem (by rw [HSz.out]; exact hjl)⟩
                  obtain ⟨g2, o2, hg2, hcx⟩ := HJ.out.ird.cell j x hx
                  have hx64 := HJ.out.i.in64 x (List.mem_of_getElem? hx)
                  have HE : Hid (cntR isNew (addL ar) L (l.take (j + 1)) = cntF isNew (addL ar) (cntR isNew (addL ar) L (l.take j)) x) := by show _ = _; rw [take_snoc hx, cntR_snoc]
                  have hb := cntR_le isNew (addL ar) L (l.take j)
                  rw [List.length_take] at hb
                  have hbb := True.intro
                  have HC := hide (pl_radd HJ.out x hx64 (by have h1 := add_length ar L (l.take j); have h2 := HLN.out; rw [List.length_take] at h1; unfold addR at h1; omega))
                  unfold ptr at HC
                  simp only at hg2
                  subst hg2
                  clear hx
                  generalize cntR isNew (addL ar) L (l.take j) = pq at *
                  obtain ⟨Mj, nj⟩ := pq
                  simp only at *
                  have hnj : nj ≤ j := by omega
                  clear hb
                  go_wp2_with fail
                  refine HC.out.mono ?_
                  rintro e w7 ⟨rfl, p7⟩
                  have P7 := hide p7
                  clear p7 HC
                  cases hq : isNew Mj x
                  · go_wp2_with fail
                    go_roundg (lL - (j + 1))
                    case measure => omega
                    case rel => exact ⟨j + 1, by omega, Nat.le_refl _, by go_num, by rw [HE.out]; simp [cntF, hq]; try go_num, by rw [HE.out]; exact P7.out⟩
                  · go_wp2_with fail
                    go_roundg (lL - (j + 1))
                    case measure => omega
                    case rel => exact ⟨j + 1, by omega, Nat.le_refl _, by go_num, by rw [HE.out]; simp [cntF, hq]; try go_num, by rw [HE.out]; exact P7.out⟩
                · have hje : j = lL := by omega
                  subst hje
                  have HP8 : Hid (Pl w wr a r O L (addR ar L l).1 ar ar ⟨K, At, aL, j, cL, l⟩) := by
                    have e := HJ.out
                    rw [List.take_of_length_le (Nat.le_of_eq HSz.out)] at e
                    exact e
                  have e8 : l.take j = l := List.take_of_length_le (Nat.le_of_eq HSz.out)
                  rw [e8]
                  have HC := hide (pl_add HP8.out HLN.out)
                  unfold ptr at HC
                  have HLe := hide (show (addR ar L l).1.length ≤ (k + 1) * 1048576 by have h1 := add_length ar L l; have h2 := HLl.out; have h3 := HSz.out; omega)
                  clear e8 HJ
                  rw [show cntR isNew (addL ar) L l = addR ar L l from rfl]
                  generalize addR ar L l = Rq at *
                  go_wp2_with fail
                  refine HC.out.mono ?_
                  rintro e w8 ⟨rfl, p8⟩
                  have P8 := hide p8
                  clear p8 HC
                  go_wp2_with fail
                  go_meet
                  case rel => exact ⟨by go_num, Rq.1, ar, HLe.out, P8.out⟩
            · as_aux_lemma =>
              have HLN := hide (show L.length + lL < 17592186044416 by have := HLl.out; omega)
              have HFew := hide hlL
              clear hk hk2 hk150 hgg hk0 hk9 hl1 hAt hK hlL
              have c2 : w6.cell? ⟨O, 2, none⟩ = some (.slice aL lL cL) := HPl.out.c2
              have HSz := hide HPl.out.i.size
              obtain ⟨wz, hwz⟩ : ∃ wz, wz = w6 := ⟨_, rfl⟩
              have HP0 : Hid (Pl w w6 a r O L (cntR isOld (fun M x => del x M) L (l.take 0)).1 ar ar ⟨K, At, aL, lL, cL, l⟩) := HPl
              clear hwz wz
              have hlb : lL ≤ 1048576 := HFew.out
              go_wp2_with fail
              go_loopg [10, 12] 1048578 (fun gg s10 s11 wr => ∃ (j : Nat), j ≤ lL ∧ lL - j ≤ gg ∧ s11 = .int .i64 (j : Int) ∧ s10 = .int .i64 ((cntR isOld (fun M x => del x M) L (l.take j)).2 : Int) ∧ Aside (Pl w wr a r O L (cntR isOld (fun M x => del x M) L (l.take j)).1 ar ar ⟨K, At, aL, lL, cL, l⟩))
              case atStart => exact ⟨0, by omega, by omega, rfl, rfl, HP0.out⟩
              case round =>
                obtain ⟨j, hj, hgj, rfl, rfl, HJ⟩ := hrel
                have f2 : wr.cell? ⟨O, 2, none⟩ = some (.slice aL lL cL) := HJ.out.c2
                by_cases hjl : j < lL
                · have e2 : (j : Int) < (lL : Int) := by omega
                  obtain ⟨x, hx⟩ : ∃ x, l[j]? = some x := ⟨_, List.getElem?_eq_getElem (by rw [HSz.out]; exact hjl)⟩
                  obtain ⟨g2, o2, hg2, hcx⟩ := HJ.out.ird.cell j x hx
                  have hx64 := HJ.out.i.in64 x (List.mem_of_getElem? hx)
                  have HE : Hid (cntR isOld (fun M x => del x M) L (l.take (j + 1)) = cntF isOld (fun M x => del x M) (cntR isOld (fun M x => del x M) L (l.take j)) x) := by show _ = _; rw [take_snoc hx, cntR_snoc]
                  have hb := cntR_le isOld (fun M x => del x M) L (l.take j)
                  rw [List.length_take] at hb
                  have hbb := True.intro
                  have HC := hide (pl_rend HJ.out x)
                  unfold ptr at HC
                  simp only at hg2
                  subst hg2
                  clear hx
                  generalize cntR isOld (fun M x => del x M) L (l.take j) = pq at *
                  obtain ⟨Mj, nj⟩ := pq
                  simp only at *
                  have hnj : nj ≤ j := by omega
                  clear hb
                  go_wp2_with fail
                  refine HC.out.mono ?_
                  rintro e w7 ⟨rfl, p7⟩
                  have P7 := hide p7
                  clear p7 HC
                  cases hq : isOld Mj x
                  · go_wp2_with fail
                    go_roundg (lL - (j + 1))
                    case measure => omega
                    case rel => exact ⟨j + 1, by omega, Nat.le_refl _, by go_num, by rw [HE.out]; simp [cntF, hq]; try go_num, by rw [HE.out]; exact P7.out⟩
                  · go_wp2_with fail
                    go_roundg (lL - (j + 1))
                    case measure => omega
                    case rel => exact ⟨j + 1, by omega, Nat.le_refl _, by go_num, by rw [HE.out]; simp [cntF, hq]; try go_num, by rw [HE.out]; exact P7.out⟩
                · have hje : j = lL := by omega
                  subst hje
                  have HP8 : Hid (Pl w wr a r O L (endR L l).1 ar ar ⟨K, At, aL, j, cL, l⟩) := by
                    have e := HJ.out
                    rw [List.take_of_length_le (Nat.le_of_eq HSz.out)] at e
                    exact e
                  have e8 : l.take j = l := List.take_of_length_le (Nat.le_of_eq HSz.out)
                  rw [e8]
                  have HC := hide (pl_end HP8.out)
                  unfold ptr at HC
                  have HLe := hide (show (endR L l).1.length ≤ (k + 1) * 1048576 by have h1 := end_length L l; have h2 := HLl.out; omega)
                  clear e8 HJ
                  rw [show cntR isOld (fun M x => del x M) L l = endR L l from rfl]
                  generalize endR L l = Rq at *
                  go_wp2_with fail
                  refine HC.out.mono ?_
                  rintro e w8 ⟨rfl, p8⟩
                  have P8 := hide p8
                  clear p8 HC
                  go_wp2_with fail
                  go_meet
                  case rel => exact ⟨by go_num, Rq.1, ar, HLe.out, P8.out⟩
            · as_aux_lemma =>
              have HLe := hide (show (pollL L ar At).length ≤ (k + 1) * 1048576 by rw [poll_length]; have := HLl.out; omega)
              have d1 : w6.cell? ⟨O, 1, none⟩ = some (.int .i64 At) := HPl.out.c1
              have HC1 := hide (pl_poll HPl.out.drew)
              have HC2 := hide (fun w' (h : Pl w w' a r O (pollL L ar At) L ar ar ⟨K, At, aL, lL, cL, l⟩) => pl_rpoll h)
              unfold ptr at HC1 HC2
              clear hk hk2 hk150 hgg hk0 hk9 hl1 hAt hK hlL
              go_upto_region 16 with fail
              go_region_held3 (fun w' => w'.cell? ⟨O, 1, none⟩ = some (.int .i64 At)) (go_keep)
                (first
                  | (go_at_call 22; refine HC1.out.mono ?_; rintro e w7 ⟨rfl, p7⟩; have d7 := p7.c1; have d7' := p7.drew.c1; have P7 := hide p7; simp only at d7 d7'; clear p7)
                  | (go_at_call 23; refine (HC2.out _ P7.out).mono ?_; rintro e w8 ⟨rfl, p8⟩; have d8 := p8.c1; have P8 := hide p8; simp only at d8; clear p8)
                  | (go_at_call 23; refine (HC2.out _ P7.out.drew).mono ?_; rintro e w8 ⟨rfl, p8⟩; have d8 := p8.c1; have P8 := hide p8; simp only at d8; clear p8))
              go_wp2_with fail
              go_meet
              case rel => exact ⟨by go_num, pollL L ar At, ar, HLe.out, P8.out⟩
            · as_aux_lemma =>
              have HLe := hide (show (pollL L ar At).length ≤ (k + 1) * 1048576 by rw [poll_length]; have := HLl.out; omega)
              have d1 : w6.cell? ⟨O, 1, none⟩ = some (.int .i64 At) := HPl.out.c1
              have HC1 := hide (pl_poll HPl.out.drew)
              have HC2 := hide (fun w' (h : Pl w w' a r O (pollL L ar At) L ar ar ⟨K, At, aL, lL, cL, l⟩) => pl_rpoll h)
              unfold ptr at HC1 HC2
              clear hk hk2 hk150 hgg hk0 hk9 hl1 hAt hK hlL
              go_upto_region 16 with fail
              go_region_held3 (fun w' => w'.cell? ⟨O, 1, none⟩ = some (.int .i64 At)) (go_keep)
                (first
                  | (go_at_call 22; refine HC1.out.mono ?_; rintro e w7 ⟨rfl, p7⟩; have d7 := p7.c1; have d7' := p7.drew.c1; have P7 := hide p7; simp only at d7 d7'; clear p7)
                  | (go_at_call 23; refine (HC2.out _ P7.out).mono ?_; rintro e w8 ⟨rfl, p8⟩; have d8 := p8.c1; have P8 := hide p8; simp only at d8; clear p8)
                  | (go_at_call 23; refine (HC2.out _ P7.out.drew).mono ?_; rintro e w8 ⟨rfl, p8⟩; have d8 := p8.c1; have P8 := hide p8; simp only at d8; clear p8))
              go_wp2_with fail
              go_meet
              case rel => exact ⟨by go_num, pollL L ar At, ar, HLe.out, P8.out⟩
            · as_aux_lemma =>
              have HLe := hide (show (holdL L At).length ≤ (k + 1) * 1048576 by rw [hold_length]; have := HLl.out; omega)
              have d1 : w6.cell? ⟨O, 1, none⟩ = some (.int .i64 At) := HPl.out.c1
              have HC1 := hide (pl_hold HPl.out.drew)
              have HC2 := hide (fun w' (h : Pl w w' a r O (holdL L At) L ar ar ⟨K, At, aL, lL, cL, l⟩) => pl_rhold h)
              unfold ptr at HC1 HC2
              clear hk hk2 hk150 hgg hk0 hk9 hl1 hAt hK hlL
              go_upto_region 30 with fail
              go_region_held3 (fun w' => w'.cell? ⟨O, 1, none⟩ = some (.int .i64 At)) (go_keep)
                (first
                  | (go_at_call 14; refine HC1.out.mono ?_; rintro e w7 ⟨rfl, p7⟩; have d7 := p7.c1; have d7' := p7.drew.c1; have P7 := hide p7; simp only at d7 d7'; clear p7)
                  | (go_at_call 15; refine (HC2.out _ P7.out).mono ?_; rintro e w8 ⟨rfl, p8⟩; have d8 := p8.c1; have P8 := hide p8; simp only at d8; clear p8)
                  | (go_at_call 15; refine (HC2.out _ P7.out.drew).mono ?_; rintro e w8 ⟨rfl, p8⟩; have d8 := p8.c1; have P8 := hide p8; simp only at d8; clear p8))
              go_wp2_with fail
              go_meet
              case rel => exact ⟨by go_num, holdL L At, ar, HLe.out, P8.out⟩
            · as_aux_lemma =>
              have HLe := hide (show (freeL L ar At).length ≤ (k + 1) * 1048576 by rw [free_length]; have := HLl.out; omega)
              have d1 : w6.cell? ⟨O, 1, none⟩ = some (.int .i64 At) := HPl.out.c1
              have HC1 := hide (pl_free HPl.out)
              unfold ptr at HC1
              clear hk hk2 hk150 hgg hk0 hk9 hl1 hAt hK hlL
              go_wp2_with fail
              refine HC1.out.mono ?_
              rintro e w7 ⟨rfl, p7⟩
              have d7 : w7.cell? ⟨O, 1, none⟩ = some (.int .i64 At) := p7.c1
              have HC2 := hide (pl_rfree p7)
              unfold ptr at HC2
              clear p7 HC1
              go_wp2_with fail
              refine HC2.out.mono ?_
              rintro e w8 ⟨rfl, p8⟩
              have P8 := hide p8
              clear p8 HC2
              simp only at *
              generalize (decide (st L At = 3) && !ar) = bq at *
              generalize mustE (st L At) 3 = zq at *
              go_wp2_with fail
              go_meet
              case rel => exact ⟨by go_num, freeL L ar At, ar, HLe.out, P8.out⟩
            · as_aux_lemma =>
              have HLe := hide (show L.length ≤ (k + 1) * 1048576 by have := HLl.out; omega)
              have d1 := (pl_c2 HPl.out).1
              have HC1 := hide (pl_arm HPl.out.drew)
              unfold ptr at HC1
              clear hk hk2 hk150 hgg hk0 hk9 hl1 hAt hK hlL
              go_upto_region 36 with fail
              go_region_held3 (fun w' => w'.cell? ⟨r, 2, none⟩ = some (.bool ar)) (go_keep)
                (first
                  | (go_at_call 18; refine HC1.out.mono ?_; rintro e w7 ⟨rfl, p7⟩; have d7 := (pl_c2 p7).1; have z7 := (pl_c2 p7).2; have P7 := hide p7; clear p7))
              have P8 := hide (pl_set P7.out)
              go_wp2_with fail
              go_meet
              case rel => exact ⟨by cases ar <;> rfl, L, true, HLe.out, P8.out⟩
            · as_aux_lemma =>
              have HLe := hide (show (resumeL L ar).length ≤ (k + 1) * 1048576 by have h2 := HLl.out; have h3 : (resumeL L ar).length = L.length := (by unfold resumeL; split <;> simp [resL]); omega)
              have H64 := hide (show ∀ x, x ∈ resumeT L ar → In64 x from fun x hx => by unfold resumeT at hx; split at hx; exact in_in64 HPl.out.s.ok [2] x hx; cases hx)
              have HLt := hide (show (resumeT L ar).length < 17592186044416 by have h1 := in_length L [2]; have h2 := HPl.out.s.few; unfold resumeT; split; (unfold parked; omega); simp)
              have HC1 := hide (pl_resume HPl.out)
              unfold ptr at HC1
              clear hk hk2 hk150 hgg hk0 hk9 hl1 hAt hK hlL
              go_wp2_with fail
              refine HC1.out.mono ?_
              rintro e w7 ⟨x7, rfl, r7, p7, v7, u7, f7, hn7⟩
              have HC2 := hide (pl_rresume p7 r7 f7 hn7)
              unfold ptr at HC2
              clear r7 p7 f7 hn7 HC1
              go_wp2_with fail
              refine HC2.out.mono ?_
              rintro e w8 ⟨y8, rfl, r8, r78, p8⟩
              have HSm := hide (same_rows w8 _ _ x7 y8 _ _ r78 r8 H64.out H64.out HLt.out HLt.out)
              rw [decide_eq_true (rfl : resumeT L ar = resumeT L ar)] at HSm
              have P8 := hide p8
              clear r8 r78 p8 HC2
              go_wp2_with fail
              refine HSm.out.mono ?_
              rintro e w9 ⟨rfl, t9⟩
              have P9 := hide (P8.out.turn t9)
              clear t9 HSm P8
              go_wp2_with fail
              go_meet
              case rel => exact ⟨rfl, resumeL L ar, resumeA L ar, HLe.out, P9.out⟩
            · as_aux_lemma =>
              have HLe := hide (show (resumeL L ar).length ≤ (k + 1) * 1048576 by have h2 := HLl.out; have h3 : (resumeL L ar).length = L.length := (by unfold resumeL; split <;> simp [resL]); omega)
              have H64 := hide (show ∀ x, x ∈ resumeT L ar → In64 x from fun x hx => by unfold resumeT at hx; split at hx; exact in_in64 HPl.out.s.ok [2] x hx; cases hx)
              have HLt := hide (show (resumeT L ar).length < 17592186044416 by have h1 := in_length L [2]; have h2 := HPl.out.s.few; unfold resumeT; split; (unfold parked; omega); simp)
              have HC1 := hide (pl_resume HPl.out)
              unfold ptr at HC1
              clear hk hk2 hk150 hgg hk0 hk9 hl1 hAt hK hlL
              go_wp2_with fail
              refine HC1.out.mono ?_
              rintro e w7 ⟨x7, rfl, r7, p7, v7, u7, f7, hn7⟩
              have HC2 := hide (pl_rresume p7 r7 f7 hn7)
              unfold ptr at HC2
              clear r7 p7 f7 hn7 HC1
              go_wp2_with fail
              refine HC2.out.mono ?_
              rintro e w8 ⟨y8, rfl, r8, r78, p8⟩
              have HSm := hide (same_rows w8 _ _ x7 y8 _ _ r78 r8 H64.out H64.out HLt.out HLt.out)
              rw [decide_eq_true (rfl : resumeT L ar = resumeT L ar)] at HSm
              have P8 := hide p8
              clear r8 r78 p8 HC2
              go_wp2_with fail
              refine HSm.out.mono ?_
              rintro e w9 ⟨rfl, t9⟩
              have P9 := hide (P8.out.turn t9)
              clear t9 HSm P8
              go_wp2_with fail
              go_meet
              case rel => exact ⟨rfl, resumeL L ar, resumeA L ar, HLe.out, P9.out⟩
          case rest =>
            obtain ⟨rfl, Lq, aq, HLq, HPq⟩ := hcut
            clear HPl HLl
            obtain ⟨w6, hw6⟩ : ∃ w6, w6 = wc := ⟨_, rfl⟩
            subst hw6
            have HArr := hide (show k < 150 ∧ 150 - k ≤ gk from ⟨hk150, hgg⟩)
            have HFew := hide hlL
            have H64 := hide (fun l => in_in64 HPq.out.s.ok l)
            have HLt := hide (fun l => Nat.lt_of_le_of_lt (in_length Lq l) HPq.out.s.few)
            clear hk hk2 hk150 hgg hk0 hk9 hl1 hAt hK hlL
            have HC1 := hide (pl_in HPq.out none 0 0 [] (IRd.nil _ _) (by omega))
            unfold ptr at HC1
            go_wp2_with fail
            refine HC1.out.mono ?_
            rintro e w7 ⟨x7, rfl, r7, t7⟩
            have P7 := hide (HPq.out.turn t7)
            have HC2 := hide (pl_rin P7.out none 0 0 [] (IRd.nil _ _) (by omega))
            unfold ptr at HC2
            have R7 := hide r7
            clear r7 t7 HC1 HPq
            go_wp2_with fail
            refine HC2.out.mono ?_
            rintro e w8 ⟨y8, rfl, r8, t8⟩
            have P8 := hide (P7.out.turn t8)
            have HSm := hide (same_rows w8 _ _ x7 y8 _ _ (R7.out.keep t8 (by simp)) r8 (H64.out _) (H64.out _) (HLt.out _) (HLt.out _))
            rw [decide_eq_true (rfl : inL [] Lq = inL [] Lq)] at HSm
            clear r8 t8 HC2 P7 R7
            go_wp2_with fail
            refine HSm.out.mono ?_
            rintro e w9 ⟨rfl, t9⟩
            have P9 := hide (P8.out.turn t9)
            clear t9 HSm P8
            have d9 : w9.cell? ⟨O, 2, none⟩ = some (.slice aL lL cL) := P9.out.c2
            have HD1 := hide (fun w' (h : Pl w w' a r O Lq Lq aq aq ⟨K, At, aL, lL, cL, l⟩) => pl_in h aL lL cL l h.ird HFew.out)
            have HD2 := hide (fun w' (h : Pl w w' a r O Lq Lq aq aq ⟨K, At, aL, lL, cL, l⟩) => pl_rin h aL lL cL l h.ird HFew.out)
            have HD3 := hide (fun w' x y (h1 : Row w' w.heap.size x (inL l Lq)) (h2 : Row w' w.heap.size y (inL l Lq)) => same_rows w' _ _ x y _ _ h1 h2 (H64.out l) (H64.out l) (HLt.out l) (HLt.out l))
            rw [show decide (inL l Lq = inL l Lq) = true from decide_eq_true rfl] at HD3
            unfold ptr at HD1 HD2
            go_upto_region 42 with fail
            go_region_held3 (fun w' => w'.cell? ⟨O, 2, none⟩ = some (.slice aL lL cL)) (go_keep)
              (first
                | (go_at_call 24; refine (HD1.out _ P9.out.drew).mono ?_; rintro e w10 ⟨x10, rfl, r10, t10⟩; have p10 := P9.out.drew.turn t10; have d10 := p10.c2; have d10' := p10.drew.c2; have P10 := hide p10; have R10 := hide r10; simp only at d10 d10'; clear p10 r10 t10)
                | (go_at_call 25; refine (HD2.out _ P10.out).mono ?_; rintro e w11 ⟨x11, rfl, r11, t11⟩; have p11 := P10.out.turn t11; have d11 := p11.c2; have P11 := hide p11; have R11 := hide r11; have R10b := hide (R10.out.keep t11 (by simp)); simp only at d11; clear p11 r11 t11)
                | (go_at_call 19; refine (HD3.out _ _ _ R10b.out R11.out).mono ?_; rintro e w12 ⟨rfl, t12⟩; have p12 := P11.out.turn t12; have d12 := p12.c2; have P12 := hide p12; simp only at d12; clear p12 t12))
            clear d9 d10 d10' d11 HD1 HD2 HD3 P9 P10 P11 R10 R11 R10b
            have q1 : w12.cell? ⟨O, 1, none⟩ = some (.int .i64 At) := P12.out.c1
            have q2 := (pl_c2 P12.out).1
            have HE1 := hide (fun w' (h : Pl w w' a r O Lq Lq aq aq ⟨K, At, aL, lL, cL, l⟩) => pl_state h)
            have HE2 := hide (fun w' (h : Pl w w' a r O Lq Lq aq aq ⟨K, At, aL, lL, cL, l⟩) => pl_rstate h)
            have HE3 := hide (fun w' (h : Pl w w' a r O Lq Lq aq aq ⟨K, At, aL, lL, cL, l⟩) => pl_armed h)
            have HE4 := hide (fun w' (h : Pl w w' a r O Lq Lq aq aq ⟨K, At, aL, lL, cL, l⟩) => pl_reached h)
            have HE5 := hide (fun w' (h : Pl w w' a r O Lq Lq aq aq ⟨K, At, aL, lL, cL, l⟩) => pl_rreached h)
            simp only at HE1 HE2
            unfold ptr at HE1 HE2 HE3 HE4 HE5
            generalize st Lq At = sq at *
            generalize reach Lq aq = rq at *
            have s1 : (sq != sq) = false := by simp
            have s2 : (aq != aq) = false := by simp
            have s3 : (rq != rq) = false := by simp
            clear d12
            go_upto_region 43 with fail
            go_region_held3 (fun w' => w'.cell? ⟨O, 1, none⟩ = some (.int .i64 At) ∧ w'.cell? ⟨r, 2, none⟩ = some (.bool aq)) (go_keep)
              (first
                | (go_at_call 26; refine (HE1.out _ P12.out.drew).mono ?_; rintro e w13 ⟨rfl, hw⟩; have p13 := P12.out.drew; rw [← hw] at p13; have a13 : w13.cell? ⟨O, 1, none⟩ = some (.int .i64 At) := p13.c1; have b13 := (pl_c2 p13).1; have P13 := hide p13; clear p13 hw)
                | (go_at_call 27; refine (HE2.out _ P13.out).mono ?_; rintro e w14 ⟨rfl, hw⟩; have p14 := P13.out; rw [← hw] at p14; have a14 : w14.cell? ⟨O, 1, none⟩ = some (.int .i64 At) := p14.c1; have b14 := (pl_c2 p14).1; have P14 := hide p14; clear p14 hw)
                | (go_at_call 28; refine (HE3.out _ P14.out).mono ?_; rintro e w15 ⟨rfl, hw⟩; have p15 := P14.out; rw [← hw] at p15; have a15 : w15.cell? ⟨O, 1, none⟩ = some (.int .i64 At) := p15.c1; have b15 := (pl_c2 p15).1; have P15 := hide p15; clear p15 hw)
                | (go_at_call 29; refine (HE4.out _ P15.out).mono ?_; rintro e w16 ⟨rfl, t16⟩; have p16 := P15.out.turn t16; have a16 : w16.cell? ⟨O, 1, none⟩ = some (.int .i64 At) := p16.c1; have b16 := (pl_c2 p16).1; have P16 := hide p16; clear p16 t16)
                | (go_at_call 30; refine (HE5.out _ P16.out).mono ?_; rintro e w17 ⟨rfl, t17⟩; have p17 := P16.out.turn t17; have a17 : w17.cell? ⟨O, 1, none⟩ = some (.int .i64 At) := p17.c1; have b17 := (pl_c2 p17).1; have P17 := hide p17; clear p17 t17))
            have HBo := hide P17.out.bo
            go_wp2_with fail
            obtain ⟨hk150, hgg⟩ := HArr.out
            go_roundg (150 - (k + 1))
            case measure => omega
            case rel => exact ⟨k + 1, Lq, aq, by omega, Nat.le_refl _, by first | rfl | (rw [wrap_small (by omega)]; rfl), HLq.out, HBo.out⟩
end Go.Proofs.Ytclfeafmlngpnaa
