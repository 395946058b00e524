/-
  MarkFaults: whatever words stand in the heap, and whatever roots: nobody panics, all workers end by turns; where all that is reached is right no fault is told. For every words, roots, sizes.
-/
import Derived.Test.YtgbclfhgpkmcnaaGreatDoorPack41
import Derived.Test.YtgbclfhgpkmcnaaGreatDoorPack39
import Derived.Test.YtgbclfhgpkmcnaaGreatDoorPack38
import Derived.Test.YtgbclfhgpkmcnaaGreatDoorPack29
import Derived.Test.YtgbclfhgpkmcnaaGreatDoorPack27
import Derived.Test.YtgbclfhgpkmcnaaGreatDoorPack20
import Derived.Test.YtgbclfhgpkmcnaaGreatDoorCards
import Derived.Test.YtgbclfhgpkmcnaaGreatDoorTie
import Derived.SevenTiedAt
import Derived.BigQuiet
namespace Go.Proofs.YtgbclfhgpkmcnaaGreatDoor
open Go.ChangeShapes Go.WideShapes Go.ChangeAt Go.RowKit
set_option linter.unusedVariables false
set_option linter.unusedSimpArgs false

theorem cellsI64s : Tryz.prog.cellsOf 30 = 1 := by kernel_rfl
theorem cellsI64 : Tryz.prog.cellsOf 2 = 1 := by kernel_rfl
theorem ird64_of {H : Type} {enc : TypeId × Value → H} {W : World} {n : Nat} {v : Value} {x : DataW H × List MemPlace}
    (f : DataW.trod enc Tryz.prog W 0 (fun _ => true) true n 30 [v] = some x) : ∃ aL lL cL zs, v = .slice aL lL cL ∧ IRd W aL lL zs ∧ zs.length = lL ∧ (lL ≤ cL ∧ cL ≤ 9223372036854775807) ∧ (aL = none → lL = 0 ∧ cL = 0) := by
  rcases open_ints Tryz.underlying30 Tryz.underlying2 cellsI64 f with ⟨hcs, _⟩ | ⟨y, l, c, zs, hcs, _, hl2, hm2, hz, _, hcell, hwz⟩
  · simp at hcs
    have h1 := isRow_ird (w := W) (a := none) (len := 0) (cap := 0) (zs := []) (.inl ⟨rfl, rfl, rfl, rfl⟩)
    exact ⟨none, 0, 0, _, hcs, h1, h1.size, by omega, fun _ => ⟨rfl, rfl⟩⟩
  · simp at hcs
    have h1 := isRow_ird (w := W) (a := some y) (len := l) (cap := c) (zs := zs) (.inr ⟨_, rfl, hl2, hm2, by simpa using hz, hcell, hwz⟩)
    exact ⟨some y, l, c, _, hcs, h1, h1.size, ⟨hl2, by unfold maxLen at hm2; omega⟩, fun e => by cases e⟩
set_option maxRecDepth 100000 in
theorem cut_i64s (a : Option Addr) (len cap m : Nat) (hm : m < len) (hc : len ≤ cap) (hcc : cap ≤ 9223372036854775807) : ∀ w' : World, (Instr.slice 30 (.slice a len cap) none (some (.int .i64 (m : Int))) none).run Tryz.prog w' = .ok (.slice a m cap) w' := fun w' => by
  rw [run_slice_h (P := Tryz.prog) w' 30 a len cap Tryz.underlying30 .i64 (m : Int) (by omega) (by omega)]
  show Result.ok (sliced _ 0 (m : Int).toNat cap 1) w' = _
  simp [sliced, Addr.add]
set_option maxHeartbeats 8000000 in
set_option maxRecDepth 100000 in
theorem markFaults_walk (ao : Option Addr) (cap : Nat) (wds : List Int) (ro : Option Addr) (rc : Nat) (rs : List Int) (x y z : Int) (w : World) (h : IRd w ao wds.length wds) (hr : IRd w ro rs.length rs) (hrc : rs.length ≤ rc ∧ rc ≤ 9223372036854775807) (hno : ro = none → rs.length = 0 ∧ rc = 0) (hxyz : In64 x ∧ In64 y ∧ In64 z) (hT : Bt.Tab w) :
    Calls Tryz.prog 5 #[.slice ao wds.length cap, .slice ro rs.length rc, .agg #[.int .i64 x, .int .i64 y, .int .i64 z]] w fun e w' => e = .returned (.bool true) ∧ Turned [] w w' := by
  have HW0 := hide (show 0 < w.heap.size by have := block_lt (hT 0 (by omega)); simpa using this)
  obtain ⟨w0, hw0⟩ : ∃ w0, w0 = w.alloc (.cells #[.int .i64 x, .int .i64 y, .int .i64 z] 24) := ⟨_, rfl⟩
  have hT0 : Turned [] w w0 := by rw [hw0]; exact (Turned.refl [] w).alloc _
  obtain ⟨bs, hbs⟩ : ∃ bs, bs = w.heap.size := ⟨_, rfl⟩
  have hS0 : w0.heap[bs]? = some (.cells #[.int .i64 x, .int .i64 y, .int .i64 z] 24) := by rw [hw0, hbs]; exact heap_alloc_new _ _
  have HTb := hide hT
  have HWd := hide h
  have HRs := hide hr
  have HNo := hide hno
  have HT0 := hide hT0
  have HS0 := hide hS0
  have HXY := hide hxyz
  have HAw := hide (awake11 w0 (hT.turned hT0 (by simp)))
  clear h hT hr hT0 hS0 hxyz hno
  obtain ⟨rl, hrl⟩ : ∃ rl, rl = rs.length := ⟨_, rfl⟩
  obtain ⟨al, hal⟩ : ∃ al, al = wds.length := ⟨_, rfl⟩
  have HLr := hide hrl
  rw [← hrl] at hrc HNo ⊢
  rw [← hal] at HWd ⊢
  clear hrl hal
  go_enter Tryz.func5, Tryz.ntmps5
  go_wp2_with fail
  rw [← hw0, ← hbs]
  refine (HAw.out).mono ?_
  rintro e w1 ⟨rfl, t1⟩
  have HBs : Hid (bs = w.heap.size) := hide hbs
  clear hw0 hbs
  have HT1 := hide (HT0.out.trans t1)
  have HS1 := hide (t1.at HS0.out (by simp))
  clear t1 HT0 HS0 HAw
  have hmk := run_make_row' (P := Tryz.prog) 30 2 (.int .i64 0) 8 Tryz.underlying30 Tryz.info2 rfl .i64 .i64 100 (by omega) (by omega)
  rw [show ((100 : Nat) : Int) = 100 from rfl] at hmk
  obtain ⟨w2, hw2⟩ : ∃ w2, w2 = w1.alloc (.cells (madeCells #[.int .i64 0] 100) 2) := ⟨_, rfl⟩
  obtain ⟨d, hd⟩ : ∃ d, d = w1.heap.size := ⟨_, rfl⟩
  have HD2 : Hid (Doc w2 d (List.replicate 100 0)) := hide ⟨by rw [hw2, hd, heap_alloc_new]; kernel_rfl⟩
  have t2 : Turned [] w1 w2 := by rw [hw2]; exact (Turned.refl [] w1).alloc _
  have HT2 := hide (HT1.out.trans t2)
  have HS2 := hide (t2.at HS1.out (by simp))
  have HN2 := hide (show w.heap.size ≤ bs ∧ bs < d by have := HT1.out.size; have := lt_of_heap HS1.out; have := HBs.out; omega)
  clear t2 HT1 HS1
  go_upto_region 3 with fail
  rw [← hw2, ← hd]
  clear hw2 hd hmk
  go_upto_block 0 with fail
  go_cut [9] (fun _ wc => ∃ L : List Int, Aside (L.length = 100 ∧ AllIn L) ∧ Aside (Doc wc d L) ∧ Aside (wc.heap[bs]? = some (.cells #[.int .i64 x, .int .i64 y, .int .i64 z] 24)) ∧ Aside (Turned [] w wc))
  case first =>
    go_wp2_with fail
    go_loopg [9] 100 (fun gg s9 wr => ∃ (i : Nat) (L : List Int), s9 = .int .i64 (i : Int) ∧ i ≤ 100 ∧ 100 - i ≤ gg ∧ Aside (L.length = 100 ∧ AllIn L) ∧ Aside (Doc wr d L) ∧ Aside (wr.heap[bs]? = some (.cells #[.int .i64 x, .int .i64 y, .int .i64 z] 24)) ∧ Aside (Turned [] w wr))
    case atStart => exact ⟨0, List.replicate 100 0, rfl, by omega, by omega, ⟨by simp, fun v hv => by rw [List.eq_of_mem_replicate hv]; unfold In64; omega⟩, HD2.out, HS2.out, HT2.out⟩
    case round =>
      obtain ⟨i, L, rfl, hi, hgi, hL, hD, hS, hTt⟩ := hrel
      have HL := hide hL.out
      have HD := hide hD.out
      have HS := hide hS.out
      have HTr := hide hTt.out
      clear hL hD hS hTt HD2 HS2 HT2
      by_cases h1 : i < al
      · have h1i : (i : Int) < (al : Int) := by omega
        by_cases h2 : i < 100
        · have h2i : (i : Int) < 100 := by omega
          obtain ⟨c, hc⟩ : ∃ c, wds[i]? = some c := ⟨_, List.getElem?_eq_getElem (by rw [HWd.out.size]; exact h1)⟩
          obtain ⟨b, off, hbo, cc⟩ := (HWd.out.turned HTr.out).cell i c hc
          subst hbo
          have HCi := hide (HWd.out.inn c (List.mem_of_getElem? hc))
          obtain ⟨v0, hv0⟩ : ∃ v0, L[i]? = some v0 := ⟨_, List.getElem?_eq_getElem (by rw [HL.out.1]; exact h2)⟩
          have c0 := HD.out.word hv0
          have c1 := HD.out.fw i
          have HD3 := hide (HD.out.store i c)
          have HL3 : Hid ((L.set i c).length = 100 ∧ AllIn (L.set i c)) := hide ⟨by rw [List.length_set]; exact HL.out.1, fun v hv => by
            rcases List.mem_or_eq_of_mem_set hv with g | g
            · exact HL.out.2 v g
            · rw [g]; exact HCi.out⟩
          have HT3 := hide (HTr.out.setCell (p := ⟨d, i, none⟩) (.inr (show w.heap.size ≤ d by have := HN2.out; omega)) (.int .i64 c))
          have HS3 : Hid ((wr.setCell ⟨d, i, none⟩ (.int .i64 c)).heap[bs]? = some (.cells #[.int .i64 x, .int .i64 y, .int .i64 z] 24)) := hide (by rw [Below.heap_setCell _ _ _ _ (by show bs ≠ d; have := HN2.out; omega)]; exact HS.out)
          clear hc hv0 HD HL HS HTr HCi
          go_wp2_with fail
          go_roundg (100 - (i + 1))
          case measure => omega
          case rel => exact ⟨i + 1, _, by go_num, by omega, Nat.le_refl _, HL3.out, HD3.out, HS3.out, HT3.out⟩
        · have h2i : ¬ (i : Int) < 100 := by omega
          go_wp2_with fail
          go_meet
          case rel => exact ⟨L, HL.out, HD.out, HS.out, HTr.out⟩
      · have h1i : ¬ (i : Int) < (al : Int) := by omega
        go_wp2_with fail
        go_meet
        case rel => exact ⟨L, HL.out, HD.out, HS.out, HTr.out⟩
  case rest =>
  obtain ⟨hw, hL, hD, hS, hTt⟩ := hcut
  have HHl := hide hL.out.1
  have HHi := hide hL.out.2
  have HD3 := hide hD.out
  have HS3 := hide hS.out
  have HT3 := hide hTt.out
  clear hL hD hS hTt HD2 HS2 HT2 HWd
  obtain ⟨w3, hw3⟩ : ∃ w3, w3 = wc := ⟨_, rfl⟩
  subst hw3
  go_upto_if 38 with fail
  go_cut [1] (fun s1 wc => ∃ (RS : List Int) (rn c' : Nat), s1 = .slice ro rn c' ∧ Aside (rn = RS.length ∧ rn ≤ 10) ∧ Aside (IRd w ro RS.length RS) ∧ Aside (ro = none → rn = 0 ∧ c' = 0) ∧ Aside (wc = w3))
  case first =>
    by_cases h10 : 10 < rl
    · have h10i : (10 : Int) < rl := by omega
      have hsl := cut_i64s ro rl rc 10 h10 hrc.1 hrc.2
      rw [show ((10 : Nat) : Int) = 10 from rfl] at hsl
      go_wp2_with fail
      go_meet
      case rel => exact ⟨rs.take 10, 10, rc, rfl, ⟨(by rw [List.length_take]; have := HLr.out; omega), by omega⟩, HRs.out.front 10, fun e => by have := HNo.out e; omega, rfl⟩
    · have h10i : ¬ (10 : Int) < rl := by omega
      go_wp2_with fail
      go_meet
      case rel => exact ⟨rs, rl, rc, rfl, ⟨HLr.out, by omega⟩, HRs.out, HNo.out, rfl⟩
  case rest =>
  obtain ⟨RS, rn, c2, rfl, hrn, hrs, hno2, hwc⟩ := hcut
  have hwc' := hwc.out
  subst hwc'
  have HRn := hide hrn.out
  have HRS := hide hrs.out
  have HN3 := hide hno2.out
  clear hrn hrs hno2 hwc HNo HRs HLr hrc
  obtain ⟨w3, hw3⟩ : ∃ w3, w3 = wc := ⟨_, rfl⟩
  subst hw3
  have HCn := hide (new_any (100 : Int) w3)
  rw [show (min (max (100 : Int) 0) 65536).toNat = 100 from rfl] at HCn
  go_wp2_with fail
  refine (HCn.out).mono ?_
  rintro e w4 ⟨rfl, hM4, t4, -⟩
  obtain ⟨q, hq⟩ : ∃ q, q = w3.heap.size := ⟨_, rfl⟩
  obtain ⟨p, hp⟩ : ∃ p, p = q + 1 := ⟨_, rfl⟩
  rw [← hq, ← hp] at hM4
  rw [← hq, ← hp]
  have HN4 := hide (show d < q ∧ q < p by have := HD3.out.ltq; omega)
  have HT4 := hide (HT3.out.trans t4)
  have HD4 := hide (HD3.out.turned t4 (by simp))
  have HS4 := hide (t4.at HS3.out (by simp))
  have HP : Hid (Calls Tryz.prog 32 #[.pointer (some ⟨p, 0, none⟩), .int .i64 0, .slice (some ⟨d, 0, none⟩) 100 100] w4 fun e w' => e = .returned (.int .i64 0) ∧ Mem w' p q hw 0 ∧ Turned [p, q] w4 w') := hide (by
    have h3 := put_in p q (List.replicate 100 0) 0 0 d 0 100 hw w4 (by simp) (by simp [HHl.out]) (by rw [HHl.out]; omega) hM4 (fun j x hx => by rw [Nat.zero_add]; exact HD4.out.word hx)
    rw [over_all _ _ (by simp [HHl.out]), HHl.out] at h3
    exact h3)
  clear hM4 t4 hq hp HCn HT3 HD3 HS3
  go_wp2_with fail
  refine (HP.out).mono ?_
  rintro e w5 ⟨rfl, hM5, t5⟩
  have HN5 := hide (show w.heap.size ≤ q ∧ bs < q by have := HN2.out; have := HN4.out; omega)
  have M5 := hide hM5
  have HT5 := hide (HT4.out.trans_new t5 (fun i hi => .inr (by simp at hi; have := HN5.out; have := HN4.out; omega)))
  have HD5 := hide (HD4.out.turned t5 (by simp; have := HN4.out; omega))
  have HS5 := hide (t5.at HS4.out (by simp; have := HN5.out; have := HN4.out; omega))
  clear hM5 t5 HT4 HD4 HS4 HP
  have HB := hide (Bt.new_any 100 w5 (by unfold Bt.In64; omega) (HTb.out.turned HT5.out (by simp)))
  rw [show Bt.kp 65536 100 = 100 from rfl] at HB
  go_wp2_with fail
  refine (HB.out).mono ?_
  rintro e w6' ⟨pb, qb2, rfl, hb6, hpb, hqb, t6⟩
  have M6 := hide (M5.out.turned t6 (by simp) (by simp))
  have HT6 := hide (HT5.out.trans t6)
  have HD6 := hide (HD5.out.turned t6 (by simp))
  have HS6 := hide (t6.at HS5.out (by simp))
  have B6 := hide hb6
  have HN6 := hide (show q < qb2 ∧ p < qb2 by have := M5.out.ltp; have := HN4.out; omega)
  clear hb6 hpb hqb t6 HB M5 HT5 HD5 HS5
  have HMk := hide (lmade11 p q pb qb2 hw x y z w6' 0 M6.out (by rw [HHl.out]; omega) (by rw [HHl.out]; exact B6.out) HXY.out (by have := M6.out.ltp; omega) (by have := HN5.out; have := HN4.out; have := HN6.out; have := HW0.out; simp; omega) (HTb.out.turned HT6.out (by simp)))
  have s0 : w6'.cell? ⟨bs, 0, none⟩ = some (.int .i64 x) := by rw [cell_of_heap HS6.out]; rfl
  have s1 : w6'.cell? ⟨bs, 1, none⟩ = some (.int .i64 y) := by rw [cell_of_heap HS6.out]; rfl
  have s2 : w6'.cell? ⟨bs, 2, none⟩ = some (.int .i64 z) := by rw [cell_of_heap HS6.out]; rfl
  go_wp2_with fail
  refine (HMk.out).mono ?_
  rintro e w7 ⟨P, L, M, len, cp, a, gw, cw, pcc, qc, co, ds, ws, w6, rfl, hPw, hPc, hPn, hPk, hPo, hL, t6, hpc, hqc, hMz, hk⟩
  have HK := hide hk
  have HPf := hide (And.intro hPw (And.intro hPc (And.intro hPn (And.intro hPk (And.intro hPo hL)))))
  have HBP : Hid (BP P) := hide ⟨hPn.1, by rw [hPw, HHl.out]; omega, by rw [hPw]; exact HHi.out, by omega⟩
  have HFi : Hid (∀ i, i ∈ [p, q, qb2, pcc, qc] → w.heap.size ≤ i ∧ d < i) := hide (fun i hi => by
    have := HN5.out; have := HN4.out; have := HN6.out; have := HT6.out.size; have := M6.out.ltp
    have := lt_of_heap M6.out.head
    simp only [List.mem_cons, List.not_mem_nil, or_false] at hi
    omega)
  have HTw := hide (HT6.out.trans t6)
  have HDw := hide (HD6.out.turned t6 (by simp))
  have HRo : Hid (RootOld w6 [p, q, qb2, pcc, qc] ro RS) := hide (fun i v hv => by
    obtain ⟨b, off, e1, e2⟩ := HRS.out.cell i v hv
    have hb := block_lt e2
    have h1 : b < w.heap.size := hb
    refine ⟨b, off, e1, by have := HTw.out.size; omega, fun hm => by have := HFi.out b hm; omega, ?_⟩
    rw [HTw.out.cell (p := ⟨b, off + i, none⟩) h1 (by simp)]
    exact e2)
  obtain ⟨g0, c0⟩ := lm_fresh hk HBP.out (by omega) (by omega)
  have HRt := hide (lm_rootO (I := ⟨M, p, q, len, cp, co, pb, qb2, a, gw, P.n, cw, pcc, qc, 0⟩) (r := 0) (T := RS) (ao := ro) (cap := c2) g0 c0 (by have := HRn.out; omega) (by omega) HRo.out HRS.out.inn)
  rw [← HRn.out.1] at HRt
  clear hk hPw hPc hPn hPk hPo hL t6 hpc hqc hMz HMk s0 s1 s2 M6 B6 HT6 HS6 HD6 HK g0 c0 HRo
  go_wp2_with fail
  refine (HRt.out).mono ?_
  rintro e w8 ⟨rfl, hl8, -⟩
  obtain ⟨I, hI⟩ : ∃ I : Ids, I = ⟨M, p, q, len, cp, co, pb, qb2, a, gw, P.n, cw, pcc, qc, ((0 + rn : Nat) : Int)⟩ := ⟨_, rfl⟩
  have HIe := hide hI
  have HL8 : Hid (Lu P I w6 ds ws RS 10 (3 * P.hw.length + 2 * 22) ((0 : Nat) : Int) (rootsM P.n (MS.fresh (List.replicate L 0) (fun _ => 0) 0 0) 0 RS) w8) := hide (by
    have h1 := hl8.gg.more (H' := 10) (E' := 3 * P.hw.length + 2 * 22) (by have := HRn.out; omega) (by have := HRn.out; omega)
    have h2 : Lm P I w6 ds ws RS 10 (3 * P.hw.length + 2 * 22) ((0 : Nat) : Int) (rootsM P.n (MS.fresh (List.replicate L 0) (fun _ => 0) 0 0) 0 RS) w8 := ⟨by rw [hI]; exact hl8.mem, by simpa using h1⟩
    exact h2.lu)
  generalize rootsM P.n (MS.fresh (List.replicate L 0) (fun _ => 0) 0 0) 0 RS = S at *
  clear hl8 hI HRt
  have HWr : Hid (∀ (wr : World) (H E : Nat) (M' : Int) (S : MS), Lu P I w6 ds ws RS H E M' S wr → Turned [] w wr ∧ Doc wr d hw) := hide (fun wr H E M' S hl => by
    have h1 := hl.tu
    rw [HIe.out] at h1
    exact ⟨HTw.out.trans_new h1 (fun i hi => .inr (HFi.out i hi).1), HDw.out.turned h1 (fun hm => by have := HFi.out d hm; omega)⟩)
  obtain ⟨BD, hBD⟩ : ∃ BD : Nat, BD = (P.n + 2) * (P.n + 2) * (100 + 40 * 100) := ⟨_, rfl⟩
  have HBD := hide hBD
  have hBs : BD ≤ 500000 := by
    rw [hBD]
    have h1 : (P.n + 2) * (P.n + 2) ≤ 6 * 6 := Nat.mul_le_mul (by have := HPf.out; omega) (by have := HPf.out; omega)
    omega
  have HBo := hide (fun W => bound11 P.n 100 HPf.out.2.2.1.2 (by omega) W)
  rw [← hBD] at HBo
  clear hBD HTw HDw
  go_upto_block 2 with fail
  go_cut [14] (fun _ wc => ∃ (j : Nat), Aside (Lu P I w6 ds ws RS 10 (3 * P.hw.length + 2 * 22) (j : Int) (turnsM P S j) wc) ∧ Aside (allE (turnsM P S j) P.n = true))
  case first =>
    go_wp2_with fail
    go_loopg [14] BD (fun gg s14 wr => ∃ (j : Nat), s14 = .int .i64 (j : Int) ∧ j ≤ BD ∧ BD - j ≤ gg ∧ Aside (Lu P I w6 ds ws RS 10 (3 * P.hw.length + 2 * 22) (j : Int) (turnsM P S j) wr))
    case atStart => exact ⟨0, rfl, by omega, by omega, HL8.out⟩
    case round =>
      obtain ⟨j, rfl, hj, hgj, hL1⟩ := hrel
      have L1 := hide hL1.out
      clear hL1
      have HWd := hide (show Calls Tryz.prog 23 #[.pointer (some ⟨p, 0, none⟩), .int .i64 0, .int .i64 65536] wr _ from by
        obtain ⟨Bs, hM⟩ := L1.out.mem
        have hm := hM.hm
        rw [HIe.out, HPf.out.1] at hm
        exact words_mem p q hw _ 0 65536 wr (by rw [HHl.out]; omega) hm)
      rw [HHl.out, show (min (max (65536 : Int) 0) ((100 : Nat) : Int)).toNat = 100 from rfl, show (min (max (0 : Int) 0) ((100 : Nat) : Int)).toNat = 0 from rfl, List.drop_zero, List.take_of_length_le (Nat.le_of_eq HHl.out), HHl.out] at HWd
      go_wp2_with fail
      refine (HWd.out).mono ?_
      rintro e w15 ⟨v15, rfl, ho15, t15⟩
      obtain ⟨gv, cv, rfl, -, -, -, -, -⟩ := ownsRow_open ho15 (by omega)
      have L2 := hide (L1.out.keep0 t15)
      clear ho15 t15 HWd L1
      go_wp2_with fail
      refine (HBo.out w15).mono ?_
      rintro e w16 ⟨rfl, hw16⟩
      rw [hw16]
      clear hw16 w16
      have HDn := hide (lu_done L2.out)
      rw [show I.M = M by rw [HIe.out]] at HDn
      by_cases hjb : j < BD
      · have hjbi : (j : Int) < (BD : Int) := by omega
        cases hall : allE (turnsM P S j) P.n
        · rw [hall] at HDn
          clear hall
          have hkn : j % P.n < P.n := Nat.mod_lt _ (by have := HPf.out; omega)
          have HSt := hide (lu_step L2.out HBP.out hkn (by omega) (by omega))
          rw [show I.M = M by rw [HIe.out]] at HSt
          have hmod : ((j : Nat) : Int).tmod (P.n : Int) = ((j % P.n : Nat) : Int) := by
            rw [Int.tmod_eq_emod_of_nonneg (by omega)]; simp
          have hnz : ¬ ((P.n : Int) = 0) := by have := HPf.out; omega
          go_wp2_with fail
          refine (HDn.out).mono ?_
          rintro e w16 ⟨rfl, hw16⟩
          rw [hw16]
          clear hw16 w16 HDn
          go_wp2_with fail
          refine (HSt.out).mono ?_
          rintro e w17 ⟨rfl, hl17⟩
          have L3 : Hid (Lu P I w6 ds ws RS 10 (3 * P.hw.length + 2 * 22) ((j + 1 : Nat) : Int) (turnsM P S (j + 1)) w17) := hide (by rw [show ((j + 1 : Nat) : Int) = (j : Int) + 1 by omega]; exact hl17)
          clear hl17 HSt L2 hmod hnz hkn
          generalize (if ((stepM P (turnsM P S j) (j % P.n)).X (j % P.n)).ended = true then (2 : Int) else 0) = tv
          go_wp2_with fail
          go_roundg (BD - (j + 1))
          case measure => omega
          case rel => exact ⟨j + 1, by go_num, by omega, Nat.le_refl _, L3.out⟩
        · rw [hall] at HDn
          have HAl := hide hall
          go_wp2_with fail
          refine (HDn.out).mono ?_
          rintro e w16 ⟨rfl, hw16⟩
          rw [hw16]
          clear hw16 w16 HDn
          go_wp2_with fail
          go_meet
          case rel => exact ⟨j, L2.out, HAl.out⟩
      · have hjbi : ¬ (j : Int) < (BD : Int) := by omega
        obtain rfl : j = BD := by omega
        have HAl := hide (lu_over HL8.out HBP.out HPf.out.2.2.1.2 (t := j) (by
          have h1 := bound_ok (n := P.n) (w := 100) (r := 22) HPf.out.2.2.1.1 HPf.out.2.2.1.2 (by omega) (by omega)
          rw [HBD.out, HPf.out.1, HHl.out]
          exact h1))
        go_wp2_with fail
        go_meet
        case rel => exact ⟨j, L2.out, HAl.out⟩
  case rest =>
  obtain ⟨j, hj, hall⟩ := hcut
  have L1 := hide hj.out
  have HAl := hide hall.out
  clear hj hall HBo HL8 hBs HBD
  obtain ⟨w9, hw9⟩ : ∃ w9, w9 = wc := ⟨_, rfl⟩
  subst hw9
  generalize turnsM P S j = Sj at *
  have HFo := hide (four_any w9)
  go_wp2_with fail
  refine (HFo.out).mono ?_
  rintro e w10 ⟨gc, rfl, hc10, t10, -⟩
  have L2 := hide (L1.out.keep0 t10)
  have HLv := hide (live_gen d hw (some ⟨gc, 0, none⟩) 4 4 ro rn c2 RS w10 100 HHl.out (by omega) (fun v hv => HHi.out v hv) (HWr.out w10 _ _ _ _ L2.out).2 hc10.rd (by
    have h1 := HRS.out.turned (HWr.out w10 _ _ _ _ L2.out).1
    rw [← HRn.out.1] at h1
    exact h1) HN3.out (by have := HRn.out; omega))
  rw [show ((100 : Nat) : Int) = 100 from rfl] at HLv
  clear hc10 t10 HFo L1
  go_wp2_with fail
  refine (HLv.out).mono ?_
  rintro e w11 ⟨vv, hres, t11⟩
  have L3 := hide (L2.out.keep0 t11)
  have HDn := hide (lu_done L3.out)
  rw [HAl.out, show I.M = M by rw [HIe.out]] at HDn
  have HTe := hide (HWr.out w11 _ _ _ _ L3.out).1
  clear HLv L2 t11
  rcases hres with rfl | ⟨rfl, bsl, hwk, hnl⟩
  · go_wp2_with fail
    refine (HDn.out).mono ?_
    rintro e w16 ⟨rfl, hw16⟩
    rw [hw16]
    clear hw16 w16 HDn
    go_wp2_with fail
    go_ret
    exact ⟨rfl, HTe.out⟩
  · have hz := lu_right L3.out (right_any (P := P) (bs := bsl) (rs := RS) (f := 1) (g := ((100 : Nat) : Int)) (by omega) HPf.out.2.1 (by rw [HPf.out.1]; exact hwk) (by rw [HPf.out.1]; exact hnl))
    have HFt := hide (lu_fault L3.out)
    rw [hz, show I.M = M by rw [HIe.out]] at HFt
    clear hz hwk hnl
    go_wp2_with fail
    refine (HDn.out).mono ?_
    rintro e w16 ⟨rfl, hw16⟩
    rw [hw16]
    clear hw16 w16 HDn
    go_wp2_with fail
    refine (HFt.out).mono ?_
    rintro e w16 ⟨rfl, hw16⟩
    rw [hw16]
    clear hw16 w16 HFt
    go_wp2_with fail
    go_ret
    exact ⟨rfl, HTe.out⟩
set_option maxHeartbeats 2000000 in
set_option maxRecDepth 100000 in
theorem markFaults_lifted (os : Os) (started : os.Started) (H : Type) (enc : TypeId × Value → H) :
    ReturnsInHanded {} Tryz.checked os 5 .any (fun w args => (Rows.markFaultsSpec.pre enc Tryz.prog Tryz.f5 [] false w args ∧ laidMetH Tryz.prog laidTab w) ∧ sizedMet enc Tryz.prog Tryz.f5 (OpenSpec.ofChange Rows.markFaultsSpec) false w args)
      (Rows.markFaultsSpec.post enc Tryz.prog Tryz.f5 false true false false) := by
  refine returnsInHanded_of_change_and (C := Tryz.checked) (X := fun w _ => laidMetH Tryz.prog laidTab w) (fun _ _ _ hh h => h.of_heap hh) own started (by kernel_rfl) Tryz.func5
    (ChangeSpec.witness_shaped (enc := enc) (C := Tryz.checked) (os := os) (X := fun w _ => laidMetH Tryz.prog laidTab w) false (World.doorLaid Tryz.prog 400 os) #[.slice none 0 0, .slice none 0 0, .agg #[.int .i64 0, .int .i64 0, .int .i64 0]] 8 rfl (World.shaped_of_RefB (by kernel_rfl) (by kernel_rfl)) (by kernel_rfl) (by kernel_rfl) (by kernel_rfl) (door_met os _)) ?_
  intro W base args ds gs before hval0 hW _ _ hL _
  have hTab := tab_of hL
  have hval : ∀ (j : Nat) t v, Tryz.f5.params[j]? = some t → args[j]? = some v → Value.okWide Tryz.prog W .any base t v := hval0
  have hW' := hW
  obtain ⟨p, q, hA0, hV, rfl, hfz, hnd⟩ := hW
  have hA : DataW.TrodAll enc Tryz.prog W 0 (fun _ => true) true Tryz.f5.params.toList args.toList ds p := hA0
  rw [Tryz.params5] at hA hval
  obtain ⟨v0, vs0, d0, ds0, p0, q0, hargs, rfl, rfl, h0, r0⟩ := trodAll_cons hA
  obtain ⟨v1, vs1, d1, ds1, p1, q1, rfl, rfl, rfl, h1, r1⟩ := trodAll_cons r0
  obtain ⟨v2, vs2, d2, ds2, p2, q2, rfl, rfl, rfl, h2, r2⟩ := trodAll_cons r1
  obtain ⟨rfl, rfl, rfl⟩ := trodAll_nil r2
  obtain rfl : args = #[v0, v1, v2] := by cases args; simp_all
  obtain ⟨rfl, rfl⟩ := trodVars_none hV
  obtain ⟨a0, len0, cap0, rfl⟩ := okWide_slice Tryz.underlying30 (hval 0 30 v0 rfl rfl)
  have k0 := h0
  have lt0 : ∀ x ∈ p0, x.block < W.heap.size := by obtain ⟨m, hm⟩ := k0; exact DataW.trod_lt m _ _ _ hm
  obtain ⟨fuel0, hf0⟩ := h0
  obtain ⟨wo, wl, wc, wds, e0, w0, e00, wc0, -⟩ := ird64_of (v := .slice a0 len0 cap0) hf0
  cases e0
  subst e00
  obtain ⟨a1, len1, cap1, rfl⟩ := okWide_slice Tryz.underlying30 (hval 1 30 v1 rfl rfl)
  have k1 := h1
  have lt1 : ∀ x ∈ p1, x.block < W.heap.size := by obtain ⟨m, hm⟩ := k1; exact DataW.trod_lt m _ _ _ hm
  obtain ⟨fuel1, hf1⟩ := h1
  obtain ⟨ro, rl, rc, rs, e1, w1, e11, wc1, wn1⟩ := ird64_of (v := .slice a1 len1 cap1) hf1
  cases e1
  subst e11
  have k2 := h2
  have lt2 : ∀ x ∈ p2, x.block < W.heap.size := by obtain ⟨m, hm⟩ := k2; exact DataW.trod_lt m _ _ _ hm
  obtain ⟨a10, a11, a12, rfl, w2⟩ := open_sizes (hval 2 24 v2 rfl rfl) h2
  simp only [List.append_nil] at hW'
  clear hA0 hval0
  refine (markFaults_walk a0 cap0 wds a1 cap1 rs a10 a11 a12 W w0 w1 wc1 wn1 w2 hTab).mono fun e W' ⟨he, ht⟩ => ?_
  subst he
  have bel : Below W.heap.size W W' := ht.below0
  exact ⟨_, rfl, _, _, _, [], _, [], hW', trodAll_mk1 (shut_bool Tryz.underlying4 _), (trodAll_cons_mk (Below.trod laidOut (by kernel_rfl) (of_decide_eq_true (by kernel_rfl)) k0 bel lt0) (trodAll_cons_mk (Below.trod laidOut (by kernel_rfl) (of_decide_eq_true (by kernel_rfl)) k1 bel lt1) (trodAll_cons_mk (Below.trod laidOut (by kernel_rfl) (of_decide_eq_true (by kernel_rfl)) k2 bel lt2) trodAll_mk0))), rfl, bel.frame _, fun h => by cases h⟩

theorem markFaults_over : Rows.markFaultsRow.holds Tryz.pinned (OpenSpec.ofChange Rows.markFaultsSpec) :=
  OpenClaim.holds_of_wide 5 Tryz.f5 rfl rfl rfl rfl rfl rfl rfl ⟨rfl, rfl, rfl, rfl, rfl⟩ rfl rfl rfl rfl rfl (by kernel_rfl) Tryz.func5 (by kernel_rfl)
    (of_decide_eq_true (by kernel_rfl)) (by unfold Func.isWrapper; first | (rw [if_pos (by decide +kernel)]; kernel_rfl) | (rw [if_neg (by decide +kernel)]; exact ⟨rfl, rfl⟩))
    (fun os started H enc _ => markFaults_lifted os started H enc)

theorem markFaults_holds : Rows.MarkFaultsSaid := markFaults_over

theorem markFaults_card : Rows.MarkFaultsCardSaid :=
  Claim7.holds_tied_plain_at .later [] [.data] true _ false
    markFaults_holds (fun _ h => by cases h) (by kernel_rfl) (fun _ h => by cases h) markFaults_row_tie rfl ⟨rfl, rfl⟩ (by kernel_rfl) rfl
    (fun f fn hf hfn => by
      obtain rfl : f = 5 := Option.some.inj ((show Tryz.prog.funcNamed "ballast/ballastlaw11.MarkFaults" = some 5 by kernel_rfl).symm.trans hf) |>.symm
      obtain rfl : fn = Tryz.f5 := (Option.some.inj (Tryz.func5.symm.trans hfn)).symm
      exact ⟨by kernel_rfl, fun j t ht => by
        rw [Tryz.params5] at ht
        have h3 : t ∈ [30, 30, 24] := by
          have h4 := Array.mem_of_getElem? ht
          simpa using h4
        have h5 : ∀ u, u ∈ [30, 30, 24] → Tryz.prog.wantsStandIn u = false := by
          intro u hu
          simp only [List.mem_cons, List.not_mem_nil, or_false] at hu
          rcases hu with rfl | rfl | rfl <;> kernel_rfl
        exact h5 t h3⟩)
    (by kernel_rfl)

end Go.Proofs.YtgbclfhgpkmcnaaGreatDoor
