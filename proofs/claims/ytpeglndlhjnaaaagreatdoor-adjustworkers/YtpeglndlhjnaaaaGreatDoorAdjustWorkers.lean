/-
  AdjustWorkers: how many workers there are, and how they step, changes nothing of what is turned. For every list of things, any roots, region and waste, any two gangs.
-/
import Derived.Test.YtpeglndlhjnaaaaGreatDoorPack36
import Derived.Test.YtpeglndlhjnaaaaGreatDoorPack27
import Derived.Test.YtpeglndlhjnaaaaGreatDoorPack18
import Derived.Test.YtpeglndlhjnaaaaGreatDoorCards
import Derived.Test.YtpeglndlhjnaaaaGreatDoorTie
import Derived.SevenTiedAt
import Derived.BigQuiet
namespace Go.Proofs.YtpeglndlhjnaaaaGreatDoor
open Go.ChangeShapes Go.WideShapes Go.ChangeAt Go.RowKit Bt
set_option linter.unusedVariables false
set_option linter.unusedSimpArgs false


theorem wrap_one14w {k : Nat} (h : k ≤ 100000) : IntKind.i64.wrap (1 + (k : Int)) = (k : Int) + 1 := by
  rw [IntKind.wrap_i64]; omega
theorem IRd.keepT {w w' : World} {ao : Option Addr} {len : Nat} {l : List Int} (h : IRd w ao len l) (t : Turned [] w w') : IRd w' ao len l := h.turned t
set_option maxHeartbeats 8000000 in
set_option maxRecDepth 100000 in
theorem adjustWorkers_walk (ao : Option Addr) (cap : Nat) (ths : List Th) (x1 y1 z1 : Int) (ro : Option Addr) (rc : Nat) (rs : List Int) (po1 : Option Addr) (pc1 : Nat) (ps1 : List Int) (x2 y2 z2 : Int) (ro2 : Option Addr) (rc2 : Nat) (rs2 : List Int) (po2 : Option Addr) (pc2 : Nat) (ps2 : List Int) (w : World) (h : ThR w ao ths) (hcap : ths.length ≤ cap ∧ cap ≤ 9223372036854775807) (hx1 : In64 x1) (hy1 : In64 y1) (hz1 : In64 z1) (hr : IRd w ro rs.length rs) (hp1 : IRd w po1 ps1.length ps1) (hrc : rs.length ≤ rc ∧ rc ≤ 9223372036854775807) (hx2 : In64 x2) (hy2 : In64 y2) (hz2 : In64 z2) (hr2 : IRd w ro2 rs2.length rs2) (hp2 : IRd w po2 ps2.length ps2) (hrc2 : rs2.length ≤ rc2 ∧ rc2 ≤ 9223372036854775807) (hT : Tab w) :
    Calls Tryz.prog 5 #[.slice ao ths.length cap, .agg #[.int .i64 x1, .int .i64 y1, .int .i64 z1, .slice ro rs.length rc, .slice po1 ps1.length pc1], .agg #[.int .i64 x2, .int .i64 y2, .int .i64 z2, .slice ro2 rs2.length rc2, .slice po2 ps2.length pc2]] w fun e w' => e = .returned (.bool true) ∧ Turned [] w w' := by
  have HW0 := hide (show 0 < w.heap.size by have := block_lt (hT 0 (by omega)); simpa using this)
  obtain ⟨wB, hwB⟩ : ∃ wB, wB = (w.alloc (.cells #[.int .i64 x1, .int .i64 y1, .int .i64 z1, .slice ro rs.length rc, .slice po1 ps1.length pc1] 25)).alloc (.cells #[.int .i64 x2, .int .i64 y2, .int .i64 z2, .slice ro2 rs2.length rc2, .slice po2 ps2.length pc2] 25) := ⟨_, rfl⟩
  have hTB : Turned [] w wB := by rw [hwB]; exact ((Turned.refl [] w).alloc _).alloc _
  have hg2 : wB.heap[w.heap.size + 1]? = some (.cells #[.int .i64 x2, .int .i64 y2, .int .i64 z2, .slice ro2 rs2.length rc2, .slice po2 ps2.length pc2] 25) := by
    rw [hwB]
    have := heap_alloc_new (w.alloc (.cells #[.int .i64 x1, .int .i64 y1, .int .i64 z1, .slice ro rs.length rc, .slice po1 ps1.length pc1] 25)) (.cells #[.int .i64 x2, .int .i64 y2, .int .i64 z2, .slice ro2 rs2.length rc2, .slice po2 ps2.length pc2] 25)
    rw [show (w.alloc (.cells #[.int .i64 x1, .int .i64 y1, .int .i64 z1, .slice ro rs.length rc, .slice po1 ps1.length pc1] 25)).heap.size = w.heap.size + 1 by simp] at this
    exact this
  have hg1 : wB.heap[w.heap.size]? = some (.cells #[.int .i64 x1, .int .i64 y1, .int .i64 z1, .slice ro rs.length rc, .slice po1 ps1.length pc1] 25) := by
    rw [hwB, Below.heap_alloc _ _ _ (by simp)]
    exact heap_alloc_new _ _
  have HAw := hide (awake14 wB (hT.turned hTB (by simp)))
  have HTb := hide hT
  have HTh := hide h
  have HRs := hide hr
  have HT0 := hide hTB
  have HPy := hide (fun w' : World => pick14 y1 40 w' hy1 (by omega))
  have HPz := hide (fun w' : World => pick14 z1 61 w' hz1 (by omega))
  have HPx := hide (fun w' : World => pick14 x1 4 w' hx1 (by omega))
  have HPx2 := hide (fun w' : World => pick14 x2 4 w' hx2 (by omega))
  rw [show ((4 : Nat) : Int) = 4 from rfl] at HPx HPx2
  rw [show ((40 : Nat) : Int) = 40 from rfl] at HPy
  rw [show ((61 : Nat) : Int) = 61 from rfl] at HPz
  have hk1 := pkF_lt y1 (show 0 < 40 by omega)
  have hv1 := pkF_lt z1 (show 0 < 61 by omega)
  have hx1l := pkF_lt x1 (show 0 < 4 by omega)
  have hx2l := pkF_lt x2 (show 0 < 4 by omega)
  generalize pkF x1 4 = kk at *
  generalize pkF x2 4 = kk2 at *
  generalize pkF y1 40 = k at *
  generalize pkF z1 61 = vv at *
  have hwr := wrap_one14w (k := k) (by omega)
  have HPk1 := hide hp1
  have HPk2 := hide hp2
  clear h hT hr hTB hx1 hy1 hz1 hx2 hy2 hz2 hr2 hp1 hp2 hrc2
  obtain ⟨rl, hrl⟩ : ∃ rl, rl = rs.length := ⟨_, rfl⟩
  obtain ⟨rl2, hrl2⟩ : ∃ rl2, rl2 = rs2.length := ⟨_, rfl⟩
  obtain ⟨pl1, hpl1⟩ : ∃ pl1, pl1 = ps1.length := ⟨_, rfl⟩
  obtain ⟨pl2, hpl2⟩ : ∃ pl2, pl2 = ps2.length := ⟨_, rfl⟩
  obtain ⟨tl, htl⟩ : ∃ tl, tl = ths.length := ⟨_, rfl⟩
  have HLr := hide hrl
  have HLt := hide htl
  rw [← hpl1, ← hpl2, ← hrl, ← hrl2] at hwB ⊢
  rw [← hpl1, ← hrl] at hg1
  rw [← hpl2, ← hrl2] at hg2
  rw [← hpl1] at HPk1
  rw [← hpl2] at HPk2
  rw [← hrl] at hrc
  rw [← htl] at hcap ⊢
  clear hpl1 hpl2 hrl hrl2 htl
  obtain ⟨qb, hqb⟩ : ∃ qb, qb = w.heap.size := ⟨_, rfl⟩
  obtain ⟨rb, hrb⟩ : ∃ rb, rb = qb + 1 := ⟨_, rfl⟩
  rw [← hqb] at hg1 hg2
  rw [← hrb] at hg2
  have HBn := hide (show w.heap.size ≤ qb ∧ qb < rb by omega)
  have HQ0 := hide hg1
  have HR0 := hide hg2
  clear hg1 hg2
  go_enter Tryz.func5, Tryz.ntmps5
  go_upto_region 1 with fail
  rw [← hwB, ← hqb, ← hrb]
  clear hwB hqb hrb
  go_wp2_with fail
  refine (HAw.out).mono ?_
  rintro e w1 ⟨rfl, t1⟩
  have HT1 := hide (HT0.out.trans t1)
  have HQ1 := hide (t1.at HQ0.out (by simp))
  have HR1 := hide (t1.at HR0.out (by simp))
  clear t1 HT0 HQ0 HR0 HAw
  go_upto_if 22 with fail
  go_cut [0] (fun s0 wc => ∃ (T : List Th) (tn c' : Nat), s0 = .slice ao tn c' ∧ tn ≤ 50 ∧ Aside (tn = T.length) ∧ Aside (ThR w ao T) ∧ Aside (wc = w1))
  case first =>
    by_cases h40 : 50 < tl
    · have h40i : (50 : Int) < tl := by omega
      have hsl := cut_things ao tl cap 50 h40 hcap.1 hcap.2
      rw [show ((50 : Nat) : Int) = 50 from rfl] at hsl
      go_wp2_with fail
      go_meet
      case rel => exact ⟨ths.take 50, 50, cap, rfl, by omega, (by show 50 = (ths.take 50).length; rw [List.length_take]; have := HLt.out; omega), HTh.out.front 50, rfl⟩
    · have h40i : ¬ (50 : Int) < tl := by omega
      go_wp2_with fail
      go_meet
      case rel => exact ⟨ths, tl, cap, rfl, by omega, HLt.out, HTh.out, rfl⟩
  case rest =>
    obtain ⟨T, tn, c', rfl, htn, htT, hthr, hwc⟩ := hcut
    have hwc' := hwc.out
    subst hwc'
    clear hwc hcap HLt HTh tl
    have HTl := hide htT.out
    have HTh := hide hthr.out
    clear htT hthr
    obtain ⟨w1, hw1⟩ : ∃ w1, w1 = wc := ⟨_, rfl⟩
    subst hw1
    have q0 : w1.cell? ⟨qb, 3, none⟩ = some (.slice ro rl rc) := by rw [cell_of_heap HQ1.out]; rfl
    have qf : w1.frozen? ⟨qb, 3, none⟩ = false := by simp [World.frozen?, HQ1.out]
    have hbqs := lt_of_heap HQ1.out
    go_upto_if 28 with fail
    go_cut [6] (fun s6 wc => ∃ (RS : List Int) (rn c' : Nat), s6 = .bool false ∧ Aside (rn = RS.length ∧ rn ≤ 10) ∧ Aside (IRd w ro RS.length RS) ∧ Aside (wc.heap[qb]? = some (.cells #[.int .i64 x1, .int .i64 y1, .int .i64 z1, .slice ro rn c', .slice po1 pl1 pc1] 25)) ∧ Aside (wc.heap[rb]? = some (.cells #[.int .i64 x2, .int .i64 y2, .int .i64 z2, .slice ro2 rl2 rc2, .slice po2 pl2 pc2] 25)) ∧ Aside (Turned [] w wc))
    case first =>
      by_cases h10 : 10 < rl
      · have h10i : (10 : Int) < rl := by omega
        have hsl := cut_ints ro rl rc 10 h10 hrc.1 hrc.2
        rw [show ((10 : Nat) : Int) = 10 from rfl] at hsl
        have HQ2 : Hid ((w1.setCell ⟨qb, 3, none⟩ (.slice ro 10 rc)).heap[qb]? = some (.cells #[.int .i64 x1, .int .i64 y1, .int .i64 z1, .slice ro 10 rc, .slice po1 pl1 pc1] 25)) := hide (by rw [heap_setCell_at _ _ _ _ _ _ HQ1.out]; rfl)
        have HR2 : Hid ((w1.setCell ⟨qb, 3, none⟩ (.slice ro 10 rc)).heap[rb]? = some (.cells #[.int .i64 x2, .int .i64 y2, .int .i64 z2, .slice ro2 rl2 rc2, .slice po2 pl2 pc2] 25)) := hide (by rw [Below.heap_setCell _ _ _ _ (by show rb ≠ qb; have := HBn.out; omega)]; exact HR1.out)
        have HT2 := hide (HT1.out.setCell (p := ⟨qb, 3, none⟩) (.inr (show w.heap.size ≤ qb from HBn.out.1)) (.slice ro 10 rc))
        go_wp2_with fail
        go_meet
        case rel => exact ⟨rs.take 10, 10, rc, rfl, ⟨(by rw [List.length_take]; have := HLr.out; omega), by omega⟩, HRs.out.front 10, HQ2.out, HR2.out, HT2.out⟩
      · have h10i : ¬ (10 : Int) < rl := by omega
        go_wp2_with fail
        go_meet
        case rel => exact ⟨rs, rl, rc, rfl, ⟨HLr.out, by omega⟩, HRs.out, HQ1.out, HR1.out, HT1.out⟩
    case rest =>
    obtain ⟨RS, rn, c2, rfl, hrn, hrs, hq2, hr2, ht2⟩ := hcut
    have HRn := hide hrn.out
    have HRS := hide hrs.out
    have HQ2 := hide hq2.out
    have HR2 := hide hr2.out
    have HT2 := hide ht2.out
    clear hrn hrs hq2 hr2 ht2 HQ1 HR1 HT1 q0 qf hbqs HRs HLr hrc
    obtain ⟨w2, hw2⟩ : ∃ w2, w2 = wc := ⟨_, rfl⟩
    subst hw2
    have HMd := hide (fun (w' : World) (t : Turned [] w w') => la_made ao c' T ro c2 RS (k + 1) vv 300 w' (HTh.out.turned t) (HRS.out.turned t) (by omega) (by have := HTl.out; omega) (by have := HRn.out; omega) (by omega) (by omega) (by omega) (HTb.out.turned t (by simp)))
    rw [← HTl.out, ← HRn.out.1, show ((300 : Nat) : Int) = 300 from rfl, show ((k + 1 : Nat) : Int) = (k : Int) + 1 from by omega] at HMd
    go_upto_region 7 with fail
    obtain ⟨ab, hab⟩ : ∃ ab, ab = w2.heap.size := ⟨_, rfl⟩
    obtain ⟨w3, hw3⟩ : ∃ w3, w3 = w2.alloc (.cells #[.slice none 0 0, .slice none 0 0] 59) := ⟨_, rfl⟩
    have t3 : Turned [] w2 w3 := by rw [hw3]; exact (Turned.refl [] w2).alloc _
    have HWA : Hid (WA14 T RS (k + 1) vv w3 ab 0 (fun _ => .slice none 0 0)) := hide ⟨⟨_, by rw [hw3, hab]; exact heap_alloc_new _ _, rfl, fun i hi => (by rcases (show i = 0 ∨ i = 1 by omega) with rfl | rfl <;> rfl)⟩, fun i hi => by omega⟩
    have HVs : Hid (∀ i, ∃ a n c, (fun _ : Nat => Value.slice none 0 0) i = .slice a n c) := hide (fun i => ⟨none, 0, 0, rfl⟩)
    rw [← hab, ← hw3]
    have HT3 := hide (HT2.out.trans t3)
    have HQ3 := hide (t3.at HQ2.out (by simp))
    have HR3 := hide (t3.at HR2.out (by simp))
    have HAb : Hid (w.heap.size ≤ ab) := hide (by rw [hab]; exact HT2.out.size)
    obtain ⟨n1, hn1⟩ : ∃ n1 : Nat, n1 = kk + 1 := ⟨_, rfl⟩
    obtain ⟨n2, hn2⟩ : ∃ n2 : Nat, n2 = kk2 + 1 := ⟨_, rfl⟩
    have HN1 : Hid (1 ≤ n1 ∧ n1 ≤ 4) := hide (by omega)
    have HN2 : Hid (1 ≤ n2 ∧ n2 ≤ 4) := hide (by omega)
    have HW1 : Hid (wrap64 (1 + (kk : Int)) = (n1 : Int)) := hide (by unfold wrap64; omega)
    have HW2 : Hid (wrap64 (1 + (kk2 : Int)) = (n2 : Int)) := hide (by unfold wrap64; omega)
    have hk1' : k < 40 := hk1
    clear hn1 hn2 hx1l hx2l t3 hw3 hab HQ2 HR2 HT2 htn
    go_wp2_with fail
    go_loopg [9, 10, 11, 12, 13, 14, 15, 16, 17] 2 (fun gg s9 s10 s11 s12 s13 s14 s15 s16 s17 wr => ∃ (kq : Nat) (V : Nat → Value), gg = 2 - kq ∧ kq ≤ 2 ∧ s9 = .int .i64 (kq : Int) ∧ Hid (Turned [] w wr) ∧ Hid (WA14 T RS (k + 1) vv wr ab kq V) ∧ Hid (∀ i, ∃ a n c, V i = .slice a n c) ∧ Hid (wr.heap[qb]? = some (.cells #[.int .i64 x1, .int .i64 y1, .int .i64 z1, .slice ro rn c2, .slice po1 pl1 pc1] 25)) ∧ Hid (wr.heap[rb]? = some (.cells #[.int .i64 x2, .int .i64 y2, .int .i64 z2, .slice ro2 rl2 rc2, .slice po2 pl2 pc2] 25)))
    case atStart => exact ⟨0, _, rfl, by omega, rfl, HT3, HWA, HVs, HQ3, HR3⟩
    case round =>
      clear HT3 HWA HVs HQ3 HR3
      obtain ⟨kq, V, rfl, hkq, rfl, HT4, HWA, HVs, HQ4, HR4⟩ := hrel
      obtain ⟨w4, hw4⟩ : ∃ w4, w4 = wr := ⟨_, rfl⟩
      subst hw4
      by_cases hlt : kq < 2
      · have hkqi : (kq : Int) < 2 := by omega
        have q1 : w4.drew.cell? ⟨qb, 1, none⟩ = some (.int .i64 y1) := by show w4.cell? _ = _; rw [cell_of_heap HQ4.out]; rfl
        have q2 : w4.drew.cell? ⟨qb, 2, none⟩ = some (.int .i64 z1) := by show w4.cell? _ = _; rw [cell_of_heap HQ4.out]; rfl
        have q3 : w4.drew.cell? ⟨qb, 3, none⟩ = some (.slice ro rn c2) := by show w4.cell? _ = _; rw [cell_of_heap HQ4.out]; rfl
        have HPy' := HPy
        have HPz' := HPz
        have HD4 := hide (HT4.out.drew)
        have HU4 := hide ((Turned.refl [] w4).drew)
        go_wp2_with fail
        go_region_held3 (fun w' => w'.cell? ⟨qb, 1, none⟩ = some (.int .i64 y1) ∧ w'.cell? ⟨qb, 2, none⟩ = some (.int .i64 z1) ∧ w'.cell? ⟨qb, 3, none⟩ = some (.slice ro rn c2)) (go_keep)
          (first
            | (go_at_call 9; refine (HPy'.out _).mono ?_; rintro e wz ⟨rfl, hwz⟩; subst hwz; clear HPy')
            | (go_at_call 9; refine (HPz'.out _).mono ?_; rintro e wz ⟨rfl, hwz⟩; subst hwz; clear HPz')
            | (go_at_call 8; refine (HMd.out _ HD4.out).mono ?_; rintro e w5 ⟨J, rv, rvc, vs, rfl, hX, hM, hN, hL, hMS, hMk, hBl, hCut, hvl, hvr, hvo, hlo, t5⟩; have z1' : w5.cell? ⟨qb, 1, none⟩ = some (.int .i64 y1) := (by rw [t5.cell (block_lt q1) (by simp)]; exact q1); have z2' : w5.cell? ⟨qb, 2, none⟩ = some (.int .i64 z1) := (by rw [t5.cell (block_lt q2) (by simp)]; exact q2); have z3' : w5.cell? ⟨qb, 3, none⟩ = some (.slice ro rn c2) := (by rw [t5.cell (block_lt q3) (by simp)]; exact q3); have HX := hide hX; have HM := hide hM; have HN := hide hN; have HSm : Hid (Same14 T RS (k + 1) vv J) := hide ⟨hN, hL, hMS, hMk, hBl, hCut⟩; have HLo := hide (show w4.heap.size ≤ J.cp ∧ w4.heap.size ≤ J.cq ∧ w4.heap.size ≤ J.xb from hlo); have HU5 := hide (HU4.out.trans t5); clear hX hM hN hL hMS hMk hBl hCut hvl hvr hvo hlo t5))
        clear q1 q2 q3 z1' z2' z3' HD4 HU4
        have hg1 : w5.heap[qb]? = some (.cells #[.int .i64 x1, .int .i64 y1, .int .i64 z1, .slice ro rn c2, .slice po1 pl1 pc1] 25) := by rw [HU5.out.block qb (lt_of_heap HQ4.out) (by simp)]; exact HQ4.out
        have hg2 : w5.heap[rb]? = some (.cells #[.int .i64 x2, .int .i64 y2, .int .i64 z2, .slice ro2 rl2 rc2, .slice po2 pl2 pc2] 25) := by rw [HU5.out.block rb (lt_of_heap HR4.out) (by simp)]; exact HR4.out
        have q0 : w5.cell? ⟨qb, 0, none⟩ = some (.int .i64 x1) := by rw [cell_of_heap hg1]; rfl
        have q4 : w5.cell? ⟨qb, 4, none⟩ = some (.slice po1 pl1 pc1) := by rw [cell_of_heap hg1]; rfl
        have r0 : w5.cell? ⟨rb, 0, none⟩ = some (.int .i64 x2) := by rw [cell_of_heap hg2]; rfl
        have r4 : w5.cell? ⟨rb, 4, none⟩ = some (.slice po2 pl2 pc2) := by rw [cell_of_heap hg2]; rfl
        have HPa : Hid (IRd w5 po1 pl1 ps1) := hide (HPk1.out.turned (HT4.out.trans HU5.out))
        have HPb : Hid (IRd w5 po2 pl2 ps2) := hide (HPk2.out.turned (HT4.out.trans HU5.out))
        clear hg1 hg2
        have HLt := hide hlt
        go_wp2_with fail
        refine (HPx.out _).mono ?_
        rintro e wz ⟨rfl, hwz⟩
        rw [hwz]; clear hwz wz
        clear q0 q4
        go_upto_region 15 with fail
        obtain ⟨bq1, hbq1⟩ : ∃ b, b = decide ((kq : Int) = 1) := ⟨_, rfl⟩
        have HBq := hide hbq1
        clear hbq1
        go_cut [60] (fun s60 wc => s60 = .bool bq1 ∧ Aside (wc = w5))
        case first =>
          go_wp2_with fail
          go_meet
          case rel => exact ⟨by rw [HBq.out]; first | rfl | (congr 1; by_cases h9 : (kq : Int) = 1 <;> simp [h9]), rfl⟩
        case rest =>
        obtain ⟨rfl, hwc⟩ := hcut
        have hwc2 := hwc.out
        clear hwc
        subst hwc2
        go_upto_if 60 with fail
        go_cut [12, 13] (fun s12 s13 wc' => ∃ (po : Option Addr) (pl pc n : Nat) (ps : List Int), s12 = .slice po pl pc ∧ s13 = .int .i64 (n : Int) ∧ Aside (1 ≤ n ∧ n ≤ 4) ∧ Aside (IRd w po pl ps) ∧ Aside (wc' = wc))
        case first =>
          by_cases hb : bq1 = true
          · subst hb
            clear HBq
            go_wp2_with fail
            refine (HPx2.out _).mono ?_
            rintro e wz ⟨rfl, hwz⟩
            rw [hwz]; clear hwz wz
            go_wp2_with fail
            go_meet
            case rel => exact ⟨po2, pl2, pc2, n2, ps2, rfl, by rw [HW2.out], HN2.out, HPk2.out, rfl⟩
          · rw [Bool.not_eq_true] at hb
            subst hb
            clear HBq
            go_wp2_with fail
            go_meet
            case rel => exact ⟨po1, pl1, pc1, n1, ps1, rfl, by rw [HW1.out], HN1.out, HPk1.out, rfl⟩
        case rest =>
        clear r0 r4 HPa HPb HBq
        obtain ⟨w5, hw5⟩ : ∃ w5, w5 = wc := ⟨_, rfl⟩
        subst hw5
        obtain ⟨wc, hwcc⟩ : ∃ x, x = w5 := ⟨_, rfl⟩
        subst hwcc
        obtain ⟨po, pl, pc, n, ps, rfl, rfl, hnn, hpk, hwc⟩ := hcut
        have hwc2 := hwc.out
        have HNn := hide hnn.out
        have HPk := hide hpk.out
        clear hnn hpk hwc
        subst hwc2
        obtain ⟨w3, hw3⟩ : ∃ x, x = wc := ⟨_, rfl⟩
        subst hw3
        have HNw := hide (fun (w' : World) (t : Turned [] w3 w') kp kq cb cl hcl hk hc hkp hkq => la_new HX.out HM.out (by have := HLo.out; have := HW0.out; have := HT4.out.size; omega) t kp kq cb 4 4 n cl hcl hk hc hkp hkq (by have := HNn.out; omega))
        obtain ⟨x0, -, x2, -, x4, x5, x6, x7, x8, x9, x10, x11, x12⟩ := (HX.out.quiet ((Turned.refl [] w3).drew)).cs
        have HD3 := hide ((Turned.refl [] w3).drew)
        unfold LJ.plan plC at HNw
        go_wp2_with fail
        go_region_held3 (fun w' => w'.cell? ⟨J.xb, 0, none⟩ = some (.pointer (some ⟨J.cp, 0, none⟩)) ∧ w'.cell? ⟨J.xb, 2, none⟩ = some (.pointer (some ⟨J.bp, 0, none⟩)) ∧ w'.cell? ⟨J.xb, 4, none⟩ = some (.int .i64 (J.P.f : Int)) ∧ w'.cell? ⟨J.xb, 5, none⟩ = some (.int .i64 (J.P.t : Int)) ∧ w'.cell? ⟨J.xb, 6, none⟩ = some (.int .i64 (J.P.k : Int)) ∧ w'.cell? ⟨J.xb, 7, none⟩ = some (.int .i64 (J.P.d : Int)) ∧ w'.cell? ⟨J.xb, 8, none⟩ = some (.int .i64 (J.P.e : Int)) ∧ w'.cell? ⟨J.xb, 9, none⟩ = some (.slice (some ⟨J.lq, 0, none⟩) J.P.R J.lc) ∧ w'.cell? ⟨J.xb, 10, none⟩ = some (.slice (some ⟨J.aq, 0, none⟩) J.P.R J.ac) ∧ w'.cell? ⟨J.xb, 11, none⟩ = some (.slice (some ⟨J.wq, 0, none⟩) J.P.R J.P.R) ∧ w'.cell? ⟨J.xb, 12, none⟩ = some (.slice (some ⟨J.tq, 0, none⟩) J.P.R J.P.R)) (go_keep)
          (first
            | (go_at_call 12; refine (four_any _).mono ?_; rintro e w4' ⟨cb, rfl, hc4, t4, hcb⟩; have HC4 := hide hc4; have HT5' := hide (HD3.out.trans t4); obtain ⟨y0, -, y2, -, y4, y5, y6, y7, y8, y9, y10, y11, y12⟩ := (HX.out.quiet HT5'.out).cs; clear hc4 t4 hcb)
            | (go_at_call 10; refine (new_any 1 _).mono ?_; rintro e w5' ⟨rfl, hm5, t5, hz5⟩; have HM5 := hide hm5; have HC5 := hide (HC4.out.turned0 t5); have HS5 := hide (HT5'.out.size); have HT5 := hide (HT5'.out.trans t5); obtain ⟨z0, -, z2, -, z4, z5, z6, z7, z8, z9, z10, z11, z12⟩ := (HX.out.quiet HT5.out).cs; clear hm5 t5 hz5)
            | (go_at_call 11; refine (HNw.out _ HT5.out _ _ _ _ (by simp; omega) HM5.out HC5.out (Nat.le_succ_of_le HS5.out) HS5.out).mono ?_; rintro e w6 ⟨I, s0, rfl, hL, -, -, -, hmea, t6⟩; have HL := hide hL; have HMe := hide hmea; obtain ⟨u0, -, u2, -, u4, u5, u6, u7, u8, u9, u10, u11, u12⟩ := hL.wxw.cs; clear hL hmea t6))
        clear x0 x2 x4 x5 x6 x7 x8 x9 x10 x11 x12 y0 y2 y4 y5 y6 y7 y8 y9 y10 y11 y12 z0 z2 z4 z5 z6 z7 z8 z9 z10 z11 z12 u0 u2 u4 u5 u6 u7 u8 u9 u10 u11 u12 HNw HD3 HC4 HT5' HM5 HC5 HS5 HT5
        have HMx : Hid (meaA J.P J.S four J.N J.L s0 ≤ 1000) := hide (by have := HMe.out; have := HN.out; have := HNn.out; omega)
        clear HMe
        go_upto_block 2 with fail
        go_cut [16] (fun s16 wc => ∃ (s : AdS), Aside (Lx J I n w3 wc s) ∧ Aside (meaA J.P J.S four J.N J.L s ≤ 1000))
        case first =>
          go_wp2_with fail
          go_loopg [16] 300 (fun gg s16 wr => ∃ (i : Nat) (s : AdS), gg = 300 - i ∧ i ≤ 300 ∧ s16 = .int .i64 (i : Int) ∧ Hid (Lx J I n w3 wr s) ∧ Hid (meaA J.P J.S four J.N J.L s ≤ 1000))
          case atStart => exact ⟨0, s0, rfl, by omega, rfl, HL, HMx⟩
          case round =>
            clear HL HMx
            obtain ⟨i, s, rfl, hi, rfl, HL, HMx⟩ := hrel
            obtain ⟨w7, hw7⟩ : ∃ w7, w7 = wr := ⟨_, rfl⟩
            subst hw7
            by_cases h1 : i < pl
            · have h1i : (i : Int) < (pl : Int) := by omega
              by_cases h2 : i < 300
              · have h2i : (i : Int) < 300 := by omega
                have HT7 : Hid (Turned [] w w7) := hide (((HT4.out.trans HU5.out).trans_new HL.out.t (fun i hi => .inr (by
                  have h1 := HLo.out
                  have h2 := HT4.out.size
                  simp only [List.mem_cons, List.not_mem_nil, or_false] at hi
                  rcases hi with rfl | rfl <;> omega))))
                have HPk7 := hide (HPk.out.turned HT7.out)
                obtain ⟨c, hc'⟩ : ∃ c, ps[i]? = some c := ⟨_, List.getElem?_eq_getElem (by rw [HPk7.out.size]; exact h1)⟩
                obtain ⟨b, off, rfl, cpk⟩ := HPk7.out.cell i c hc'
                have HPc := hide (fun w' : World => pick14 c n w' (HPk7.out.inn c (List.mem_of_getElem? hc')) ⟨by have := HNn.out; omega, by have := HNn.out; omega⟩)
                have HPl : Hid (pkF c n < n) := hide (pkF_lt c (by have := HNn.out; omega))
                generalize pkF c n = kp at *
                have HSt := hide (la_step HL.out kp HPl.out)
                have HM8 : Hid (meaA J.P J.S four J.N J.L (stepA14 J.P J.S four J.N s kp) ≤ 1000) := hide (Nat.le_trans (HL.out.num.next HL.out.wx.gd HL.out.inv kp).2.2 HMx.out)
                generalize stepA14 J.P J.S four J.N s kp = s' at *
                clear hc' HT7
                go_wp2_with fail
                refine (HPc.out _).mono ?_
                rintro e wz ⟨rfl, hwz⟩
                rw [hwz]; clear hwz wz
                go_wp2_with fail
                refine (HSt.out).mono ?_
                rintro e w8 ⟨⟨r, rfl⟩, h8, -, -⟩
                have HL8 := hide h8
                clear h8 HSt HL HMx
                go_wp2_with fail
                go_roundg (300 - (i + 1))
                case measure => omega
                case rel => exact ⟨i + 1, s', rfl, h2, by go_num, HL8, HM8⟩
              · have h2i : ¬ (i : Int) < 300 := by omega
                go_wp2_with fail
                go_meet
                case rel => exact ⟨s, HL.out, HMx.out⟩
            · have h1i : ¬ (i : Int) < (pl : Int) := by omega
              go_wp2_with fail
              go_meet
              case rel => exact ⟨s, HL.out, HMx.out⟩
        case rest =>
        clear HL HMx
        obtain ⟨s, hl, hmx⟩ := hcut
        have HL := hide hl.out
        have HMx := hide hmx.out
        clear hl hmx HPk
        have HTn : Hid (TnA J.P J.S four J.N J.L n s 0 5000) := hide (TnA.start HL.out.ws (by
          have h1 := HMx.out
          have h3 := HNn.out
          have h4 := Nat.mul_le_mul h1 h3.2
          have h5 : meaA J.P J.S four J.N J.L s * n ≤ meaA J.P J.S four J.N J.L s * 4 := Nat.mul_le_mul_left _ h3.2
          omega))
        clear HMx
        obtain ⟨w6, hw6⟩ : ∃ w6, w6 = wc := ⟨_, rfl⟩
        subst hw6
        go_wp2_with fail
        go_loopg [17] 16000 (fun gg s17 wr => ∃ (i : Nat) (s : AdS), gg = 16000 - i ∧ i ≤ 5001 ∧ s17 = .int .i64 (i : Int) ∧ Hid (Lx J I n w3 wr s) ∧ Hid (TnA J.P J.S four J.N J.L n s i 5000))
        case atStart => exact ⟨0, s, rfl, by omega, rfl, HL, HTn⟩
        case round =>
          clear HL HTn
          obtain ⟨i, s, rfl, hi, rfl, HL, HTn⟩ := hrel
          obtain ⟨w7, hw7⟩ : ∃ w7, w7 = wr := ⟨_, rfl⟩
          subst hw7
          have hii : (i : Int) < 16000 := by omega
          have HDo := hide (la_done HL.out)
          cases hd : doneA s
          · rw [hd] at HDo
            have HNd : Hid (¬ ∀ k, ¬ onA s k) := hide (fun h => by have := doneA_on.2 h; rw [hd] at this; cases this)
            clear hd
            have hi2 : i < 5001 := by
              rcases Nat.lt_or_ge i 5001 with h | h
              · exact h
              · exact absurd (HTn.out.over (by omega)) HNd.out
            have HT8 := hide (HTn.out.step HL.out.wx.gd HL.out.inv HL.out.ws HNd.out)
            have hnz : ¬ ((n : Int) = 0) := by have := HNn.out; omega
            have hnm : ¬ ((n : Int) = -1) := by have := HNn.out; omega
            have htm : (i : Int).tmod (n : Int) = ((i % n : Nat) : Int) := by rw [Int.tmod_eq_emod_of_nonneg (by omega)]; rfl
            have hlt2 : i % n < n := Nat.mod_lt _ (by have := HNn.out; omega)
            obtain ⟨m, hm⟩ : ∃ m, m = i % n := ⟨_, rfl⟩
            rw [← hm] at htm hlt2 HT8
            have HSt := hide (la_step HL.out m hlt2)
            clear hm hlt2 HTn HNd
            go_wp2_with fail
            refine (HDo.out).mono ?_
            rintro e w8 ⟨rfl, hw8⟩
            rw [hw8]; clear hw8 w8 HDo
            go_wp2_with fail
            refine (HSt.out).mono ?_
            rintro e w8 ⟨⟨r, rfl⟩, hL8, -, -⟩
            have HL8 := hide hL8
            clear hL8 HSt HL htm hnz hnm
            go_wp2_with fail
            go_roundg (16000 - (i + 1))
            case measure => omega
            case rel => exact ⟨i + 1, _, rfl, hi2, by go_num, HL8, HT8⟩
          · rw [hd] at HDo
            have HOn := hide (doneA_on.1 hd)
            clear hd HTn
            go_wp2_with fail
            refine (HDo.out).mono ?_
            rintro e w8 ⟨rfl, hw8⟩
            rw [hw8]; clear hw8 w8 HDo
            have HWo := hide (la_words HL.out HOn.out (by rw [HN.out]; omega))
            rw [HN.out, show ((300 : Nat) : Int) = 300 from rfl] at HWo
            obtain ⟨x0, -⟩ := HL.out.wxw.cs
            go_wp2_with fail
            refine (HWo.out).mono ?_
            rintro e w8 ⟨g, gc, rfl, hgc, hgw, hgn, t8⟩
            have HT48 : Hid (Turned [] w4 w8) := hide ((HU5.out.trans_new HL.out.t (fun i hi => .inr (by
              have h1 := HLo.out
              simp only [List.mem_cons, List.not_mem_nil, or_false] at hi
              rcases hi with rfl | rfl <;> omega))).trans t8)
            have HA8 := hide (HWA.out.turned HT48.out)
            obtain ⟨ca, ha1, ha2, ha3⟩ := HA8.out.hw
            have hab4 : ab < w4.heap.size := by obtain ⟨cb4, hb4, -⟩ := HWA.out.hw; exact lt_of_heap hb4
            have hgab : g ≠ ab := by
              have h1 := HL.out.t.size
              have h2 := HU5.out.size
              omega
            have HN9 := hide (HA8.out.next HLt.out HSm.out (fun i hi => hgw i hi) (c := gc) hgab (fun i hi g' c' e1 => by
              obtain ⟨J', g2, c2', e2, e3, e4⟩ := HA8.out.got i hi
              rw [e2] at e1
              cases e1
              exact Got14.ne ha1 (fun j hj => by
                obtain ⟨a, n', c3, e5⟩ := HVs.out j
                exact ⟨a, n', c3, by rw [ha3 j hj, e5]⟩) (J := J') (e4 0 (by omega))))
            have ca1 : w8.cell? ⟨ab, kq, none⟩ = some (V kq) := by rw [cell_of_heap ha1]; exact ha3 kq HLt.out
            have fa1 : w8.frozen? ⟨ab, kq, none⟩ = false := by simp [World.frozen?, ha1]
            have la1 := lt_of_heap ha1
            have hkq2 : kq < 2 := HLt.out
            have HV9 : Hid (∀ i, ∃ a n c, (fun i => if i = kq then Value.slice (some ⟨g, 0, none⟩) 300 gc else V i) i = .slice a n c) := hide (fun i => by
              by_cases e : i = kq
              · exact ⟨_, _, _, by simp only [e, if_pos]; rfl⟩
              · obtain ⟨a, n', c, h9⟩ := HVs.out i
                exact ⟨a, n', c, by simp only [if_neg e]; exact h9⟩)
            have hq8 := HT48.out.at HQ4.out (by simp)
            have hr8 := HT48.out.at HR4.out (by simp)
            have HQ9 : Hid ((w8.setCell ⟨ab, kq, none⟩ (.slice (some ⟨g, 0, none⟩) 300 gc)).heap[qb]? = some (.cells #[.int .i64 x1, .int .i64 y1, .int .i64 z1, .slice ro rn c2, .slice po1 pl1 pc1] 25)) := hide (by rw [Below.heap_setCell _ _ _ _ (show qb ≠ ab from ne_of_type hq8 ha1 (by decide))]; exact hq8)
            have HR9 : Hid ((w8.setCell ⟨ab, kq, none⟩ (.slice (some ⟨g, 0, none⟩) 300 gc)).heap[rb]? = some (.cells #[.int .i64 x2, .int .i64 y2, .int .i64 z2, .slice ro2 rl2 rc2, .slice po2 pl2 pc2] 25)) := hide (by rw [Below.heap_setCell _ _ _ _ (show rb ≠ ab from ne_of_type hr8 ha1 (by decide))]; exact hr8)
            have HT9 := hide ((HT4.out.trans HT48.out).setCell (p := ⟨ab, kq, none⟩) (.inr (show w.heap.size ≤ ab from HAb.out)) (.slice (some ⟨g, 0, none⟩) 300 gc))
            clear hgw t8 HWo HL x0 ha1 ha2 ha3 hq8 hr8 HA8 HWA HT48 HQ4 HR4 HU5 HVs hab4 hgab hgn hgc hii hi
            have hkw : wrap64 ((kq : Int) + 1) = ((kq + 1 : Nat) : Int) := by unfold wrap64; omega
            go_wp2_with fail
            go_roundg (2 - (kq + 1))
            case measure => omega
            case rel => exact ⟨kq + 1, _, rfl, hkq2, by go_num, HT9, HN9, HV9, HQ9, HR9⟩
      · have hk2 : kq = 2 := by omega
        subst hk2
        obtain ⟨J0, g0, c0, v0, s0, d0⟩ := HWA.out.got 0 (by omega)
        obtain ⟨J1, g1, c1, v1, s1, d1⟩ := HWA.out.got 1 (by omega)
        obtain ⟨ca, ha1, ha2, ha3⟩ := HWA.out.hw
        have a0 : w4.cell? ⟨ab, 0, none⟩ = some (.slice (some ⟨g0, 0, none⟩) 300 c0) := by rw [cell_of_heap ha1]; exact (ha3 0 (by omega)).trans (by rw [v0])
        have a1 : w4.cell? ⟨ab, 1, none⟩ = some (.slice (some ⟨g1, 0, none⟩) 300 c1) := by rw [cell_of_heap ha1]; exact (ha3 1 (by omega)).trans (by rw [v1])
        have HC : Hid (∀ j, j < 300 → ∃ y, w4.cell? ⟨g0, j, none⟩ = some (.int .i64 y) ∧ w4.cell? ⟨g1, j, none⟩ = some (.int .i64 y)) := hide (fun j hj => ⟨finA J0 j, d0 j hj, by rw [d1 j hj, s1.fin s0 (by omega)]⟩)
        have HA0 := hide a0
        have HA1 := hide a1
        have hng : ¬ ((2 : Nat) : Int) < 2 := by omega
        clear v0 s0 d0 v1 s1 d1 ha1 ha2 ha3 HWA HVs HQ4 HR4 hkq
        go_wp2_with fail
        clear a0 a1
        go_loopg [18] 300 (fun gg s18 wr => ∃ (j : Nat), s18 = .int .i64 (j : Int) ∧ j ≤ 300 ∧ gg = 300 - j ∧ Hid (Turned [] w4 wr))
        case atStart => exact ⟨0, rfl, by omega, rfl, hide (Turned.refl [] w4)⟩
        case round =>
          obtain ⟨j, rfl, hj, rfl, hwr⟩ := hrel
          by_cases hj3 : j < 300
          · have hj3i : (j : Int) < 300 := by omega
            obtain ⟨xv, cv1, cv2⟩ := HC.out j hj3
            have e1 : wr.cell? ⟨g0, j, none⟩ = some (.int .i64 xv) := by rw [hwr.out.cell (block_lt cv1) (by simp)]; exact cv1
            have e2 : wr.cell? ⟨g1, j, none⟩ = some (.int .i64 xv) := by rw [hwr.out.cell (block_lt cv2) (by simp)]; exact cv2
            have e3 : wr.cell? ⟨ab, 0, none⟩ = some (.slice (some ⟨g0, 0, none⟩) 300 c0) := by rw [hwr.out.cell (block_lt HA0.out) (by simp)]; exact HA0.out
            have e4 : wr.cell? ⟨ab, 1, none⟩ = some (.slice (some ⟨g1, 0, none⟩) 300 c1) := by rw [hwr.out.cell (block_lt HA1.out) (by simp)]; exact HA1.out
            have hd1 : decide ((300 : Int) ≤ (j : Int)) = false := decide_eq_false (by omega)
            clear cv1 cv2
            go_wp2_with fail
            go_quiet (fail)
            go_wp2_with fail
            go_roundg (300 - (j + 1))
            case measure => omega
            case rel => exact ⟨j + 1, by go_num, by omega, rfl, hide (hwr.out.drewN nq)⟩
          · have hj3i : ¬ (j : Int) < 300 := by omega
            have HTe := hide (HT4.out.trans hwr.out)
            go_wp2_with fail
            go_ret
            exact ⟨rfl, HTe.out⟩

set_option maxRecDepth 100000 in
theorem adjustWorkers_lifted (os : Os) (started : os.Started) (H : Type) (enc : TypeId × Value → H) :
    ReturnsInHanded {} Tryz.checked os 5 .any (fun w args => (Rows.adjustWorkersSpec.pre enc Tryz.prog Tryz.f5 [] false w args ∧ laidMetH Tryz.prog laidTab w) ∧ sizedMet enc Tryz.prog Tryz.f5 (OpenSpec.ofChange Rows.adjustWorkersSpec) false w args)
      (Rows.adjustWorkersSpec.post enc Tryz.prog Tryz.f5 false true false false) := by
  refine returnsInHanded_of_change_and (C := Tryz.checked) (X := fun w _ => laidMetH Tryz.prog laidTab w) (fun _ _ _ hh h => h.of_heap hh) own started (by kernel_rfl) Tryz.func5
    (ChangeSpec.witness_shaped (enc := enc) (C := Tryz.checked) (os := os) (X := fun w _ => laidMetH Tryz.prog laidTab w) false (World.doorLaid Tryz.prog 400 os) #[.slice none 0 0, .agg #[.int .i64 0, .int .i64 0, .int .i64 0, .slice none 0 0, .slice none 0 0], .agg #[.int .i64 0, .int .i64 0, .int .i64 0, .slice none 0 0, .slice none 0 0]] 8 rfl (World.shaped_of_RefB (by kernel_rfl) (by kernel_rfl)) (by kernel_rfl) (by kernel_rfl) (by kernel_rfl) (door_met os _)) ?_
  intro W base args ds gs before hval0 hW _ _ hL _
  have hTab := tab_of hL
  have hval : ∀ (j : Nat) t v, Tryz.f5.params[j]? = some t → args[j]? = some v → Value.okWide Tryz.prog W .any base t v := hval0
  have hW' := hW
  obtain ⟨p, q, hA0, hV, rfl, hfz, hnd⟩ := hW
  have hA : DataW.TrodAll enc Tryz.prog W 0 (fun _ => true) true Tryz.f5.params.toList args.toList ds p := hA0
  rw [Tryz.params5] at hA hval
  obtain ⟨v0, vs0, d0, ds0, p0, q0, hargs, rfl, rfl, h0, r0⟩ := trodAll_cons hA
  obtain ⟨v1, vs1, d1, ds1, p1, q1, rfl, rfl, rfl, h1, r1⟩ := trodAll_cons r0
  obtain ⟨v2, vs2, d2, ds2, p2, q2, rfl, rfl, rfl, h2, r2⟩ := trodAll_cons r1
  obtain ⟨rfl, rfl, rfl⟩ := trodAll_nil r2
  obtain rfl : args = #[v0, v1, v2] := by cases args; simp_all
  obtain ⟨rfl, rfl⟩ := trodVars_none hV
  obtain ⟨a0, len0, cap0, rfl⟩ := okWide_slice Tryz.underlying22 (hval 0 22 v0 rfl rfl)
  have k0 := h0
  have lt0 : ∀ x ∈ p0, x.block < W.heap.size := by obtain ⟨m, hm⟩ := k0; exact DataW.trod_lt m _ _ _ hm
  obtain ⟨ths, htl, w0, wc0⟩ := open_things h0
  subst htl
  have k1 := h1
  have lt1 : ∀ x ∈ p1, x.block < W.heap.size := by obtain ⟨m, hm⟩ := k1; exact DataW.trod_lt m _ _ _ hm
  obtain ⟨x1, y1, u1, ro1, rc1, rs1, po1, pc1, ps1, rfl, hx1, hy1, hu1, hr1, hp1, hrc1, -⟩ := open_work14 (hval 1 25 v1 rfl rfl) h1
  have k2 := h2
  have lt2 : ∀ x ∈ p2, x.block < W.heap.size := by obtain ⟨m, hm⟩ := k2; exact DataW.trod_lt m _ _ _ hm
  obtain ⟨x2, y2, u2, ro2, rc2, rs2, po2, pc2, ps2, rfl, hx2, hy2, hu2, hr2, hp2, hrc2, -⟩ := open_work14 (hval 2 25 v2 rfl rfl) h2
  simp only [List.append_nil] at hW'
  clear hA0 hval0
  refine (adjustWorkers_walk a0 cap0 ths x1 y1 u1 ro1 rc1 rs1 po1 pc1 ps1 x2 y2 u2 ro2 rc2 rs2 po2 pc2 ps2 W w0 wc0 hx1 hy1 hu1 hr1 hp1 hrc1 hx2 hy2 hu2 hr2 hp2 hrc2 hTab).mono fun e W' ⟨he, ht⟩ => ?_
  subst he
  have bel : Below W.heap.size W W' := ht.below0
  exact ⟨_, rfl, _, _, _, [], _, [], hW', trodAll_mk1 (shut_bool Tryz.underlying4 _), (trodAll_cons_mk (Below.trod laidOut (by kernel_rfl) (of_decide_eq_true (by kernel_rfl)) k0 bel lt0) (trodAll_cons_mk (Below.trod laidOut (by kernel_rfl) (of_decide_eq_true (by kernel_rfl)) k1 bel lt1) (trodAll_cons_mk (Below.trod laidOut (by kernel_rfl) (of_decide_eq_true (by kernel_rfl)) k2 bel lt2) trodAll_mk0))), rfl, bel.frame _, fun h => by cases h⟩

theorem adjustWorkers_over : Rows.adjustWorkersRow.holds Tryz.pinned (OpenSpec.ofChange Rows.adjustWorkersSpec) :=
  OpenClaim.holds_of_wide 5 Tryz.f5 rfl rfl rfl rfl rfl rfl rfl ⟨rfl, rfl, rfl, rfl, rfl⟩ rfl rfl rfl rfl rfl (by kernel_rfl) Tryz.func5 (by kernel_rfl)
    (of_decide_eq_true (by kernel_rfl)) (by unfold Func.isWrapper; first | (rw [if_pos (by decide +kernel)]; kernel_rfl) | (rw [if_neg (by decide +kernel)]; exact ⟨rfl, rfl⟩))
    (fun os started H enc _ => adjustWorkers_lifted os started H enc)

theorem adjustWorkers_holds : Rows.AdjustWorkersSaid := adjustWorkers_over

theorem adjustWorkers_card : Rows.AdjustWorkersCardSaid :=
  Claim7.holds_tied_plain_at .later [] [.data] true _ false
    adjustWorkers_holds (fun _ h => by cases h) (by kernel_rfl) (fun _ h => by cases h) adjustWorkers_row_tie rfl ⟨rfl, rfl⟩ (by kernel_rfl) rfl
    (fun f fn hf hfn => by
      obtain rfl : f = 5 := Option.some.inj ((show Tryz.prog.funcNamed "ballast/ballastlaw14.AdjustWorkers" = some 5 by kernel_rfl).symm.trans hf) |>.symm
      obtain rfl : fn = Tryz.f5 := (Option.some.inj (Tryz.func5.symm.trans hfn)).symm
      exact ⟨by kernel_rfl, fun j t ht => by
        rw [Tryz.params5] at ht
        have h3 : t ∈ [22, 25, 25] := by
          have h4 := Array.mem_of_getElem? ht
          simpa using h4
        have h5 : ∀ u, u ∈ [22, 25, 25] → Tryz.prog.wantsStandIn u = false := by
          intro u hu
          simp only [List.mem_cons, List.not_mem_nil, or_false] at hu
          rcases hu with rfl | rfl | rfl <;> kernel_rfl
        exact h5 t h3⟩)
    (by kernel_rfl)
end Go.Proofs.YtpeglndlhjnaaaaGreatDoor
