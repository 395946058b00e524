/-
  AdjustTurns: once all have ended each reference of each live object is where the object that it refers to goes, and no other word is changed; each step has one access at most; by turns all end. For every list of things, any roots, region, waste and workers, and any order of steps.
-/
import Derived.Test.YtpeglndlhjnaaaaGreatDoorPack36
import Derived.Test.YtpeglndlhjnaaaaGreatDoorPack27
import Derived.Test.YtpeglndlhjnaaaaGreatDoorPack18
import Derived.Test.YtpeglndlhjnaaaaGreatDoorCards
import Derived.Test.YtpeglndlhjnaaaaGreatDoorTie
import Derived.SevenTiedAt
import Derived.BigQuiet
namespace Go.Proofs.YtpeglndlhjnaaaaGreatDoor
open Go.ChangeShapes Go.WideShapes Go.ChangeAt Go.RowKit Bt
set_option linter.unusedVariables false
set_option linter.unusedSimpArgs false


theorem wrap_one14t {k : Nat} (h : k ≤ 100000) : IntKind.i64.wrap (1 + (k : Int)) = (k : Int) + 1 := by
  rw [IntKind.wrap_i64]; omega
theorem wrap_sm14 {x : Int} (h : 0 ≤ x ∧ x ≤ 2000000) : wrap64 x = x := by unfold wrap64; omega
set_option maxHeartbeats 8000000 in
set_option maxRecDepth 100000 in
theorem adjustTurns_walk (ao : Option Addr) (cap : Nat) (ths : List Th) (x y z : Int) (ro : Option Addr) (rc : Nat) (rs : List Int) (po : Option Addr) (pc : Nat) (ps : List Int) (w : World) (h : ThR w ao ths) (hcap : ths.length ≤ cap ∧ cap ≤ 9223372036854775807) (hx : In64 x) (hy : In64 y) (hz : In64 z) (hr : IRd w ro rs.length rs) (hp : IRd w po ps.length ps) (hrc : rs.length ≤ rc ∧ rc ≤ 9223372036854775807) (hT : Tab w) :
    Calls Tryz.prog 3 #[.slice ao ths.length cap, .agg #[.int .i64 x, .int .i64 y, .int .i64 z, .slice ro rs.length rc, .slice po ps.length pc]] w fun e w' => e = .returned (.bool true) ∧ Turned [] w w' := by
  obtain ⟨w0, hw0⟩ : ∃ w0, w0 = w.alloc (.cells #[.int .i64 x, .int .i64 y, .int .i64 z, .slice ro rs.length rc, .slice po ps.length pc] 25) := ⟨_, rfl⟩
  have hT0 : Turned [] w w0 := by rw [hw0]; exact (Turned.refl [] w).alloc _
  have hQ0 : w0.heap[w.heap.size]? = some (.cells #[.int .i64 x, .int .i64 y, .int .i64 z, .slice ro rs.length rc, .slice po ps.length pc] 25) := by rw [hw0]; exact heap_alloc_new _ _
  obtain ⟨bq, hbq⟩ : ∃ bq, bq = w.heap.size := ⟨_, rfl⟩
  rw [← hbq] at hQ0
  have HBn := hide (show w.heap.size ≤ bq by omega)
  have HTb := hide hT
  have HTh := hide h
  have HRs := hide hr
  have HPk := hide hp
  have HT0 := hide hT0
  have HQ0 := hide hQ0
  have HAw := hide (awake14 w0 (hT.turned hT0 (by simp)))
  have HW0 := hide (show 0 < w.heap.size by have := block_lt (hT 0 (by omega)); simpa using this)
  have HPy := hide (fun w' : World => pick14 y 40 w' hy (by omega))
  have HPx := hide (fun w' : World => pick14 x 4 w' hx (by omega))
  rw [show ((4 : Nat) : Int) = 4 from rfl] at HPx
  rw [show ((40 : Nat) : Int) = 40 from rfl] at HPy
  have HPz := hide (fun w' : World => pick14 z 61 w' hz (by omega))
  rw [show ((61 : Nat) : Int) = 61 from rfl] at HPz
  have hv1 := pkF_lt z (show 0 < 61 by omega)
  have hk1 := pkF_lt y (show 0 < 40 by omega)
  have hx1 := pkF_lt x (show 0 < 4 by omega)
  generalize pkF x 4 = kk at *
  generalize pkF y 40 = k at *
  generalize pkF z 61 = vv at *
  have hwr := wrap_one14t (k := k) (by omega)
  clear h hT hr hp hT0 hQ0 hx hy hz
  obtain ⟨rl, hrl⟩ : ∃ rl, rl = rs.length := ⟨_, rfl⟩
  obtain ⟨pl, hpl⟩ : ∃ pl, pl = ps.length := ⟨_, rfl⟩
  obtain ⟨tl, htl⟩ : ∃ tl, tl = ths.length := ⟨_, rfl⟩
  have HLr := hide hrl
  rw [← hpl] at HPk
  have HLt := hide htl
  rw [← hpl, ← hrl] at HQ0 hw0 ⊢
  rw [← hrl] at hrc
  rw [← htl] at hcap ⊢
  clear hpl hrl htl
  go_enter Tryz.func3, Tryz.ntmps3
  go_wp2_with fail
  rw [← hw0, ← hbq]
  clear hw0 hbq
  refine (HAw.out).mono ?_
  rintro e w1 ⟨rfl, t1⟩
  have HT1 := hide (HT0.out.trans t1)
  have HQ1 := hide (t1.at HQ0.out (by simp))
  clear t1 HT0 HQ0 HAw
  go_upto_if 26 with fail
  go_cut [0] (fun s0 wc => ∃ (T : List Th) (tn c' : Nat), s0 = .slice ao tn c' ∧ tn ≤ 50 ∧ Aside (tn = T.length) ∧ Aside (ThR w ao T) ∧ Aside (wc = w1))
  case first =>
    by_cases h40 : 50 < tl
    · have h40i : (50 : Int) < tl := by omega
      have hsl := cut_things ao tl cap 50 h40 hcap.1 hcap.2
      rw [show ((50 : Nat) : Int) = 50 from rfl] at hsl
      go_wp2_with fail
      go_meet
      case rel => exact ⟨ths.take 50, 50, cap, rfl, by omega, (by show 50 = (ths.take 50).length; rw [List.length_take]; have := HLt.out; omega), HTh.out.front 50, rfl⟩
    · have h40i : ¬ (50 : Int) < tl := by omega
      go_wp2_with fail
      go_meet
      case rel => exact ⟨ths, tl, cap, rfl, by omega, HLt.out, HTh.out, rfl⟩
  case rest =>
    obtain ⟨T, tn, c', rfl, htn, htT, hthr, hwc⟩ := hcut
    have hwc' := hwc.out
    subst hwc'
    clear hwc hcap HLt HTh tl
    have HTl := hide htT.out
    have HTh := hide hthr.out
    clear htT hthr
    obtain ⟨w1, hw1⟩ : ∃ w1, w1 = wc := ⟨_, rfl⟩
    subst hw1
    have q0 : w1.cell? ⟨bq, 3, none⟩ = some (.slice ro rl rc) := by rw [cell_of_heap HQ1.out]; rfl
    have qf : w1.frozen? ⟨bq, 3, none⟩ = false := by simp [World.frozen?, HQ1.out]
    have hbqs := lt_of_heap HQ1.out
    go_upto_if 32 with fail
    go_cut [4] (fun s4 wc => ∃ (RS : List Int) (rn c' : Nat), s4 = .bool false ∧ Aside (rn = RS.length ∧ rn ≤ 10) ∧ Aside (IRd w ro RS.length RS) ∧ Aside (wc.heap[bq]? = some (.cells #[.int .i64 x, .int .i64 y, .int .i64 z, .slice ro rn c', .slice po pl pc] 25)) ∧ Aside (Turned [] w wc))
    case first =>
      by_cases h10 : 10 < rl
      · have h10i : (10 : Int) < rl := by omega
        have hsl := cut_ints ro rl rc 10 h10 hrc.1 hrc.2
        rw [show ((10 : Nat) : Int) = 10 from rfl] at hsl
        have HQ2 : Hid ((w1.setCell ⟨bq, 3, none⟩ (.slice ro 10 rc)).heap[bq]? = some (.cells #[.int .i64 x, .int .i64 y, .int .i64 z, .slice ro 10 rc, .slice po pl pc] 25)) := hide (by rw [heap_setCell_at _ _ _ _ _ _ HQ1.out]; rfl)
        have HT2 := hide (HT1.out.setCell (p := ⟨bq, 3, none⟩) (.inr (show w.heap.size ≤ bq from HBn.out)) (.slice ro 10 rc))
        go_wp2_with fail
        go_meet
        case rel => exact ⟨rs.take 10, 10, rc, rfl, ⟨(by rw [List.length_take]; have := HLr.out; omega), by omega⟩, HRs.out.front 10, HQ2.out, HT2.out⟩
      · have h10i : ¬ (10 : Int) < rl := by omega
        go_wp2_with fail
        go_meet
        case rel => exact ⟨rs, rl, rc, rfl, ⟨HLr.out, by omega⟩, HRs.out, HQ1.out, HT1.out⟩
    case rest =>
      obtain ⟨RS, rn, c2, rfl, hrn, hrs, hq2, ht2⟩ := hcut
      have HRn := hide hrn.out
      have HRS := hide hrs.out
      have HQ2 := hide hq2.out
      have HT2 := hide ht2.out
      clear hrn hrs hq2 ht2 HQ1 HT1 q0 qf hbqs HRs HLr hrc
      obtain ⟨w2, hw2⟩ : ∃ w2, w2 = wc := ⟨_, rfl⟩
      subst hw2
      have HMd := hide (fun (w' : World) (t : Turned [] w w') => la_made ao c' T ro c2 RS (k + 1) vv 300 w' (HTh.out.turned t) (HRS.out.turned t) (by omega) (by have := HTl.out; omega) (by have := HRn.out; omega) (by omega) (by omega) (by omega) (HTb.out.turned t (by simp)))
      rw [← HTl.out, ← HRn.out.1, show ((300 : Nat) : Int) = 300 from rfl, show ((k + 1 : Nat) : Int) = (k : Int) + 1 from by omega] at HMd
      have q1 : w2.drew.cell? ⟨bq, 1, none⟩ = some (.int .i64 y) := by show w2.cell? _ = _; rw [cell_of_heap HQ2.out]; rfl
      have q2 : w2.drew.cell? ⟨bq, 2, none⟩ = some (.int .i64 z) := by show w2.cell? _ = _; rw [cell_of_heap HQ2.out]; rfl
      have q3 : w2.drew.cell? ⟨bq, 3, none⟩ = some (.slice ro rn c2) := by show w2.cell? _ = _; rw [cell_of_heap HQ2.out]; rfl
      have HD2 := hide (HT2.out.drew)
      go_wp2_with fail
      go_region_held3 (fun w' => w'.cell? ⟨bq, 1, none⟩ = some (.int .i64 y) ∧ w'.cell? ⟨bq, 2, none⟩ = some (.int .i64 z) ∧ w'.cell? ⟨bq, 3, none⟩ = some (.slice ro rn c2)) (go_keep)
        (first
          | (go_at_call 9; refine (HPy.out _).mono ?_; rintro e wz ⟨rfl, hwz⟩; subst hwz; clear HPy)
          | (go_at_call 9; refine (HPz.out _).mono ?_; rintro e wz ⟨rfl, hwz⟩; subst hwz; clear HPz)
          | (go_at_call 8; refine (HMd.out _ HD2.out).mono ?_; rintro e w3 ⟨J, rv, rvc, vs, rfl, hX, hM, hN, hL, hMS, hMk, hBl, hCut, hvl, hvr, hvo, hlo, t3⟩; have z1 : w3.cell? ⟨bq, 1, none⟩ = some (.int .i64 y) := (by rw [t3.cell (block_lt q1) (by simp)]; exact q1); have z2 : w3.cell? ⟨bq, 2, none⟩ = some (.int .i64 z) := (by rw [t3.cell (block_lt q2) (by simp)]; exact q2); have z3 : w3.cell? ⟨bq, 3, none⟩ = some (.slice ro rn c2) := (by rw [t3.cell (block_lt q3) (by simp)]; exact q3); have HX := hide hX; have HM := hide hM; have HN := hide hN; have HHd : Hid (HdA J.S J.L J.N) := hide (by rw [hL, hN]; exact hMS.head); have HVo : Hid (∀ r, r ∈ vs → okA J.S J.N r = true) := hide (by rw [hN]; exact hvo); have HVr := hide hvr; have HVl := hide hvl; have HLo := hide (show w2.heap.size ≤ J.cp ∧ w2.heap.size ≤ J.cq ∧ w2.heap.size ≤ J.xb from hlo); have HT3 := hide (HD2.out.trans t3); have HU3 := hide ((Turned.refl [] w2).drew.trans t3); clear hX hM hN hL hMS hMk hBl hCut hvl hvr hvo hlo t3))
      clear q1 q2 q3 z1 z2 z3 HD2 HMd
      have hg3 : w3.heap[bq]? = some (.cells #[.int .i64 x, .int .i64 y, .int .i64 z, .slice ro rn c2, .slice po pl pc] 25) := by rw [HU3.out.block bq (lt_of_heap HQ2.out) (by simp)]; exact HQ2.out
      have q0 : w3.cell? ⟨bq, 0, none⟩ = some (.int .i64 x) := by rw [cell_of_heap hg3]; rfl
      obtain ⟨n, hn⟩ : ∃ n : Nat, n = kk + 1 := ⟨_, rfl⟩
      have hnw : wrap64 (1 + (kk : Int)) = (n : Int) := by unfold wrap64; omega
      have HNn : Hid (1 ≤ n ∧ n ≤ 4) := hide (by omega)
      have HQ3 := hide hg3
      clear hn hx1 hg3 HU3 HQ2
      have HNw := hide (fun (w' : World) (t : Turned [] w3 w') kp kq cb cl hcl hk hc hkp hkq => la_new HX.out HM.out (by have := HLo.out; have := HW0.out; have := HT2.out.size; omega) t kp kq cb 4 4 n cl hcl hk hc hkp hkq (by have := HNn.out; omega))
      go_wp2_with fail
      refine (HPx.out _).mono ?_
      rintro e wz ⟨rfl, hwz⟩
      rw [hwz]; clear hwz wz HPx q0
      go_wp2_with fail
      refine (new_any 2 _).mono ?_
      rintro e w5 ⟨rfl, hm5, t5, hz5⟩
      obtain ⟨kp, hkp⟩ : ∃ kp, kp = w3.heap.size + 1 := ⟨_, rfl⟩
      obtain ⟨kq, hkq⟩ : ∃ kq, kq = w3.heap.size := ⟨_, rfl⟩
      rw [← hkp, ← hkq] at hm5
      rw [← hkp]
      have HM5 := hide hm5
      have HT5 := hide t5
      have HKl := hide (show w3.heap.size ≤ kp ∧ w3.heap.size ≤ kq by omega)
      clear hm5 t5 hz5 hkp hkq
      go_upto_region 11 with fail
      obtain ⟨x0, -, x2, -, x4, x5, x6, x7, x8, x9, x10, x11, x12⟩ := (HX.out.quiet HT5.out.drew).cs
      have HD5 := hide (HT5.out.drew)
      have HU5 := hide ((Turned.refl [] w5).drew)
      unfold LJ.plan plC at HNw
      go_wp2_with fail
      go_region_held3 (fun w' => w'.cell? ⟨J.xb, 0, none⟩ = some (.pointer (some ⟨J.cp, 0, none⟩)) ∧ w'.cell? ⟨J.xb, 2, none⟩ = some (.pointer (some ⟨J.bp, 0, none⟩)) ∧ w'.cell? ⟨J.xb, 4, none⟩ = some (.int .i64 (J.P.f : Int)) ∧ w'.cell? ⟨J.xb, 5, none⟩ = some (.int .i64 (J.P.t : Int)) ∧ w'.cell? ⟨J.xb, 6, none⟩ = some (.int .i64 (J.P.k : Int)) ∧ w'.cell? ⟨J.xb, 7, none⟩ = some (.int .i64 (J.P.d : Int)) ∧ w'.cell? ⟨J.xb, 8, none⟩ = some (.int .i64 (J.P.e : Int)) ∧ w'.cell? ⟨J.xb, 9, none⟩ = some (.slice (some ⟨J.lq, 0, none⟩) J.P.R J.lc) ∧ w'.cell? ⟨J.xb, 10, none⟩ = some (.slice (some ⟨J.aq, 0, none⟩) J.P.R J.ac) ∧ w'.cell? ⟨J.xb, 11, none⟩ = some (.slice (some ⟨J.wq, 0, none⟩) J.P.R J.P.R) ∧ w'.cell? ⟨J.xb, 12, none⟩ = some (.slice (some ⟨J.tq, 0, none⟩) J.P.R J.P.R)) (go_keep)
        (first
          | (go_at_call 12; refine (four_any _).mono ?_; rintro e w4 ⟨cb, rfl, hc4, t4, hcb⟩; have HC4 := hide hc4; have HT4 := hide (HD5.out.trans t4); have HM4 := hide (HM5.out.turned (HU5.out.trans t4) (by simp) (by simp)); obtain ⟨y0, -, y2, -, y4, y5, y6, y7, y8, y9, y10, y11, y12⟩ := (HX.out.quiet HT4.out).cs; clear hc4 t4 hcb)
          | (go_at_call 11; refine (HNw.out _ HT4.out _ _ _ _ (by simp; omega) HM4.out HC4.out HKl.out.1 HKl.out.2).mono ?_; rintro e w6 ⟨I, s0, rfl, hL, hkp, hac, hcc, hmea, t6⟩; have HL := hide hL; have HKp := hide hkp; have HMe := hide hmea; obtain ⟨u0, -, u2, -, u4, u5, u6, u7, u8, u9, u10, u11, u12⟩ := hL.wxw.cs; clear hL hmea t6 hkp hac hcc))
      clear x0 x2 x4 x5 x6 x7 x8 x9 x10 x11 x12 y0 y2 y4 y5 y6 y7 y8 y9 y10 y11 y12 u0 u2 u4 u5 u6 u7 u8 u9 u10 u11 u12 HNw HD5 HU5 HC4 HT4 HM5 HM4 HT5
      have HMx : Hid (meaA J.P J.S four J.N J.L s0 ≤ 1000) := hide (by have := HMe.out; have := HN.out; have := HNn.out; omega)
      have HTo : Hid (∀ (wz : World) (s : AdS), Lx J I n w3 wz s → Turned [] w wz) := hide (fun wz s hl => HT3.out.trans_new hl.t (fun i hi => .inr (by
        have h1 := HLo.out
        have h2 := HT2.out.size
        simp only [List.mem_cons, List.not_mem_nil, or_false] at hi
        rcases hi with rfl | rfl <;> omega)))
      have HQ6 : Hid (∀ (wz : World) (s : AdS), Lx J I n w3 wz s → wz.heap[bq]? = some (.cells #[.int .i64 x, .int .i64 y, .int .i64 z, .slice ro rn c2, .slice po pl pc] 25)) := hide (fun wz s hl => by
        rw [hl.t.block bq (lt_of_heap HQ3.out) (by
          have e1 := ne_of_type HQ3.out HM.out.head (by decide)
          have e2 := ne_of_type HQ3.out HM.out.row (by decide)
          simp; exact ⟨e1, e2⟩)]
        exact HQ3.out)
      clear HMe
      go_upto_block 0 with fail
      go_cut [12, 13] (fun s12 s13 wc => ∃ (s : AdS), Aside (Lx J I n w3 wc s) ∧ Aside (meaA J.P J.S four J.N J.L s ≤ 1000))
      case first =>
        go_wp2_with fail
        go_loopg [12, 13] 400 (fun gg s12 s13 wr => ∃ (i : Nat) (s : AdS), gg = 400 - i ∧ i ≤ 400 ∧ s12 = .int .i64 (i : Int) ∧ Hid (Lx J I n w3 wr s) ∧ Hid (meaA J.P J.S four J.N J.L s ≤ 1000))
        case atStart => exact ⟨0, s0, rfl, by omega, rfl, HL, HMx⟩
        case round =>
          clear HL HMx
          obtain ⟨i, s, rfl, hi, rfl, HL, HMx⟩ := hrel
          obtain ⟨w7, hw7⟩ : ∃ w7, w7 = wr := ⟨_, rfl⟩
          subst hw7
          have q4 : w7.cell? ⟨bq, 4, none⟩ = some (.slice po pl pc) := by rw [cell_of_heap (HQ6.out w7 s HL.out)]; rfl
          by_cases h1 : i < pl
          · have h1i : (i : Int) < (pl : Int) := by omega
            by_cases h2 : i < 400
            · have h2i : (i : Int) < 400 := by omega
              have HPk7 := hide (HPk.out.turned (HTo.out w7 s HL.out))
              obtain ⟨c, hc'⟩ : ∃ c, ps[i]? = some c := ⟨_, List.getElem?_eq_getElem (by rw [HPk7.out.size]; exact h1)⟩
              obtain ⟨b, off, rfl, cpk⟩ := HPk7.out.cell i c hc'
              have HPc := hide (fun w' : World => pick14 c n w' (HPk7.out.inn c (List.mem_of_getElem? hc')) ⟨by have := HNn.out; omega, by have := HNn.out; omega⟩)
              have HPl : Hid (pkF c n < n) := hide (pkF_lt c (by have := HNn.out; omega))
              generalize pkF c n = kp' at *
              have HSt := hide (la_step HL.out kp' HPl.out)
              have HM8 : Hid (meaA J.P J.S four J.N J.L (stepA14 J.P J.S four J.N s kp') ≤ 1000) := hide (Nat.le_trans (HL.out.num.next HL.out.wx.gd HL.out.inv kp').2.2 HMx.out)
              have HNu := hide (HL.out.num)
              have HNu8 := hide ((HL.out.num.next HL.out.wx.gd HL.out.inv kp').1)
              have HS1 := hide (la_steps HL.out)
              have HK1 := hide (la_ksteps HL.out)
              rw [HKp.out] at HK1
              have x0 := HL.out.wxw.cs.1
              obtain ⟨A, hA⟩ : ∃ A, A = s.ac := ⟨_, rfl⟩
              obtain ⟨C, hC⟩ : ∃ C, C = s.cc := ⟨_, rfl⟩
              have HAC := hide (And.intro hA hC)
              rw [← hA] at HS1
              rw [← hC] at HK1
              obtain ⟨B1, hB1⟩ : ∃ B1, B1 = wrap64 (A + C) := ⟨_, rfl⟩
              have HB1 := hide hB1
              generalize stepA14 J.P J.S four J.N s kp' = s' at *
              clear hc' hA hC
              go_wp2_with fail
              refine (HS1.out).mono ?_
              rintro e wz ⟨rfl, hwz⟩
              rw [hwz]; clear hwz wz HS1
              go_wp2_with fail
              refine (HK1.out).mono ?_
              rintro e wz ⟨rfl, hwz⟩
              rw [hwz]; clear hwz wz HK1
              go_upto_region 18 with fail
              rw [← hB1]
              clear hB1 x0
              go_wp2_with fail
              refine (HPc.out _).mono ?_
              rintro e wz ⟨rfl, hwz⟩
              rw [hwz]; clear hwz wz
              go_wp2_with fail
              refine (HSt.out).mono ?_
              rintro e w8 ⟨⟨r, rfl⟩, h8, hacc, -⟩
              have HL8 := hide h8
              have HAcc := hide hacc
              have HS2 := hide (la_steps h8)
              have HK2 := hide (la_ksteps h8)
              rw [HKp.out] at HK2
              have x0 := h8.wxw.cs.1
              obtain ⟨A', hA'⟩ : ∃ A', A' = s'.ac := ⟨_, rfl⟩
              obtain ⟨C', hC'⟩ : ∃ C', C' = s'.cc := ⟨_, rfl⟩
              have HAC' := hide (And.intro hA' hC')
              rw [← hA'] at HS2
              rw [← hC'] at HK2
              obtain ⟨B2, hB2⟩ : ∃ B2, B2 = wrap64 (B1 + 1) := ⟨_, rfl⟩
              obtain ⟨B3, hB3⟩ : ∃ B3, B3 = wrap64 (A' + C') := ⟨_, rfl⟩
              have HB2 := hide hB2
              have HB3 := hide hB3
              have hng : ¬ B2 < B3 := by
                have e1 := HNu.out.a0
                have e2 := HNu.out.c0
                have e3 := HNu.out.le
                have e4 := HNu8.out.a0
                have e5 := HNu8.out.c0
                have e6 := HNu8.out.le
                have e7 := HAcc.out
                have e8 := HAC.out.1
                have e9 := HAC.out.2
                have f1 := HAC'.out.1
                have f2 := HAC'.out.2
                have g1 : B1 = A + C := by rw [HB1.out]; exact wrap_sm14 (by omega)
                have g2 : B2 = B1 + 1 := by rw [hB2]; exact wrap_sm14 (by omega)
                have g3 : B3 = A' + C' := by rw [hB3]; exact wrap_sm14 (by omega)
                omega
              clear h8 hacc HSt HL HMx hA' hC' q4 cpk
              go_wp2_with fail
              refine (HS2.out).mono ?_
              rintro e wz ⟨rfl, hwz⟩
              rw [hwz]; clear hwz wz HS2
              go_wp2_with fail
              refine (HK2.out).mono ?_
              rintro e wz ⟨rfl, hwz⟩
              rw [hwz]; clear hwz wz HK2
              rw [hB2, hB3] at hng
              clear hB2 hB3 x0
              have hi9 : i + 1 ≤ 400 := h2
              clear h1 h1i hi
              go_wp2_with fail
              go_roundg (400 - (i + 1))
              case measure => omega
              case rel => exact ⟨i + 1, s', rfl, hi9, by go_num, HL8, HM8⟩
            · have h2i : ¬ (i : Int) < 400 := by omega
              go_wp2_with fail
              go_meet
              case rel => exact ⟨s, HL.out, HMx.out⟩
          · have h1i : ¬ (i : Int) < (pl : Int) := by omega
            go_wp2_with fail
            go_meet
            case rel => exact ⟨s, HL.out, HMx.out⟩
      case rest =>
      clear HL HMx
      obtain ⟨s, hl, hmx⟩ := hcut
      have HL := hide hl.out
      have HMx := hide hmx.out
      clear hl hmx HPk HQ6 HQ3
      have HTn : Hid (TnA J.P J.S four J.N J.L n s 0 5000) := hide (TnA.start HL.out.ws (by
        have h1 := HMx.out
        have h3 := HNn.out
        have h4 := Nat.mul_le_mul h1 h3.2
        have h5 : meaA J.P J.S four J.N J.L s * n ≤ meaA J.P J.S four J.N J.L s * 4 := Nat.mul_le_mul_left _ h3.2
        omega))
      clear HMx
      obtain ⟨w6, hw6⟩ : ∃ w6, w6 = wc := ⟨_, rfl⟩
      subst hw6
      go_wp2_with fail
      go_loopg [14] 16000 (fun gg s14 wr => ∃ (i : Nat) (s : AdS), gg = 16000 - i ∧ i ≤ 5001 ∧ s14 = .int .i64 (i : Int) ∧ Hid (Lx J I n w3 wr s) ∧ Hid (TnA J.P J.S four J.N J.L n s i 5000))
      case atStart => exact ⟨0, s, rfl, by omega, rfl, HL, HTn⟩
      case round =>
        clear HL HTn
        obtain ⟨i, s, rfl, hi, rfl, HL, HTn⟩ := hrel
        obtain ⟨w7, hw7⟩ : ∃ w7, w7 = wr := ⟨_, rfl⟩
        subst hw7
        have hii : (i : Int) < 16000 := by omega
        have HDo := hide (la_done HL.out)
        cases hd : doneA s
        · rw [hd] at HDo
          have HNd : Hid (¬ ∀ k, ¬ onA s k) := hide (fun h => by have := doneA_on.2 h; rw [hd] at this; cases this)
          clear hd
          have hi2 : i < 5001 := by
            rcases Nat.lt_or_ge i 5001 with h | h
            · exact h
            · exact absurd (HTn.out.over (by omega)) HNd.out
          have HT8 := hide (HTn.out.step HL.out.wx.gd HL.out.inv HL.out.ws HNd.out)
          have hnz : ¬ ((n : Int) = 0) := by have := HNn.out; omega
          have hnm : ¬ ((n : Int) = -1) := by have := HNn.out; omega
          have htm : (i : Int).tmod (n : Int) = ((i % n : Nat) : Int) := by rw [Int.tmod_eq_emod_of_nonneg (by omega)]; rfl
          have hlt2 : i % n < n := Nat.mod_lt _ (by have := HNn.out; omega)
          obtain ⟨m, hm⟩ : ∃ m, m = i % n := ⟨_, rfl⟩
          rw [← hm] at htm hlt2 HT8
          have HSt := hide (la_step HL.out m hlt2)
          clear hm hlt2 HTn HNd
          go_wp2_with fail
          refine (HDo.out).mono ?_
          rintro e w8 ⟨rfl, hw8⟩
          rw [hw8]; clear hw8 w8 HDo
          go_wp2_with fail
          refine (HSt.out).mono ?_
          rintro e w8 ⟨⟨r, rfl⟩, hL8, -, -⟩
          have HL8 := hide hL8
          clear hL8 HSt HL htm hnz hnm
          go_wp2_with fail
          go_roundg (16000 - (i + 1))
          case measure => omega
          case rel => exact ⟨i + 1, _, rfl, hi2, by go_num, HL8, HT8⟩
        · rw [hd] at HDo
          have HOn := hide (doneA_on.1 hd)
          clear hd HTn
          go_wp2_with fail
          refine (HDo.out).mono ?_
          rintro e w8 ⟨rfl, hw8⟩
          rw [hw8]; clear hw8 w8 HDo
          go_upto_region 25 with fail
          have HAl := hide (fun (w' : World) (t : Turned [] w7 w') cb hC => rall14 J w' (HL.out.wxw.quiet t) HHd.out cb hC (by rw [HN.out]; omega))
          unfold LJ.plan plC at HAl
          have HD7 := hide ((Turned.refl [] w7).drew)
          obtain ⟨-, x1, -, x3, x4, x5, x6, x7, x8, x9, x10, x11, x12⟩ := (HL.out.wxw.quiet HD7.out).cs
          go_wp2_with fail
          go_region_held3 (fun w' => w'.cell? ⟨J.xb, 1, none⟩ = some (.slice (some ⟨J.dq, 0, none⟩) J.N J.N) ∧ w'.cell? ⟨J.xb, 3, none⟩ = some (.pointer (some ⟨J.rp, 0, none⟩)) ∧ w'.cell? ⟨J.xb, 4, none⟩ = some (.int .i64 (J.P.f : Int)) ∧ w'.cell? ⟨J.xb, 5, none⟩ = some (.int .i64 (J.P.t : Int)) ∧ w'.cell? ⟨J.xb, 6, none⟩ = some (.int .i64 (J.P.k : Int)) ∧ w'.cell? ⟨J.xb, 7, none⟩ = some (.int .i64 (J.P.d : Int)) ∧ w'.cell? ⟨J.xb, 8, none⟩ = some (.int .i64 (J.P.e : Int)) ∧ w'.cell? ⟨J.xb, 9, none⟩ = some (.slice (some ⟨J.lq, 0, none⟩) J.P.R J.lc) ∧ w'.cell? ⟨J.xb, 10, none⟩ = some (.slice (some ⟨J.aq, 0, none⟩) J.P.R J.ac) ∧ w'.cell? ⟨J.xb, 11, none⟩ = some (.slice (some ⟨J.wq, 0, none⟩) J.P.R J.P.R) ∧ w'.cell? ⟨J.xb, 12, none⟩ = some (.slice (some ⟨J.tq, 0, none⟩) J.P.R J.P.R)) (go_keep)
            (first
              | (go_at_call 12; refine (four_any _).mono ?_; rintro e w8 ⟨cb, rfl, hc8, t8, hcb⟩; have HC8 := hide hc8; have HT8 := hide (HD7.out.trans t8); obtain ⟨-, y1, -, y3, y4, y5, y6, y7, y8, y9, y10, y11, y12⟩ := (HL.out.wxw.quiet HT8.out).cs; clear hc8 t8 hcb)
              | (go_at_call 16; refine (HAl.out _ HT8.out _ HC8.out.rd).mono ?_; rintro e w9 ⟨g, gc, rfl, hri, hgn, t9⟩; have HGi := hide hri; have HT9 := hide (HT8.out.trans t9); obtain ⟨-, z1, -, z3, z4, z5, z6, z7, z8, z9, z10, z11, z12⟩ := (HL.out.wxw.quiet HT9.out).cs; clear hri hgn t9))
          clear x1 x3 x4 x5 x6 x7 x8 x9 x10 x11 x12 y1 y3 y4 y5 y6 y7 y8 y9 y10 y11 y12 z1 z3 z4 z5 z6 z7 z8 z9 z10 z11 z12 HAl HD7 HC8 HT8
          have HL9 := hide (HL.out.quiet HT9.out)
          clear HL HT9
          have HWo := hide (la_words HL9.out HOn.out (by rw [HN.out]; omega))
          rw [HN.out, show ((300 : Nat) : Int) = 300 from rfl] at HWo
          rw [HN.out] at HGi
          obtain ⟨x0, -⟩ := HL9.out.wxw.cs
          rw [HN.out]
          go_wp2_with fail
          refine (HWo.out).mono ?_
          rintro e w10 ⟨g2, gc2, rfl, hgc, hgw, hgn, t10⟩
          have HL10 := hide (HL9.out.quiet t10)
          have HC10 : Hid (∀ i, i < 300 → w10.cell? ⟨g2, i, none⟩ = some (.int .i64 (finA J i)) ∧ w10.cell? ⟨g, i, none⟩ = some (.int .i64 (finA J i))) := hide (fun i hi => ⟨hgw i hi, (HGi.out.turned0 t10).cell hi⟩)
          have HDo2 := hide (la_done HL10.out)
          rw [doneA_on.2 HOn.out] at HDo2
          have HFa := hide (la_fault HL10.out)
          clear hgw hgn t10 HWo HL9 x0 HGi
          go_wp2_with fail
          refine (HDo2.out).mono ?_
          rintro e w11 ⟨rfl, hw11⟩
          rw [hw11]; clear hw11 w11 HDo2
          go_wp2_with fail
          refine (HFa.out).mono ?_
          rintro e w11 ⟨rfl, hw11⟩
          rw [hw11]; clear hw11 w11 HFa
          go_wp2_with fail
          go_loopg [18] 300 (fun gg s18 wr => ∃ (j : Nat), s18 = .int .i64 (j : Int) ∧ j ≤ 300 ∧ gg = 300 - j ∧ Hid (Turned [] w10 wr))
          case atStart => exact ⟨0, rfl, by omega, rfl, hide (Turned.refl [] w10)⟩
          case round =>
            obtain ⟨j, rfl, hj, rfl, hwr⟩ := hrel
            by_cases hj3 : j < 300
            · have hj3i : (j : Int) < 300 := by omega
              obtain ⟨cv1, cv2⟩ := HC10.out j hj3
              have e1 : wr.cell? ⟨g2, j, none⟩ = some (.int .i64 (finA J j)) := by rw [hwr.out.cell (block_lt cv1) (by simp)]; exact cv1
              have e2 : wr.cell? ⟨g, j, none⟩ = some (.int .i64 (finA J j)) := by rw [hwr.out.cell (block_lt cv2) (by simp)]; exact cv2
              have hd1 : decide ((300 : Int) ≤ (j : Int)) = false := decide_eq_false (by omega)
              clear cv1 cv2
              generalize finA J j = xv at *
              go_wp2_with fail
              go_quiet (fail)
              go_wp2_with fail
              go_roundg (300 - (j + 1))
              case measure => omega
              case rel => exact ⟨j + 1, by go_num, by omega, rfl, hide (hwr.out.drewN nq)⟩
            · have hj3i : ¬ (j : Int) < 300 := by omega
              have HL11 := hide (HL10.out.quiet hwr.out)
              clear HL10 hwr hj hj3
              obtain ⟨w11, hw11⟩ : ∃ w11, w11 = wr := ⟨_, rfl⟩
              subst hw11
              have HVr11 := hide (HVr.out.turned HL11.out.t)
              have HRt := hide (fun (w' : World) (t : Turned [] w11 w') => la_roots (HL11.out.quiet t) rv rn rvc vs (HVr11.out.rd.turned t) (by have := HRn.out; omega))
              unfold LJ.plan plC at HRt
              have HD11 := hide ((Turned.refl [] w11).drew)
              obtain ⟨-, -, x2, -, x4, x5, x6, x7, x8, x9, x10, x11, x12⟩ := (HL11.out.wxw.quiet HD11.out).cs
              go_wp2_with fail
              clear hj3i
              go_region_held3 (fun w' => w'.cell? ⟨J.xb, 2, none⟩ = some (.pointer (some ⟨J.bp, 0, none⟩)) ∧ w'.cell? ⟨J.xb, 4, none⟩ = some (.int .i64 (J.P.f : Int)) ∧ w'.cell? ⟨J.xb, 5, none⟩ = some (.int .i64 (J.P.t : Int)) ∧ w'.cell? ⟨J.xb, 6, none⟩ = some (.int .i64 (J.P.k : Int)) ∧ w'.cell? ⟨J.xb, 7, none⟩ = some (.int .i64 (J.P.d : Int)) ∧ w'.cell? ⟨J.xb, 8, none⟩ = some (.int .i64 (J.P.e : Int)) ∧ w'.cell? ⟨J.xb, 9, none⟩ = some (.slice (some ⟨J.lq, 0, none⟩) J.P.R J.lc) ∧ w'.cell? ⟨J.xb, 10, none⟩ = some (.slice (some ⟨J.aq, 0, none⟩) J.P.R J.ac) ∧ w'.cell? ⟨J.xb, 11, none⟩ = some (.slice (some ⟨J.wq, 0, none⟩) J.P.R J.P.R) ∧ w'.cell? ⟨J.xb, 12, none⟩ = some (.slice (some ⟨J.tq, 0, none⟩) J.P.R J.P.R)) (go_keep)
                (first
                  | (go_at_call 19; refine (HRt.out _ HD11.out).mono ?_; rintro e w12 ⟨q, rfl, hri, hq, t12⟩; have HRi := hide hri; have HT12 := hide (HD11.out.trans t12); obtain ⟨-, -, y2, -, y4, y5, y6, y7, y8, y9, y10, y11, y12⟩ := (HL11.out.wxw.quiet HT12.out).cs; clear hri hq t12))
              clear x2 x4 x5 x6 x7 x8 x9 x10 x11 x12 y2 y4 y5 y6 y7 y8 y9 y10 y11 y12 HRt HD11
              have HL12 := hide (HL11.out.quiet HT12.out)
              have HVr12 := hide (HVr11.out.turned0 HT12.out)
              clear HL11 HVr11 HT12
              have hlr : ¬ (rn : Int) ≠ (rn : Int) := fun h => h rfl
              have hrn6 : rn ≤ 10 := HRn.out.2
              have HTu := hide (fun (w' : World) (t : Turned [] w12 w') (r : Int) (ho : okA J.S J.N r = true) => rturn14 J.rp J.rq J.N J.S J.P (.slice (some ⟨J.lq, 0, none⟩) J.P.R J.lc) (.slice (some ⟨J.aq, 0, none⟩) J.P.R J.ac) (.slice (some ⟨J.wq, 0, none⟩) J.P.R J.P.R) (.slice (some ⟨J.tq, 0, none⟩) J.P.R J.P.R) r w' (HL12.out.wxw.rb.turned0 t) ho HL12.out.wx.gd.ins HL12.out.wx.gd.tN HL12.out.wx.dt)
              unfold plC at HTu
              go_wp2_with fail
              go_loopg [20, 21, 22] rn (fun gg s20 s21 s22 wr => ∃ (j : Nat), s20 = .int .i64 (j : Int) ∧ j ≤ rn ∧ gg = rn - j ∧ Hid (Turned [] w12 wr))
              case atStart => exact ⟨0, rfl, by omega, rfl, hide (Turned.refl [] w12)⟩
              case round =>
                obtain ⟨j, rfl, hj, rfl, hwr⟩ := hrel
                by_cases hjr : j < rn
                · have hjri : (j : Int) < (rn : Int) := by omega
                  obtain ⟨vj, hvj⟩ : ∃ vj, vs[j]? = some vj := ⟨_, List.getElem?_eq_getElem (by rw [HVr12.out.rd.size]; exact hjr)⟩
                  obtain ⟨vb, vo, rfl, cv⟩ := HVr12.out.rd.cell j vj hvj
                  have cr := HRi.out.cell hjr
                  rw [List.getD_eq_getElem?_getD, hvj] at cr
                  have hok := HVo.out vj (List.mem_of_getElem? hvj)
                  have HTu1 := hide (fun (w' : World) (t : Turned [] w12 w') => HTu.out w' t vj (by exact hok))
                  have e1 : wr.cell? ⟨q, j, none⟩ = some (.int .i64 (toA J.P J.S J.N vj)) := by rw [hwr.out.cell (block_lt cr) (by simp)]; exact cr
                  generalize toA J.P J.S J.N vj = tv at *
                  have e2 : wr.drew.cell? ⟨vb, vo + j, none⟩ = some (.int .i64 vj) := by show wr.cell? _ = _; rw [hwr.out.cell (block_lt cv) (by simp)]; exact cv
                  have HX12 := hide (HL12.out.wxw)
                  have HDr := hide hwr.out.drew
                  obtain ⟨-, -, -, x3, x4, x5, x6, x7, x8, x9, x10, x11, x12⟩ := (HX12.out.quiet HDr.out).cs
                  have hd1 : decide ((rn : Int) ≤ (j : Int)) = false := decide_eq_false (by omega)
                  have hd2 : decide (rn ≤ j) = false := decide_eq_false (by omega)
                  have HE1 := hide e1
                  have hj9 : j + 1 ≤ rn := hjr
                  clear cv cr hvj hok e1
                  go_wp2_with fail
                  go_region_held3 (fun w' => w'.cell? ⟨J.xb, 3, none⟩ = some (.pointer (some ⟨J.rp, 0, none⟩)) ∧ w'.cell? ⟨J.xb, 4, none⟩ = some (.int .i64 (J.P.f : Int)) ∧ w'.cell? ⟨J.xb, 5, none⟩ = some (.int .i64 (J.P.t : Int)) ∧ w'.cell? ⟨J.xb, 6, none⟩ = some (.int .i64 (J.P.k : Int)) ∧ w'.cell? ⟨J.xb, 7, none⟩ = some (.int .i64 (J.P.d : Int)) ∧ w'.cell? ⟨J.xb, 8, none⟩ = some (.int .i64 (J.P.e : Int)) ∧ w'.cell? ⟨J.xb, 9, none⟩ = some (.slice (some ⟨J.lq, 0, none⟩) J.P.R J.lc) ∧ w'.cell? ⟨J.xb, 10, none⟩ = some (.slice (some ⟨J.aq, 0, none⟩) J.P.R J.ac) ∧ w'.cell? ⟨J.xb, 11, none⟩ = some (.slice (some ⟨J.wq, 0, none⟩) J.P.R J.P.R) ∧ w'.cell? ⟨J.xb, 12, none⟩ = some (.slice (some ⟨J.tq, 0, none⟩) J.P.R J.P.R) ∧ w'.cell? ⟨vb, vo + j, none⟩ = some (.int .i64 vj)) (go_keep)
                    (first
                      | (go_at_call 20; refine (HTu1.out _ HDr.out).mono ?_; rintro e w13 ⟨rfl, t13⟩; have HT13 := hide (HDr.out.trans t13); obtain ⟨-, -, -, y3, y4, y5, y6, y7, y8, y9, y10, y11, y12⟩ := (HX12.out.quiet HT13.out).cs; have y2 : w13.cell? ⟨vb, vo + j, none⟩ = some (.int .i64 vj) := (by rw [t13.cell (block_lt e2) (by simp)]; exact e2); have E1 : w13.cell? ⟨q, j, none⟩ = some (.int .i64 tv) := (by rw [t13.cell (show q < wr.drew.heap.size from block_lt HE1.out) (by simp)]; exact HE1.out); clear t13))
                  clear x3 x4 x5 x6 x7 x8 x9 x10 x11 x12 y3 y4 y5 y6 y7 y8 y9 y10 y11 y12 y2 e2 HDr HTu1 HX12 HE1
                  go_wp2_with fail
                  go_roundg (rn - (j + 1))
                  case measure => omega
                  case rel => exact ⟨j + 1, by go_num, hj9, rfl, HT13⟩
                · have hjri : ¬ (j : Int) < (rn : Int) := by omega
                  have HTw := hide (HTo.out _ _ (HL12.out.quiet hwr.out))
                  go_wp2_with fail
                  go_ret
                  exact ⟨rfl, HTw.out⟩

set_option maxRecDepth 100000 in
theorem adjustTurns_lifted (os : Os) (started : os.Started) (H : Type) (enc : TypeId × Value → H) :
    ReturnsInHanded {} Tryz.checked os 3 .any (fun w args => (Rows.adjustTurnsSpec.pre enc Tryz.prog Tryz.f3 [] false w args ∧ laidMetH Tryz.prog laidTab w) ∧ sizedMet enc Tryz.prog Tryz.f3 (OpenSpec.ofChange Rows.adjustTurnsSpec) false w args)
      (Rows.adjustTurnsSpec.post enc Tryz.prog Tryz.f3 false true false false) := by
  refine returnsInHanded_of_change_and (C := Tryz.checked) (X := fun w _ => laidMetH Tryz.prog laidTab w) (fun _ _ _ hh h => h.of_heap hh) own started (by kernel_rfl) Tryz.func3
    (ChangeSpec.witness_shaped (enc := enc) (C := Tryz.checked) (os := os) (X := fun w _ => laidMetH Tryz.prog laidTab w) false (World.doorLaid Tryz.prog 400 os) #[.slice none 0 0, .agg #[.int .i64 0, .int .i64 0, .int .i64 0, .slice none 0 0, .slice none 0 0]] 8 rfl (World.shaped_of_RefB (by kernel_rfl) (by kernel_rfl)) (by kernel_rfl) (by kernel_rfl) (by kernel_rfl) (door_met os _)) ?_
  intro W base args ds gs before hval0 hW _ _ hL _
  have hTab := tab_of hL
  have hval : ∀ (j : Nat) t v, Tryz.f3.params[j]? = some t → args[j]? = some v → Value.okWide Tryz.prog W .any base t v := hval0
  have hW' := hW
  obtain ⟨p, q, hA0, hV, rfl, hfz, hnd⟩ := hW
  have hA : DataW.TrodAll enc Tryz.prog W 0 (fun _ => true) true Tryz.f3.params.toList args.toList ds p := hA0
  rw [Tryz.params3] at hA hval
  obtain ⟨v0, vs0, d0, ds0, p0, q0, hargs, rfl, rfl, h0, r0⟩ := trodAll_cons hA
  obtain ⟨v1, vs1, d1, ds1, p1, q1, rfl, rfl, rfl, h1, r1⟩ := trodAll_cons r0
  obtain ⟨rfl, rfl, rfl⟩ := trodAll_nil r1
  obtain rfl : args = #[v0, v1] := by cases args; simp_all
  obtain ⟨rfl, rfl⟩ := trodVars_none hV
  obtain ⟨a0, len0, cap0, rfl⟩ := okWide_slice Tryz.underlying22 (hval 0 22 v0 rfl rfl)
  have k0 := h0
  have lt0 : ∀ x ∈ p0, x.block < W.heap.size := by obtain ⟨m, hm⟩ := k0; exact DataW.trod_lt m _ _ _ hm
  obtain ⟨ths, htl, w0, wc0⟩ := open_things h0
  subst htl
  have k1 := h1
  have lt1 : ∀ x ∈ p1, x.block < W.heap.size := by obtain ⟨m, hm⟩ := k1; exact DataW.trod_lt m _ _ _ hm
  obtain ⟨x1, y1, u1, ro1, rc1, rs1, po1, pc1, ps1, rfl, hx1, hy1, hu1, hr1, hp1, hrc1, -⟩ := open_work14 (hval 1 25 v1 rfl rfl) h1
  simp only [List.append_nil] at hW'
  clear hA0 hval0
  refine (adjustTurns_walk a0 cap0 ths x1 y1 u1 ro1 rc1 rs1 po1 pc1 ps1 W w0 wc0 hx1 hy1 hu1 hr1 hp1 hrc1 hTab).mono fun e W' ⟨he, ht⟩ => ?_
  subst he
  have bel : Below W.heap.size W W' := ht.below0
  exact ⟨_, rfl, _, _, _, [], _, [], hW', trodAll_mk1 (shut_bool Tryz.underlying4 _), (trodAll_cons_mk (Below.trod laidOut (by kernel_rfl) (of_decide_eq_true (by kernel_rfl)) k0 bel lt0) (trodAll_cons_mk (Below.trod laidOut (by kernel_rfl) (of_decide_eq_true (by kernel_rfl)) k1 bel lt1) trodAll_mk0)), rfl, bel.frame _, fun h => by cases h⟩

theorem adjustTurns_over : Rows.adjustTurnsRow.holds Tryz.pinned (OpenSpec.ofChange Rows.adjustTurnsSpec) :=
  OpenClaim.holds_of_wide 3 Tryz.f3 rfl rfl rfl rfl rfl rfl rfl ⟨rfl, rfl, rfl, rfl, rfl⟩ rfl rfl rfl rfl rfl (by kernel_rfl) Tryz.func3 (by kernel_rfl)
    (of_decide_eq_true (by kernel_rfl)) (by unfold Func.isWrapper; first | (rw [if_pos (by decide +kernel)]; kernel_rfl) | (rw [if_neg (by decide +kernel)]; exact ⟨rfl, rfl⟩))
    (fun os started H enc _ => adjustTurns_lifted os started H enc)

theorem adjustTurns_holds : Rows.AdjustTurnsSaid := adjustTurns_over

theorem adjustTurns_card : Rows.AdjustTurnsCardSaid :=
  Claim7.holds_tied_plain_at .later [] [.data] true _ false
    adjustTurns_holds (fun _ h => by cases h) (by kernel_rfl) (fun _ h => by cases h) adjustTurns_row_tie rfl ⟨rfl, rfl⟩ (by kernel_rfl) rfl
    (fun f fn hf hfn => by
      obtain rfl : f = 3 := Option.some.inj ((show Tryz.prog.funcNamed "ballast/ballastlaw14.AdjustTurns" = some 3 by kernel_rfl).symm.trans hf) |>.symm
      obtain rfl : fn = Tryz.f3 := (Option.some.inj (Tryz.func3.symm.trans hfn)).symm
      exact ⟨by kernel_rfl, fun j t ht => by
        rw [Tryz.params3] at ht
        have h3 : t ∈ [22, 25] := by
          have h4 := Array.mem_of_getElem? ht
          simpa using h4
        have h5 : ∀ u, u ∈ [22, 25] → Tryz.prog.wantsStandIn u = false := by
          intro u hu
          simp only [List.mem_cons, List.not_mem_nil, or_false] at hu
          rcases hu with rfl | rfl <;> kernel_rfl
        exact h5 t h3⟩)
    (by kernel_rfl)
end Go.Proofs.YtpeglndlhjnaaaaGreatDoor
