/-
  AdjustStays: where nothing moves, since all may stay, nothing is turned. For every list of things, any roots, region and workers.
-/
import Derived.Test.YtpeglndlhjnaaaaGreatDoorPack36
import Derived.Test.YtpeglndlhjnaaaaGreatDoorPack27
import Derived.Test.YtpeglndlhjnaaaaGreatDoorPack18
import Derived.Test.YtpeglndlhjnaaaaGreatDoorCards
import Derived.Test.YtpeglndlhjnaaaaGreatDoorTie
import Derived.SevenTiedAt
import Derived.BigQuiet
namespace Go.Proofs.YtpeglndlhjnaaaaGreatDoor
open Go.ChangeShapes Go.WideShapes Go.ChangeAt Go.RowKit Bt
set_option linter.unusedVariables false
set_option linter.unusedSimpArgs false


theorem wrap_one14 {k : Nat} (h : k ≤ 100000) : IntKind.i64.wrap (1 + (k : Int)) = (k : Int) + 1 := by
  rw [IntKind.wrap_i64]; omega
/-- Where as much may stay as there is, all stays. -/
theorem stays_all {n k v : Nat} {S : Nat → Nat} {P : PN} (hs : Bl n S) (hP : Makes S 1 n k v P) (hv : n ≤ v) (h1 : 1 ≤ n) (h2 : n ≤ 65536) (h3 : 1 ≤ k) (h4 : k ≤ 65536) : P.d = n := by
  have okP := hP.ok h1 h2 h3 h4
  obtain ⟨K, a1, a2⟩ := hP.d_
  have hK : K = P.R := by
    rcases a1.most with h | h
    · exact h
    · have h5 := PN.ed_le P (K + 1)
      rw [hP.t_] at h5
      have := dead_le P (live S) (P.ed (K + 1))
      omega
  rw [hK, PN.ed_R okP, hP.t_] at a2
  exact IsPast.uniq hs a2 (.inr ⟨noCutN hs, rfl⟩)
/-- What stays is turned to itself. -/
theorem toA_stay {P : PN} {S : Nat → Nat} {N : Nat} (hd : P.d = N) (r : Int) : toA P S N r = r := by
  unfold toA
  split
  · omega
  · split
    · rename_i h
      unfold fwA
      rw [if_pos (by omega)]
      omega
    · rfl
theorem finA_stay {J : LJ} (hd : J.P.d = J.N) (i : Nat) : finA J i = J.L.getD i 0 := by
  unfold finA
  split
  · exact toA_stay hd _
  · rfl

set_option maxHeartbeats 8000000 in
set_option maxRecDepth 100000 in
theorem adjustStays_walk (ao : Option Addr) (cap : Nat) (ths : List Th) (x y z : Int) (ro : Option Addr) (rc : Nat) (rs : List Int) (po : Option Addr) (pc : Nat) (ps : List Int) (w : World) (h : ThR w ao ths) (hcap : ths.length ≤ cap ∧ cap ≤ 9223372036854775807) (hx : In64 x) (hy : In64 y) (hz : In64 z) (hr : IRd w ro rs.length rs) (hp : IRd w po ps.length ps) (hrc : rs.length ≤ rc ∧ rc ≤ 9223372036854775807) (hT : Tab w) :
    Calls Tryz.prog 6 #[.slice ao ths.length cap, .agg #[.int .i64 x, .int .i64 y, .int .i64 z, .slice ro rs.length rc, .slice po ps.length pc]] w fun e w' => e = .returned (.bool true) ∧ Turned [] w w' := by
  obtain ⟨w0, hw0⟩ : ∃ w0, w0 = w.alloc (.cells #[.int .i64 x, .int .i64 y, .int .i64 z, .slice ro rs.length rc, .slice po ps.length pc] 25) := ⟨_, rfl⟩
  have hT0 : Turned [] w w0 := by rw [hw0]; exact (Turned.refl [] w).alloc _
  have hQ0 : w0.heap[w.heap.size]? = some (.cells #[.int .i64 x, .int .i64 y, .int .i64 z, .slice ro rs.length rc, .slice po ps.length pc] 25) := by rw [hw0]; exact heap_alloc_new _ _
  obtain ⟨bq, hbq⟩ : ∃ bq, bq = w.heap.size := ⟨_, rfl⟩
  rw [← hbq] at hQ0
  have HBn := hide (show w.heap.size ≤ bq by omega)
  have HTb := hide hT
  have HTh := hide h
  have HRs := hide hr
  have HT0 := hide hT0
  have HQ0 := hide hQ0
  have HAw := hide (awake14 w0 (hT.turned hT0 (by simp)))
  have HW0 := hide (show 0 < w.heap.size by have := block_lt (hT 0 (by omega)); simpa using this)
  have HPy := hide (fun w' : World => pick14 y 40 w' hy (by omega))
  have HPx := hide (fun w' : World => pick14 x 4 w' hx (by omega))
  rw [show ((4 : Nat) : Int) = 4 from rfl] at HPx
  rw [show ((40 : Nat) : Int) = 40 from rfl] at HPy
  have hk1 := pkF_lt y (show 0 < 40 by omega)
  have hx1 := pkF_lt x (show 0 < 4 by omega)
  generalize pkF x 4 = kk at *
  generalize pkF y 40 = k at *
  have hwr := wrap_one14 (k := k) (by omega)
  clear h hT hr hp hT0 hQ0 hx hy hz
  obtain ⟨rl, hrl⟩ : ∃ rl, rl = rs.length := ⟨_, rfl⟩
  obtain ⟨pl, hpl⟩ : ∃ pl, pl = ps.length := ⟨_, rfl⟩
  obtain ⟨tl, htl⟩ : ∃ tl, tl = ths.length := ⟨_, rfl⟩
  have HLr := hide hrl
  have HLt := hide htl
  rw [← hpl, ← hrl] at HQ0 hw0 ⊢
  rw [← hrl] at hrc
  rw [← htl] at hcap ⊢
  clear hpl hrl htl
  go_enter Tryz.func6, Tryz.ntmps6
  go_wp2_with fail
  rw [← hw0, ← hbq]
  clear hw0 hbq
  refine (HAw.out).mono ?_
  rintro e w1 ⟨rfl, t1⟩
  have HT1 := hide (HT0.out.trans t1)
  have HQ1 := hide (t1.at HQ0.out (by simp))
  clear t1 HT0 HQ0 HAw
  go_upto_if 19 with fail
  go_cut [0] (fun s0 wc => ∃ (T : List Th) (tn c' : Nat), s0 = .slice ao tn c' ∧ tn ≤ 50 ∧ Aside (tn = T.length) ∧ Aside (ThR w ao T) ∧ Aside (wc = w1))
  case first =>
    by_cases h40 : 50 < tl
    · have h40i : (50 : Int) < tl := by omega
      have hsl := cut_things ao tl cap 50 h40 hcap.1 hcap.2
      rw [show ((50 : Nat) : Int) = 50 from rfl] at hsl
      go_wp2_with fail
      go_meet
      case rel => exact ⟨ths.take 50, 50, cap, rfl, by omega, (by show 50 = (ths.take 50).length; rw [List.length_take]; have := HLt.out; omega), HTh.out.front 50, rfl⟩
    · have h40i : ¬ (50 : Int) < tl := by omega
      go_wp2_with fail
      go_meet
      case rel => exact ⟨ths, tl, cap, rfl, by omega, HLt.out, HTh.out, rfl⟩
  case rest =>
    obtain ⟨T, tn, c', rfl, htn, htT, hthr, hwc⟩ := hcut
    have hwc' := hwc.out
    subst hwc'
    clear hwc hcap HLt HTh tl
    have HTl := hide htT.out
    have HTh := hide hthr.out
    clear htT hthr
    obtain ⟨w1, hw1⟩ : ∃ w1, w1 = wc := ⟨_, rfl⟩
    subst hw1
    have q0 : w1.cell? ⟨bq, 3, none⟩ = some (.slice ro rl rc) := by rw [cell_of_heap HQ1.out]; rfl
    have qf : w1.frozen? ⟨bq, 3, none⟩ = false := by simp [World.frozen?, HQ1.out]
    have hbqs := lt_of_heap HQ1.out
    go_upto_if 25 with fail
    go_cut [4] (fun s4 wc => ∃ (RS : List Int) (rn c' : Nat), s4 = .bool false ∧ Aside (rn = RS.length ∧ rn ≤ 10) ∧ Aside (IRd w ro RS.length RS) ∧ Aside (wc.heap[bq]? = some (.cells #[.int .i64 x, .int .i64 y, .int .i64 z, .slice ro rn c', .slice po pl pc] 25)) ∧ Aside (Turned [] w wc))
    case first =>
      by_cases h10 : 10 < rl
      · have h10i : (10 : Int) < rl := by omega
        have hsl := cut_ints ro rl rc 10 h10 hrc.1 hrc.2
        rw [show ((10 : Nat) : Int) = 10 from rfl] at hsl
        have HQ2 : Hid ((w1.setCell ⟨bq, 3, none⟩ (.slice ro 10 rc)).heap[bq]? = some (.cells #[.int .i64 x, .int .i64 y, .int .i64 z, .slice ro 10 rc, .slice po pl pc] 25)) := hide (by rw [heap_setCell_at _ _ _ _ _ _ HQ1.out]; rfl)
        have HT2 := hide (HT1.out.setCell (p := ⟨bq, 3, none⟩) (.inr (show w.heap.size ≤ bq from HBn.out)) (.slice ro 10 rc))
        go_wp2_with fail
        go_meet
        case rel => exact ⟨rs.take 10, 10, rc, rfl, ⟨(by rw [List.length_take]; have := HLr.out; omega), by omega⟩, HRs.out.front 10, HQ2.out, HT2.out⟩
      · have h10i : ¬ (10 : Int) < rl := by omega
        go_wp2_with fail
        go_meet
        case rel => exact ⟨rs, rl, rc, rfl, ⟨HLr.out, by omega⟩, HRs.out, HQ1.out, HT1.out⟩
    case rest =>
      obtain ⟨RS, rn, c2, rfl, hrn, hrs, hq2, ht2⟩ := hcut
      have HRn := hide hrn.out
      have HRS := hide hrs.out
      have HQ2 := hide hq2.out
      have HT2 := hide ht2.out
      clear hrn hrs hq2 ht2 HQ1 HT1 q0 qf hbqs HRs HLr hrc
      obtain ⟨w2, hw2⟩ : ∃ w2, w2 = wc := ⟨_, rfl⟩
      subst hw2
      have HMd := hide (fun (w' : World) (t : Turned [] w w') => la_made ao c' T ro c2 RS (k + 1) 300 300 w' (HTh.out.turned t) (HRS.out.turned t) (by omega) (by have := HTl.out; omega) (by have := HRn.out; omega) (by omega) (by omega) (by omega) (HTb.out.turned t (by simp)))
      rw [← HTl.out, ← HRn.out.1, show ((300 : Nat) : Int) = 300 from rfl, show ((k + 1 : Nat) : Int) = (k : Int) + 1 from by omega] at HMd
      have q1 : w2.drew.cell? ⟨bq, 1, none⟩ = some (.int .i64 y) := by show w2.cell? _ = _; rw [cell_of_heap HQ2.out]; rfl
      have q3 : w2.drew.cell? ⟨bq, 3, none⟩ = some (.slice ro rn c2) := by show w2.cell? _ = _; rw [cell_of_heap HQ2.out]; rfl
      have HD2 := hide (HT2.out.drew)
      go_wp2_with fail
      go_region_held3 (fun w' => w'.cell? ⟨bq, 1, none⟩ = some (.int .i64 y) ∧ w'.cell? ⟨bq, 3, none⟩ = some (.slice ro rn c2)) (go_keep)
        (first
          | (go_at_call 9; refine (HPy.out _).mono ?_; rintro e wz ⟨rfl, hwz⟩; subst hwz; clear HPy)
          | (go_at_call 8; refine (HMd.out _ HD2.out).mono ?_; rintro e w3 ⟨J, rv, rvc, vs, rfl, hX, hM, hN, hL, -, hMk, hBl, hCut, hvl, hvr, hvo, hlo, t3⟩; have z1 : w3.cell? ⟨bq, 1, none⟩ = some (.int .i64 y) := (by rw [t3.cell (block_lt q1) (by simp)]; exact q1); have z3 : w3.cell? ⟨bq, 3, none⟩ = some (.slice ro rn c2) := (by rw [t3.cell (block_lt q3) (by simp)]; exact q3); have HX := hide hX; have HM := hide hM; have HN := hide hN; have HMk := hide hMk; have HBl := hide hBl; have HVr := hide hvr; have HVl := hide hvl; have HLo := hide (show w2.heap.size ≤ J.cp ∧ w2.heap.size ≤ J.cq ∧ w2.heap.size ≤ J.xb from hlo); have HT3 := hide (HD2.out.trans t3); have HU3 := hide ((Turned.refl [] w2).drew.trans t3); clear hX hM hN hL hMk hBl hCut hvl hvr hvo hlo t3))
      clear q1 q3 z1 z3 HD2 HMd
      have hg3 : w3.heap[bq]? = some (.cells #[.int .i64 x, .int .i64 y, .int .i64 z, .slice ro rn c2, .slice po pl pc] 25) := by rw [HU3.out.block bq (lt_of_heap HQ2.out) (by simp)]; exact HQ2.out
      have q0 : w3.cell? ⟨bq, 0, none⟩ = some (.int .i64 x) := by rw [cell_of_heap hg3]; rfl
      have HDn : Hid (J.P.d = 300) := hide (stays_all HBl.out HMk.out (by omega) (by omega) (by omega) (by omega) (by omega))
      have x7 : w3.cell? ⟨J.xb, 7, none⟩ = some (.int .i64 300) := by rw [HX.out.cs.2.2.2.2.2.2.2.1, HDn.out]; rfl
      obtain ⟨n, hn⟩ : ∃ n : Nat, n = kk + 1 := ⟨_, rfl⟩
      have hnw : wrap64 (1 + (kk : Int)) = (n : Int) := by unfold wrap64; omega
      have HNn : Hid (1 ≤ n ∧ n ≤ 4) := hide (by omega)
      clear hn hx1 hg3 HU3 HQ2
      have HNw := hide (fun (w' : World) (t : Turned [] w3 w') kp kq cb cl hcl hk hc hkp hkq => la_new HX.out HM.out (by have := HLo.out; have := HW0.out; have := HT2.out.size; omega) t kp kq cb 4 4 n cl hcl hk hc hkp hkq (by have := HNn.out; omega))
      go_wp2_with fail
      refine (HPx.out _).mono ?_
      rintro e wz ⟨rfl, hwz⟩
      rw [hwz]; clear hwz wz HPx q0 x7
      go_upto_region 10 with fail
      obtain ⟨x0, -, x2, -, x4, x5, x6, x7, x8, x9, x10, x11, x12⟩ := (HX.out.quiet ((Turned.refl [] w3).drew)).cs
      have HD3 := hide ((Turned.refl [] w3).drew)
      unfold LJ.plan plC at HNw
      go_wp2_with fail
      go_region_held3 (fun w' => w'.cell? ⟨J.xb, 0, none⟩ = some (.pointer (some ⟨J.cp, 0, none⟩)) ∧ w'.cell? ⟨J.xb, 2, none⟩ = some (.pointer (some ⟨J.bp, 0, none⟩)) ∧ w'.cell? ⟨J.xb, 4, none⟩ = some (.int .i64 (J.P.f : Int)) ∧ w'.cell? ⟨J.xb, 5, none⟩ = some (.int .i64 (J.P.t : Int)) ∧ w'.cell? ⟨J.xb, 6, none⟩ = some (.int .i64 (J.P.k : Int)) ∧ w'.cell? ⟨J.xb, 7, none⟩ = some (.int .i64 (J.P.d : Int)) ∧ w'.cell? ⟨J.xb, 8, none⟩ = some (.int .i64 (J.P.e : Int)) ∧ w'.cell? ⟨J.xb, 9, none⟩ = some (.slice (some ⟨J.lq, 0, none⟩) J.P.R J.lc) ∧ w'.cell? ⟨J.xb, 10, none⟩ = some (.slice (some ⟨J.aq, 0, none⟩) J.P.R J.ac) ∧ w'.cell? ⟨J.xb, 11, none⟩ = some (.slice (some ⟨J.wq, 0, none⟩) J.P.R J.P.R) ∧ w'.cell? ⟨J.xb, 12, none⟩ = some (.slice (some ⟨J.tq, 0, none⟩) J.P.R J.P.R)) (go_keep)
        (first
          | (go_at_call 12; refine (four_any _).mono ?_; rintro e w4 ⟨cb, rfl, hc4, t4, hcb⟩; have HC4 := hide hc4; have HT4 := hide (HD3.out.trans t4); obtain ⟨y0, -, y2, -, y4, y5, y6, y7, y8, y9, y10, y11, y12⟩ := (HX.out.quiet HT4.out).cs; clear hc4 t4 hcb)
          | (go_at_call 10; refine (new_any 1 _).mono ?_; rintro e w5 ⟨rfl, hm5, t5, hz5⟩; have HM5 := hide hm5; have HC5 := hide (HC4.out.turned0 t5); have HS5 := hide (HT4.out.size); have HT5 := hide (HT4.out.trans t5); obtain ⟨z0, -, z2, -, z4, z5, z6, z7, z8, z9, z10, z11, z12⟩ := (HX.out.quiet HT5.out).cs; clear hm5 t5 hz5)
          | (go_at_call 11; refine (HNw.out _ HT5.out _ _ _ _ (by simp; omega) HM5.out HC5.out (Nat.le_succ_of_le HS5.out) HS5.out).mono ?_; rintro e w6 ⟨I, s0, rfl, hL, -, -, -, hmea, t6⟩; have HL := hide hL; have HMe := hide hmea; obtain ⟨u0, -, u2, -, u4, u5, u6, u7, u8, u9, u10, u11, u12⟩ := hL.wxw.cs; clear hL hmea t6))
      clear x0 x2 x4 x5 x6 x7 x8 x9 x10 x11 x12 y0 y2 y4 y5 y6 y7 y8 y9 y10 y11 y12 z0 z2 z4 z5 z6 z7 z8 z9 z10 z11 z12 u0 u2 u4 u5 u6 u7 u8 u9 u10 u11 u12 HNw HD3 HC4 HT4 HM5 HC5 HS5 HT5
      have HTn : Hid (TnA J.P J.S four J.N J.L n s0 0 5000) := hide (TnA.start HL.out.ws (by
        have h1 := HMe.out
        have h2 := HN.out
        have h3 := HNn.out
        have h4 := Nat.mul_le_mul h1 h3.2
        have h5 : meaA J.P J.S four J.N J.L s0 * n ≤ meaA J.P J.S four J.N J.L s0 * 4 := Nat.mul_le_mul_left _ h3.2
        omega))
      clear HMe
      go_wp2_with fail
      go_loopg [11] 16000 (fun gg s11 wr => ∃ (i : Nat) (s : AdS), gg = 16000 - i ∧ i ≤ 5001 ∧ s11 = .int .i64 (i : Int) ∧ Hid (Lx J I n w3 wr s) ∧ Hid (TnA J.P J.S four J.N J.L n s i 5000))
      case atStart => exact ⟨0, s0, rfl, by omega, rfl, HL, HTn⟩
      case round =>
        clear HL HTn
        obtain ⟨i, s, rfl, hi, rfl, HL, HTn⟩ := hrel
        obtain ⟨w7, hw7⟩ : ∃ w7, w7 = wr := ⟨_, rfl⟩
        subst hw7
        have hii : (i : Int) < 16000 := by omega
        have HDo := hide (la_done HL.out)
        cases hd : doneA s
        · rw [hd] at HDo
          have HNd : Hid (¬ ∀ k, ¬ onA s k) := hide (fun h => by have := doneA_on.2 h; rw [hd] at this; cases this)
          clear hd
          have hi2 : i < 5001 := by
            rcases Nat.lt_or_ge i 5001 with h | h
            · exact h
            · exact absurd (HTn.out.over (by omega)) HNd.out
          have HT8 := hide (HTn.out.step HL.out.wx.gd HL.out.inv HL.out.ws HNd.out)
          have hnz : ¬ ((n : Int) = 0) := by have := HNn.out; omega
          have hnm : ¬ ((n : Int) = -1) := by have := HNn.out; omega
          have htm : (i : Int).tmod (n : Int) = ((i % n : Nat) : Int) := by rw [Int.tmod_eq_emod_of_nonneg (by omega)]; rfl
          have hlt : i % n < n := Nat.mod_lt _ (by have := HNn.out; omega)
          obtain ⟨m, hm⟩ : ∃ m, m = i % n := ⟨_, rfl⟩
          rw [← hm] at htm hlt HT8
          have HSt := hide (la_step HL.out m hlt)
          clear hm hlt HTn HNd
          go_wp2_with fail
          refine (HDo.out).mono ?_
          rintro e w8 ⟨rfl, hw8⟩
          rw [hw8]; clear hw8 w8 HDo
          go_wp2_with fail
          refine (HSt.out).mono ?_
          rintro e w8 ⟨⟨r, rfl⟩, hL8, -, -⟩
          have HL8 := hide hL8
          clear hL8 HSt HL htm hnz hnm
          go_wp2_with fail
          go_roundg (16000 - (i + 1))
          case measure => omega
          case rel => exact ⟨i + 1, _, rfl, hi2, by go_num, HL8, HT8⟩
        · rw [hd] at HDo
          have HOn := hide (doneA_on.1 hd)
          clear hd HTn
          go_wp2_with fail
          refine (HDo.out).mono ?_
          rintro e w8 ⟨rfl, hw8⟩
          rw [hw8]; clear hw8 w8 HDo
          have HWo := hide (la_words HL.out HOn.out (by rw [HN.out]; omega))
          rw [HN.out, show ((300 : Nat) : Int) = 300 from rfl] at HWo
          obtain ⟨x0, -⟩ := HL.out.wxw.cs
          go_wp2_with fail
          refine (HWo.out).mono ?_
          rintro e w8 ⟨g, gc, rfl, hgc, hgw, hgn, t8⟩
          have HL8 := hide (HL.out.quiet t8)
          have HGw : Hid (∀ i, i < 300 → w8.cell? ⟨g, i, none⟩ = some (.int .i64 (J.L.getD i 0))) := hide (fun i hi => by rw [hgw i hi, finA_stay (by rw [HDn.out, HN.out])])
          have HT8 : Hid (Turned [] w w8) := hide ((HT3.out.trans_new HL8.out.t (fun i hi => .inr (by
            have h1 := HLo.out
            have h2 := HT2.out.size
            simp only [List.mem_cons, List.not_mem_nil, or_false] at hi
            rcases hi with rfl | rfl <;> omega))))
          have HVr8 := hide (HVr.out.turned HL8.out.t)
          have HRt := hide (fun (w' : World) (t : Turned [] w8 w') => la_roots (HL8.out.quiet t) rv rn rvc vs (HVr8.out.rd.turned t) (by have := HRn.out; omega))
          unfold LJ.plan plC at HRt
          have HD8 := hide ((Turned.refl [] w8).drew)
          obtain ⟨-, -, x2, -, x4, x5, x6, x7, x8, x9, x10, x11, x12⟩ := (HL8.out.wxw.quiet HD8.out).cs
          clear hgw t8 HWo HL x0
          go_wp2_with fail
          go_region_held3 (fun w' => w'.cell? ⟨J.xb, 2, none⟩ = some (.pointer (some ⟨J.bp, 0, none⟩)) ∧ w'.cell? ⟨J.xb, 4, none⟩ = some (.int .i64 (J.P.f : Int)) ∧ w'.cell? ⟨J.xb, 5, none⟩ = some (.int .i64 (J.P.t : Int)) ∧ w'.cell? ⟨J.xb, 6, none⟩ = some (.int .i64 (J.P.k : Int)) ∧ w'.cell? ⟨J.xb, 7, none⟩ = some (.int .i64 (J.P.d : Int)) ∧ w'.cell? ⟨J.xb, 8, none⟩ = some (.int .i64 (J.P.e : Int)) ∧ w'.cell? ⟨J.xb, 9, none⟩ = some (.slice (some ⟨J.lq, 0, none⟩) J.P.R J.lc) ∧ w'.cell? ⟨J.xb, 10, none⟩ = some (.slice (some ⟨J.aq, 0, none⟩) J.P.R J.ac) ∧ w'.cell? ⟨J.xb, 11, none⟩ = some (.slice (some ⟨J.wq, 0, none⟩) J.P.R J.P.R) ∧ w'.cell? ⟨J.xb, 12, none⟩ = some (.slice (some ⟨J.tq, 0, none⟩) J.P.R J.P.R)) (go_keep)
            (first
              | (go_at_call 19; refine (HRt.out _ HD8.out).mono ?_; rintro e w9 ⟨q, rfl, hri, hq, t9⟩; have HRi := hide hri; have HT9 := hide (HD8.out.trans t9); obtain ⟨-, -, y2, -, y4, y5, y6, y7, y8, y9, y10, y11, y12⟩ := (HL8.out.wxw.quiet HT9.out).cs; clear hri hq t9))
          clear x2 x4 x5 x6 x7 x8 x9 x10 x11 x12 y2 y4 y5 y6 y7 y8 y9 y10 y11 y12 HRt HD8
          have HL9 := hide (HL8.out.quiet HT9.out)
          have HVr9 := hide (HVr8.out.turned0 HT9.out)
          have HTw9 := hide (HT8.out.trans HT9.out)
          have hx9 := HL9.out.wxw.cs.2.1
          rw [HN.out] at hx9
          have HC9 : Hid (∀ i, i < 300 → w9.cell? ⟨g, i, none⟩ = some (.int .i64 (J.L.getD i 0)) ∧ w9.cell? ⟨J.dq, i, none⟩ = some (.int .i64 (J.L.getD i 0))) := hide (fun i hi => by
            have h1 := HGw.out i hi
            refine ⟨by rw [HT9.out.cell (block_lt h1) (by simp)]; exact h1, ?_⟩
            refine HL9.out.wxw.doc.word ?_
            rw [List.getD_eq_getElem?_getD, List.getElem?_eq_getElem (by rw [HL9.out.wx.gd.len, HN.out]; exact hi)]
            rfl)
          have HX9 := hide hx9
          clear hx9 HL8 HVr8 HT8 HT9 HGw
          have hlr : ¬ (rn : Int) ≠ (rn : Int) := fun h => h rfl
          go_wp2_with fail
          go_loopg [14] 300 (fun gg s14 wr => ∃ (j : Nat), s14 = .int .i64 (j : Int) ∧ j ≤ 300 ∧ gg = 300 - j ∧ Hid (Turned [] w9 wr))
          case atStart => exact ⟨0, rfl, by omega, rfl, hide (Turned.refl [] w9)⟩
          case round =>
            obtain ⟨j, rfl, hj, rfl, hwr⟩ := hrel
            by_cases hj3 : j < 300
            · have hj3i : (j : Int) < 300 := by omega
              obtain ⟨cv1, cv2⟩ := HC9.out j hj3
              have e1 : wr.cell? ⟨g, j, none⟩ = some (.int .i64 (J.L.getD j 0)) := by rw [hwr.out.cell (block_lt cv1) (by simp)]; exact cv1
              have e2 : wr.cell? ⟨J.dq, j, none⟩ = some (.int .i64 (J.L.getD j 0)) := by rw [hwr.out.cell (block_lt cv2) (by simp)]; exact cv2
              have e3 : wr.cell? ⟨J.xb, 1, none⟩ = some (.slice (some ⟨J.dq, 0, none⟩) 300 300) := by rw [hwr.out.cell (block_lt HX9.out) (by simp)]; exact HX9.out
              have hd1 : decide ((300 : Int) ≤ (j : Int)) = false := decide_eq_false (by omega)
              clear cv1 cv2
              generalize J.L.getD j 0 = xv at *
              go_wp2_with fail
              go_quiet (fail)
              go_wp2_with fail
              go_roundg (300 - (j + 1))
              case measure => omega
              case rel => exact ⟨j + 1, by go_num, by omega, rfl, hide (hwr.out.drewN nq)⟩
            · have hj3i : ¬ (j : Int) < 300 := by omega
              have HL10 := hide (HL9.out.quiet hwr.out)
              have HVr10 := hide (HVr9.out.turned0 hwr.out)
              have HTw10 := hide (HTw9.out.trans hwr.out)
              have HRi10 := hide (HRi.out.turned0 hwr.out)
              have hrn6 : rn ≤ 10 := HRn.out.2
              clear HL9 HVr9 HTw9 HRi HC9 HX9 hwr hj hj3
              obtain ⟨w10, hw10⟩ : ∃ w10, w10 = wr := ⟨_, rfl⟩
              subst hw10
              go_wp2_with fail
              go_loopg [15] rn (fun gg s15 wr => ∃ (j : Nat), s15 = .int .i64 (j : Int) ∧ j ≤ rn ∧ gg = rn - j ∧ Hid (Turned [] w10 wr))
              case atStart => exact ⟨0, rfl, by omega, rfl, hide (Turned.refl [] w10)⟩
              case round =>
                obtain ⟨j, rfl, hj, rfl, hwr⟩ := hrel
                by_cases hjr : j < rn
                · have hjri : (j : Int) < (rn : Int) := by omega
                  obtain ⟨vj, hvj⟩ : ∃ vj, vs[j]? = some vj := ⟨_, List.getElem?_eq_getElem (by rw [HVr10.out.rd.size]; exact hjr)⟩
                  obtain ⟨vb, vo, rfl, cv⟩ := HVr10.out.rd.cell j vj hvj
                  have cr := HRi10.out.cell hjr
                  rw [toA_stay (by rw [HDn.out, HN.out]), List.getD_eq_getElem?_getD, hvj] at cr
                  have e1 : wr.cell? ⟨q, j, none⟩ = some (.int .i64 vj) := by rw [hwr.out.cell (block_lt cr) (by simp)]; exact cr
                  have e2 : wr.cell? ⟨vb, vo + j, none⟩ = some (.int .i64 vj) := by rw [hwr.out.cell (block_lt cv) (by simp)]; exact cv
                  have hd1 : decide ((rn : Int) ≤ (j : Int)) = false := decide_eq_false (by omega)
                  have hd2 : decide (rn ≤ j) = false := decide_eq_false (by omega)
                  clear cv cr hvj
                  go_wp2_with fail
                  go_quiet (fail)
                  go_wp2_with fail
                  go_roundg (rn - (j + 1))
                  case measure => omega
                  case rel => exact ⟨j + 1, by go_num, by omega, rfl, hide (hwr.out.drewN nq)⟩
                · have hjri : ¬ (j : Int) < (rn : Int) := by omega
                  have HL11 := hide (HL10.out.quiet hwr.out)
                  have HTw11 := hide (HTw10.out.trans hwr.out)
                  have HDo := hide (la_done HL11.out)
                  rw [doneA_on.2 HOn.out] at HDo
                  clear HL10 HVr10 HTw10 HRi10 hwr
                  go_wp2_with fail
                  refine (HDo.out).mono ?_
                  rintro e w11 ⟨rfl, hw11⟩
                  rw [hw11]; clear hw11 w11 HDo
                  go_wp2_with fail
                  go_ret
                  exact ⟨rfl, HTw11.out⟩

set_option maxRecDepth 100000 in
theorem adjustStays_lifted (os : Os) (started : os.Started) (H : Type) (enc : TypeId × Value → H) :
    ReturnsInHanded {} Tryz.checked os 6 .any (fun w args => (Rows.adjustStaysSpec.pre enc Tryz.prog Tryz.f6 [] false w args ∧ laidMetH Tryz.prog laidTab w) ∧ sizedMet enc Tryz.prog Tryz.f6 (OpenSpec.ofChange Rows.adjustStaysSpec) false w args)
      (Rows.adjustStaysSpec.post enc Tryz.prog Tryz.f6 false true false false) := by
  refine returnsInHanded_of_change_and (C := Tryz.checked) (X := fun w _ => laidMetH Tryz.prog laidTab w) (fun _ _ _ hh h => h.of_heap hh) own started (by kernel_rfl) Tryz.func6
    (ChangeSpec.witness_shaped (enc := enc) (C := Tryz.checked) (os := os) (X := fun w _ => laidMetH Tryz.prog laidTab w) false (World.doorLaid Tryz.prog 400 os) #[.slice none 0 0, .agg #[.int .i64 0, .int .i64 0, .int .i64 0, .slice none 0 0, .slice none 0 0]] 8 rfl (World.shaped_of_RefB (by kernel_rfl) (by kernel_rfl)) (by kernel_rfl) (by kernel_rfl) (by kernel_rfl) (door_met os _)) ?_
  intro W base args ds gs before hval0 hW _ _ hL _
  have hTab := tab_of hL
  have hval : ∀ (j : Nat) t v, Tryz.f6.params[j]? = some t → args[j]? = some v → Value.okWide Tryz.prog W .any base t v := hval0
  have hW' := hW
  obtain ⟨p, q, hA0, hV, rfl, hfz, hnd⟩ := hW
  have hA : DataW.TrodAll enc Tryz.prog W 0 (fun _ => true) true Tryz.f6.params.toList args.toList ds p := hA0
  rw [Tryz.params6] at hA hval
  obtain ⟨v0, vs0, d0, ds0, p0, q0, hargs, rfl, rfl, h0, r0⟩ := trodAll_cons hA
  obtain ⟨v1, vs1, d1, ds1, p1, q1, rfl, rfl, rfl, h1, r1⟩ := trodAll_cons r0
  obtain ⟨rfl, rfl, rfl⟩ := trodAll_nil r1
  obtain rfl : args = #[v0, v1] := by cases args; simp_all
  obtain ⟨rfl, rfl⟩ := trodVars_none hV
  obtain ⟨a0, len0, cap0, rfl⟩ := okWide_slice Tryz.underlying22 (hval 0 22 v0 rfl rfl)
  have k0 := h0
  have lt0 : ∀ x ∈ p0, x.block < W.heap.size := by obtain ⟨m, hm⟩ := k0; exact DataW.trod_lt m _ _ _ hm
  obtain ⟨ths, htl, w0, wc0⟩ := open_things h0
  subst htl
  have k1 := h1
  have lt1 : ∀ x ∈ p1, x.block < W.heap.size := by obtain ⟨m, hm⟩ := k1; exact DataW.trod_lt m _ _ _ hm
  obtain ⟨x1, y1, u1, ro1, rc1, rs1, po1, pc1, ps1, rfl, hx1, hy1, hu1, hr1, hp1, hrc1, -⟩ := open_work14 (hval 1 25 v1 rfl rfl) h1
  simp only [List.append_nil] at hW'
  clear hA0 hval0
  refine (adjustStays_walk a0 cap0 ths x1 y1 u1 ro1 rc1 rs1 po1 pc1 ps1 W w0 wc0 hx1 hy1 hu1 hr1 hp1 hrc1 hTab).mono fun e W' ⟨he, ht⟩ => ?_
  subst he
  have bel : Below W.heap.size W W' := ht.below0
  exact ⟨_, rfl, _, _, _, [], _, [], hW', trodAll_mk1 (shut_bool Tryz.underlying4 _), (trodAll_cons_mk (Below.trod laidOut (by kernel_rfl) (of_decide_eq_true (by kernel_rfl)) k0 bel lt0) (trodAll_cons_mk (Below.trod laidOut (by kernel_rfl) (of_decide_eq_true (by kernel_rfl)) k1 bel lt1) trodAll_mk0)), rfl, bel.frame _, fun h => by cases h⟩

theorem adjustStays_over : Rows.adjustStaysRow.holds Tryz.pinned (OpenSpec.ofChange Rows.adjustStaysSpec) :=
  OpenClaim.holds_of_wide 6 Tryz.f6 rfl rfl rfl rfl rfl rfl rfl ⟨rfl, rfl, rfl, rfl, rfl⟩ rfl rfl rfl rfl rfl (by kernel_rfl) Tryz.func6 (by kernel_rfl)
    (of_decide_eq_true (by kernel_rfl)) (by unfold Func.isWrapper; first | (rw [if_pos (by decide +kernel)]; kernel_rfl) | (rw [if_neg (by decide +kernel)]; exact ⟨rfl, rfl⟩))
    (fun os started H enc _ => adjustStays_lifted os started H enc)

theorem adjustStays_holds : Rows.AdjustStaysSaid := adjustStays_over

theorem adjustStays_card : Rows.AdjustStaysCardSaid :=
  Claim7.holds_tied_plain_at .later [] [.data] true _ false
    adjustStays_holds (fun _ h => by cases h) (by kernel_rfl) (fun _ h => by cases h) adjustStays_row_tie rfl ⟨rfl, rfl⟩ (by kernel_rfl) rfl
    (fun f fn hf hfn => by
      obtain rfl : f = 6 := Option.some.inj ((show Tryz.prog.funcNamed "ballast/ballastlaw14.AdjustStays" = some 6 by kernel_rfl).symm.trans hf) |>.symm
      obtain rfl : fn = Tryz.f6 := (Option.some.inj (Tryz.func6.symm.trans hfn)).symm
      exact ⟨by kernel_rfl, fun j t ht => by
        rw [Tryz.params6] at ht
        have h3 : t ∈ [22, 25] := by
          have h4 := Array.mem_of_getElem? ht
          simpa using h4
        have h5 : ∀ u, u ∈ [22, 25] → Tryz.prog.wantsStandIn u = false := by
          intro u hu
          simp only [List.mem_cons, List.not_mem_nil, or_false] at hu
          rcases hu with rfl | rfl <;> kernel_rfl
        exact h5 t h3⟩)
    (by kernel_rfl)
end Go.Proofs.YtpeglndlhjnaaaaGreatDoor
