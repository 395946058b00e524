/-
  SlideRises: one worker alone moves all words in their order, each to its place, two steps for each, one for each region. For every list of blocks, any region and any waste.
-/
import Derived.Test.YtbmlggemheljkaaGreatDoorPack21
import Derived.Test.YtbmlggemheljkaaGreatDoorPack19
import Derived.Test.YtbmlggemheljkaaGreatDoorPack11
import Derived.Test.YtbmlggemheljkaaGreatDoorCards
import Derived.Test.YtbmlggemheljkaaGreatDoorTie
import Derived.SevenTiedAt
namespace Go.Proofs.YtbmlggemheljkaaGreatDoor
open Go.ChangeShapes Go.WideShapes Go.ChangeAt Go.RowKit Bt
set_option linter.unusedVariables false
set_option linter.unusedSimpArgs false


theorem wrap_one15 {k : Nat} (h : k ≤ 100000) : IntKind.i64.wrap (1 + (k : Int)) = (k : Int) + 1 := by
  rw [IntKind.wrap_i64]; omega
set_option maxHeartbeats 8000000 in
set_option maxRecDepth 100000 in
theorem slideRises_walk (ao : Option Addr) (len cap : Nat) (cs : List (Int × Int)) (x y z : Int) (po : Option Addr) (pl pc : Nat) (ps : List Int) (w : World) (h : TwRd w ao len cs) (hx : In64 x) (hy : In64 y) (hz : In64 z) (hp : PkRd w po pl ps) (hT : Tab w) :
    Calls Tryz.prog 8 #[.slice ao len cap, .agg #[.int .i64 x, .int .i64 y, .int .i64 z, .slice po pl pc]] w fun e w' => e = .returned (.bool true) ∧ Turned [] w w' := by
  have H0 := hide (block_lt (hT 0 (by omega)))
  have hTB := (Turned.refl [] w).alloc (.cells #[.int .i64 x, .int .i64 y, .int .i64 z, .slice po pl pc] 25)
  have hgB := heap_alloc_new w (.cells #[.int .i64 x, .int .i64 y, .int .i64 z, .slice po pl pc] 25)
  have HAw := hide (awake15 _ (hT.turned hTB (by simp)))
  have HTab := hide hT
  have HO := hide h
  have HTB := hide hTB
  have HPy := hide (fun w' : World => pick15 y 40 w' hy (by omega))
  have HPz := hide (fun w' : World => pick15 z 61 w' hz (by omega))
  rw [show ((40 : Nat) : Int) = 40 from rfl] at HPy
  rw [show ((61 : Nat) : Int) = 61 from rfl] at HPz
  have hk1 := pkF_lt y (show 0 < 40 by omega)
  have hv1 := pkF_lt z (show 0 < 61 by omega)
  generalize pkF y 40 = k at *
  generalize pkF z 61 = vv at *
  have hwr := wrap_one15 (k := k) (by omega)
  have HMd := hide (fun (w' : World) (t : Turned [] w w') => lmade15 ao len cap cs (k + 1) vv 150 w' (by omega) (by omega) (by omega) (by omega) (HO.out.turned t) (HTab.out.turned t (by simp)))
  rw [show ((150 : Nat) : Int) = 150 from rfl, show ((k + 1 : Nat) : Int) = (k : Int) + 1 from by omega] at HMd
  have HBl := hide (mkS_bl 150 cs (min len 60))
  generalize mkS 150 cs (min len 60) = S at *
  clear h hT hp hx hy hz hTB
  go_enter Tryz.func8, Tryz.ntmps8
  go_upto_region 1 with fail
  generalize w.alloc (.cells #[.int .i64 x, .int .i64 y, .int .i64 z, .slice po pl pc] 25) = wB at *
  obtain ⟨qb, hqb⟩ : ∃ qb, qb = w.heap.size := ⟨_, rfl⟩
  rw [← hqb] at hgB ⊢
  have HG := hide hgB
  clear hqb hgB
  go_wp2_with fail
  refine (HAw.out).mono ?_
  rintro e w2 ⟨rfl, t2⟩
  have HT2 := hide (HTB.out.trans t2)
  have hg2 : w2.heap[qb]? = some (.cells #[.int .i64 x, .int .i64 y, .int .i64 z, .slice po pl pc] 25) := by rw [t2.block qb (lt_of_heap HG.out) (by simp)]; exact HG.out
  have q1 : w2.drew.cell? ⟨qb, 1, none⟩ = some (.int .i64 y) := by show w2.cell? _ = _; rw [cell_of_heap hg2]; rfl
  have q2 : w2.drew.cell? ⟨qb, 2, none⟩ = some (.int .i64 z) := by show w2.cell? _ = _; rw [cell_of_heap hg2]; rfl
  have HD2 := hide (HT2.out.drew)
  have HGx := hide hg2
  clear t2 HAw HG HTB hg2
  go_wp2_with fail
  go_region_held3 (fun w' => w'.cell? ⟨qb, 1, none⟩ = some (.int .i64 y) ∧ w'.cell? ⟨qb, 2, none⟩ = some (.int .i64 z)) (go_keep)
    (first
      | (go_at_call 11; refine (HPy.out _).mono ?_; rintro e wz ⟨rfl, hwz⟩; subst hwz; clear HPy)
      | (go_at_call 11; refine (HPz.out _).mono ?_; rintro e wz ⟨rfl, hwz⟩; subst hwz; clear HPz)
      | (go_at_call 10; refine (HMd.out _ HD2.out).mono ?_; rintro e w3 ⟨xb, cp, cq, bp, bq, rp, rq, P, wv, l, a, wq, tq, rfl, hwd, hmem, hM, hlo, t3⟩; have z1 : w3.cell? ⟨qb, 1, none⟩ = some (.int .i64 y) := (by rw [t3.cell (block_lt q1) (by simp)]; exact q1); have z2 : w3.cell? ⟨qb, 2, none⟩ = some (.int .i64 z) := (by rw [t3.cell (block_lt q2) (by simp)]; exact q2); have HWd := hide hwd; have HMm := hide hmem; have HMk := hide hM; have HLo := hide hlo; have HT3 := hide (HD2.out.trans t3); clear hwd hmem hM hlo t3))
  clear q1 q2 z1 z2 HD2 HMd
  have HNw := hide (fun (w' : World) (tt : Turned [] w3 w') => lx_new w w3 w' xb cp cq bp bq rp rq 150 1 (k + 1) vv S P wv l a wq tq HWd.out HMm.out HMk.out HBl.out HLo.out.2.2.2 HT3.out ⟨H0.out, Nat.le_trans HT2.out.size HLo.out.2.1, Nat.le_trans HT2.out.size HLo.out.2.2.1⟩ (by omega) (by omega) (by omega) (by omega) tt)
  obtain ⟨lo, lc, rfl⟩ : ∃ lo lc, l = .slice lo P.R lc := own_opens HWd.out.dpl.lv.choose_spec
  obtain ⟨ho, hc, rfl⟩ : ∃ ho hc, a = .slice ho P.R hc := own_opens HWd.out.dpl.ah.choose_spec
  have hxx : w3.drew.heap[xb]? = some (.cells (wdC cp wv bp rp P (.slice lo P.R lc) (.slice ho P.R hc) (slc wq P.R) (slc tq P.R)) 41) := HWd.out.head
  have x0 : w3.drew.cell? ⟨xb, 0, none⟩ = some (.pointer (some ⟨cp, 0, none⟩)) := by rw [cell_of_heap hxx]; rfl
  have x2 : w3.drew.cell? ⟨xb, 2, none⟩ = some (.pointer (some ⟨bp, 0, none⟩)) := by rw [cell_of_heap hxx]; rfl
  have x4 : w3.drew.cell? ⟨xb, 4, none⟩ = some (.int .i64 (P.f : Int)) := by rw [cell_of_heap hxx]; rfl
  have x5 : w3.drew.cell? ⟨xb, 5, none⟩ = some (.int .i64 (P.t : Int)) := by rw [cell_of_heap hxx]; rfl
  have x6 : w3.drew.cell? ⟨xb, 6, none⟩ = some (.int .i64 (P.k : Int)) := by rw [cell_of_heap hxx]; rfl
  have x7 : w3.drew.cell? ⟨xb, 7, none⟩ = some (.int .i64 (P.d : Int)) := by rw [cell_of_heap hxx]; rfl
  have x8 : w3.drew.cell? ⟨xb, 8, none⟩ = some (.int .i64 (P.e : Int)) := by rw [cell_of_heap hxx]; rfl
  have x9 : w3.drew.cell? ⟨xb, 9, none⟩ = some (.slice lo P.R lc) := by rw [cell_of_heap hxx]; rfl
  have x10 : w3.drew.cell? ⟨xb, 10, none⟩ = some (.slice ho P.R hc) := by rw [cell_of_heap hxx]; rfl
  have x11 : w3.drew.cell? ⟨xb, 11, none⟩ = some (.slice (some ⟨wq, 0, none⟩) P.R P.R) := by rw [cell_of_heap hxx]; rfl
  have x12 : w3.drew.cell? ⟨xb, 12, none⟩ = some (.slice (some ⟨tq, 0, none⟩) P.R P.R) := by rw [cell_of_heap hxx]; rfl
  have HD3 := hide ((Turned.refl [] w3).drew)
  clear hxx
  go_wp2_with fail
  go_region_held3 (fun w' => w'.cell? ⟨xb, 0, none⟩ = some (.pointer (some ⟨cp, 0, none⟩)) ∧ w'.cell? ⟨xb, 2, none⟩ = some (.pointer (some ⟨bp, 0, none⟩)) ∧ w'.cell? ⟨xb, 4, none⟩ = some (.int .i64 (P.f : Int)) ∧ w'.cell? ⟨xb, 5, none⟩ = some (.int .i64 (P.t : Int)) ∧ w'.cell? ⟨xb, 6, none⟩ = some (.int .i64 (P.k : Int)) ∧ w'.cell? ⟨xb, 7, none⟩ = some (.int .i64 (P.d : Int)) ∧ w'.cell? ⟨xb, 8, none⟩ = some (.int .i64 (P.e : Int)) ∧ w'.cell? ⟨xb, 9, none⟩ = some (.slice lo P.R lc) ∧ w'.cell? ⟨xb, 10, none⟩ = some (.slice ho P.R hc) ∧ w'.cell? ⟨xb, 11, none⟩ = some (.slice (some ⟨wq, 0, none⟩) P.R P.R) ∧ w'.cell? ⟨xb, 12, none⟩ = some (.slice (some ⟨tq, 0, none⟩) P.R P.R)) (go_keep)
    (first
      | (go_at_call 12; refine (HNw.out _ HD3.out).mono ?_; rintro e w4 ⟨J, sb, v, m, rfl, hl, hj, hj0, hsz, ht4⟩; have y0 : w4.cell? ⟨xb, 0, none⟩ = some (.pointer (some ⟨cp, 0, none⟩)) := (by rw [ht4.cell (block_lt x0) (by simp)]; exact x0); have y2 : w4.cell? ⟨xb, 2, none⟩ = some (.pointer (some ⟨bp, 0, none⟩)) := (by rw [ht4.cell (block_lt x2) (by simp)]; exact x2); have y4 : w4.cell? ⟨xb, 4, none⟩ = some (.int .i64 (P.f : Int)) := (by rw [ht4.cell (block_lt x4) (by simp)]; exact x4); have y5 : w4.cell? ⟨xb, 5, none⟩ = some (.int .i64 (P.t : Int)) := (by rw [ht4.cell (block_lt x5) (by simp)]; exact x5); have y6 : w4.cell? ⟨xb, 6, none⟩ = some (.int .i64 (P.k : Int)) := (by rw [ht4.cell (block_lt x6) (by simp)]; exact x6); have y7 : w4.cell? ⟨xb, 7, none⟩ = some (.int .i64 (P.d : Int)) := (by rw [ht4.cell (block_lt x7) (by simp)]; exact x7); have y8 : w4.cell? ⟨xb, 8, none⟩ = some (.int .i64 (P.e : Int)) := (by rw [ht4.cell (block_lt x8) (by simp)]; exact x8); have y9 : w4.cell? ⟨xb, 9, none⟩ = some (.slice lo P.R lc) := (by rw [ht4.cell (block_lt x9) (by simp)]; exact x9); have y10 : w4.cell? ⟨xb, 10, none⟩ = some (.slice ho P.R hc) := (by rw [ht4.cell (block_lt x10) (by simp)]; exact x10); have y11 : w4.cell? ⟨xb, 11, none⟩ = some (.slice (some ⟨wq, 0, none⟩) P.R P.R) := (by rw [ht4.cell (block_lt x11) (by simp)]; exact x11); have y12 : w4.cell? ⟨xb, 12, none⟩ = some (.slice (some ⟨tq, 0, none⟩) P.R P.R) := (by rw [ht4.cell (block_lt x12) (by simp)]; exact x12); have HL := hide hl; have HJ := hide hj; have HJ0 := hide hj0; have HT4 := hide ((HT3.out.drew).trans ht4); clear hl hj hj0 hsz ht4))
  clear x0 x2 x4 x5 x6 x7 x8 x9 x10 x11 x12 y0 y2 y4 y5 y6 y7 y8 y9 y10 y11 y12 HNw HD3 HMm HMk HLo HWd HT3
  obtain ⟨-, hFt, hPt, -, hPR⟩ := lx_si HL.out HJ.out
  have HFt := hide hFt
  have hR6 : P.R ≤ 1000 := hPR
  have HF : Hid (sm (fullR P) P.R = goalN P + 2 * (P.e - P.d)) := hide (sm_full hFt)
  have hGl : goalN P ≤ P.R := cnt_le _ _
  have hE := hFt.et
  have hde : P.d ≤ P.e := by have := hFt.e_; omega
  have HB : Hid (goalN P + 2 * (P.e - P.d) ≤ 450) := hide (by
    have h1 := (lx_si HL.out HJ.out).2.2
    have h2 : P.R ≤ P.t := by
      unfold PN.R
      split
      · have := Nat.div_le_self (P.t - P.f - 1) P.k; omega
      · omega
    omega)
  have hR0 : Hid (RI P S zeroU (startS P S (words15 150) 0 1)) := hide (RI.start hFt _ _ _)
  have hS0 : Hid (sm zeroU P.R = 0) := hide (by
    have : ∀ m, sm zeroU m = 0 := by
      intro m; induction m with
      | zero => rfl
      | succ m ih => unfold sm; rw [ih, zeroU_at]
    exact this _)
  generalize startS P S (words15 150) 0 1 = s0 at *
  generalize zeroU = u0 at *
  clear hFt hE hde hPt hGl
  go_wp2_with fail
  go_loopg [9] 1000 (fun gg s9 wr => ∃ (j : Nat) (u : Nat → Nat) (s : SlS) (v m : Value), gg = 1000 - j ∧ j ≤ 450 ∧ s9 = .int .i64 (j : Int) ∧ Hid (Ls J wr u s v m) ∧ Hid (RI P S u s) ∧ Hid (sm u P.R = j))
  case atStart => exact ⟨0, u0, s0, v, m, rfl, by omega, rfl, HL, hR0, hS0⟩
  case round =>
    clear HL hR0 hS0
    obtain ⟨j, u, s, v, m, rfl, hj, rfl, HL, HR, HS⟩ := hrel
    obtain ⟨w4, hw4⟩ : ∃ w4, w4 = wr := ⟨_, rfl⟩
    subst hw4
    have hji : (j : Int) < 1000 := by omega
    have HDn := hide (lx_done HL.out HJ.out)
    by_cases hl : s.left = 0
    · rw [decide_eq_true hl] at HDn
      have HLf := hide hl
      clear hl
      have HJn : Hid (j = goalN P + 2 * (P.e - P.d)) := hide (by
        rw [← HS.out, ((lx_si HL.out HJ.out).1.end_ HFt.out HLf.out).2.2.2.2.1]; exact HF.out)
      have HMl : Hid (s.mv.length = P.e - P.d) := hide ((lx_si HL.out HJ.out).1.end_ HFt.out HLf.out).2.1
      clear HS
      go_wp2_with fail
      refine (HDn.out).mono ?_
      rintro e w5 ⟨rfl, hw5⟩
      rw [hw5]; clear hw5 w5
      clear HDn
      go_wp2_with fail
      have HOk := hide HFt.out
      go_loopg [10, 11, 12, 13] P.R (fun gg s10 s11 s12 s13 wr => ∃ (r : Nat), gg = P.R - r ∧ r ≤ P.R ∧ s11 = .int .i64 (r : Int) ∧ s10 = .int .i64 ((cnt (fun r => decide (gF P r < gT P r)) r : Nat) : Int) ∧ Hid (Ls J wr u s v m))
      case atStart => exact ⟨0, rfl, Nat.zero_le _, rfl, rfl, HL⟩
      case round =>
        clear HL
        obtain ⟨r, rfl, hr, rfl, rfl, HL⟩ := hrel
        obtain ⟨w6, hw6⟩ : ∃ w6, w6 = wr := ⟨_, rfl⟩
        subst hw6
        have hxx := (lx_wd HL.out HJ.out).head
        have x0 : w6.cell? ⟨xb, 0, none⟩ = some (.pointer (some ⟨cp, 0, none⟩)) := by rw [cell_of_heap hxx]; rfl
        have x2 : w6.cell? ⟨xb, 2, none⟩ = some (.pointer (some ⟨J.bp, 0, none⟩)) := by rw [cell_of_heap hxx]; rfl
        have x4 : w6.cell? ⟨xb, 4, none⟩ = some (.int .i64 (P.f : Int)) := by rw [cell_of_heap hxx]; rfl
        have x5 : w6.cell? ⟨xb, 5, none⟩ = some (.int .i64 (P.t : Int)) := by rw [cell_of_heap hxx]; rfl
        have x6 : w6.cell? ⟨xb, 6, none⟩ = some (.int .i64 (P.k : Int)) := by rw [cell_of_heap hxx]; rfl
        have x7 : w6.cell? ⟨xb, 7, none⟩ = some (.int .i64 (P.d : Int)) := by rw [cell_of_heap hxx]; rfl
        have x8 : w6.cell? ⟨xb, 8, none⟩ = some (.int .i64 (P.e : Int)) := by rw [cell_of_heap hxx]; rfl
        have x9 : w6.cell? ⟨xb, 9, none⟩ = some (.slice lo P.R lc) := by rw [cell_of_heap hxx]; rfl
        have x10 : w6.cell? ⟨xb, 10, none⟩ = some (.slice ho P.R hc) := by rw [cell_of_heap hxx]; rfl
        have x11 : w6.cell? ⟨xb, 11, none⟩ = some (.slice (some ⟨wq, 0, none⟩) P.R P.R) := by rw [cell_of_heap hxx]; rfl
        have x12 : w6.cell? ⟨xb, 12, none⟩ = some (.slice (some ⟨tq, 0, none⟩) P.R P.R) := by rw [cell_of_heap hxx]; rfl
        clear hxx
        by_cases hlt : r < P.R
        · have hri : (r : Int) < (P.R : Int) := by omega
          have HGo := hide (lx_goal HOk.out (.slice lo P.R lc) (.slice ho P.R hc) wq tq r hlt w6)
          have HCn : Hid ((cnt (fun r => decide (gF P r < gT P r)) (r + 1) : Nat) = cnt (fun r => decide (gF P r < gT P r)) r + (decide (gF P r < gT P r)).toNat) := hide rfl
          have hcr : cnt (fun r => decide (gF P r < gT P r)) r ≤ r := cnt_le _ _
          generalize cnt (fun r => decide (gF P r < gT P r)) r = c1 at *
          by_cases hg : gF P r < gT P r
          · have hgi : ((gF P r : Nat) : Int) < ((gT P r : Nat) : Int) := by omega
            rw [decide_eq_true hg] at HCn
            clear hg
            generalize gF P r = A at *
            generalize gT P r = B at *
            go_wp2_with fail
            refine (HGo.out).mono ?_
            rintro e w7 ⟨rfl, t7⟩
            have HL7 := hide (HL.out.quiet t7)
            clear t7 HGo HL x0 x2 x4 x5 x6 x7 x8 x9 x10 x11 x12
            go_wp2_with fail
            go_roundg (P.R - (r + 1))
            case measure => omega
            case rel => exact ⟨r + 1, rfl, hlt, by go_num, by rw [HCn.out]; simp, HL7⟩
          · have hgi : ¬ ((gF P r : Nat) : Int) < ((gT P r : Nat) : Int) := by omega
            rw [decide_eq_false hg] at HCn
            clear hg
            generalize gF P r = A at *
            generalize gT P r = B at *
            go_wp2_with fail
            refine (HGo.out).mono ?_
            rintro e w7 ⟨rfl, t7⟩
            have HL7 := hide (HL.out.quiet t7)
            clear t7 HGo HL x0 x2 x4 x5 x6 x7 x8 x9 x10 x11 x12
            go_wp2_with fail
            go_roundg (P.R - (r + 1))
            case measure => omega
            case rel => exact ⟨r + 1, rfl, hlt, by go_num, by rw [HCn.out]; simp, HL7⟩
        · have hrR : r = P.R := by omega
          subst hrR
          have hri : ¬ (P.R : Int) < (P.R : Int) := by omega
          have hgn : cnt (fun r => decide (gF P r < gT P r)) P.R = goalN P := rfl
          rw [hgn]
          have HMv := hide (lx_moves HL.out HJ.out)
          go_wp2_with fail
          refine (HMv.out).mono ?_
          rintro e w7 ⟨mo, mc, rfl, hrd, -, t7⟩
          have HL7 := hide (HL.out.quiet t7)
          have HRd := hide hrd
          clear t7 HMv HL hrd x0 x2 x4 x5 x6 x7 x8 x9 x10 x11 x12
          go_wp2_with fail
          have HR3 := hide HR.out.r2
          have hml6 : s.mv.length ≤ 1000 := by rw [HMl.out]; have := HB.out; omega
          have hd6 : P.d ≤ 65536 := by have := HFt.out.dt; have := HOk.out.ok.few; omega
          generalize hml : s.mv.length = L at *
          go_loopg [15] L (fun gg s15 wr => ∃ (i : Nat), gg = L - i ∧ i ≤ L ∧ s15 = .int .i64 (i : Int) ∧ Hid (Ls J wr u s v m) ∧ Hid (TwRd wr mo L (mvI s.mv)))
          case atStart => exact ⟨0, rfl, Nat.zero_le _, rfl, HL7, HRd⟩
          case round =>
            clear HL7 HRd
            obtain ⟨i, rfl, hi, rfl, HL, HRd⟩ := hrel
            obtain ⟨w8, hw8⟩ : ∃ w8, w8 = wr := ⟨_, rfl⟩
            subst hw8
            by_cases hlt : i < L
            · have hii : (i : Int) < (L : Int) := by omega
              have hxx := (lx_wd HL.out HJ.out).head
              have x7 : w8.cell? ⟨xb, 7, none⟩ = some (.int .i64 (P.d : Int)) := by rw [cell_of_heap hxx]; rfl
              clear hxx
              have hE : P.d + i < P.e := by have := HMl.out; omega
              have hs1 := HFt.out.srcs (x := P.d + i) (by omega) hE
              have hge := hs1.ge (by omega)
              obtain ⟨mb, moff, rfl, k0, k1⟩ := HRd.out.cell i (((srcN P S (P.d + i) : Nat) : Int), ((P.d + i : Nat) : Int)) (by unfold mvI; rw [List.getElem?_map, HR3.out i (by omega)]; rfl)
              simp only at k0 k1
              have hA6 : srcN P S (P.d + i) ≤ 65536 := by have := hs1.2.1; have := HOk.out.ok.few; omega
              have hwd1 : IntKind.i64.wrap ((P.d : Int) + (i : Int)) = (P.d : Int) + (i : Int) := by rw [IntKind.wrap_i64]; omega
              by_cases h0 : 0 < i
              · obtain ⟨i', hi'⟩ : ∃ i', i' = i - 1 := ⟨_, rfl⟩
                have hs0 := HFt.out.srcs (x := P.d + i') (by omega) (by omega)
                have hlt2 := hs0.lt hs1 (by omega) (by omega)
                obtain ⟨mb2, moff2, e2, j0, -⟩ := HRd.out.cell i' (((srcN P S (P.d + i') : Nat) : Int), ((P.d + i' : Nat) : Int)) (by unfold mvI; rw [List.getElem?_map, HR3.out i' (by omega)]; rfl)
                cases e2
                simp only at j0
                have hB6 : srcN P S (P.d + i') ≤ 65536 := by omega
                have hwi : IntKind.i64.wrap ((i : Int) - 1) = (i' : Int) := by rw [IntKind.wrap_i64]; omega
                have hgt : (0 : Int) < (i : Int) := by omega
                have hii' : (i' : Int) < (L : Int) := by omega
                have g1 : ¬ ((srcN P S (P.d + i) : Nat) : Int) ≤ ((srcN P S (P.d + i') : Nat) : Int) := by omega
                have g2 : ¬ ((srcN P S (P.d + i) : Nat) : Int) < (P.d : Int) + (i : Int) := by omega
                rw [show ((P.d + i : Nat) : Int) = (P.d : Int) + (i : Int) by omega] at k1
                clear hs0 hs1 hlt2 hE hge h0 hA6 hB6 hi'
                generalize srcN P S (P.d + i) = A at *
                generalize srcN P S (P.d + i') = B at *
                have e1 : decide ((0 : Int) < (i : Int)) = true := decide_eq_true hgt
                have n1 : decide (0 < i) = true := decide_eq_true (by omega)
                have n2 : decide (A ≤ B) = false := decide_eq_false (by omega)
                have n3 : decide (A < P.d + i) = false := decide_eq_false (by omega)
                have e2 : decide ((A : Int) ≤ (B : Int)) = false := decide_eq_false g1
                have e3 : decide ((A : Int) < (P.d : Int) + (i : Int)) = false := decide_eq_false g2
                have HG := hide (And.intro hgt (And.intro g1 g2))
                clear hgt g1 g2
                go_wp2_with fail
                go_quiet (fail)
                go_wp2_with fail
                have HL9 := hide (HL.out.quiet ((Turned.refl [] w8).drewN nq))
                have HRd9 := hide (HRd.out.turned ((Turned.refl [] w8).drewN nq))
                clear HL HRd k0 k1 j0 x7
                go_wp2_with fail
                go_roundg (L - (i + 1))
                case measure => omega
                case rel => exact ⟨i + 1, rfl, hlt, by go_num, HL9, HRd9⟩
              · have hgt : ¬ (0 : Int) < (i : Int) := by omega
                have g2 : ¬ ((srcN P S (P.d + i) : Nat) : Int) < (P.d : Int) + (i : Int) := by omega
                rw [show ((P.d + i : Nat) : Int) = (P.d : Int) + (i : Int) by omega] at k1
                clear hs1 hE hge h0 hA6
                generalize srcN P S (P.d + i) = A at *
                have e1 : decide ((0 : Int) < (i : Int)) = false := decide_eq_false hgt
                have n1 : decide (0 < i) = false := decide_eq_false (by omega)
                have n3 : decide (A < P.d + i) = false := decide_eq_false (by omega)
                have e3 : decide ((A : Int) < (P.d : Int) + (i : Int)) = false := decide_eq_false g2
                have HG := hide (And.intro hgt g2)
                clear hgt g2
                go_wp2_with fail
                go_quiet (fail)
                go_wp2_with fail
                have HL9 := hide (HL.out.quiet ((Turned.refl [] w8).drewN nq))
                have HRd9 := hide (HRd.out.turned ((Turned.refl [] w8).drewN nq))
                clear HL HRd k0 k1 x7
                go_wp2_with fail
                go_roundg (L - (i + 1))
                case measure => omega
                case rel => exact ⟨i + 1, rfl, hlt, by go_num, HL9, HRd9⟩
            · have hiL : i = L := by omega
              subst hiL
              have hii : ¬ (i : Int) < (i : Int) := by omega
              have HD8 := hide (lx_done HL.out HJ.out)
              rw [decide_eq_true HLf.out] at HD8
              have HT8 := hide HL.out.t_
              obtain ⟨X, hX⟩ : ∃ X : Int, X = 2 * (i : Int) := ⟨_, rfl⟩
              have hw1 : wrap64 (2 * (i : Int)) = X := by unfold wrap64; omega
              have hgR : goalN P ≤ 1000 := Nat.le_trans (cnt_le _ _) hR6
              have hw2 : wrap64 (X + ((goalN P : Nat) : Int)) = (j : Int) := by have := HJn.out; have := HMl.out; unfold wrap64; omega
              generalize goalN P = gn at *
              clear hX hgR hml6 hd6 hi hj hji hR6 hk1 hv1 hwr hml hii
              go_wp2_with fail
              refine (HD8.out).mono ?_
              rintro e w9 ⟨rfl, hw9⟩
              rw [hw9]; clear hw9 w9
              go_wp2_with fail
              go_ret
              exact ⟨rfl, by rw [← HJ0.out]; exact HT8.out⟩
    · rw [decide_eq_false hl] at HDn
      have HLf := hide hl
      clear hl
      go_wp2_with fail
      refine (HDn.out).mono ?_
      rintro e w5 ⟨rfl, hw5⟩
      rw [hw5]; clear hw5 w5
      have HSt := hide (lx_step1 HL.out HJ.out HR.out HLf.out)
      generalize stepSl P S s 0 = s' at *
      clear HDn HR HL HLf
      go_wp2_with fail
      refine (HSt.out).mono ?_
      rintro e w5 ⟨u5, v5, m5, rfl, h5, r5, e5⟩
      have HL5 := hide h5
      have HR5 := hide r5
      have HS5 : Hid (sm u5 P.R = j + 1) := hide (by rw [e5, HS.out])
      have hj5 : j + 1 ≤ 450 := by
        have h6 := (lx_si h5 HJ.out).1.sm_le
        rw [HS5.out, HF.out] at h6
        exact Nat.le_trans h6 HB.out
      clear h5 r5 e5 HSt HS
      go_wp2_with fail
      go_roundg (1000 - (j + 1))
      case measure => omega
      case rel => exact ⟨j + 1, u5, s', v5, m5, rfl, hj5, by go_num, HL5, HR5, HS5⟩

set_option maxRecDepth 100000 in
theorem slideRises_lifted (os : Os) (started : os.Started) (H : Type) (enc : TypeId × Value → H) :
    ReturnsInHanded {} Tryz.checked os 8 .any (fun w args => (Rows.slideRisesSpec.pre enc Tryz.prog Tryz.f8 [] false w args ∧ laidMetH Tryz.prog laidTab w) ∧ sizedMet enc Tryz.prog Tryz.f8 (OpenSpec.ofChange Rows.slideRisesSpec) false w args)
      (Rows.slideRisesSpec.post enc Tryz.prog Tryz.f8 false true false false) := by
  refine returnsInHanded_of_change_and (C := Tryz.checked) (X := fun w _ => laidMetH Tryz.prog laidTab w) (fun _ _ _ hh h => h.of_heap hh) own started (by kernel_rfl) Tryz.func8
    (ChangeSpec.witness_shaped (enc := enc) (C := Tryz.checked) (os := os) (X := fun w _ => laidMetH Tryz.prog laidTab w) false (World.doorLaid Tryz.prog 400 os) #[.slice none 0 0, .agg #[.int .i64 0, .int .i64 0, .int .i64 0, .slice none 0 0]] 8 rfl (World.shaped_of_RefB (by kernel_rfl) (by kernel_rfl)) (by kernel_rfl) (by kernel_rfl) (by kernel_rfl) (door_met os _)) ?_
  intro W base args ds gs before hval0 hW _ _ hL _
  have hTab := tab_of hL
  have hval : ∀ (j : Nat) t v, Tryz.f8.params[j]? = some t → args[j]? = some v → Value.okWide Tryz.prog W .any base t v := hval0
  have hW' := hW
  obtain ⟨p, q, hA0, hV, rfl, hfz, hnd⟩ := hW
  have hA : DataW.TrodAll enc Tryz.prog W 0 (fun _ => true) true Tryz.f8.params.toList args.toList ds p := hA0
  rw [Tryz.params8] at hA hval
  obtain ⟨v0, vs0, d0, ds0, p0, q0, hargs, rfl, rfl, h0, r0⟩ := trodAll_cons hA
  obtain ⟨v1, vs1, d1, ds1, p1, q1, rfl, rfl, rfl, h1, r1⟩ := trodAll_cons r0
  obtain ⟨rfl, rfl, rfl⟩ := trodAll_nil r1
  obtain rfl : args = #[v0, v1] := by cases args; simp_all
  obtain ⟨rfl, rfl⟩ := trodVars_none hV
  obtain ⟨a0, len0, cap0, rfl⟩ := okWide_slice Tryz.underlying22 (hval 0 22 v0 rfl rfl)
  have k0 := h0
  have lt0 : ∀ x ∈ p0, x.block < W.heap.size := by obtain ⟨m, hm⟩ := k0; exact DataW.trod_lt m _ _ _ hm
  obtain ⟨z0, w0⟩ := open_pairs h0
  have k1 := h1
  have lt1 : ∀ x ∈ p1, x.block < W.heap.size := by obtain ⟨m, hm⟩ := k1; exact DataW.trod_lt m _ _ _ hm
  obtain ⟨x1, y1, u1, po1, pl1, pc1, ps1, rfl, hx1, hy1, hu1, hp1⟩ := open_work15 (hval 1 25 v1 rfl rfl) h1
  simp only [List.append_nil] at hW'
  clear hA0 hval0
  refine (slideRises_walk a0 len0 cap0 z0 x1 y1 u1 po1 pl1 pc1 ps1 W w0 hx1 hy1 hu1 hp1 hTab).mono fun e W' ⟨he, ht⟩ => ?_
  subst he
  have bel : Below W.heap.size W W' := ht.below0
  exact ⟨_, rfl, _, _, _, [], _, [], hW', trodAll_mk1 (shut_bool Tryz.underlying4 _), (trodAll_cons_mk (Below.trod laidOut (by kernel_rfl) (of_decide_eq_true (by kernel_rfl)) k0 bel lt0) (trodAll_cons_mk (Below.trod laidOut (by kernel_rfl) (of_decide_eq_true (by kernel_rfl)) k1 bel lt1) trodAll_mk0)), rfl, bel.frame _, fun h => by cases h⟩

theorem slideRises_over : Rows.slideRisesRow.holds Tryz.pinned (OpenSpec.ofChange Rows.slideRisesSpec) :=
  OpenClaim.holds_of_wide 8 Tryz.f8 rfl rfl rfl rfl rfl rfl rfl ⟨rfl, rfl, rfl, rfl, rfl⟩ rfl rfl rfl rfl rfl (by kernel_rfl) Tryz.func8 (by kernel_rfl)
    (of_decide_eq_true (by kernel_rfl)) (by unfold Func.isWrapper; first | (rw [if_pos (by decide +kernel)]; kernel_rfl) | (rw [if_neg (by decide +kernel)]; exact ⟨rfl, rfl⟩))
    (fun os started H enc _ => slideRises_lifted os started H enc)

theorem slideRises_holds : Rows.SlideRisesSaid := slideRises_over

theorem slideRises_card : Rows.SlideRisesCardSaid :=
  Claim7.holds_tied_plain_at .later [] [.data] true _ true
    slideRises_holds (fun _ h => by cases h) (by kernel_rfl) (fun _ h => by cases h) slideRises_row_tie rfl ⟨rfl, rfl⟩ (by kernel_rfl) rfl
    (fun f fn hf hfn => by
      obtain rfl : f = 8 := Option.some.inj ((show Tryz.prog.funcNamed "ballast/ballastlaw15.SlideRises" = some 8 by kernel_rfl).symm.trans hf) |>.symm
      obtain rfl : fn = Tryz.f8 := (Option.some.inj (Tryz.func8.symm.trans hfn)).symm
      exact ⟨by kernel_rfl, fun j t ht => by
        rw [Tryz.params8] at ht
        have h3 : t ∈ [22, 25] := by
          have h4 := Array.mem_of_getElem? ht
          simpa using h4
        have h5 : ∀ u, u ∈ [22, 25] → Tryz.prog.wantsStandIn u = false := by
          intro u hu
          simp only [List.mem_cons, List.not_mem_nil, or_false] at hu
          rcases hu with rfl | rfl <;> kernel_rfl
        exact h5 t h3⟩)
    (by kernel_rfl)
end Go.Proofs.YtbmlggemheljkaaGreatDoor
