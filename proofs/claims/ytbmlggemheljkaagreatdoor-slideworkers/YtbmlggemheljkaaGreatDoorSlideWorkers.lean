/-
  SlideWorkers: how many workers there are, and how they step, changes nothing of where all words are in the end; the words that were moved are the same ones. For every list of blocks, any region and waste, any two gangs.
-/
import Derived.Test.YtbmlggemheljkaaGreatDoorPack21
import Derived.Test.YtbmlggemheljkaaGreatDoorPack19
import Derived.Test.YtbmlggemheljkaaGreatDoorPack11
import Derived.Test.YtbmlggemheljkaaGreatDoorCards
import Derived.Test.YtbmlggemheljkaaGreatDoorTie
import Derived.SevenTiedAt
namespace Go.Proofs.YtbmlggemheljkaaGreatDoor
open Go.ChangeShapes Go.WideShapes Go.ChangeAt Go.RowKit Bt
set_option linter.unusedVariables false
set_option linter.unusedSimpArgs false


theorem wrap_one15w {k : Nat} (h : k ≤ 100000) : IntKind.i64.wrap (1 + (k : Int)) = (k : Int) + 1 := by
  rw [IntKind.wrap_i64]; omega
set_option maxHeartbeats 8000000 in
set_option maxRecDepth 100000 in
theorem slideWorkers_walk (ao : Option Addr) (len cap : Nat) (cs : List (Int × Int)) (x1 y1 z1 : Int) (po1 : Option Addr) (pl1 pc1 : Nat) (ps1 : List Int) (x2 y2 z2 : Int) (po2 : Option Addr) (pl2 pc2 : Nat) (ps2 : List Int) (w : World) (h : TwRd w ao len cs) (hx : In64 x1) (hy : In64 y1) (hz : In64 z1) (hp : PkRd w po1 pl1 ps1) (hx2 : In64 x2) (hy2 : In64 y2) (hz2 : In64 z2) (hp2 : PkRd w po2 pl2 ps2) (hT : Tab w) :
    Calls Tryz.prog 7 #[.slice ao len cap, .agg #[.int .i64 x1, .int .i64 y1, .int .i64 z1, .slice po1 pl1 pc1], .agg #[.int .i64 x2, .int .i64 y2, .int .i64 z2, .slice po2 pl2 pc2]] w fun e w' => e = .returned (.bool true) ∧ Turned [] w w' := by
  have H0 := hide (block_lt (hT 0 (by omega)))
  obtain ⟨wB, hwB⟩ : ∃ wB, wB = (w.alloc (.cells #[.int .i64 x1, .int .i64 y1, .int .i64 z1, .slice po1 pl1 pc1] 25)).alloc (.cells #[.int .i64 x2, .int .i64 y2, .int .i64 z2, .slice po2 pl2 pc2] 25) := ⟨_, rfl⟩
  have hTB : Turned [] w wB := by rw [hwB]; exact ((Turned.refl [] w).alloc _).alloc _
  have hsz : wB.heap.size = w.heap.size + 2 := by rw [hwB]; simp
  have hg2 : wB.heap[w.heap.size + 1]? = some (.cells #[.int .i64 x2, .int .i64 y2, .int .i64 z2, .slice po2 pl2 pc2] 25) := by
    rw [hwB]
    have := heap_alloc_new (w.alloc (.cells #[.int .i64 x1, .int .i64 y1, .int .i64 z1, .slice po1 pl1 pc1] 25)) (.cells #[.int .i64 x2, .int .i64 y2, .int .i64 z2, .slice po2 pl2 pc2] 25)
    rw [show (w.alloc (.cells #[.int .i64 x1, .int .i64 y1, .int .i64 z1, .slice po1 pl1 pc1] 25)).heap.size = w.heap.size + 1 by simp] at this
    exact this
  have hg1 : wB.heap[w.heap.size]? = some (.cells #[.int .i64 x1, .int .i64 y1, .int .i64 z1, .slice po1 pl1 pc1] 25) := by
    rw [hwB, Below.heap_alloc _ _ _ (by simp)]
    exact heap_alloc_new _ _
  have HAw := hide (awake15 wB (hT.turned hTB (by simp)))
  have HTab := hide hT
  have HO := hide h
  have HTB := hide hTB
  have HPy := hide (fun w' : World => pick15 y1 40 w' hy (by omega))
  have HPz := hide (fun w' : World => pick15 z1 61 w' hz (by omega))
  have HPx := hide (fun w' : World => pick15 x1 6 w' hx (by omega))
  have HPx2 := hide (fun w' : World => pick15 x2 6 w' hx2 (by omega))
  rw [show ((6 : Nat) : Int) = 6 from rfl] at HPx HPx2
  rw [show ((40 : Nat) : Int) = 40 from rfl] at HPy
  rw [show ((61 : Nat) : Int) = 61 from rfl] at HPz
  have hk1 := pkF_lt y1 (show 0 < 40 by omega)
  have hv1 := pkF_lt z1 (show 0 < 61 by omega)
  have hx1l := pkF_lt x1 (show 0 < 6 by omega)
  have hx2l := pkF_lt x2 (show 0 < 6 by omega)
  generalize pkF x1 6 = kk at *
  generalize pkF x2 6 = kk2 at *
  generalize pkF y1 40 = k at *
  generalize pkF z1 61 = vv at *
  have hwr := wrap_one15w (k := k) (by omega)
  have HMd := hide (fun (w' : World) (t : Turned [] w w') => lmade15 ao len cap cs (k + 1) vv 150 w' (by omega) (by omega) (by omega) (by omega) (HO.out.turned t) (HTab.out.turned t (by simp)))
  rw [show ((150 : Nat) : Int) = 150 from rfl, show ((k + 1 : Nat) : Int) = (k : Int) + 1 from by omega] at HMd
  have HBl := hide (mkS_bl 150 cs (min len 60))
  generalize mkS 150 cs (min len 60) = S at *
  have HPk1 := hide hp
  have HPk2 := hide hp2
  have HG1 := hide hg1
  have HG2 := hide hg2
  have HSz := hide hsz
  clear h hT hp hx hy hz hTB hp2 hx2 hy2 hz2 hg1 hg2 hsz
  go_enter Tryz.func7, Tryz.ntmps7
  go_upto_region 1 with fail
  rw [← hwB]
  obtain ⟨qb, hqb⟩ : ∃ qb, qb = w.heap.size := ⟨_, rfl⟩
  obtain ⟨rb, hrb⟩ : ∃ rb, rb = qb + 1 := ⟨_, rfl⟩
  rw [← hqb] at HG1 HG2 ⊢
  rw [← hrb] at HG2 ⊢
  have HQb := hide hqb
  have HRb := hide hrb
  clear hqb hrb hwB
  go_wp2_with fail
  refine (HAw.out).mono ?_
  rintro e w2 ⟨rfl, t2⟩
  have HT2 := hide (HTB.out.trans t2)
  have HS2 : Hid (wB.heap.size ≤ w2.heap.size) := hide t2.size
  have HG1' : Hid (w2.heap[qb]? = some (.cells #[.int .i64 x1, .int .i64 y1, .int .i64 z1, .slice po1 pl1 pc1] 25)) := hide (by rw [t2.block qb (lt_of_heap HG1.out) (by simp)]; exact HG1.out)
  have HG2' : Hid (w2.heap[rb]? = some (.cells #[.int .i64 x2, .int .i64 y2, .int .i64 z2, .slice po2 pl2 pc2] 25)) := hide (by rw [t2.block rb (lt_of_heap HG2.out) (by simp)]; exact HG2.out)
  clear t2 HAw HTB HG1 HG2
  go_upto_region 4 with fail
  obtain ⟨ab, hab⟩ : ∃ ab, ab = w2.heap.size := ⟨_, rfl⟩
  obtain ⟨mb, hmb⟩ : ∃ mb, mb = ab + 1 := ⟨_, rfl⟩
  rw [← hab]
  try rw [← hmb]
  obtain ⟨w3, hw3⟩ : ∃ w3, w3 = (w2.alloc (.cells #[.slice none 0 0, .slice none 0 0] 63)).alloc (.cells #[.int .i64 0, .int .i64 0] 46) := ⟨_, rfl⟩
  try rw [← hw3]
  have t3 : Turned [] w2 w3 := by rw [hw3]; exact ((Turned.refl [] w2).alloc _).alloc _
  have HWA : Hid (WA S (k + 1) vv w w3 ab mb 0 (fun _ => .slice none 0 0) (fun _ => 0)) := hide (by
    have hsz := HT2.out.size
    have e1 : (w2.alloc (.cells #[.slice none 0 0, .slice none 0 0] 63)).heap.size = mb := by rw [hmb, hab]; simp
    have h1 : w3.heap[ab]? = some (.cells #[.slice none 0 0, .slice none 0 0] 63) := by
      rw [hw3, Below.heap_alloc _ _ _ (by rw [e1]; omega), hab]; exact heap_alloc_new _ _
    have h2 : w3.heap[mb]? = some (.cells #[.int .i64 0, .int .i64 0] 46) := by
      have := heap_alloc_new (w2.alloc (.cells #[.slice none 0 0, .slice none 0 0] 63)) (.cells #[.int .i64 0, .int .i64 0] 46)
      rw [e1] at this
      rw [hw3]; exact this
    refine ⟨⟨_, h1, rfl, fun i hi => ?_⟩, ⟨_, h2, fun i hi => ?_⟩, fun i hi => by omega, fun i hi => by omega, by omega⟩
    · rcases (show i = 0 ∨ i = 1 by omega) with rfl | rfl <;> rfl
    · rcases (show i = 0 ∨ i = 1 by omega) with rfl | rfl <;> rfl)
  have HT3 := hide (HT2.out.trans t3)
  have HB1 : Hid (w3.heap[qb]? = some (.cells #[.int .i64 x1, .int .i64 y1, .int .i64 z1, .slice po1 pl1 pc1] 25)) := hide (by rw [t3.block qb (lt_of_heap HG1'.out) (by simp)]; exact HG1'.out)
  have HB2 : Hid (w3.heap[rb]? = some (.cells #[.int .i64 x2, .int .i64 y2, .int .i64 z2, .slice po2 pl2 pc2] 25)) := hide (by rw [t3.block rb (lt_of_heap HG2'.out) (by simp)]; exact HG2'.out)
  have HNq : Hid (qb < ab ∧ rb < ab ∧ ab < mb) := hide (by have := HSz.out; have := HS2.out; have := HQb.out; have := HRb.out; omega)
  obtain ⟨n1, hn1⟩ : ∃ n1 : Nat, n1 = kk + 1 := ⟨_, rfl⟩
  obtain ⟨n2, hn2⟩ : ∃ n2 : Nat, n2 = kk2 + 1 := ⟨_, rfl⟩
  have HN1 : Hid (1 ≤ n1 ∧ n1 ≤ 6) := hide (by omega)
  have HN2 : Hid (1 ≤ n2 ∧ n2 ≤ 6) := hide (by omega)
  have HW1 : Hid (wrap64 (1 + (kk : Int)) = (n1 : Int)) := hide (by unfold wrap64; omega)
  have HW2 : Hid (wrap64 (1 + (kk2 : Int)) = (n2 : Int)) := hide (by unfold wrap64; omega)
  clear hn1 hn2 hx1l hx2l t3 hw3 hab hmb HG1' HG2' HT2 HS2 HSz HQb HRb
  go_wp2_with fail
  go_loopg [10, 11, 12, 13, 14, 15, 16, 17, 18] 2 (fun gg s10 s11 s12 s13 s14 s15 s16 s17 s18 wr => ∃ (kq : Nat) (V : Nat → Value) (Mm : Nat → Int), gg = 2 - kq ∧ kq ≤ 2 ∧ s10 = .int .i64 (kq : Int) ∧ Hid (Turned [] w wr) ∧ Hid (WA S (k + 1) vv w wr ab mb kq V Mm) ∧ Hid (wr.heap[qb]? = some (.cells #[.int .i64 x1, .int .i64 y1, .int .i64 z1, .slice po1 pl1 pc1] 25)) ∧ Hid (wr.heap[rb]? = some (.cells #[.int .i64 x2, .int .i64 y2, .int .i64 z2, .slice po2 pl2 pc2] 25)))
  case atStart => exact ⟨0, _, _, rfl, by omega, rfl, HT3, HWA, HB1, HB2⟩
  case round =>
    clear HT3 HWA HB1 HB2
    obtain ⟨kq, V, Mm, rfl, hkq, rfl, HT4, HWA, HB1, HB2⟩ := hrel
    obtain ⟨w4, hw4⟩ : ∃ w4, w4 = wr := ⟨_, rfl⟩
    subst hw4
    by_cases hlt : kq < 2
    · have hkqi : (kq : Int) < 2 := by omega
      have q1 : w4.drew.cell? ⟨qb, 1, none⟩ = some (.int .i64 y1) := by show w4.cell? _ = _; rw [cell_of_heap HB1.out]; rfl
      have q2 : w4.drew.cell? ⟨qb, 2, none⟩ = some (.int .i64 z1) := by show w4.cell? _ = _; rw [cell_of_heap HB1.out]; rfl
      have HPy' := HPy
      have HPz' := HPz
      have HD4 := hide (HT4.out.drew)
      have HU4 := hide ((Turned.refl [] w4).drew)
      go_wp2_with fail
      go_region_held3 (fun w' => w'.cell? ⟨qb, 1, none⟩ = some (.int .i64 y1) ∧ w'.cell? ⟨qb, 2, none⟩ = some (.int .i64 z1)) (go_keep)
        (first
          | (go_at_call 11; refine (HPy'.out _).mono ?_; rintro e wz ⟨rfl, hwz⟩; subst hwz; clear HPy')
          | (go_at_call 11; refine (HPz'.out _).mono ?_; rintro e wz ⟨rfl, hwz⟩; subst hwz; clear HPz')
          | (go_at_call 10; refine (HMd.out _ HD4.out).mono ?_; rintro e w5 ⟨xb, cp, cq, bp, bq, rp, rq, P, wv, l, a, wq, tq, rfl, hwd, hmem, hM, hlo, t5⟩; have z1' : w5.cell? ⟨qb, 1, none⟩ = some (.int .i64 y1) := (by rw [t5.cell (block_lt q1) (by simp)]; exact q1); have z2' : w5.cell? ⟨qb, 2, none⟩ = some (.int .i64 z1) := (by rw [t5.cell (block_lt q2) (by simp)]; exact q2); have HWd := hide hwd; have HMm := hide hmem; have HMk := hide hM; have HLo := hide hlo; have HU5 := hide (HU4.out.trans t5); clear hwd hmem hM hlo t5))
      clear q1 q2 z1' z2' HD4 HU4
      have hg1 : w5.heap[qb]? = some (.cells #[.int .i64 x1, .int .i64 y1, .int .i64 z1, .slice po1 pl1 pc1] 25) := by rw [HU5.out.block qb (lt_of_heap HB1.out) (by simp)]; exact HB1.out
      have hg2 : w5.heap[rb]? = some (.cells #[.int .i64 x2, .int .i64 y2, .int .i64 z2, .slice po2 pl2 pc2] 25) := by rw [HU5.out.block rb (lt_of_heap HB2.out) (by simp)]; exact HB2.out
      have q0 : w5.cell? ⟨qb, 0, none⟩ = some (.int .i64 x1) := by rw [cell_of_heap hg1]; rfl
      have q3 : w5.cell? ⟨qb, 3, none⟩ = some (.slice po1 pl1 pc1) := by rw [cell_of_heap hg1]; rfl
      have r0 : w5.cell? ⟨rb, 0, none⟩ = some (.int .i64 x2) := by rw [cell_of_heap hg2]; rfl
      have r3 : w5.cell? ⟨rb, 3, none⟩ = some (.slice po2 pl2 pc2) := by rw [cell_of_heap hg2]; rfl
      have HPa : Hid (PkRd w5 po1 pl1 ps1) := hide (HPk1.out.turned (HT4.out.trans HU5.out))
      have HPb : Hid (PkRd w5 po2 pl2 ps2) := hide (HPk2.out.turned (HT4.out.trans HU5.out))
      clear hg1 hg2
      have HE01 : Hid (kq = 0 ∨ kq = 1) := hide (by omega)
      have HLt := hide hlt
      go_wp2_with fail
      refine (HPx.out _).mono ?_
      rintro e wz ⟨rfl, hwz⟩
      rw [hwz]; clear hwz wz
      clear q0 q3
      go_upto_region 10 with fail
      obtain ⟨bq1, hbq1⟩ : ∃ b, b = decide ((kq : Int) = 1) := ⟨_, rfl⟩
      have HBq := hide hbq1
      clear hbq1
      go_cut [41] (fun s41 wc => s41 = .bool bq1 ∧ Aside (wc = w5))
      case first =>
        go_wp2_with fail
        go_meet
        case rel => exact ⟨by rw [HBq.out]; first | rfl | (congr 1; by_cases h9 : (kq : Int) = 1 <;> simp [h9]), rfl⟩
      case rest =>
      obtain ⟨rfl, hwc⟩ := hcut
      have hwc2 := hwc.out
      clear hwc
      subst hwc2
      go_upto_if 41 with fail
      go_cut [12, 13] (fun s12 s13 wc' => ∃ (po : Option Addr) (pl pc n : Nat) (ps : List Int), s12 = .slice po pl pc ∧ s13 = .int .i64 (n : Int) ∧ Aside (1 ≤ n ∧ n ≤ 6) ∧ Aside (PkRd w po pl ps) ∧ Aside (wc' = wc))
      case first =>
        by_cases hb : bq1 = true
        · subst hb
          clear HBq
          go_wp2_with fail
          refine (HPx2.out _).mono ?_
          rintro e wz ⟨rfl, hwz⟩
          rw [hwz]; clear hwz wz
          go_wp2_with fail
          go_meet
          case rel => exact ⟨po2, pl2, pc2, n2, ps2, rfl, by rw [HW2.out], HN2.out, HPk2.out, rfl⟩
        · rw [Bool.not_eq_true] at hb
          subst hb
          clear HBq
          go_wp2_with fail
          go_meet
          case rel => exact ⟨po1, pl1, pc1, n1, ps1, rfl, by rw [HW1.out], HN1.out, HPk1.out, rfl⟩
      case rest =>
      clear r0 r3 HPa HPb HBq
      obtain ⟨w5, hw5⟩ : ∃ w5, w5 = wc := ⟨_, rfl⟩
      subst hw5
      obtain ⟨wc, hwcc⟩ : ∃ x, x = w5 := ⟨_, rfl⟩
      subst hwcc
      obtain ⟨po, pl, pc, n, ps, rfl, rfl, hnn, hpk, hwc⟩ := hcut
      have hwc2 := hwc.out
      have HNn := hide hnn.out
      have HPk := hide hpk.out
      clear hnn hpk hwc
      subst hwc2
      have HNw := hide (fun (w' : World) (tt : Turned [] wc w') => lx_new2 w4 wc w' xb cp cq bp bq rp rq 150 n (k + 1) vv S P wv l a wq tq HWd.out HMm.out HMk.out HBl.out HLo.out.2.2.2 HU5.out ⟨Nat.lt_of_lt_of_le H0.out HT4.out.size, HLo.out.2.1, HLo.out.2.2.1⟩ (by omega) (by omega) (by omega) ⟨by have := HNn.out; omega, by have := HNn.out; omega⟩ tt)
      obtain ⟨lo, lc, rfl⟩ : ∃ lo lc, l = .slice lo P.R lc := own_opens HWd.out.dpl.lv.choose_spec
      obtain ⟨ho, hc, rfl⟩ : ∃ ho hc, a = .slice ho P.R hc := own_opens HWd.out.dpl.ah.choose_spec
      have hxx : wc.drew.heap[xb]? = some (.cells (wdC cp wv bp rp P (.slice lo P.R lc) (.slice ho P.R hc) (slc wq P.R) (slc tq P.R)) 41) := HWd.out.head
      have x0 : wc.drew.cell? ⟨xb, 0, none⟩ = some (.pointer (some ⟨cp, 0, none⟩)) := by rw [cell_of_heap hxx]; rfl
      have x2 : wc.drew.cell? ⟨xb, 2, none⟩ = some (.pointer (some ⟨bp, 0, none⟩)) := by rw [cell_of_heap hxx]; rfl
      have x4 : wc.drew.cell? ⟨xb, 4, none⟩ = some (.int .i64 (P.f : Int)) := by rw [cell_of_heap hxx]; rfl
      have x5 : wc.drew.cell? ⟨xb, 5, none⟩ = some (.int .i64 (P.t : Int)) := by rw [cell_of_heap hxx]; rfl
      have x6 : wc.drew.cell? ⟨xb, 6, none⟩ = some (.int .i64 (P.k : Int)) := by rw [cell_of_heap hxx]; rfl
      have x7 : wc.drew.cell? ⟨xb, 7, none⟩ = some (.int .i64 (P.d : Int)) := by rw [cell_of_heap hxx]; rfl
      have x8 : wc.drew.cell? ⟨xb, 8, none⟩ = some (.int .i64 (P.e : Int)) := by rw [cell_of_heap hxx]; rfl
      have x9 : wc.drew.cell? ⟨xb, 9, none⟩ = some (.slice lo P.R lc) := by rw [cell_of_heap hxx]; rfl
      have x10 : wc.drew.cell? ⟨xb, 10, none⟩ = some (.slice ho P.R hc) := by rw [cell_of_heap hxx]; rfl
      have x11 : wc.drew.cell? ⟨xb, 11, none⟩ = some (.slice (some ⟨wq, 0, none⟩) P.R P.R) := by rw [cell_of_heap hxx]; rfl
      have x12 : wc.drew.cell? ⟨xb, 12, none⟩ = some (.slice (some ⟨tq, 0, none⟩) P.R P.R) := by rw [cell_of_heap hxx]; rfl
      have HD5 := hide ((Turned.refl [] wc).drew)
      clear hxx
      go_wp2_with fail
      go_region_held3 (fun w' => w'.cell? ⟨xb, 0, none⟩ = some (.pointer (some ⟨cp, 0, none⟩)) ∧ w'.cell? ⟨xb, 2, none⟩ = some (.pointer (some ⟨bp, 0, none⟩)) ∧ w'.cell? ⟨xb, 4, none⟩ = some (.int .i64 (P.f : Int)) ∧ w'.cell? ⟨xb, 5, none⟩ = some (.int .i64 (P.t : Int)) ∧ w'.cell? ⟨xb, 6, none⟩ = some (.int .i64 (P.k : Int)) ∧ w'.cell? ⟨xb, 7, none⟩ = some (.int .i64 (P.d : Int)) ∧ w'.cell? ⟨xb, 8, none⟩ = some (.int .i64 (P.e : Int)) ∧ w'.cell? ⟨xb, 9, none⟩ = some (.slice lo P.R lc) ∧ w'.cell? ⟨xb, 10, none⟩ = some (.slice ho P.R hc) ∧ w'.cell? ⟨xb, 11, none⟩ = some (.slice (some ⟨wq, 0, none⟩) P.R P.R) ∧ w'.cell? ⟨xb, 12, none⟩ = some (.slice (some ⟨tq, 0, none⟩) P.R P.R)) (go_keep)
        (first
          | (go_at_call 12; refine (HNw.out _ HD5.out).mono ?_; rintro e w6 ⟨J, sb, v, m, rfl, hl, hj, hj0, -, hsz, ht6⟩; have y0 : w6.cell? ⟨xb, 0, none⟩ = some (.pointer (some ⟨cp, 0, none⟩)) := (by rw [ht6.cell (block_lt x0) (by simp)]; exact x0); have y2 : w6.cell? ⟨xb, 2, none⟩ = some (.pointer (some ⟨bp, 0, none⟩)) := (by rw [ht6.cell (block_lt x2) (by simp)]; exact x2); have y4 : w6.cell? ⟨xb, 4, none⟩ = some (.int .i64 (P.f : Int)) := (by rw [ht6.cell (block_lt x4) (by simp)]; exact x4); have y5 : w6.cell? ⟨xb, 5, none⟩ = some (.int .i64 (P.t : Int)) := (by rw [ht6.cell (block_lt x5) (by simp)]; exact x5); have y6 : w6.cell? ⟨xb, 6, none⟩ = some (.int .i64 (P.k : Int)) := (by rw [ht6.cell (block_lt x6) (by simp)]; exact x6); have y7 : w6.cell? ⟨xb, 7, none⟩ = some (.int .i64 (P.d : Int)) := (by rw [ht6.cell (block_lt x7) (by simp)]; exact x7); have y8 : w6.cell? ⟨xb, 8, none⟩ = some (.int .i64 (P.e : Int)) := (by rw [ht6.cell (block_lt x8) (by simp)]; exact x8); have y9 : w6.cell? ⟨xb, 9, none⟩ = some (.slice lo P.R lc) := (by rw [ht6.cell (block_lt x9) (by simp)]; exact x9); have y10 : w6.cell? ⟨xb, 10, none⟩ = some (.slice ho P.R hc) := (by rw [ht6.cell (block_lt x10) (by simp)]; exact x10); have y11 : w6.cell? ⟨xb, 11, none⟩ = some (.slice (some ⟨wq, 0, none⟩) P.R P.R) := (by rw [ht6.cell (block_lt x11) (by simp)]; exact x11); have y12 : w6.cell? ⟨xb, 12, none⟩ = some (.slice (some ⟨tq, 0, none⟩) P.R P.R) := (by rw [ht6.cell (block_lt x12) (by simp)]; exact x12); have HL := hide hl; have HJ := hide hj; have HJ0 := hide hj0; clear hl hj hj0 hsz ht6))
      clear x0 x2 x4 x5 x6 x7 x8 x9 x10 x11 x12 y0 y2 y4 y5 y6 y7 y8 y9 y10 y11 y12 HNw HD5 HMm HLo HWd HU5
      obtain ⟨-, hFt, hPt, -, hPR⟩ := lx_si HL.out HJ.out
      have HFt := hide hFt
      have HPt := hide hPt
      clear hFt hPt hPR
      generalize startS P S (words15 150) 0 n = s0 at *
      generalize zeroU = u0 at *
      go_upto_block 2 with fail
      go_cut [16] (fun s16 wc => ∃ (u : Nat → Nat) (s : SlS) (v m : Value), Aside (Ls J wc u s v m))
      case first =>
        go_wp2_with fail
        go_loopg [16] 300 (fun gg s16 wr => ∃ (i : Nat) (u : Nat → Nat) (s : SlS) (v m : Value), gg = 300 - i ∧ i ≤ 300 ∧ s16 = .int .i64 (i : Int) ∧ Hid (Ls J wr u s v m))
        case atStart => exact ⟨0, u0, s0, v, m, rfl, by omega, rfl, HL⟩
        case round =>
          clear HL
          obtain ⟨i, u, s, v, m, rfl, hi, rfl, HL⟩ := hrel
          obtain ⟨w7, hw7⟩ : ∃ w7, w7 = wr := ⟨_, rfl⟩
          subst hw7
          by_cases h1 : i < pl
          · have h1i : (i : Int) < (pl : Int) := by omega
            by_cases h2 : i < 300
            · have h2i : (i : Int) < 300 := by omega
              have HPk7 : Hid (PkRd w7 po pl ps) := hide (HPk.out.turned (by have := HL.out.t_; rw [HJ0.out] at this; exact HT4.out.trans this))
              obtain ⟨c, hc'⟩ : ∃ c, ps[i]? = some c := ⟨_, List.getElem?_eq_getElem (by rw [HPk7.out.size]; exact h1)⟩
              obtain ⟨b, off, rfl, cpk⟩ := HPk7.out.cell i c hc'
              have HPc := hide (fun w' : World => pick15 c n w' (HPk7.out.inn c (List.mem_of_getElem? hc')) ⟨by have := HNn.out; omega, by have := HNn.out; omega⟩)
              have HPl : Hid (pkF c n < n) := hide (pkF_lt c (by have := HNn.out; omega))
              generalize pkF c n = kp at *
              have HSt := hide (lx_step HL.out HJ.out kp HPl.out)
              generalize stepSl P S s kp = s' at *
              clear hc'
              go_wp2_with fail
              refine (HPc.out _).mono ?_
              rintro e wz ⟨rfl, hwz⟩
              rw [hwz]; clear hwz wz
              go_wp2_with fail
              refine (HSt.out).mono ?_
              rintro e w8 ⟨u', v', m', rfl, h8, -⟩
              have HL8 := hide h8
              clear h8 HSt HL
              go_wp2_with fail
              go_roundg (300 - (i + 1))
              case measure => omega
              case rel => exact ⟨i + 1, u', s', v', m', rfl, h2, by go_num, HL8⟩
            · have h2i : ¬ (i : Int) < 300 := by omega
              go_wp2_with fail
              go_meet
              case rel => exact ⟨u, s, v, m, HL.out⟩
          · have h1i : ¬ (i : Int) < (pl : Int) := by omega
            go_wp2_with fail
            go_meet
            case rel => exact ⟨u, s, v, m, HL.out⟩
      case rest =>
      clear HL
      obtain ⟨u, s, v, m, hl⟩ := hcut
      have HL := hide hl.out
      clear hl
      have HTl : Hid (Tl P n u s 0 2706) := hide (Tl.start (lx_si HL.out HJ.out).1 HFt.out (by have := HNn.out; omega) (by
        have h1 := rem_le (lx_si HL.out HJ.out).1 HFt.out (by rw [HPt.out]; exact Nat.le_refl _)
        have h2 := rem_mul h1 HNn.out.2
        omega))
      go_wp2_with fail
      go_loopg [17] 8000 (fun gg s17 wr => ∃ (i : Nat) (u : Nat → Nat) (s : SlS) (v m : Value), gg = 8000 - i ∧ i ≤ 2707 ∧ s17 = .int .i64 (i : Int) ∧ Hid (Ls J wr u s v m) ∧ Hid (Tl P n u s i 2706))
      case atStart => exact ⟨0, u, s, v, m, rfl, by omega, rfl, HL, HTl⟩
      case round =>
        clear HL HTl
        obtain ⟨i, u, s, v, m, rfl, hi, rfl, HL, HTl⟩ := hrel
        obtain ⟨w7, hw7⟩ : ∃ w7, w7 = wr := ⟨_, rfl⟩
        subst hw7
        have hii : (i : Int) < 8000 := by omega
        have HDn := hide (lx_done HL.out HJ.out)
        by_cases hl : s.left = 0
        · rw [decide_eq_true hl] at HDn
          have HLf := hide hl
          clear hl HTl
          go_wp2_with fail
          refine (HDn.out).mono ?_
          rintro e w8 ⟨rfl, hw8⟩
          rw [hw8]; clear hw8 w8
          go_wp2_with fail
          refine (HDn.out).mono ?_
          rintro e w8 ⟨rfl, hw8⟩
          rw [hw8]; clear hw8 w8 HDn
          have hsi := lx_si HL.out HJ.out
          have hend := hsi.1.end_ HFt.out HLf.out
          have hE : P.e ≤ 150 := by have := HFt.out.et; have := HPt.out; omega
          have hde : P.d ≤ P.e := by have := HFt.out.e_; omega
          have HEw : Hid (∀ i, i < 150 → s.hw[i]? = some (finF P S P.e i)) := hide (fun i hi => end_words hsi.1 HFt.out HPt.out HLf.out hi)
          have HLd : Hid ((s.mv.length : Int) = (P.e : Int) - (P.d : Int)) := hide (by have := hend.2.1; omega)
          have HT7 : Hid (Turned [] w4 w7) := hide (by have := HL.out.t_; rwa [HJ0.out] at this)
          have HWo := hide (lx_words HL.out HJ.out (by omega))
          rw [show ((150 : Nat) : Int) = 150 from rfl] at HWo
          have hh := (lx_wd HL.out HJ.out).head
          have c0 : w7.cell? ⟨xb, 0, none⟩ = some (.pointer (some ⟨cp, 0, none⟩)) := by rw [cell_of_heap hh]; rfl
          clear hsi hend hh
          go_wp2_with fail
          refine (HWo.out).mono ?_
          rintro e w8 ⟨g, gc, rfl, hgc, hg, hgn, t8⟩
          have HL8 := hide (HL.out.quiet t8)
          have HT8 := hide (HT7.out.trans t8)
          have HA8 := hide (HWA.out.turned (HT7.out.trans t8))
          have hcut15 := cut15 g 150 gc P.e (by omega)
          have HGot : Hid (Got S (k + 1) vv w8 (.slice (some ⟨g, 0, none⟩) P.e gc) (s.mv.length : Int)) := hide ⟨P, g, gc, HMk.out, hE, rfl, fun i hi => hg i _ (HEw.out i (by omega)), HLd.out⟩
          obtain ⟨ca, ha1, ha2, ha3⟩ := HA8.out.hw
          have HNe : Hid (∀ g' n' c', (Value.slice (some ⟨g, 0, none⟩) P.e gc) = .slice (some ⟨g', 0, none⟩) n' c' → g' ≠ ab ∧ g' ≠ mb) := hide (fun g' n' c' e => by
            simp only [Value.slice.injEq, Option.some.injEq, Addr.mk.injEq] at e
            obtain ⟨⟨rfl, -⟩, -⟩ := e
            have h1 := HT7.out.size
            obtain ⟨c9, h9, -⟩ := HWA.out.hw
            have h2 := lt_of_heap h9
            have h3 := HWA.out.hm.lt
            omega)
          have hh := (lx_wd HL8.out HJ.out).head
          have c8 : w8.cell? ⟨xb, 8, none⟩ = some (.int .i64 (P.e : Int)) := by rw [cell_of_heap hh]; rfl
          have ca1 : w8.cell? ⟨ab, kq, none⟩ = some (V kq) := by rw [cell_of_heap ha1]; exact ha3 kq HLt.out
          have fa1 : w8.frozen? ⟨ab, kq, none⟩ = false := by simp [World.frozen?, ha1]
          have la1 := lt_of_heap ha1
          have HA1 := hide ha1
          have hkq2 : kq < 2 := HLt.out
          clear hg hgn t8 hh HWo HWA HL HT7 hde ha1 ha2 ha3 c0
          go_upto_region 30 with fail
          have HTa : Hid (Turned [ab] w8 (w8.setCell ⟨ab, kq, none⟩ (.slice (some ⟨g, 0, none⟩) P.e gc))) := hide ((Turned.refl [ab] w8).setCell (p := ⟨ab, kq, none⟩) (.inl (by simp)) _)
          have HMv := hide (lx_moves_at HL8.out HJ.out HA1.out (by decide) (by decide) HTa.out)
          obtain ⟨w9, hw9⟩ : ∃ w9, w9 = w8.setCell ⟨ab, kq, none⟩ (.slice (some ⟨g, 0, none⟩) P.e gc) := ⟨_, rfl⟩
          have HW9 := hide hw9
          rw [← hw9] at HTa HMv ⊢
          clear hw9 ca1 fa1 la1 c8 hcut15
          go_wp2_with fail
          refine (HMv.out).mono ?_
          rintro e w10 ⟨mo, mc, rfl, t10⟩
          have HA10 := hide (HA8.out.next2 hkq2 HGot.out HNe.out (by rw [← HW9.out]; exact t10))
          have hm10 : Ri w10 46 mb 2 Mm := (HA8.out.hm.turned HTa.out (by simp; exact fun e => HA8.out.lo.2.2 e.symm)).turned0 t10
          have cm1 := hm10.cell hkq2
          have fm1 := hm10.fz kq
          have lm1 := hm10.lt
          have HT10 : Hid (Turned [] w w10) := hide (((HT4.out.trans HT8.out).trans_new HTa.out (by simp; exact HA8.out.lo.1)).trans t10)
          have hq : ∀ {x : Nat} {c : Array Value} {e : TypeId}, w4.heap[x]? = some (.cells c e) → x ≠ ab → w10.heap[x]? = some (.cells c e) := fun {x c e} hx hne => by
            have h1 : w8.heap[x]? = some (.cells c e) := by rw [HT8.out.block x (lt_of_heap hx) (by simp)]; exact hx
            have h2 : w9.heap[x]? = some (.cells c e) := by rw [HTa.out.block x (lt_of_heap h1) (by simpa using hne)]; exact h1
            rw [t10.block x (lt_of_heap h2) (by simp)]; exact h2
          have HB1' : Hid (w10.heap[qb]? = some (.cells #[.int .i64 x1, .int .i64 y1, .int .i64 z1, .slice po1 pl1 pc1] 25)) := hide (hq HB1.out (by have := HNq.out; omega))
          have HB2' : Hid (w10.heap[rb]? = some (.cells #[.int .i64 x2, .int .i64 y2, .int .i64 z2, .slice po2 pl2 pc2] 25)) := hide (hq HB2.out (by have := HNq.out; omega))
          clear t10 hm10 HMv hq
          go_wp2_with fail
          have tm : Turned [mb] w10 (w10.setCell ⟨mb, kq, none⟩ (.int .i64 (s.mv.length : Int))) := (Turned.refl [mb] w10).setCell (p := ⟨mb, kq, none⟩) (.inl (by simp)) _
          have HTf := hide (HT10.out.trans_new tm (by simp; exact HA8.out.lo.2.1))
          have HB1f : Hid ((w10.setCell ⟨mb, kq, none⟩ (.int .i64 (s.mv.length : Int))).heap[qb]? = some (.cells #[.int .i64 x1, .int .i64 y1, .int .i64 z1, .slice po1 pl1 pc1] 25)) := hide (by rw [tm.block qb (lt_of_heap HB1'.out) (by have := HNq.out; simp; omega)]; exact HB1'.out)
          have HB2f : Hid ((w10.setCell ⟨mb, kq, none⟩ (.int .i64 (s.mv.length : Int))).heap[rb]? = some (.cells #[.int .i64 x2, .int .i64 y2, .int .i64 z2, .slice po2 pl2 pc2] 25)) := hide (by rw [tm.block rb (lt_of_heap HB2'.out) (by have := HNq.out; simp; omega)]; exact HB2'.out)
          clear tm
          go_roundg (2 - (kq + 1))
          case measure => omega
          case rel => exact ⟨kq + 1, _, _, rfl, hkq2, by go_num, HTf, HA10, HB1f, HB2f⟩
        · rw [decide_eq_false hl] at HDn
          have HLf := hide hl
          have hi2 : i ≤ 2706 := by
            rcases HTl.out with h | ⟨d, _, _, h⟩
            · exact absurd h hl
            · omega
          clear hl
          have hm0 : ¬ (n : Int) = 0 := by have := HNn.out; omega
          have hm1 : ¬ (n : Int) = -1 := by have := HNn.out; omega
          have hmod : (i : Int).tmod (n : Int) = ((i % n : Nat) : Int) := by rw [Int.tmod_eq_emod_of_nonneg (by omega)]; rfl
          have HMl : Hid (i % n < n) := hide (Nat.mod_lt _ (by have := HNn.out; omega))
          obtain ⟨kt, hkt⟩ : ∃ kt, kt = i % n := ⟨_, rfl⟩
          rw [← hkt] at hmod HMl
          have HKt := hide hkt
          have HSt := hide (lx_step HL.out HJ.out kt HMl.out)
          obtain ⟨s', hs'⟩ : ∃ s', s' = stepSl P S s kt := ⟨_, rfl⟩
          rw [← hs'] at HSt
          clear hkt hs'
          go_wp2_with fail
          refine (HDn.out).mono ?_
          rintro e w8 ⟨rfl, hw8⟩
          rw [hw8]; clear hw8 w8 HDn
          go_wp2_with fail
          refine (HSt.out).mono ?_
          rintro e w8 ⟨u', v', m', rfl, h8, d8, r8, a8, b8, o8⟩
          have HL8 := hide h8
          have HTl8 : Hid (Tl P n u' s' (i + 1) 2706) := hide (Tl.step (lx_si HL.out HJ.out).1 HFt.out (by have := HNn.out; omega) HTl.out HLf.out (lx_si h8 HJ.out).1 (by rw [← HKt.out]; exact fun ha => a8 HLf.out ha) (by rw [← HKt.out]; exact fun hna => b8 (fun hh => hna hh.2)))
          clear h8 d8 r8 a8 b8 o8 HSt HL HTl hmod
          go_wp2_with fail
          go_roundg (8000 - (i + 1))
          case measure => omega
          case rel => exact ⟨i + 1, u', s', v', m', rfl, by omega, by go_num, HL8, HTl8⟩
    · have hk2 : kq = 2 := by omega
      subst hk2
      have hlti : ¬ ((2 : Nat) : Int) < 2 := by omega
      obtain ⟨P, g0, gc0, hM0, hE0, hV0, hg0, hm0⟩ := HWA.out.got 0 (by omega)
      obtain ⟨P', g1, gc1, hM1, hE1, hV1, hg1, hm1⟩ := HWA.out.got 1 (by omega)
      have hPP : P' = P := makes_uniq HBl.out hM1 hM0 (by omega) (by omega) (by omega) (by omega) (noCutN HBl.out)
      subst hPP
      obtain ⟨ca, ha1, ha2, ha3⟩ := HWA.out.hw
      have c0 : w4.cell? ⟨ab, 0, none⟩ = some (.slice (some ⟨g0, 0, none⟩) P'.e gc0) := by rw [cell_of_heap ha1, ha3 0 (by omega), hV0]
      have c1 : w4.cell? ⟨ab, 1, none⟩ = some (.slice (some ⟨g1, 0, none⟩) P'.e gc1) := by rw [cell_of_heap ha1, ha3 1 (by omega), hV1]
      have m0 : w4.cell? ⟨mb, 0, none⟩ = some (.int .i64 (Mm 0)) := HWA.out.hm.cell (by omega)
      have m1 : w4.cell? ⟨mb, 1, none⟩ = some (.int .i64 (Mm 0)) := by rw [hm0, ← hm1]; exact HWA.out.hm.cell (by omega)
      have HC := hide (And.intro c0 (And.intro c1 (And.intro hg0 hg1)))
      generalize Mm 0 = mz at *
      clear hM0 hM1 hV0 hV1 hm0 hm1 ha1 ha2 ha3 HWA HB1 HB2 hE1 hg0 hg1 hlt
      go_wp2_with fail
      clear m0 m1 c0 c1
      go_loopg [19] P'.e (fun gg s19 wr => ∃ (i : Nat), gg = P'.e - i ∧ i ≤ P'.e ∧ s19 = .int .i64 (i : Int) ∧ Hid (Turned [] w wr) ∧ Hid (wr.cell? ⟨ab, 0, none⟩ = some (.slice (some ⟨g0, 0, none⟩) P'.e gc0) ∧ wr.cell? ⟨ab, 1, none⟩ = some (.slice (some ⟨g1, 0, none⟩) P'.e gc1) ∧ (∀ i, i < P'.e → wr.cell? ⟨g0, i, none⟩ = some (.int .i64 (finF P' S P'.e i))) ∧ (∀ i, i < P'.e → wr.cell? ⟨g1, i, none⟩ = some (.int .i64 (finF P' S P'.e i)))))
      case atStart => exact ⟨0, rfl, Nat.zero_le _, rfl, HT4, HC⟩
      case round =>
        clear HC HT4
        obtain ⟨i, rfl, hi, rfl, HT, HC⟩ := hrel
        obtain ⟨w5, hw5⟩ : ∃ w5, w5 = wr := ⟨_, rfl⟩
        subst hw5
        obtain ⟨c0, c1, hg0, hg1⟩ := HC.out
        by_cases hlt : i < P'.e
        · have hii : (i : Int) < (P'.e : Int) := by omega
          have k0 := hg0 i hlt
          have k1 := hg1 i hlt
          have HCq : Hid (∀ nq, (w5.drewN nq).cell? ⟨ab, 0, none⟩ = some (.slice (some ⟨g0, 0, none⟩) P'.e gc0) ∧ (w5.drewN nq).cell? ⟨ab, 1, none⟩ = some (.slice (some ⟨g1, 0, none⟩) P'.e gc1) ∧ (∀ i, i < P'.e → (w5.drewN nq).cell? ⟨g0, i, none⟩ = some (.int .i64 (finF P' S P'.e i))) ∧ (∀ i, i < P'.e → (w5.drewN nq).cell? ⟨g1, i, none⟩ = some (.int .i64 (finF P' S P'.e i)))) := hide (fun nq => HC.out)
          generalize finF P' S P'.e i = X at *
          clear hg0 hg1 HC
          go_wp2_with fail
          go_quiet (fail)
          go_wp2_with fail
          have HTq := hide (HT.out.drewN nq)
          have HCn := hide (HCq.out nq)
          clear c0 c1 k0 k1
          go_roundg (P'.e - (i + 1))
          case measure => omega
          case rel => exact ⟨i + 1, rfl, hlt, by go_num, HTq, HCn⟩
        · have hii : ¬ (i : Int) < (P'.e : Int) := by omega
          clear hg0 hg1 hlt
          go_wp2_with fail
          go_ret
          exact ⟨rfl, HT.out⟩

set_option maxRecDepth 100000 in
theorem slideWorkers_lifted (os : Os) (started : os.Started) (H : Type) (enc : TypeId × Value → H) :
    ReturnsInHanded {} Tryz.checked os 7 .any (fun w args => (Rows.slideWorkersSpec.pre enc Tryz.prog Tryz.f7 [] false w args ∧ laidMetH Tryz.prog laidTab w) ∧ sizedMet enc Tryz.prog Tryz.f7 (OpenSpec.ofChange Rows.slideWorkersSpec) false w args)
      (Rows.slideWorkersSpec.post enc Tryz.prog Tryz.f7 false true false false) := by
  refine returnsInHanded_of_change_and (C := Tryz.checked) (X := fun w _ => laidMetH Tryz.prog laidTab w) (fun _ _ _ hh h => h.of_heap hh) own started (by kernel_rfl) Tryz.func7
    (ChangeSpec.witness_shaped (enc := enc) (C := Tryz.checked) (os := os) (X := fun w _ => laidMetH Tryz.prog laidTab w) false (World.doorLaid Tryz.prog 400 os) #[.slice none 0 0, .agg #[.int .i64 0, .int .i64 0, .int .i64 0, .slice none 0 0], .agg #[.int .i64 0, .int .i64 0, .int .i64 0, .slice none 0 0]] 8 rfl (World.shaped_of_RefB (by kernel_rfl) (by kernel_rfl)) (by kernel_rfl) (by kernel_rfl) (by kernel_rfl) (door_met os _)) ?_
  intro W base args ds gs before hval0 hW _ _ hL _
  have hTab := tab_of hL
  have hval : ∀ (j : Nat) t v, Tryz.f7.params[j]? = some t → args[j]? = some v → Value.okWide Tryz.prog W .any base t v := hval0
  have hW' := hW
  obtain ⟨p, q, hA0, hV, rfl, hfz, hnd⟩ := hW
  have hA : DataW.TrodAll enc Tryz.prog W 0 (fun _ => true) true Tryz.f7.params.toList args.toList ds p := hA0
  rw [Tryz.params7] at hA hval
  obtain ⟨v0, vs0, d0, ds0, p0, q0, hargs, rfl, rfl, h0, r0⟩ := trodAll_cons hA
  obtain ⟨v1, vs1, d1, ds1, p1, q1, rfl, rfl, rfl, h1, r1⟩ := trodAll_cons r0
  obtain ⟨v2, vs2, d2, ds2, p2, q2, rfl, rfl, rfl, h2, r2⟩ := trodAll_cons r1
  obtain ⟨rfl, rfl, rfl⟩ := trodAll_nil r2
  obtain rfl : args = #[v0, v1, v2] := by cases args; simp_all
  obtain ⟨rfl, rfl⟩ := trodVars_none hV
  obtain ⟨a0, len0, cap0, rfl⟩ := okWide_slice Tryz.underlying22 (hval 0 22 v0 rfl rfl)
  have k0 := h0
  have lt0 : ∀ x ∈ p0, x.block < W.heap.size := by obtain ⟨m, hm⟩ := k0; exact DataW.trod_lt m _ _ _ hm
  obtain ⟨z0, w0⟩ := open_pairs h0
  have k1 := h1
  have lt1 : ∀ x ∈ p1, x.block < W.heap.size := by obtain ⟨m, hm⟩ := k1; exact DataW.trod_lt m _ _ _ hm
  obtain ⟨x1, y1, u1, po1, pl1, pc1, ps1, rfl, hx1, hy1, hu1, hp1⟩ := open_work15 (hval 1 25 v1 rfl rfl) h1
  have k2 := h2
  have lt2 : ∀ x ∈ p2, x.block < W.heap.size := by obtain ⟨m, hm⟩ := k2; exact DataW.trod_lt m _ _ _ hm
  obtain ⟨x2, y2, u2, po2, pl2, pc2, ps2, rfl, hx2, hy2, hu2, hp2⟩ := open_work15 (hval 2 25 v2 rfl rfl) h2
  simp only [List.append_nil] at hW'
  clear hA0 hval0
  refine (slideWorkers_walk a0 len0 cap0 z0 x1 y1 u1 po1 pl1 pc1 ps1 x2 y2 u2 po2 pl2 pc2 ps2 W w0 hx1 hy1 hu1 hp1 hx2 hy2 hu2 hp2 hTab).mono fun e W' ⟨he, ht⟩ => ?_
  subst he
  have bel : Below W.heap.size W W' := ht.below0
  exact ⟨_, rfl, _, _, _, [], _, [], hW', trodAll_mk1 (shut_bool Tryz.underlying4 _), (trodAll_cons_mk (Below.trod laidOut (by kernel_rfl) (of_decide_eq_true (by kernel_rfl)) k0 bel lt0) (trodAll_cons_mk (Below.trod laidOut (by kernel_rfl) (of_decide_eq_true (by kernel_rfl)) k1 bel lt1) (trodAll_cons_mk (Below.trod laidOut (by kernel_rfl) (of_decide_eq_true (by kernel_rfl)) k2 bel lt2) trodAll_mk0))), rfl, bel.frame _, fun h => by cases h⟩

theorem slideWorkers_over : Rows.slideWorkersRow.holds Tryz.pinned (OpenSpec.ofChange Rows.slideWorkersSpec) :=
  OpenClaim.holds_of_wide 7 Tryz.f7 rfl rfl rfl rfl rfl rfl rfl ⟨rfl, rfl, rfl, rfl, rfl⟩ rfl rfl rfl rfl rfl (by kernel_rfl) Tryz.func7 (by kernel_rfl)
    (of_decide_eq_true (by kernel_rfl)) (by unfold Func.isWrapper; first | (rw [if_pos (by decide +kernel)]; kernel_rfl) | (rw [if_neg (by decide +kernel)]; exact ⟨rfl, rfl⟩))
    (fun os started H enc _ => slideWorkers_lifted os started H enc)

theorem slideWorkers_holds : Rows.SlideWorkersSaid := slideWorkers_over

theorem slideWorkers_card : Rows.SlideWorkersCardSaid :=
  Claim7.holds_tied_plain_at .later [] [.data] true _ true
    slideWorkers_holds (fun _ h => by cases h) (by kernel_rfl) (fun _ h => by cases h) slideWorkers_row_tie rfl ⟨rfl, rfl⟩ (by kernel_rfl) rfl
    (fun f fn hf hfn => by
      obtain rfl : f = 7 := Option.some.inj ((show Tryz.prog.funcNamed "ballast/ballastlaw15.SlideWorkers" = some 7 by kernel_rfl).symm.trans hf) |>.symm
      obtain rfl : fn = Tryz.f7 := (Option.some.inj (Tryz.func7.symm.trans hfn)).symm
      exact ⟨by kernel_rfl, fun j t ht => by
        rw [Tryz.params7] at ht
        have h3 : t ∈ [22, 25, 25] := by
          have h4 := Array.mem_of_getElem? ht
          simpa using h4
        have h5 : ∀ u, u ∈ [22, 25, 25] → Tryz.prog.wantsStandIn u = false := by
          intro u hu
          simp only [List.mem_cons, List.not_mem_nil, or_false] at hu
          rcases hu with rfl | rfl | rfl <;> kernel_rfl
        exact h5 t h3⟩)
    (by kernel_rfl)
end Go.Proofs.YtbmlggemheljkaaGreatDoor
