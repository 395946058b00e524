/-
  SlideReady: which regions are ready, and for how many each waits, is as the chapter says, at each step. For every list of blocks, any region and waste, one worker or two, and any order of steps.
-/
import Derived.Test.YtbmlggemheljkaaGreatDoorPack23
import Derived.Test.YtbmlggemheljkaaGreatDoorPack22
import Derived.Test.YtbmlggemheljkaaGreatDoorPack20
import Derived.Test.YtbmlggemheljkaaGreatDoorPack12
import Derived.Test.YtbmlggemheljkaaGreatDoorCards
import Derived.Test.YtbmlggemheljkaaGreatDoorTie
import Derived.SevenTiedAt
namespace Go.Proofs.YtbmlggemheljkaaGreatDoor
open Go.ChangeShapes Go.WideShapes Go.ChangeAt Go.RowKit Bt
set_option linter.unusedVariables false
set_option linter.unusedSimpArgs false


theorem wrap_one15r {k : Nat} (h : k ≤ 100000) : IntKind.i64.wrap (1 + (k : Int)) = (k : Int) + 1 := by
  rw [IntKind.wrap_i64]; omega
theorem few63 {n : Nat} (h : n ≤ 65536) : n + 1 ≤ maxLen ∧ (n + 1) * 8 ≤ 140737488355328 := by unfold maxLen; omega
set_option maxHeartbeats 8000000 in
set_option maxRecDepth 100000 in
theorem slideReady_walk (ao : Option Addr) (len cap : Nat) (cs : List (Int × Int)) (x y z : Int) (po : Option Addr) (pl pc : Nat) (ps : List Int) (w : World) (h : TwRd w ao len cs) (hx : In64 x) (hy : In64 y) (hz : In64 z) (hp : PkRd w po pl ps) (hT : Tab w) :
    Calls Tryz.prog 4 #[.slice ao len cap, .agg #[.int .i64 x, .int .i64 y, .int .i64 z, .slice po pl pc]] w fun e w' => e = .returned (.bool true) ∧ Turned [] w w' := by
  have H0 := hide (block_lt (hT 0 (by omega)))
  have hTB := (Turned.refl [] w).alloc (.cells #[.int .i64 x, .int .i64 y, .int .i64 z, .slice po pl pc] 25)
  have hgB := heap_alloc_new w (.cells #[.int .i64 x, .int .i64 y, .int .i64 z, .slice po pl pc] 25)
  have HAw := hide (awake15 _ (hT.turned hTB (by simp)))
  have HTab := hide hT
  have HO := hide h
  have HTB := hide hTB
  have HPy := hide (fun w' : World => pick15 y 40 w' hy (by omega))
  have HPz := hide (fun w' : World => pick15 z 61 w' hz (by omega))
  have HPx := hide (fun w' : World => pick15 x 2 w' hx (by omega))
  rw [show ((2 : Nat) : Int) = 2 from rfl] at HPx
  rw [show ((40 : Nat) : Int) = 40 from rfl] at HPy
  rw [show ((61 : Nat) : Int) = 61 from rfl] at HPz
  have hk1 := pkF_lt y (show 0 < 40 by omega)
  have hv1 := pkF_lt z (show 0 < 61 by omega)
  have hx1 := pkF_lt x (show 0 < 2 by omega)
  generalize pkF x 2 = kk at *
  generalize pkF y 40 = k at *
  generalize pkF z 61 = vv at *
  have hwr := wrap_one15r (k := k) (by omega)
  have HMd := hide (fun (w' : World) (t : Turned [] w w') => lmade15 ao len cap cs (k + 1) vv 150 w' (by omega) (by omega) (by omega) (by omega) (HO.out.turned t) (HTab.out.turned t (by simp)))
  rw [show ((150 : Nat) : Int) = 150 from rfl, show ((k + 1 : Nat) : Int) = (k : Int) + 1 from by omega] at HMd
  have HBl := hide (mkS_bl 150 cs (min len 60))
  generalize mkS 150 cs (min len 60) = S at *
  have HPk := hide hp
  clear h hT hp hx hy hz hTB
  go_enter Tryz.func4, Tryz.ntmps4
  go_upto_region 1 with fail
  generalize w.alloc (.cells #[.int .i64 x, .int .i64 y, .int .i64 z, .slice po pl pc] 25) = wB at *
  obtain ⟨qb, hqb⟩ : ∃ qb, qb = w.heap.size := ⟨_, rfl⟩
  rw [← hqb] at hgB ⊢
  have HG := hide hgB
  clear hqb hgB
  go_wp2_with fail
  refine (HAw.out).mono ?_
  rintro e w2 ⟨rfl, t2⟩
  have HT2 := hide (HTB.out.trans t2)
  have hg2 : w2.heap[qb]? = some (.cells #[.int .i64 x, .int .i64 y, .int .i64 z, .slice po pl pc] 25) := by rw [t2.block qb (lt_of_heap HG.out) (by simp)]; exact HG.out
  have q1 : w2.drew.cell? ⟨qb, 1, none⟩ = some (.int .i64 y) := by show w2.cell? _ = _; rw [cell_of_heap hg2]; rfl
  have q2 : w2.drew.cell? ⟨qb, 2, none⟩ = some (.int .i64 z) := by show w2.cell? _ = _; rw [cell_of_heap hg2]; rfl
  have HD2 := hide (HT2.out.drew)
  have HGx := hide hg2
  clear t2 HAw HG HTB hg2
  go_wp2_with fail
  go_region_held3 (fun w' => w'.cell? ⟨qb, 1, none⟩ = some (.int .i64 y) ∧ w'.cell? ⟨qb, 2, none⟩ = some (.int .i64 z)) (go_keep)
    (first
      | (go_at_call 11; refine (HPy.out _).mono ?_; rintro e wz ⟨rfl, hwz⟩; subst hwz; clear HPy)
      | (go_at_call 11; refine (HPz.out _).mono ?_; rintro e wz ⟨rfl, hwz⟩; subst hwz; clear HPz)
      | (go_at_call 10; refine (HMd.out _ HD2.out).mono ?_; rintro e w3 ⟨xb, cp, cq, bp, bq, rp, rq, P, wv, l, a, wq, tq, rfl, hwd, hmem, hM, hlo, t3⟩; have z1 : w3.cell? ⟨qb, 1, none⟩ = some (.int .i64 y) := (by rw [t3.cell (block_lt q1) (by simp)]; exact q1); have z2 : w3.cell? ⟨qb, 2, none⟩ = some (.int .i64 z) := (by rw [t3.cell (block_lt q2) (by simp)]; exact q2); have HWd := hide hwd; have HMm := hide hmem; have HMk := hide hM; have HLo := hide hlo; have HT3 := hide (HD2.out.trans t3); have HT23 := hide ((Turned.refl [] w2).drew.trans t3); clear hwd hmem hM hlo t3))
  clear q1 q2 z1 z2 HD2 HMd
  have hg3 : w3.heap[qb]? = some (.cells #[.int .i64 x, .int .i64 y, .int .i64 z, .slice po pl pc] 25) := by rw [HT23.out.block qb (lt_of_heap HGx.out) (by simp)]; exact HGx.out
  have HG3 := hide hg3
  have q0 : w3.cell? ⟨qb, 0, none⟩ = some (.int .i64 x) := by rw [cell_of_heap hg3]; rfl
  obtain ⟨n, hn⟩ : ∃ n : Nat, n = kk + 1 := ⟨_, rfl⟩
  have hnw : wrap64 (1 + (kk : Int)) = (n : Int) := by unfold wrap64; omega
  have hn1 : 1 ≤ n := by omega
  have hn6 : n ≤ 2 := by omega
  clear hn hx1 hg3 HGx HT23
  have HNw := hide (fun (w' : World) (tt : Turned [] w3 w') => lx_new2 w w3 w' xb cp cq bp bq rp rq 150 n (k + 1) vv S P wv l a wq tq HWd.out HMm.out HMk.out HBl.out HLo.out.2.2.2 HT3.out ⟨H0.out, Nat.le_trans HT2.out.size HLo.out.2.1, Nat.le_trans HT2.out.size HLo.out.2.2.1⟩ (by omega) (by omega) (by omega) (by omega) tt)
  obtain ⟨lo, lc, rfl⟩ : ∃ lo lc, l = .slice lo P.R lc := own_opens HWd.out.dpl.lv.choose_spec
  obtain ⟨ho, hc, rfl⟩ : ∃ ho hc, a = .slice ho P.R hc := own_opens HWd.out.dpl.ah.choose_spec
  go_wp2_with fail
  refine (HPx.out _).mono ?_
  rintro e wz ⟨rfl, hwz⟩
  rw [hwz]; clear hwz wz HPx q0
  go_upto_region 4 with fail
  have hxx : w3.drew.heap[xb]? = some (.cells (wdC cp wv bp rp P (.slice lo P.R lc) (.slice ho P.R hc) (slc wq P.R) (slc tq P.R)) 41) := HWd.out.head
  have x0 : w3.drew.cell? ⟨xb, 0, none⟩ = some (.pointer (some ⟨cp, 0, none⟩)) := by rw [cell_of_heap hxx]; rfl
  have x2 : w3.drew.cell? ⟨xb, 2, none⟩ = some (.pointer (some ⟨bp, 0, none⟩)) := by rw [cell_of_heap hxx]; rfl
  have x4 : w3.drew.cell? ⟨xb, 4, none⟩ = some (.int .i64 (P.f : Int)) := by rw [cell_of_heap hxx]; rfl
  have x5 : w3.drew.cell? ⟨xb, 5, none⟩ = some (.int .i64 (P.t : Int)) := by rw [cell_of_heap hxx]; rfl
  have x6 : w3.drew.cell? ⟨xb, 6, none⟩ = some (.int .i64 (P.k : Int)) := by rw [cell_of_heap hxx]; rfl
  have x7 : w3.drew.cell? ⟨xb, 7, none⟩ = some (.int .i64 (P.d : Int)) := by rw [cell_of_heap hxx]; rfl
  have x8 : w3.drew.cell? ⟨xb, 8, none⟩ = some (.int .i64 (P.e : Int)) := by rw [cell_of_heap hxx]; rfl
  have x9 : w3.drew.cell? ⟨xb, 9, none⟩ = some (.slice lo P.R lc) := by rw [cell_of_heap hxx]; rfl
  have x10 : w3.drew.cell? ⟨xb, 10, none⟩ = some (.slice ho P.R hc) := by rw [cell_of_heap hxx]; rfl
  have x11 : w3.drew.cell? ⟨xb, 11, none⟩ = some (.slice (some ⟨wq, 0, none⟩) P.R P.R) := by rw [cell_of_heap hxx]; rfl
  have x12 : w3.drew.cell? ⟨xb, 12, none⟩ = some (.slice (some ⟨tq, 0, none⟩) P.R P.R) := by rw [cell_of_heap hxx]; rfl
  have HD3 := hide ((Turned.refl [] w3).drew)
  clear hxx
  go_wp2_with fail
  go_region_held3 (fun w' => w'.cell? ⟨xb, 0, none⟩ = some (.pointer (some ⟨cp, 0, none⟩)) ∧ w'.cell? ⟨xb, 2, none⟩ = some (.pointer (some ⟨bp, 0, none⟩)) ∧ w'.cell? ⟨xb, 4, none⟩ = some (.int .i64 (P.f : Int)) ∧ w'.cell? ⟨xb, 5, none⟩ = some (.int .i64 (P.t : Int)) ∧ w'.cell? ⟨xb, 6, none⟩ = some (.int .i64 (P.k : Int)) ∧ w'.cell? ⟨xb, 7, none⟩ = some (.int .i64 (P.d : Int)) ∧ w'.cell? ⟨xb, 8, none⟩ = some (.int .i64 (P.e : Int)) ∧ w'.cell? ⟨xb, 9, none⟩ = some (.slice lo P.R lc) ∧ w'.cell? ⟨xb, 10, none⟩ = some (.slice ho P.R hc) ∧ w'.cell? ⟨xb, 11, none⟩ = some (.slice (some ⟨wq, 0, none⟩) P.R P.R) ∧ w'.cell? ⟨xb, 12, none⟩ = some (.slice (some ⟨tq, 0, none⟩) P.R P.R)) (go_keep)
    (first
      | (go_at_call 12; refine (HNw.out _ HD3.out).mono ?_; rintro e w4 ⟨J, sb, v, m, rfl, hl, hj, hj0, hj3, hsz, ht4⟩; have y0 : w4.cell? ⟨xb, 0, none⟩ = some (.pointer (some ⟨cp, 0, none⟩)) := (by rw [ht4.cell (block_lt x0) (by simp)]; exact x0); have y2 : w4.cell? ⟨xb, 2, none⟩ = some (.pointer (some ⟨bp, 0, none⟩)) := (by rw [ht4.cell (block_lt x2) (by simp)]; exact x2); have y4 : w4.cell? ⟨xb, 4, none⟩ = some (.int .i64 (P.f : Int)) := (by rw [ht4.cell (block_lt x4) (by simp)]; exact x4); have y5 : w4.cell? ⟨xb, 5, none⟩ = some (.int .i64 (P.t : Int)) := (by rw [ht4.cell (block_lt x5) (by simp)]; exact x5); have y6 : w4.cell? ⟨xb, 6, none⟩ = some (.int .i64 (P.k : Int)) := (by rw [ht4.cell (block_lt x6) (by simp)]; exact x6); have y7 : w4.cell? ⟨xb, 7, none⟩ = some (.int .i64 (P.d : Int)) := (by rw [ht4.cell (block_lt x7) (by simp)]; exact x7); have y8 : w4.cell? ⟨xb, 8, none⟩ = some (.int .i64 (P.e : Int)) := (by rw [ht4.cell (block_lt x8) (by simp)]; exact x8); have y9 : w4.cell? ⟨xb, 9, none⟩ = some (.slice lo P.R lc) := (by rw [ht4.cell (block_lt x9) (by simp)]; exact x9); have y10 : w4.cell? ⟨xb, 10, none⟩ = some (.slice ho P.R hc) := (by rw [ht4.cell (block_lt x10) (by simp)]; exact x10); have y11 : w4.cell? ⟨xb, 11, none⟩ = some (.slice (some ⟨wq, 0, none⟩) P.R P.R) := (by rw [ht4.cell (block_lt x11) (by simp)]; exact x11); have y12 : w4.cell? ⟨xb, 12, none⟩ = some (.slice (some ⟨tq, 0, none⟩) P.R P.R) := (by rw [ht4.cell (block_lt x12) (by simp)]; exact x12); have HL := hide hl; have HJ := hide hj; have HJ0 := hide hj0; have HJ3 := hide hj3; have HT4 := hide ((HT3.out.drew).trans ht4); clear hl hj hj0 hj3 hsz ht4))
  clear x0 x2 x4 x5 x6 x7 x8 x9 x10 x11 x12 y0 y2 y4 y5 y6 y7 y8 y9 y10 y11 y12 HNw HD3 HMm HMk HLo HWd HT3
  obtain ⟨hSi0, hFt, hPt, -, hPR⟩ := lx_si HL.out HJ.out
  have HFt := hide hFt
  have HPt := hide hPt
  have hR6 : P.R ≤ 1000 := hPR
  have HTk := hide (rtakes15 P S 150 xb cp J.bp J.bq rp J.rq wv lo lc ho hc wq tq w4 (lx_wd HL.out HJ.out) hFt hPt (by omega) hR6)
  have HHs0 := hide (HasI.start hFt (words15 150) 0 n)
  generalize hs0 : startS P S (words15 150) 0 n = s0 at *
  generalize zeroU = u0 at *
  clear hFt hPt hs0 hSi0 hPR
  go_wp2_with fail
  refine (HTk.out).mono ?_
  rintro e w5 ⟨tao, tcap, rfl, htb, t5⟩
  have HRd0 := hide (RdS.start (HL.out.quiet t5) htb)
  clear htb t5 HTk HL
  obtain ⟨hb, hhb⟩ : ∃ hb, hb = w5.heap.size := ⟨_, rfl⟩
  rw [← hhb] at HRd0
  go_upto_region 9 with fail
  rw [← hhb]
  clear hhb
  generalize w5.alloc (.cells #[.int .i64 0, .int .i64 0] 46) = w6 at *
  go_wp2_with fail
  go_loopg [12] 201 (fun gg s12 wr => ∃ (i : Nat) (u : Nat → Nat) (s : SlS) (v m : Value) (f : Nat → Nat), gg = 201 - i ∧ i ≤ 200 ∧ s12 = .int .i64 (i : Int) ∧ Hid (RdS J wr u s v m tao P.R (tkB P (live S)) hb f) ∧ Hid (HasI P n u s f))
  case atStart => exact ⟨0, u0, s0, v, m, fun _ => 0, rfl, by omega, rfl, HRd0, HHs0⟩
  case round =>
    clear HRd0 HHs0
    obtain ⟨i, u, s, v, m, f, rfl, hi, rfl, HRd, HHs⟩ := hrel
    obtain ⟨w4, hw4⟩ : ∃ w4, w4 = wr := ⟨_, rfl⟩
    subst hw4
    have hgq : w4.heap[qb]? = some (.cells #[.int .i64 x, .int .i64 y, .int .i64 z, .slice po pl pc] 25) := HRd.out.l.keep (by rw [HJ3.out]; exact HG3.out) (by decide) (by decide)
    have q3 : w4.cell? ⟨qb, 3, none⟩ = some (.slice po pl pc) := by rw [cell_of_heap hgq]; rfl
    have HPk4 : Hid (PkRd w4 po pl ps) := hide (HPk.out.turned (by have := HRd.out.l.t_; rwa [HJ0.out] at this))
    have HTe : Hid (Turned [] w w4) := hide (by rw [← HJ0.out]; exact HRd.out.l.t_)
    have HDn := hide (lx_done HRd.out.l HJ.out)
    clear hgq
    by_cases h1 : i < pl
    · have h1i : (i : Int) < (pl : Int) := by omega
      by_cases h2 : i < 200
      · have h2i : (i : Int) < 200 := by omega
        by_cases hl : s.left = 0
        · rw [decide_eq_true hl] at HDn
          clear hl HPk4
          go_wp2_with fail
          refine (HDn.out).mono ?_
          rintro e w5 ⟨rfl, hw5⟩
          rw [hw5]; clear hw5 w5 HDn
          go_wp2_with fail
          go_ret
          exact ⟨rfl, HTe.out⟩
        · rw [decide_eq_false hl] at HDn
          have HLf := hide hl
          clear hl HTe
          obtain ⟨c, hc⟩ : ∃ c, ps[i]? = some c := ⟨_, List.getElem?_eq_getElem (by rw [HPk4.out.size]; exact h1)⟩
          obtain ⟨b, off, rfl, cpk⟩ := HPk4.out.cell i c hc
          have HPc := hide (fun w' : World => pick15 c n w' (HPk4.out.inn c (List.mem_of_getElem? hc)) ⟨by omega, by omega⟩)
          have HPl := hide (pkF_lt c (n := n) (by omega))
          generalize pkF c n = kw at *
          clear hc
          go_wp2_with fail
          refine (HDn.out).mono ?_
          rintro e w5 ⟨rfl, hw5⟩
          rw [hw5]; clear hw5 w5 HDn
          go_wp2_with fail
          refine (HPc.out _).mono ?_
          rintro e w5 ⟨rfl, hw5⟩
          rw [hw5]; clear hw5 w5 HPc cpk q3 HPk4
          go_upto_region 14 with fail
          obtain ⟨db, hdb⟩ : ∃ db, db = w4.heap.size := ⟨_, rfl⟩
          have hD0 := Db.start w4
          have t5 : Turned [] w4 (w4.alloc (.cells Tryz.zeroCells54 54)) := (Turned.refl [] w4).alloc _
          have hds : db < (w4.alloc (.cells Tryz.zeroCells54 54)).heap.size := by rw [hdb]; exact hD0.lt
          have HDb := hide (show w4.heap.size ≤ db by omega)
          rw [← hdb] at hD0 ⊢
          have HD0 := hide hD0
          have HDs := hide hds
          have HT5 := hide t5
          have HMv := hide (lx_moves (HRd.out.l.quiet t5) HJ.out)
          clear hD0 hds t5 hdb
          generalize w4.alloc (.cells Tryz.zeroCells54 54) = w5 at *
          obtain ⟨L, hL⟩ : ∃ L, L = s.mv.length := ⟨_, rfl⟩
          have hL6 : L ≤ 1000 := by rw [hL]; exact HRd.out.l.mv6.2
          have HLe := hide hL
          rw [← hL] at HMv
          clear hL
          go_wp2_with fail
          refine (HMv.out).mono ?_
          rintro e w6 ⟨mo, mc, rfl, hrd, hmn, t6⟩
          have HMr : Hid (∀ (kx : Nat) (p : Nat × Nat), s.mv[kx]? = some p → ∃ mb2 moff2, mo = some ⟨mb2, moff2, none⟩ ∧ mb2 ≠ db ∧ w6.cell? ⟨mb2, moff2 + kx * 2 + 1, none⟩ = some (.int .i64 (p.2 : Int))) := hide (fun kx p hp => by
            obtain ⟨mb2, moff2, e2, j0, j1⟩ := hrd.cell kx ((p.1 : Int), (p.2 : Int)) (by unfold mvI; rw [List.getElem?_map, hp]; rfl)
            have h1 : w5.heap.size ≤ mb2 := hmn _ e2
            have h2 := HDs.out
            have h3 : mb2 ≠ db := fun e3 => by omega
            exact ⟨mb2, moff2, e2, h3, j1⟩)
          have HP2 : Hid (∀ (kx : Nat) (p : Nat × Nat), s.mv[kx]? = some p → p.2 < 150) := hide (fun kx p hp => by
            have hsi := (lx_si HRd.out.l HJ.out).1
            have g1 := ((hsi.m1 p.1 p.2).1 (List.mem_of_getElem? hp)).1
            unfold stored at g1
            rw [decide_eq_true_eq] at g1
            have := HFt.out.et
            have := HPt.out
            omega)
          have HT6 := hide (HT5.out.trans t6)
          have HD6 : Hid (Db w6 db (dnF s.mv 0)) := hide ((HD0.out.turned0 t6).congr (fun y _ => (dnF_zero s.mv y).symm))
          clear hrd hmn t6 HT5 HD0 HMv HDs
          go_wp2_with fail
          go_loopg [16] L (fun gg s16 wr => ∃ (kx : Nat), gg = L - kx ∧ kx ≤ L ∧ s16 = .int .i64 (kx : Int) ∧ Hid (Turned [db] w6 wr) ∧ Hid (Db wr db (dnF s.mv kx)))
          case atStart => exact ⟨0, rfl, Nat.zero_le _, rfl, hide (Turned.refl _ _), HD6⟩
          case round =>
            as_aux_lemma =>
              clear HD6
              obtain ⟨kx, rfl, hkx, rfl, HU, HD⟩ := hrel
              obtain ⟨w7, hw7⟩ : ∃ w7, w7 = wr := ⟨_, rfl⟩
              subst hw7
              by_cases hlk : kx < L
              · have hki : (kx : Int) < (L : Int) := by omega
                obtain ⟨p, hp⟩ : ∃ p, s.mv[kx]? = some p := ⟨_, List.getElem?_eq_getElem (by rw [← HLe.out]; exact hlk)⟩
                obtain ⟨mb2, moff2, rfl, hmd, j1⟩ := HMr.out kx p hp
                have j2 : w7.cell? ⟨mb2, moff2 + kx * 2 + 1, none⟩ = some (.int .i64 (p.2 : Int)) := by rw [HU.out.cell (block_lt j1) (by simpa using hmd)]; exact j1
                have h150 := HP2.out kx p hp
                have h150i : ((p.2 : Nat) : Int) < 150 := by omega
                have h0i : ¬ ((p.2 : Nat) : Int) < 0 := by omega
                have cd := HD.out.cell h150
                have fd := HD.out.fz p.2
                have HD8 : Hid (Db (w7.setCell ⟨db, p.2, none⟩ (.bool true)) db (dnF s.mv (kx + 1))) := hide ((HD.out.set p.2 true).congr (fun y _ => (dnF_next hp y).symm))
                have HU8 : Hid (Turned [db] w6 (w7.setCell ⟨db, p.2, none⟩ (.bool true))) := hide (HU.out.setCell (p := ⟨db, p.2, none⟩) (.inl (by simp)) (.bool true))
                clear hp j1 HU HD
                generalize p.2 = p2 at *
                go_wp2_with fail
                go_roundg (L - (kx + 1))
                case measure => omega
                case rel => exact ⟨kx + 1, rfl, hlk, by go_num, HU8, HD8⟩
              · have hki : ¬ (kx : Int) < (L : Int) := by omega
                have HT7 : Hid (Turned [] w4 w7) := hide (HT6.out.trans_new HU.out (by intro i hi; simp at hi; subst hi; exact .inr HDb.out))
                have HSt : Hid (Db w7 db (stored P u)) := hide (HD.out.congr (fun y _ => by rw [show kx = s.mv.length by rw [← HLe.out]; omega]; exact dnF_end (lx_si HRd.out.l HJ.out).1 y))
                clear HU HD HMr HP2 HT6 hlk hkx hL6 HLe
                have hh := (lx_wd (HRd.out.l.quiet HT7.out) HJ.out).head
                have c9 : w7.cell? ⟨xb, 9, none⟩ = some (.slice lo P.R lc) := by rw [cell_of_heap hh]; rfl
                clear hh
                have hmb := make_bools P.R (by omega)
                obtain ⟨w8, hw8⟩ : ∃ w8, w8 = w7.alloc (.cells (madeCells #[Value.bool false] P.R) 4) := ⟨_, rfl⟩
                have hb8 : Rb w8 w7.heap.size P.R (fun _ => false) := by rw [hw8]; exact new_bools w7 P.R
                have hU8 : Turned [] w7 w8 := by rw [hw8]; exact (Turned.refl [] w7).alloc _
                obtain ⟨fb, hfb⟩ : ∃ fb, fb = w7.heap.size := ⟨_, rfl⟩
                have HFb := hide (show w4.heap.size ≤ fb ∧ fb ≠ db by have := HT7.out.size; have := HSt.out.lt; omega)
                rw [← hfb] at hb8
                have HF8 : Hid (Rb w8 fb P.R (fun q => if q < 0 then flU P u q else false)) := hide (hb8.congr (fun i _ => by simp))
                have HT8 := hide (HT7.out.trans hU8)
                have HS8 := hide (HSt.out.turned0 hU8)
                clear hb8 hU8 HT7 HSt
                go_upto_region 21 with fail
                rw [← hw8, ← hfb]
                clear hw8 hfb hmb c9
                go_wp2_with fail
                go_loopg [19] P.R (fun gg s19 wr => ∃ (r : Nat), gg = P.R - r ∧ r ≤ P.R ∧ s19 = .int .i64 (r : Int) ∧ Hid (Turned [] w4 wr) ∧ Hid (Db wr db (stored P u)) ∧ Hid (Rb wr fb P.R (fun q => if q < r then flU P u q else false)))
                case atStart => exact ⟨0, rfl, Nat.zero_le _, rfl, HT8, HS8, HF8⟩
                case round =>
                  as_aux_lemma =>
                    clear HT8 HS8 HF8
                    obtain ⟨r, rfl, hr, rfl, HT, HS, HF⟩ := hrel
                    obtain ⟨w9, hw9⟩ : ∃ w9, w9 = wr := ⟨_, rfl⟩
                    subst hw9
                    by_cases hlr : r < P.R
                    · have hri : (r : Int) < (P.R : Int) := by omega
                      have HGo := hide (lx_goal HFt.out (.slice lo P.R lc) (.slice ho P.R hc) wq tq r hlr w9)
                      have hh := (lx_wd (HRd.out.l.quiet HT.out) HJ.out).head
                      have c4 : w9.cell? ⟨xb, 4, none⟩ = some (.int .i64 (P.f : Int)) := by rw [cell_of_heap hh]; rfl
                      have c5 : w9.cell? ⟨xb, 5, none⟩ = some (.int .i64 (P.t : Int)) := by rw [cell_of_heap hh]; rfl
                      have c6 : w9.cell? ⟨xb, 6, none⟩ = some (.int .i64 (P.k : Int)) := by rw [cell_of_heap hh]; rfl
                      have c7 : w9.cell? ⟨xb, 7, none⟩ = some (.int .i64 (P.d : Int)) := by rw [cell_of_heap hh]; rfl
                      have c8 : w9.cell? ⟨xb, 8, none⟩ = some (.int .i64 (P.e : Int)) := by rw [cell_of_heap hh]; rfl
                      have c9 : w9.cell? ⟨xb, 9, none⟩ = some (.slice lo P.R lc) := by rw [cell_of_heap hh]; rfl
                      have c10 : w9.cell? ⟨xb, 10, none⟩ = some (.slice ho P.R hc) := by rw [cell_of_heap hh]; rfl
                      have c11 : w9.cell? ⟨xb, 11, none⟩ = some (.slice (some ⟨wq, 0, none⟩) P.R P.R) := by rw [cell_of_heap hh]; rfl
                      have c12 : w9.cell? ⟨xb, 12, none⟩ = some (.slice (some ⟨tq, 0, none⟩) P.R P.R) := by rw [cell_of_heap hh]; rfl
                      clear hh
                      have HGt : Hid (gF P r < gT P r → gT P r ≤ 150) := hide (fun hg => by
                        have := (HFt.out.goal hg).2.2.1
                        have := HFt.out.et
                        have := HPt.out
                        omega)
                      have HAl0 := hide (alF_start P u r)
                      have HAlN := hide (fun y (h : gF P r ≤ y) => alF_next P u h)
                      have HAlE := hide (fun y h1 => alF_end (y := y) (lx_si HRd.out.l HJ.out).1 HFt.out hlr h1)
                      generalize alF P u r = A at HAl0 HAlN HAlE
                      generalize gF P r = a1 at HGo HGt HAl0 HAlN HAlE
                      generalize gT P r = a2 at HGo HGt HAlE
                      go_wp2_with fail
                      refine (HGo.out).mono ?_
                      rintro e w10 ⟨rfl, t10⟩
                      have HT10 := hide (HT.out.trans t10)
                      have HS10 := hide (HS.out.turned0 t10)
                      have HF10 := hide (HF.out.turned0 t10)
                      have cf := HF10.out.cell hlr
                      have ff := HF10.out.fz r
                      have HF11 : Hid (Rb (w10.setCell ⟨fb, r, none⟩ (.bool true)) fb P.R (fun q => if q = r then A a1 else if q < r then flU P u q else false)) := hide ((HF10.out.set r true).congr (fun q _ => by rw [HAl0.out]))
                      have t11 : Turned [fb] w10 (w10.setCell ⟨fb, r, none⟩ (.bool true)) := (Turned.refl [fb] w10).setCell (p := ⟨fb, r, none⟩) (.inl (by simp)) _
                      have HS11 := hide (HS10.out.turned t11 (by have := HFb.out.2; simp; omega))
                      have HT11 : Hid (Turned [] w4 (w10.setCell ⟨fb, r, none⟩ (.bool true))) := hide (HT10.out.setCell (p := ⟨fb, r, none⟩) (.inr HFb.out.1) _)
                      clear t10 t11 HT HS HF HT10 HS10 HF10 HGo HAl0 c4 c5 c6 c7 c8 c9 c10 c11 c12
                      go_wp2_with fail
                      go_loopg [22] (a2 - a1) (fun gg s22 wr => ∃ (y : Nat), gg = a2 - y ∧ a1 ≤ y ∧ (y ≤ a2 ∨ y = a1) ∧ s22 = .int .i64 (y : Int) ∧ Hid (Turned [] w4 wr) ∧ Hid (Db wr db (stored P u)) ∧ Hid (Rb wr fb P.R (fun q => if q = r then A y else if q < r then flU P u q else false)))
                      case atStart => exact ⟨a1, rfl, Nat.le_refl _, .inr rfl, rfl, HT11, HS11, HF11⟩
                      case round =>
                        as_aux_lemma =>
                          clear HT11 HS11 HF11 cf ff
                          obtain ⟨y, rfl, hy1, hy2, rfl, HT, HS, HF⟩ := hrel
                          obtain ⟨w12, hw12⟩ : ∃ w12, w12 = wr := ⟨_, rfl⟩
                          subst hw12
                          by_cases hly : y < a2
                          · have hyi : (y : Int) < (a2 : Int) := by omega
                            have h150 : y < 150 := by have := HGt.out (by omega); omega
                            have h150i : (y : Int) < 150 := by omega
                            have cf := HF.out.cell hlr
                            rw [if_pos rfl] at cf
                            have ff := HF.out.fz r
                            have cd := HS.out.cell h150
                            have hnx := HAlN.out y hy1
                            obtain ⟨b1, hb1⟩ : ∃ b1, b1 = A y := ⟨_, rfl⟩
                            obtain ⟨b2, hb2⟩ : ∃ b2, b2 = stored P u y := ⟨_, rfl⟩
                            rw [← hb1] at cf hnx
                            rw [← hb2] at cd hnx
                            have HNx : Hid (∀ b, b = (b1 && b2) → Rb (w12.setCell ⟨fb, r, none⟩ (.bool b)) fb P.R (fun q => if q = r then A (y + 1) else if q < r then flU P u q else false)) := hide (fun b hb => (HF.out.set r b).congr (fun q _ => by
                              by_cases e : q = r
                              · rw [if_pos e, if_pos e, hnx, hb]
                              · rw [if_neg e, if_neg e, if_neg e]))
                            have HSx : Hid (∀ b, Db (w12.setCell ⟨fb, r, none⟩ (.bool b)) db (stored P u)) := hide (fun b => HS.out.turned ((Turned.refl [fb] w12).setCell (p := ⟨fb, r, none⟩) (.inl (by simp)) _) (by have := HFb.out.2; simp; omega))
                            have HTx : Hid (∀ b, Turned [] w4 (w12.setCell ⟨fb, r, none⟩ (.bool b))) := hide (fun b => HT.out.setCell (p := ⟨fb, r, none⟩) (.inr HFb.out.1) _)
                            clear hb1 hb2 hnx HT HS HF
                            cases b1
                            · go_wp2_with fail
                              go_roundg (a2 - (y + 1))
                              case measure => omega
                              case rel => exact ⟨y + 1, rfl, by omega, by omega, by go_num, hide (HTx.out _), hide (HSx.out _), hide (HNx.out _ (by cases b2 <;> rfl))⟩
                            · go_wp2_with fail
                              go_roundg (a2 - (y + 1))
                              case measure => omega
                              case rel => exact ⟨y + 1, rfl, by omega, by omega, by go_num, hide (HTx.out _), hide (HSx.out _), hide (HNx.out _ (by cases b2 <;> rfl))⟩
                          · have hyi : ¬ (y : Int) < (a2 : Int) := by omega
                            have HF13 : Hid (Rb w12 fb P.R (fun q => if q < r + 1 then flU P u q else false)) := hide (HF.out.congr (fun q _ => by
                              by_cases e : q = r
                              · rw [if_pos e, if_pos (by omega), HAlE.out y (by omega), e]
                              · rw [if_neg e]
                                by_cases e2 : q < r
                                · rw [if_pos e2, if_pos (by omega)]
                                · rw [if_neg e2, if_neg (by omega)]))
                            clear HF
                            go_wp2_with fail
                            go_roundg (P.R - (r + 1))
                            case measure => omega
                            case rel => exact ⟨r + 1, rfl, hlr, by go_num, HT, HS, HF13⟩
                    · have hri : ¬ (r : Int) < (P.R : Int) := by omega
                      have HFl : Hid (Rb w9 fb P.R (flU P u)) := hide (HF.out.congr (fun q hq => by rw [if_pos (by omega)]))
                      have HRd9 := hide (HRd.out.quiet HT.out)
                      clear HF HS HT HRd hlr
                      have HLt : Hid (∀ k, 0 < f k → f k - 1 < P.R) := hide (fun k h0 => HHs.out.lt (lx_si HRd9.out.l HJ.out).1 HFt.out h0)
                      have HOu : Hid (∀ k, n ≤ k → f k = 0) := hide HHs.out.out
                      have HR0 : Hid (RdS J w9 u s v m tao P.R (tkB P (live S)) hb (fun i => if i < 0 then clr15 P u f i else f i)) := hide (HRd9.out.congr (fun k _ => by simp))
                      clear HRd9
                      go_wp2_with fail
                      go_loopg [23] n (fun gg s23 wr => ∃ (kq : Nat), gg = n - kq ∧ kq ≤ n ∧ s23 = .int .i64 (kq : Int) ∧ Hid (RdS J wr u s v m tao P.R (tkB P (live S)) hb (fun i => if i < kq then clr15 P u f i else f i)) ∧ Hid (Rb wr fb P.R (flU P u)))
                      case atStart => exact ⟨0, rfl, Nat.zero_le _, rfl, HR0, HFl⟩
                      case round =>
                        as_aux_lemma =>
                          clear HR0 HFl
                          obtain ⟨kq, rfl, hkq, rfl, HR, HF⟩ := hrel
                          obtain ⟨w12, hw12⟩ : ∃ w12, w12 = wr := ⟨_, rfl⟩
                          subst hw12
                          by_cases hlk : kq < n
                          · have hki : (kq : Int) < (n : Int) := by omega
                            have hk2 : kq < 2 := by omega
                            have hk2i : (kq : Int) < 2 := by omega
                            have ch := HR.out.cell hk2
                            rw [if_neg (Nat.lt_irrefl kq)] at ch
                            have fh := HR.out.fz kq
                            have HNo : Hid (clr15 P u f kq = f kq → RdS J w12 u s v m tao P.R (tkB P (live S)) hb (fun i => if i < kq + 1 then clr15 P u f i else f i)) := hide (fun e => HR.out.congr (fun i _ => by
                              by_cases e1 : i < kq
                              · rw [if_pos e1, if_pos (by omega)]
                              · rw [if_neg e1]
                                by_cases e2 : i = kq
                                · rw [if_pos (by omega), e2, e]
                                · rw [if_neg (by omega)]))
                            have HYe : Hid (clr15 P u f kq = 0 → RdS J (w12.setCell ⟨hb, kq, none⟩ (.int .i64 0)) u s v m tao P.R (tkB P (live S)) hb (fun i => if i < kq + 1 then clr15 P u f i else f i)) := hide (fun e => (HR.out.set kq 0 hk2).congr (fun i _ => by
                              by_cases e2 : i = kq
                              · rw [if_pos e2, if_pos (by omega), e2, e]
                              · rw [if_neg e2]
                                by_cases e1 : i < kq
                                · rw [if_pos e1, if_pos (by omega)]
                                · rw [if_neg e1, if_neg (by omega)]))
                            have hne : hb ≠ fb := by
                              obtain ⟨c1, g1, _⟩ := HR.out.hs
                              obtain ⟨c2, g2, _⟩ := HF.out
                              exact ne_of_type g1 g2 (by decide)
                            have HFs : Hid (Rb (w12.setCell ⟨hb, kq, none⟩ (.int .i64 0)) fb P.R (flU P u)) := hide (HF.out.turned ((Turned.refl [hb] w12).setCell (p := ⟨hb, kq, none⟩) (.inl (by simp)) _) (by simp; omega))
                            by_cases h0 : 0 < f kq
                            · have hlt := HLt.out kq h0
                              have cf := HF.out.cell hlt
                              obtain ⟨b1, hb1⟩ : ∃ b1, b1 = flU P u (f kq - 1) := ⟨_, rfl⟩
                              rw [← hb1] at cf
                              have hcl : clr15 P u f kq = if b1 = true then 0 else f kq := by
                                unfold clr15
                                rw [← hb1]
                                by_cases e : b1 = true
                                · rw [if_pos ⟨h0, e⟩, if_pos e]
                                · rw [if_neg (fun hc => e hc.2), if_neg e]
                              obtain ⟨fk, hfk⟩ : ∃ fk, f kq = fk + 1 := ⟨f kq - 1, by omega⟩
                              rw [hfk] at ch
                              rw [hfk, Nat.add_sub_cancel] at cf hlt
                              have hgt : (0 : Int) < ((fk + 1 : Nat) : Int) := by omega
                              have hsb : wrap64 (((fk + 1 : Nat) : Int) - 1) = (fk : Int) := by unfold wrap64; omega
                              have hfi : (fk : Int) < (P.R : Int) := by omega
                              clear hb1 hfk h0 hlk
                              cases b1
                              · have HN := hide (HNo.out (by rw [hcl]; simp))
                                clear HNo HYe hcl HR HFs hne fh
                                go_wp2_with fail
                                go_roundg (n - (kq + 1))
                                case measure => omega
                                case rel => exact ⟨kq + 1, rfl, by omega, by go_num, HN, HF⟩
                              · have HN := hide (HYe.out (by rw [hcl]; simp))
                                clear HNo HYe hcl HR hne HF
                                go_wp2_with fail
                                go_roundg (n - (kq + 1))
                                case measure => omega
                                case rel => exact ⟨kq + 1, rfl, by omega, by go_num, HN, HFs⟩
                            · have h00 : f kq = 0 := by omega
                              have HN := hide (HNo.out (by unfold clr15; rw [if_neg (fun hc => h0 hc.1)]))
                              rw [h00] at ch
                              clear HNo HYe HR HFs hne fh h0 h00 hlk
                              go_wp2_with fail
                              go_roundg (n - (kq + 1))
                              case measure => omega
                              case rel => exact ⟨kq + 1, rfl, by omega, by go_num, HN, HF⟩
                          · have hki : ¬ (kq : Int) < (n : Int) := by omega
                            have HRc : Hid (RdS J w12 u s v m tao P.R (tkB P (live S)) hb (clr15 P u f)) := hide (HR.out.congr (fun i _ => by
                              by_cases e1 : i < kq
                              · rw [if_pos e1]
                              · rw [if_neg e1]
                                have h00 := HOu.out i (by omega)
                                unfold clr15
                                rw [if_neg (fun hc => by omega)]))
                            clear HR HLt HOu hlk hkq
                            go_upto_region 36 with fail
                            have HWt := hide (lx_waits HRc.out.l HJ.out)
                            go_wp2_with fail
                            refine (HWt.out).mono ?_
                            rintro e w13 ⟨zb, zc, rfl, hrw, hzb, t13⟩
                            have HRw := hide hrw
                            have HR13 := hide (HRc.out.quiet t13)
                            have HF13 := hide (HF.out.turned0 t13)
                            clear hrw t13 hzb HRc HF HWt
                            have hsi13 := (lx_si HR13.out.l HJ.out).1
                            have HTb13 := hide HR13.out.tb
                            have HRk : Hid (srt (hI s.H) = wantL P u s.wt P.R) := hide (ready_want hsi13)
                            have HLw := hide (fun hH => least_want hsi13 hH)
                            have HWi : Hid (∀ r, r < P.R → ((gF P r < gT P r ∧ s.wt r = 0 ∧ flU P u r = false ∧ clr15 P u f 0 ≠ r + 1 ∧ clr15 P u f 1 ≠ r + 1) ↔ wantP P u s.wt r = true)) := hide (fun r hr => want_iff HHs.out hsi13 HFt.out hn6 hr)
                            have HWc : Hid (∀ r, r < P.R → cnt (wtB P (live S) (flU P u) r) P.R = s.wt r) := hide (fun r hr => (hsi13.wt r hr).symm)
                            clear hsi13 hnw hwr
                            obtain ⟨i0, hi0, hz0, hz1, hz2⟩ := info_partsR Tryz.infoInt
                            have HI := hide (And.intro hi0 (And.intro hz0 (And.intro hz1 hz2)))
                            clear hi0 hz0 hz1 hz2
                            obtain ⟨B, hB⟩ : ∃ B, B = w13.heap.size := ⟨_, rfl⟩
                            have HB := hide (show w13.heap.size ≤ B by omega)
                            have HB2 := hide (show B ≤ w13.heap.size by omega)
                            clear hB
                            have HO13 : Hid (Row w13 B (.slice none 0 0) (wantL P u s.wt 0)) := hide ⟨rfl, .inl ⟨rfl, rfl⟩⟩
                            go_wp2_with fail
                            go_loopg [24, 26] P.R (fun gg s24 s26 wr => ∃ (r : Nat) (vw : Value), vw = s24 ∧ s26 = .int .i64 (r : Int) ∧ gg = P.R - r ∧ r ≤ P.R ∧ Aside (Row wr B vw (wantL P u s.wt r)) ∧ Aside (Turned [] w13 wr) ∧ Aside (B ≤ wr.heap.size))
                            case atStart => exact ⟨0, _, rfl, rfl, rfl, Nat.zero_le _, HO13.out, Turned.refl [] w13, HB2.out⟩
                            case round =>
                              as_aux_lemma =>
                                clear HO13
                                obtain ⟨r, vw, rfl, rfl, rfl, hr, hrow, hts, hbs⟩ := hrel
                                have HO := hide hrow.out
                                have HT := hide hts.out
                                have HBs := hide hbs.out
                                clear hrow hts hbs
                                obtain ⟨w15, hw15⟩ : ∃ w15, w15 = wr := ⟨_, rfl⟩
                                subst hw15
                                by_cases hlr : r < P.R
                                · have hri : (r : Int) < (P.R : Int) := by omega
                                  have HTr := hide (HTb13.out.turned0 HT.out)
                                  have HFr := hide (HF13.out.turned0 HT.out)
                                  obtain ⟨cw, hcw⟩ : ∃ cw : Nat → Nat, cw = fun o => cnt (wtB P (live S) (flU P u) r) o := ⟨_, rfl⟩
                                  have hc0 : cw 0 = 0 := by rw [hcw]; rfl
                                  have HCt : Hid (∀ o, wtB P (live S) (flU P u) r o = true → cw (o + 1) = cw o + 1) := hide (fun o h => by rw [hcw]; exact cnt_at h)
                                  have HCf : Hid (∀ o, wtB P (live S) (flU P u) r o = false → cw (o + 1) = cw o) := hide (fun o h => by rw [hcw]; exact cnt_off h)
                                  have HCl : Hid (∀ o, cw o ≤ o) := hide (fun o => by rw [hcw]; exact cnt_le _ _)
                                  have HCe : Hid (cw P.R = s.wt r) := hide (by rw [hcw]; exact HWc.out r hlr)
                                  clear hcw
                                  go_wp2_with fail
                                  go_loopg [27, 28] P.R (fun gg s27 s28 wr => ∃ (o : Nat), s27 = .int .i64 (cw o : Int) ∧ s28 = .int .i64 (o : Int) ∧ gg = P.R - o ∧ o ≤ P.R ∧ Aside (wr = w15))
                                  case atStart => exact ⟨0, by rw [hc0]; rfl, rfl, rfl, Nat.zero_le _, rfl⟩
                                  case round =>
                                    as_aux_lemma =>
                                      clear hc0
                                      obtain ⟨o, rfl, rfl, rfl, ho, hwr⟩ := hrel
                                      have hwr2 : wr = w15 := hwr.out
                                      clear hwr
                                      subst hwr2
                                      by_cases hlo : o < P.R
                                      · have hoi : (o : Int) < (P.R : Int) := by omega
                                        obtain ⟨tb1, tb2, rfl, ct1, hrb⟩ := HTr.out.cell hlo
                                        have ct2 := hrb.cell hlr
                                        have cf := HFr.out.cell hlo
                                        have HC6 := HCl.out o
                                        have HWB : Hid (wtB P (live S) (flU P u) r o = (tkB P (live S) o r && (decide (o ≠ r) && !(flU P u o)))) := hide rfl
                                        clear hrb
                                        by_cases heq : o = r
                                        · have HE : Hid (cw (o + 1) = cw o) := hide (HCf.out o (by rw [HWB.out]; simp [heq]))
                                          subst heq
                                          clear HWB ct2 ct1
                                          go_wp2_with fail
                                          go_roundg (P.R - (o + 1))
                                          case measure => omega
                                          case rel => exact ⟨o + 1, by rw [HE.out], by go_num, rfl, by omega, rfl⟩
                                        · have hne : ¬ (o : Int) = (r : Int) := by omega
                                          generalize flU P u o = b1 at *
                                          generalize tkB P (live S) o r = b2 at *
                                          cases b1
                                          · cases b2
                                            · have HE : Hid (cw (o + 1) = cw o) := hide (HCf.out o (by rw [HWB.out]; simp))
                                              clear HWB heq
                                              go_wp2_with fail
                                              go_roundg (P.R - (o + 1))
                                              case measure => omega
                                              case rel => exact ⟨o + 1, by rw [HE.out], by go_num, rfl, by omega, rfl⟩
                                            · have HE : Hid (cw (o + 1) = cw o + 1) := hide (HCt.out o (by rw [HWB.out]; simp [heq]))
                                              clear HWB heq
                                              go_wp2_with fail
                                              go_roundg (P.R - (o + 1))
                                              case measure => omega
                                              case rel => exact ⟨o + 1, by rw [HE.out]; go_num, by go_num, rfl, by omega, rfl⟩
                                          · have HE : Hid (cw (o + 1) = cw o) := hide (HCf.out o (by rw [HWB.out]; simp))
                                            clear HWB heq ct1 ct2
                                            go_wp2_with fail
                                            go_roundg (P.R - (o + 1))
                                            case measure => omega
                                            case rel => exact ⟨o + 1, by rw [HE.out], by go_num, rfl, by omega, rfl⟩
                                      · have hoi : ¬ (o : Int) < (P.R : Int) := by omega
                                        have heo : cw o = s.wt r := by rw [show o = P.R by omega]; exact HCe.out
                                        rw [heo]
                                        clear HCt HCf HCl HCe heo hlo ho HTr
                                        have HW6 := hide (HWi.out r hlr)
                                        have HWs := hide (wantL_succ P u s.wt r)
                                        obtain ⟨r1, hr1⟩ : ∃ r1, r1 = r + 1 := ⟨_, rfl⟩
                                        rw [← hr1] at HW6 HWs
                                        have HI1 : Hid ((r : Int) + 1 = (r1 : Int)) := hide (by rw [hr1]; rfl)
                                        have HMe := hide (show P.R - r1 < P.R - r by omega)
                                        have HRe := hide (show r1 ≤ P.R by omega)
                                        have hw1 : wrap64 ((r : Int) + 1) = (r1 : Int) := by unfold wrap64; omega
                                        have HW1 := hide hw1
                                        obtain ⟨bt, hbt⟩ : ∃ bt, bt = wantP P u s.wt r := ⟨_, rfl⟩
                                        rw [← hbt] at HW6 HWs
                                        have HNt : Hid (¬ bt = true → wantL P u s.wt r1 = wantL P u s.wt r) := hide (fun h => by rw [HWs.out, if_neg h, List.append_nil])
                                        have HYt : Hid (bt = true → wantL P u s.wt r1 = wantL P u s.wt r ++ [(r : Int)]) := hide (fun h => by rw [HWs.out, if_pos h])
                                        have HLw6 := hide (show (wantL P u s.wt r).length ≤ 65536 from Nat.le_trans (wantL_len P u s.wt r) (Nat.le_trans (Nat.le_of_lt hlr) (Nat.le_trans hR6 (by omega))))
                                        clear hbt
                                        have HRd := hide (HR13.out.quiet HT.out)
                                        have hRi := HRw.out.turned0 HT.out
                                        have cz := hRi.cell hlr
                                        have cf := HFr.out.cell hlr
                                        have ch0 := HRd.out.cell (k := 0) (by omega)
                                        have ch1 := HRd.out.cell (k := 1) (by omega)
                                        have hh := (lx_wd HRd.out.l HJ.out).head
                                        have HGo := hide (lx_goal HFt.out (.slice lo P.R lc) (.slice ho P.R hc) wq tq r hlr wr)
                                        have c4 : wr.cell? ⟨xb, 4, none⟩ = some (.int .i64 (P.f : Int)) := by rw [cell_of_heap hh]; rfl
                                        have c5 : wr.cell? ⟨xb, 5, none⟩ = some (.int .i64 (P.t : Int)) := by rw [cell_of_heap hh]; rfl
                                        have c6 : wr.cell? ⟨xb, 6, none⟩ = some (.int .i64 (P.k : Int)) := by rw [cell_of_heap hh]; rfl
                                        have c7 : wr.cell? ⟨xb, 7, none⟩ = some (.int .i64 (P.d : Int)) := by rw [cell_of_heap hh]; rfl
                                        have c8 : wr.cell? ⟨xb, 8, none⟩ = some (.int .i64 (P.e : Int)) := by rw [cell_of_heap hh]; rfl
                                        have c9 : wr.cell? ⟨xb, 9, none⟩ = some (.slice lo P.R lc) := by rw [cell_of_heap hh]; rfl
                                        have c10 : wr.cell? ⟨xb, 10, none⟩ = some (.slice ho P.R hc) := by rw [cell_of_heap hh]; rfl
                                        have c11 : wr.cell? ⟨xb, 11, none⟩ = some (.slice (some ⟨wq, 0, none⟩) P.R P.R) := by rw [cell_of_heap hh]; rfl
                                        have c12 : wr.cell? ⟨xb, 12, none⟩ = some (.slice (some ⟨tq, 0, none⟩) P.R P.R) := by rw [cell_of_heap hh]; rfl
                                        clear hh hRi HRd HWs HFr
                                        have HCz := hide cz
                                        have HCf := hide cf
                                        have HC0 := hide ch0
                                        have HC1 := hide ch1
                                        clear cz cf ch0 ch1
                                        have HZs := hide (show s.wt r ≤ 100000 by have := (lx_si HR13.out.l HJ.out).1.w6 r; omega)
                                        generalize gF P r = a1 at HGo HW6
                                        generalize gT P r = a2 at HGo HW6
                                        generalize flU P u r = fi at HCf HW6
                                        generalize s.wt r = c0 at *
                                        generalize clr15 P u f 0 = h0v at HC0 HW6
                                        generalize clr15 P u f 1 = h1v at HC1 HW6
                                        have HBt : Hid ((a1 < a2 ∧ c0 = 0 ∧ fi = false ∧ h0v ≠ r1 ∧ h1v ≠ r1) → bt = true) := hide HW6.out.1
                                        have HBf : Hid (¬ (a1 < a2 ∧ c0 = 0 ∧ fi = false ∧ h0v ≠ r1 ∧ h1v ≠ r1) → bt = false) := hide (fun h => by cases hb : bt; rfl; exact absurd (HW6.out.2 hb) h)
                                        clear HW6
                                        go_upto_region 46 with fail
                                        obtain ⟨wg, hwg⟩ : ∃ wg, wg = wr := ⟨_, rfl⟩
                                        subst hwg
                                        go_wp2_with fail
                                        refine (HGo.out).mono ?_
                                        rintro e w16 ⟨rfl, t16⟩
                                        have HT16 := hide (HT.out.trans t16)
                                        have HO16 : Hid (Row w16 B vw (wantL P u s.wt r)) := hide (HO.out.keep t16 (by simp))
                                        have HB16 := hide (Nat.le_trans HBs.out t16.size)
                                        have cz : w16.cell? ⟨zb, r, none⟩ = some (.int .i64 (c0 : Int)) := by rw [t16.cell (block_lt HCz.out) (by simp)]; exact HCz.out
                                        have cf : w16.cell? ⟨fb, r, none⟩ = some (.bool fi) := by rw [t16.cell (block_lt HCf.out) (by simp)]; exact HCf.out
                                        have ch0 : w16.cell? ⟨hb, 0, none⟩ = some (.int .i64 (h0v : Int)) := by rw [t16.cell (block_lt HC0.out) (by simp)]; exact HC0.out
                                        have ch1 : w16.cell? ⟨hb, 1, none⟩ = some (.int .i64 (h1v : Int)) := by rw [t16.cell (block_lt HC1.out) (by simp)]; exact HC1.out
                                        clear t16 HT HO HBs HCz HCf HC0 HC1 HGo c4 c5 c6 c7 c8 c9 c10 c11 c12
                                        go_upto_region 49 with fail
                                        clear hlr hr hR6
                                        go_cut [253] (fun s253 wc => s253 = .bool bt ∧ Aside (wc = w16))
                                        case first =>
                                          by_cases hg : a1 < a2
                                          · have hgi : (a1 : Int) < (a2 : Int) := Int.ofNat_lt.2 hg
                                            by_cases hc : c0 = 0
                                            · subst hc
                                              cases fi
                                              · by_cases e0 : h0v = r1
                                                · subst e0
                                                  have hb := HBf.out (fun h => h.2.2.2.1 rfl)
                                                  clear HBf HBt ch1
                                                  go_wp2_with fail
                                                  go_meet
                                                  case rel => exact ⟨by rw [hb], rfl⟩
                                                · have e0i : ¬ (h0v : Int) = (r1 : Int) := fun h => e0 (Int.ofNat.inj h)
                                                  have e0j : ¬ (h0v : Int) = (r : Int) + 1 := fun h => e0i (h.trans HI1.out)
                                                  by_cases e1 : h1v = r1
                                                  · subst e1
                                                    have hb := HBf.out (fun h => h.2.2.2.2 rfl)
                                                    clear HBf HBt
                                                    go_wp2_with fail
                                                    go_meet
                                                    case rel => exact ⟨by rw [hb], rfl⟩
                                                  · have e1i : ¬ (h1v : Int) = (r1 : Int) := fun h => e1 (Int.ofNat.inj h)
                                                    have e1j : ¬ (h1v : Int) = (r : Int) + 1 := fun h => e1i (h.trans HI1.out)
                                                    have hb := HBt.out ⟨hg, rfl, rfl, e0, e1⟩
                                                    clear HBf HBt
                                                    go_wp2_with fail
                                                    go_meet
                                                    case rel => exact ⟨by first | (rw [hb]; done) | (rw [hb]; simp [e0i, e0j, e1i, e1j]), rfl⟩
                                              · have hb := HBf.out (fun h => by have := h.2.2.1; cases this)
                                                clear HBf HBt ch0 ch1
                                                go_wp2_with fail
                                                go_meet
                                                case rel => exact ⟨by rw [hb], rfl⟩
                                            · have hci : ¬ (c0 : Int) = 0 := fun h => hc (Int.ofNat_eq_zero.1 h)
                                              have hb := HBf.out (fun h => hc h.2.1)
                                              clear HBf HBt ch0 ch1 cf
                                              go_wp2_with fail
                                              go_meet
                                              case rel => exact ⟨by rw [hb], rfl⟩
                                          · have hgi : ¬ (a1 : Int) < (a2 : Int) := fun h => hg (Int.ofNat_lt.1 h)
                                            have hb := HBf.out (fun h => hg h.1)
                                            clear HBf HBt ch0 ch1 cf
                                            go_wp2_with fail
                                            go_meet
                                            case rel => exact ⟨by rw [hb], rfl⟩
                                        case rest =>
                                        obtain ⟨rfl, hwc⟩ := hcut
                                        have hwc2 := hwc.out
                                        clear hwc
                                        subst hwc2
                                        clear HBf HBt cf ch0 ch1 cz
                                        obtain ⟨w16, hwq⟩ : ∃ w16, w16 = wc := ⟨_, rfl⟩
                                        subst hwq
                                        cases bt
                                        · have HN := hide (HNt.out (by decide))
                                          clear HNt HYt
                                          go_wp2_with fail
                                          go_roundg (P.R - r1)
                                          case measure => exact HMe.out
                                          case rel => exact ⟨r1, vw, rfl, by first | rfl | exact congrArg (Value.int .i64) HI1.out | exact congrArg (Value.int .i64) HW1.out, rfl, HRe.out, by rw [HN.out]; exact HO16.out, HT16.out, HB16.out⟩
                                        · have HY := hide (HYt.out rfl)
                                          clear HNt HYt
                                          generalize wantL P u s.wt r = L0 at HO16 HY HLw6
                                          have hbs : ∀ w : World, (Instr.buildSlice 23 1 #[(0, .int .i64 (r : Int))]).run Tryz.prog w = .ok (.slice (some ⟨w.heap.size, 0, none⟩) 1 1) (w.alloc (.cells #[.int .i64 (r : Int)] 3)) := fun w => by kernel_rfl
                                          have hU : Turned [] w16 (w16.alloc (.cells #[.int .i64 (r : Int)] 3)) := (Turned.refl [] w16).alloc _
                                          have HT17 := hide (HT16.out.trans hU)
                                          have HO17 : Hid (Row (w16.alloc (.cells #[.int .i64 (r : Int)] 3)) B vw L0) := hide (HO16.out.keep hU (by simp))
                                          have HB17 := hide (Nat.le_trans HB16.out hU.size)
                                          have HNw : Hid (∀ j u, [Value.int .i64 (r : Int)][j]? = some u → (w16.alloc (.cells #[.int .i64 (r : Int)] 3)).cell? ((⟨w16.heap.size, 0, none⟩ : Addr).add j) = some u) := hide (fun j u hu => cell_one_newR w16 _ _ j u hu)
                                          clear hU HO16 HB16 HT16
                                          go_wp2_with (at_builtin; refine wpList_append_own _ rfl _ _ 23 rfl B 3 i0 (.int .i64 0) 1 8 Tryz.underlying23 HI.out.1 HI.out.2.1 HI.out.2.2.1 HI.out.2.2.2 rfl (by decide) vw L0.length (L0.map (Value.int .i64)) rfl HO17.out ⟨w16.heap.size, 0, none⟩ 1 1 [.int .i64 (r : Int)] rfl rfl HNw.out (by intro u hu; simp at hu; subst hu; rfl) (few63 HLw6.out).1 (few63 HLw6.out).2 HB17.out ?_; intro v10 w17 hown hgr hvv)
                                          have HO18 : Hid (Row w17 B v10 (wantL P u s.wt r1)) := hide (by rw [HY.out]; unfold Row; rw [List.length_append, List.map_append]; exact hown)
                                          have a17 : Turned [] w13 (w16.alloc (.cells #[.int .i64 (r : Int)] 3)) := HT17.out
                                          have b17 : World.ownsRow (w16.alloc (.cells #[.int .i64 (r : Int)] 3)) B 3 1 vw L0.length (L0.map (Value.int .i64)) := HO17.out
                                          have c17 : w13.heap.size ≤ B := HB.out
                                          have HT18 : Hid (Turned [] w13 w17) := hide (a17.grown hgr (fun k hk => .inr (Nat.le_trans c17 (ownsRow_lt b17 k hk).1)))
                                          clear a17 b17 c17
                                          have HB18 := hide (Nat.le_trans HB17.out hgr.size)
                                          clear hown hgr hvv HO17 HT17 HB17 HNw hbs HY
                                          go_wp2_with fail
                                          go_roundg (P.R - r1)
                                          case measure => exact HMe.out
                                          case rel => exact ⟨r1, _, rfl, by first | rfl | exact congrArg (Value.int .i64) HI1.out | exact congrArg (Value.int .i64) HW1.out, rfl, HRe.out, HO18.out, HT18.out, HB18.out⟩
                                · have hri : ¬ (r : Int) < (P.R : Int) := by omega
                                  have hrR : r = P.R := by omega
                                  subst hrR
                                  have HR15 := hide (HR13.out.quiet HT.out)
                                  have HLk : Hid ((wantL P u s.wt P.R).length = s.H.length) := hide (by rw [← HRk.out]; unfold srt; rw [List.length_mergeSort, hI_len])
                                  have HRy := hide (lx_ready HR15.out.l HJ.out HLf.out)
                                  rw [HRk.out] at HRy
                                  have hL6 := wantL_len P u s.wt P.R
                                  have HLv : Hid (∀ x, x ∈ wantL P u s.wt P.R → ∃ r : Nat, r < P.R ∧ x = (r : Int)) := hide (fun x hx => by
                                    obtain ⟨r0, a, _, b⟩ := (wantL_mem P u s.wt P.R x).1 hx
                                    exact ⟨r0, a, b⟩)
                                  generalize wantL P u s.wt P.R = W at *
                                  clear HWi HWc HF13 HRw HTb13 HR13 hlr hr HT
                                  go_wp2_with fail
                                  refine (HRy.out).mono ?_
                                  rintro e w16 ⟨vg, rfl, hrg, t16⟩
                                  have HR16 := hide (HR15.out.quiet t16)
                                  obtain ⟨ga, gc, rfl, hgd⟩ := hrg.rd
                                  obtain ⟨wa, wc2, rfl, hwd⟩ := (HO.out.keep t16 (by simp)).rd
                                  have HGd := hide hgd
                                  have HWd2 := hide hwd
                                  clear hrg t16 hgd hwd HR15 HRy HO HBs
                                  obtain ⟨ln, hln⟩ : ∃ ln, ln = W.length := ⟨_, rfl⟩
                                  rw [← hln] at HGd HWd2 HLk hL6 ⊢
                                  have HWl := hide hln
                                  clear hln
                                  go_wp2_with fail
                                  go_loopg [32] ln (fun gg s32 wr => ∃ (k2 : Nat), s32 = .int .i64 (k2 : Int) ∧ gg = ln - k2 ∧ k2 ≤ ln ∧ Aside (Turned [] w16 wr))
                                  case atStart => exact ⟨0, rfl, rfl, Nat.zero_le _, Turned.refl [] w16⟩
                                  case round =>
                                    as_aux_lemma =>
                                      obtain ⟨k2, rfl, rfl, hk2, hwr⟩ := hrel
                                      have HT8 := hide hwr.out
                                      clear hwr
                                      by_cases hlk : k2 < ln
                                      · have hki : (k2 : Int) < (ln : Int) := by omega
                                        obtain ⟨x, hx⟩ : ∃ x, W[k2]? = some x := ⟨_, List.getElem?_eq_getElem (by rw [← HWl.out]; exact hlk)⟩
                                        obtain ⟨g1, o1, rfl, cg⟩ := (HGd.out.turned0 HT8.out).cell k2 x hx
                                        obtain ⟨g2, o2, rfl, cw2⟩ := (HWd2.out.turned0 HT8.out).cell k2 x hx
                                        clear hx
                                        go_wp2_with fail
                                        go_quiet (fail)
                                        go_wp2_with fail
                                        go_roundg (ln - (k2 + 1))
                                        case measure => omega
                                        case rel => exact ⟨k2 + 1, by go_num, rfl, by omega, HT8.out.drewN _⟩
                                      · have hki : ¬ (k2 : Int) < (ln : Int) := by omega
                                        have hk2n : kw < 2 := by have := HPl.out; omega
                                        have hk2i : (kw : Int) < 2 := by omega
                                        have HR17 := hide (HR16.out.quiet HT8.out)
                                        have HWd3 := hide (HWd2.out.turned0 HT8.out)
                                        clear HR16 HWd2 HT8
                                        have ck := HR17.out.cell hk2n
                                        have fk := HR17.out.fz kw
                                        clear HGd hlk hk2
                                        by_cases hz : clr15 P u f kw = 0
                                        · by_cases hl0 : ln = 0
                                          · have HF3 : Hid (∀ k, k < 2 → clr15 P u f k = (fun k => if k = kw ∧ clr15 P u f kw = 0 ∧ s.H.length ≠ 0 then leastV s.H + 1 else clr15 P u f k) k) := hide (fun k _ => by show _ = if _ then _ else _; rw [if_neg (fun h => h.2.2 (by rw [← HLk.out]; exact hl0))])
                                            rw [hz] at ck
                                            subst hl0
                                            have HRs := hide (HR17.out.congr HF3.out)
                                            have HSt := hide (lx_step HR17.out.l HJ.out kw HPl.out)
                                            clear HF3 hz HR17 HWd3 HLw HLk
                                            go_wp2_with fail
                                            refine (HSt.out).mono ?_
                                            rintro e w18 ⟨u2, v2, m2, rfl, hl2, _, _, _, _, ho2⟩
                                            have HRn := hide (HRs.out.step hl2 ho2)
                                            have HHn := hide (HasI.next HHs.out (lx_si HRs.out.l HJ.out).1 HFt.out (by rw [words15_len]; have := HPt.out; omega) (by omega) HLf.out HPl.out (lx_si hl2 HJ.out).1)
                                            clear hl2 ho2 HSt HRs
                                            go_wp2_with fail
                                            go_roundg (201 - (i + 1))
                                            case measure => omega
                                            case rel => exact ⟨i + 1, u2, _, v2, m2, _, rfl, by omega, by go_num, HRn, HHn⟩
                                          · have hl0i : (0 : Int) < (ln : Int) := by omega
                                            obtain ⟨l1, hl1⟩ : ∃ l1, l1 = leastV s.H + 1 := ⟨_, rfl⟩
                                            have h1 : W[0]? = some ((leastV s.H : Nat) : Int) := HLw.out (by rw [← HLk.out]; exact hl0)
                                            obtain ⟨g2, o2, rfl, cw2⟩ := HWd3.out.cell 0 _ h1
                                            rw [Nat.add_zero] at cw2
                                            have hlb : leastV s.H < 100000 := by
                                              obtain ⟨r0, hr0, e0⟩ := HLv.out _ (List.mem_of_getElem? h1)
                                              omega
                                            have hw3 : wrap64 (((leastV s.H : Nat) : Int) + 1) = (l1 : Int) := by unfold wrap64; omega
                                            have HF3 : Hid (∀ k, k < 2 → (if k = kw then l1 else clr15 P u f k) = (fun k => if k = kw ∧ clr15 P u f kw = 0 ∧ s.H.length ≠ 0 then leastV s.H + 1 else clr15 P u f k) k) := hide (fun k _ => by
                                              show _ = if _ then _ else _
                                              by_cases ek : k = kw
                                              · rw [if_pos ek, if_pos ⟨ek, hz, by rw [← HLk.out]; exact hl0⟩, hl1]
                                              · rw [if_neg ek, if_neg (fun h => ek h.1)])
                                            rw [hz] at ck
                                            have HRs := hide ((HR17.out.set kw l1 hk2n).congr HF3.out)
                                            have HSt := hide (lx_step (HR17.out.set kw l1 hk2n).l HJ.out kw HPl.out)
                                            clear HF3 hz h1 hlb HR17 HWd3 HLw HLk hl1
                                            generalize leastV s.H = lv at cw2 hw3
                                            go_wp2_with fail
                                            refine (HSt.out).mono ?_
                                            rintro e w18 ⟨u2, v2, m2, rfl, hl2, _, _, _, _, ho2⟩
                                            have HRn := hide (HRs.out.step hl2 ho2)
                                            have HHn := hide (HasI.next HHs.out (lx_si HRs.out.l HJ.out).1 HFt.out (by rw [words15_len]; have := HPt.out; omega) (by omega) HLf.out HPl.out (lx_si hl2 HJ.out).1)
                                            clear hl2 ho2 HSt HRs
                                            go_wp2_with fail
                                            go_roundg (201 - (i + 1))
                                            case measure => omega
                                            case rel => exact ⟨i + 1, u2, _, v2, m2, _, rfl, by omega, by go_num, HRn, HHn⟩
                                        · have hzi : ¬ ((clr15 P u f kw : Nat) : Int) = 0 := by omega
                                          have HF3 : Hid (∀ k, k < 2 → clr15 P u f k = (fun k => if k = kw ∧ clr15 P u f kw = 0 ∧ s.H.length ≠ 0 then leastV s.H + 1 else clr15 P u f k) k) := hide (fun k _ => by show _ = if _ then _ else _; rw [if_neg (fun h => hz h.2.1)])
                                          have HRs := hide (HR17.out.congr HF3.out)
                                          have HSt := hide (lx_step HR17.out.l HJ.out kw HPl.out)
                                          clear HF3 hz HR17 HWd3 HLw HLk
                                          generalize clr15 P u f kw = ckv at ck hzi
                                          go_wp2_with fail
                                          refine (HSt.out).mono ?_
                                          rintro e w18 ⟨u2, v2, m2, rfl, hl2, _, _, _, _, ho2⟩
                                          have HRn := hide (HRs.out.step hl2 ho2)
                                          have HHn := hide (HasI.next HHs.out (lx_si HRs.out.l HJ.out).1 HFt.out (by rw [words15_len]; have := HPt.out; omega) (by omega) HLf.out HPl.out (lx_si hl2 HJ.out).1)
                                          clear hl2 ho2 HSt HRs
                                          go_wp2_with fail
                                          go_roundg (201 - (i + 1))
                                          case measure => omega
                                          case rel => exact ⟨i + 1, u2, _, v2, m2, _, rfl, by omega, by go_num, HRn, HHn⟩
      · have h2i : ¬ (i : Int) < 200 := by omega
        clear HDn HPk4
        go_wp2_with fail
        go_ret
        exact ⟨rfl, HTe.out⟩
    · have h1i : ¬ (i : Int) < (pl : Int) := by omega
      clear HDn HPk4
      go_wp2_with fail
      go_ret
      exact ⟨rfl, HTe.out⟩

set_option maxRecDepth 100000 in
theorem slideReady_lifted (os : Os) (started : os.Started) (H : Type) (enc : TypeId × Value → H) :
    ReturnsInHanded {} Tryz.checked os 4 .any (fun w args => (Rows.slideReadySpec.pre enc Tryz.prog Tryz.f4 [] false w args ∧ laidMetH Tryz.prog laidTab w) ∧ sizedMet enc Tryz.prog Tryz.f4 (OpenSpec.ofChange Rows.slideReadySpec) false w args)
      (Rows.slideReadySpec.post enc Tryz.prog Tryz.f4 false true false false) := by
  refine returnsInHanded_of_change_and (C := Tryz.checked) (X := fun w _ => laidMetH Tryz.prog laidTab w) (fun _ _ _ hh h => h.of_heap hh) own started (by kernel_rfl) Tryz.func4
    (ChangeSpec.witness_shaped (enc := enc) (C := Tryz.checked) (os := os) (X := fun w _ => laidMetH Tryz.prog laidTab w) false (World.doorLaid Tryz.prog 400 os) #[.slice none 0 0, .agg #[.int .i64 0, .int .i64 0, .int .i64 0, .slice none 0 0]] 8 rfl (World.shaped_of_RefB (by kernel_rfl) (by kernel_rfl)) (by kernel_rfl) (by kernel_rfl) (by kernel_rfl) (door_met os _)) ?_
  intro W base args ds gs before hval0 hW _ _ hL _
  have hTab := tab_of hL
  have hval : ∀ (j : Nat) t v, Tryz.f4.params[j]? = some t → args[j]? = some v → Value.okWide Tryz.prog W .any base t v := hval0
  have hW' := hW
  obtain ⟨p, q, hA0, hV, rfl, hfz, hnd⟩ := hW
  have hA : DataW.TrodAll enc Tryz.prog W 0 (fun _ => true) true Tryz.f4.params.toList args.toList ds p := hA0
  rw [Tryz.params4] at hA hval
  obtain ⟨v0, vs0, d0, ds0, p0, q0, hargs, rfl, rfl, h0, r0⟩ := trodAll_cons hA
  obtain ⟨v1, vs1, d1, ds1, p1, q1, rfl, rfl, rfl, h1, r1⟩ := trodAll_cons r0
  obtain ⟨rfl, rfl, rfl⟩ := trodAll_nil r1
  obtain rfl : args = #[v0, v1] := by cases args; simp_all
  obtain ⟨rfl, rfl⟩ := trodVars_none hV
  obtain ⟨a0, len0, cap0, rfl⟩ := okWide_slice Tryz.underlying22 (hval 0 22 v0 rfl rfl)
  have k0 := h0
  have lt0 : ∀ x ∈ p0, x.block < W.heap.size := by obtain ⟨m, hm⟩ := k0; exact DataW.trod_lt m _ _ _ hm
  obtain ⟨z0, w0⟩ := open_pairs h0
  have k1 := h1
  have lt1 : ∀ x ∈ p1, x.block < W.heap.size := by obtain ⟨m, hm⟩ := k1; exact DataW.trod_lt m _ _ _ hm
  obtain ⟨x1, y1, u1, po1, pl1, pc1, ps1, rfl, hx1, hy1, hu1, hp1⟩ := open_work15 (hval 1 25 v1 rfl rfl) h1
  simp only [List.append_nil] at hW'
  clear hA0 hval0
  refine (slideReady_walk a0 len0 cap0 z0 x1 y1 u1 po1 pl1 pc1 ps1 W w0 hx1 hy1 hu1 hp1 hTab).mono fun e W' ⟨he, ht⟩ => ?_
  subst he
  have bel : Below W.heap.size W W' := ht.below0
  exact ⟨_, rfl, _, _, _, [], _, [], hW', trodAll_mk1 (shut_bool Tryz.underlying4 _), (trodAll_cons_mk (Below.trod laidOut (by kernel_rfl) (of_decide_eq_true (by kernel_rfl)) k0 bel lt0) (trodAll_cons_mk (Below.trod laidOut (by kernel_rfl) (of_decide_eq_true (by kernel_rfl)) k1 bel lt1) trodAll_mk0)), rfl, bel.frame _, fun h => by cases h⟩

theorem slideReady_over : Rows.slideReadyRow.holds Tryz.pinned (OpenSpec.ofChange Rows.slideReadySpec) :=
  OpenClaim.holds_of_wide 4 Tryz.f4 rfl rfl rfl rfl rfl rfl rfl ⟨rfl, rfl, rfl, rfl, rfl⟩ rfl rfl rfl rfl rfl (by kernel_rfl) Tryz.func4 (by kernel_rfl)
    (of_decide_eq_true (by kernel_rfl)) (by unfold Func.isWrapper; first | (rw [if_pos (by decide +kernel)]; kernel_rfl) | (rw [if_neg (by decide +kernel)]; exact ⟨rfl, rfl⟩))
    (fun os started H enc _ => slideReady_lifted os started H enc)

theorem slideReady_holds : Rows.SlideReadySaid := slideReady_over

theorem slideReady_card : Rows.SlideReadyCardSaid :=
  Claim7.holds_tied_plain_at .later [] [.data] true _ true
    slideReady_holds (fun _ h => by cases h) (by kernel_rfl) (fun _ h => by cases h) slideReady_row_tie rfl ⟨rfl, rfl⟩ (by kernel_rfl) rfl
    (fun f fn hf hfn => by
      obtain rfl : f = 4 := Option.some.inj ((show Tryz.prog.funcNamed "ballast/ballastlaw15.SlideReady" = some 4 by kernel_rfl).symm.trans hf) |>.symm
      obtain rfl : fn = Tryz.f4 := (Option.some.inj (Tryz.func4.symm.trans hfn)).symm
      exact ⟨by kernel_rfl, fun j t ht => by
        rw [Tryz.params4] at ht
        have h3 : t ∈ [22, 25] := by
          have h4 := Array.mem_of_getElem? ht
          simpa using h4
        have h5 : ∀ u, u ∈ [22, 25] → Tryz.prog.wantsStandIn u = false := by
          intro u hu
          simp only [List.mem_cons, List.not_mem_nil, or_false] at hu
          rcases hu with rfl | rfl <;> kernel_rfl
        exact h5 t h3⟩)
    (by kernel_rfl)
end Go.Proofs.YtbmlggemheljkaaGreatDoor
