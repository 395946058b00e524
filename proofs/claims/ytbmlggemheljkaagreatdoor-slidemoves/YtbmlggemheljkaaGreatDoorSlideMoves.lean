/-
  SlideMoves: no word is stored into a region as long as another one that takes words out of it is not filled; each live word from Dense on is copied once, none is stored to twice; in the end each word is where it goes. For every list of blocks, any region, waste and workers, and any order of steps.
-/
import Derived.Test.YtbmlggemheljkaaGreatDoorPack21
import Derived.Test.YtbmlggemheljkaaGreatDoorPack19
import Derived.Test.YtbmlggemheljkaaGreatDoorPack11
import Derived.Test.YtbmlggemheljkaaGreatDoorCards
import Derived.Test.YtbmlggemheljkaaGreatDoorTie
import Derived.SevenTiedAt
namespace Go.Proofs.YtbmlggemheljkaaGreatDoor
open Go.ChangeShapes Go.WideShapes Go.ChangeAt Go.RowKit Bt
set_option linter.unusedVariables false
set_option linter.unusedSimpArgs false


theorem wrap_one15m {k : Nat} (h : k ≤ 100000) : IntKind.i64.wrap (1 + (k : Int)) = (k : Int) + 1 := by
  rw [IntKind.wrap_i64]; omega
set_option maxHeartbeats 8000000 in
set_option maxRecDepth 100000 in
theorem slideMoves_walk (ao : Option Addr) (len cap : Nat) (cs : List (Int × Int)) (x y z : Int) (po : Option Addr) (pl pc : Nat) (ps : List Int) (w : World) (h : TwRd w ao len cs) (hx : In64 x) (hy : In64 y) (hz : In64 z) (hp : PkRd w po pl ps) (hT : Tab w) :
    Calls Tryz.prog 3 #[.slice ao len cap, .agg #[.int .i64 x, .int .i64 y, .int .i64 z, .slice po pl pc]] w fun e w' => e = .returned (.bool true) ∧ Turned [] w w' := by
  have H0 := hide (block_lt (hT 0 (by omega)))
  have hTB := (Turned.refl [] w).alloc (.cells #[.int .i64 x, .int .i64 y, .int .i64 z, .slice po pl pc] 25)
  have hgB := heap_alloc_new w (.cells #[.int .i64 x, .int .i64 y, .int .i64 z, .slice po pl pc] 25)
  have HAw := hide (awake15 _ (hT.turned hTB (by simp)))
  have HTab := hide hT
  have HO := hide h
  have HTB := hide hTB
  have HPy := hide (fun w' : World => pick15 y 40 w' hy (by omega))
  have HPz := hide (fun w' : World => pick15 z 61 w' hz (by omega))
  have HPx := hide (fun w' : World => pick15 x 6 w' hx (by omega))
  rw [show ((6 : Nat) : Int) = 6 from rfl] at HPx
  rw [show ((40 : Nat) : Int) = 40 from rfl] at HPy
  rw [show ((61 : Nat) : Int) = 61 from rfl] at HPz
  have hk1 := pkF_lt y (show 0 < 40 by omega)
  have hv1 := pkF_lt z (show 0 < 61 by omega)
  have hx1 := pkF_lt x (show 0 < 6 by omega)
  generalize pkF x 6 = kk at *
  generalize pkF y 40 = k at *
  generalize pkF z 61 = vv at *
  have hwr := wrap_one15m (k := k) (by omega)
  have HMd := hide (fun (w' : World) (t : Turned [] w w') => lmade15 ao len cap cs (k + 1) vv 150 w' (by omega) (by omega) (by omega) (by omega) (HO.out.turned t) (HTab.out.turned t (by simp)))
  rw [show ((150 : Nat) : Int) = 150 from rfl, show ((k + 1 : Nat) : Int) = (k : Int) + 1 from by omega] at HMd
  have HBl := hide (mkS_bl 150 cs (min len 60))
  generalize mkS 150 cs (min len 60) = S at *
  have HPk := hide hp
  clear h hT hp hx hy hz hTB
  go_enter Tryz.func3, Tryz.ntmps3
  go_upto_region 1 with fail
  generalize w.alloc (.cells #[.int .i64 x, .int .i64 y, .int .i64 z, .slice po pl pc] 25) = wB at *
  obtain ⟨qb, hqb⟩ : ∃ qb, qb = w.heap.size := ⟨_, rfl⟩
  rw [← hqb] at hgB ⊢
  have HG := hide hgB
  clear hqb hgB
  go_wp2_with fail
  refine (HAw.out).mono ?_
  rintro e w2 ⟨rfl, t2⟩
  have HT2 := hide (HTB.out.trans t2)
  have hg2 : w2.heap[qb]? = some (.cells #[.int .i64 x, .int .i64 y, .int .i64 z, .slice po pl pc] 25) := by rw [t2.block qb (lt_of_heap HG.out) (by simp)]; exact HG.out
  have q1 : w2.drew.cell? ⟨qb, 1, none⟩ = some (.int .i64 y) := by show w2.cell? _ = _; rw [cell_of_heap hg2]; rfl
  have q2 : w2.drew.cell? ⟨qb, 2, none⟩ = some (.int .i64 z) := by show w2.cell? _ = _; rw [cell_of_heap hg2]; rfl
  have HD2 := hide (HT2.out.drew)
  have HGx := hide hg2
  clear t2 HAw HG HTB hg2
  go_wp2_with fail
  go_region_held3 (fun w' => w'.cell? ⟨qb, 1, none⟩ = some (.int .i64 y) ∧ w'.cell? ⟨qb, 2, none⟩ = some (.int .i64 z)) (go_keep)
    (first
      | (go_at_call 11; refine (HPy.out _).mono ?_; rintro e wz ⟨rfl, hwz⟩; subst hwz; clear HPy)
      | (go_at_call 11; refine (HPz.out _).mono ?_; rintro e wz ⟨rfl, hwz⟩; subst hwz; clear HPz)
      | (go_at_call 10; refine (HMd.out _ HD2.out).mono ?_; rintro e w3 ⟨xb, cp, cq, bp, bq, rp, rq, P, wv, l, a, wq, tq, rfl, hwd, hmem, hM, hlo, t3⟩; have z1 : w3.cell? ⟨qb, 1, none⟩ = some (.int .i64 y) := (by rw [t3.cell (block_lt q1) (by simp)]; exact q1); have z2 : w3.cell? ⟨qb, 2, none⟩ = some (.int .i64 z) := (by rw [t3.cell (block_lt q2) (by simp)]; exact q2); have HWd := hide hwd; have HMm := hide hmem; have HMk := hide hM; have HLo := hide hlo; have HT3 := hide (HD2.out.trans t3); have HT23 := hide ((Turned.refl [] w2).drew.trans t3); clear hwd hmem hM hlo t3))
  clear q1 q2 z1 z2 HD2 HMd
  have hg3 : w3.heap[qb]? = some (.cells #[.int .i64 x, .int .i64 y, .int .i64 z, .slice po pl pc] 25) := by rw [HT23.out.block qb (lt_of_heap HGx.out) (by simp)]; exact HGx.out
  have HG3 := hide hg3
  have q0 : w3.cell? ⟨qb, 0, none⟩ = some (.int .i64 x) := by rw [cell_of_heap hg3]; rfl
  obtain ⟨n, hn⟩ : ∃ n : Nat, n = kk + 1 := ⟨_, rfl⟩
  have hnw : wrap64 (1 + (kk : Int)) = (n : Int) := by unfold wrap64; omega
  have hn1 : 1 ≤ n := by omega
  have hn6 : n ≤ 6 := by omega
  clear hn hx1 hg3 HGx HT23
  have HNw := hide (fun (w' : World) (tt : Turned [] w3 w') => lx_new2 w w3 w' xb cp cq bp bq rp rq 150 n (k + 1) vv S P wv l a wq tq HWd.out HMm.out HMk.out HBl.out HLo.out.2.2.2 HT3.out ⟨H0.out, Nat.le_trans HT2.out.size HLo.out.2.1, Nat.le_trans HT2.out.size HLo.out.2.2.1⟩ (by omega) (by omega) (by omega) (by omega) tt)
  obtain ⟨lo, lc, rfl⟩ : ∃ lo lc, l = .slice lo P.R lc := own_opens HWd.out.dpl.lv.choose_spec
  obtain ⟨ho, hc, rfl⟩ : ∃ ho hc, a = .slice ho P.R hc := own_opens HWd.out.dpl.ah.choose_spec
  go_wp2_with fail
  refine (HPx.out _).mono ?_
  rintro e wz ⟨rfl, hwz⟩
  rw [hwz]; clear hwz wz HPx q0
  go_upto_region 4 with fail
  have hxx : w3.drew.heap[xb]? = some (.cells (wdC cp wv bp rp P (.slice lo P.R lc) (.slice ho P.R hc) (slc wq P.R) (slc tq P.R)) 41) := HWd.out.head
  have x0 : w3.drew.cell? ⟨xb, 0, none⟩ = some (.pointer (some ⟨cp, 0, none⟩)) := by rw [cell_of_heap hxx]; rfl
  have x2 : w3.drew.cell? ⟨xb, 2, none⟩ = some (.pointer (some ⟨bp, 0, none⟩)) := by rw [cell_of_heap hxx]; rfl
  have x4 : w3.drew.cell? ⟨xb, 4, none⟩ = some (.int .i64 (P.f : Int)) := by rw [cell_of_heap hxx]; rfl
  have x5 : w3.drew.cell? ⟨xb, 5, none⟩ = some (.int .i64 (P.t : Int)) := by rw [cell_of_heap hxx]; rfl
  have x6 : w3.drew.cell? ⟨xb, 6, none⟩ = some (.int .i64 (P.k : Int)) := by rw [cell_of_heap hxx]; rfl
  have x7 : w3.drew.cell? ⟨xb, 7, none⟩ = some (.int .i64 (P.d : Int)) := by rw [cell_of_heap hxx]; rfl
  have x8 : w3.drew.cell? ⟨xb, 8, none⟩ = some (.int .i64 (P.e : Int)) := by rw [cell_of_heap hxx]; rfl
  have x9 : w3.drew.cell? ⟨xb, 9, none⟩ = some (.slice lo P.R lc) := by rw [cell_of_heap hxx]; rfl
  have x10 : w3.drew.cell? ⟨xb, 10, none⟩ = some (.slice ho P.R hc) := by rw [cell_of_heap hxx]; rfl
  have x11 : w3.drew.cell? ⟨xb, 11, none⟩ = some (.slice (some ⟨wq, 0, none⟩) P.R P.R) := by rw [cell_of_heap hxx]; rfl
  have x12 : w3.drew.cell? ⟨xb, 12, none⟩ = some (.slice (some ⟨tq, 0, none⟩) P.R P.R) := by rw [cell_of_heap hxx]; rfl
  have HD3 := hide ((Turned.refl [] w3).drew)
  clear hxx
  go_wp2_with fail
  go_region_held3 (fun w' => w'.cell? ⟨xb, 0, none⟩ = some (.pointer (some ⟨cp, 0, none⟩)) ∧ w'.cell? ⟨xb, 2, none⟩ = some (.pointer (some ⟨bp, 0, none⟩)) ∧ w'.cell? ⟨xb, 4, none⟩ = some (.int .i64 (P.f : Int)) ∧ w'.cell? ⟨xb, 5, none⟩ = some (.int .i64 (P.t : Int)) ∧ w'.cell? ⟨xb, 6, none⟩ = some (.int .i64 (P.k : Int)) ∧ w'.cell? ⟨xb, 7, none⟩ = some (.int .i64 (P.d : Int)) ∧ w'.cell? ⟨xb, 8, none⟩ = some (.int .i64 (P.e : Int)) ∧ w'.cell? ⟨xb, 9, none⟩ = some (.slice lo P.R lc) ∧ w'.cell? ⟨xb, 10, none⟩ = some (.slice ho P.R hc) ∧ w'.cell? ⟨xb, 11, none⟩ = some (.slice (some ⟨wq, 0, none⟩) P.R P.R) ∧ w'.cell? ⟨xb, 12, none⟩ = some (.slice (some ⟨tq, 0, none⟩) P.R P.R)) (go_keep)
    (first
      | (go_at_call 12; refine (HNw.out _ HD3.out).mono ?_; rintro e w4 ⟨J, sb, v, m, rfl, hl, hj, hj0, hj3, hsz, ht4⟩; have y0 : w4.cell? ⟨xb, 0, none⟩ = some (.pointer (some ⟨cp, 0, none⟩)) := (by rw [ht4.cell (block_lt x0) (by simp)]; exact x0); have y2 : w4.cell? ⟨xb, 2, none⟩ = some (.pointer (some ⟨bp, 0, none⟩)) := (by rw [ht4.cell (block_lt x2) (by simp)]; exact x2); have y4 : w4.cell? ⟨xb, 4, none⟩ = some (.int .i64 (P.f : Int)) := (by rw [ht4.cell (block_lt x4) (by simp)]; exact x4); have y5 : w4.cell? ⟨xb, 5, none⟩ = some (.int .i64 (P.t : Int)) := (by rw [ht4.cell (block_lt x5) (by simp)]; exact x5); have y6 : w4.cell? ⟨xb, 6, none⟩ = some (.int .i64 (P.k : Int)) := (by rw [ht4.cell (block_lt x6) (by simp)]; exact x6); have y7 : w4.cell? ⟨xb, 7, none⟩ = some (.int .i64 (P.d : Int)) := (by rw [ht4.cell (block_lt x7) (by simp)]; exact x7); have y8 : w4.cell? ⟨xb, 8, none⟩ = some (.int .i64 (P.e : Int)) := (by rw [ht4.cell (block_lt x8) (by simp)]; exact x8); have y9 : w4.cell? ⟨xb, 9, none⟩ = some (.slice lo P.R lc) := (by rw [ht4.cell (block_lt x9) (by simp)]; exact x9); have y10 : w4.cell? ⟨xb, 10, none⟩ = some (.slice ho P.R hc) := (by rw [ht4.cell (block_lt x10) (by simp)]; exact x10); have y11 : w4.cell? ⟨xb, 11, none⟩ = some (.slice (some ⟨wq, 0, none⟩) P.R P.R) := (by rw [ht4.cell (block_lt x11) (by simp)]; exact x11); have y12 : w4.cell? ⟨xb, 12, none⟩ = some (.slice (some ⟨tq, 0, none⟩) P.R P.R) := (by rw [ht4.cell (block_lt x12) (by simp)]; exact x12); have HL := hide hl; have HJ := hide hj; have HJ0 := hide hj0; have HJ3 := hide hj3; have HT4 := hide ((HT3.out.drew).trans ht4); clear hl hj hj0 hj3 hsz ht4))
  clear x0 x2 x4 x5 x6 x7 x8 x9 x10 x11 x12 y0 y2 y4 y5 y6 y7 y8 y9 y10 y11 y12 HNw HD3 HMm HMk HLo HWd HT3
  obtain ⟨-, hFt, hPt, -, hPR⟩ := lx_si HL.out HJ.out
  have HFt := hide hFt
  have HPt := hide hPt
  have hR6 : P.R ≤ 1000 := hPR
  have HAc : Hid (0 ≤ (startS P S (words15 150) 0 n).ac ∧ (startS P S (words15 150) 0 n).ac ≤ ((0 : Nat) : Int)) := hide (by
    have := (startR_mem P (start0 P S (words15 150) 0 n) P.R).2
    have e : (startS P S (words15 150) 0 n).ac = 0 := this
    rw [e]; omega)
  have HMv0 : Hid ((startS P S (words15 150) 0 n).mv = []) := hide (startR_spec (P := P) (start0 P S (words15 150) 0 n) rfl P.R).2.2.2.2.2.2.1
  have hL0 : Hid ((startS P S (words15 150) 0 n).mv.length = 0) := hide (by rw [HMv0.out]; rfl)
  generalize startS P S (words15 150) 0 n = s0 at *
  generalize zeroU = u0 at *
  clear hFt hPt HMv0
  have HTl0 : Hid (400 ≤ 0 → Tl P n u0 s0 0 3200) := hide (fun h => by omega)
  go_wp2_with fail
  go_loopg [10, 11, 12, 13, 14, 15, 16, 17, 18, 19] 5800 (fun gg s10 s11 s12 s13 s14 s15 s16 s17 s18 s19 wr => ∃ (i : Nat) (u : Nat → Nat) (s : SlS) (v m : Value), gg = 5800 - i ∧ i ≤ 3201 ∧ s11 = .int .i64 (i : Int) ∧ s10 = .int .i64 (s.mv.length : Int) ∧ Hid (Ls J wr u s v m) ∧ Hid (0 ≤ s.ac ∧ s.ac ≤ (i : Int)) ∧ Hid (400 ≤ i → Tl P n u s i 3200))
  case atStart => exact ⟨0, u0, s0, v, m, rfl, by omega, rfl, by rw [hL0.out]; rfl, HL, HAc, HTl0⟩
  case round =>
    clear HL HAc HTl0 hL0
    obtain ⟨i, u, s, v, m, rfl, hi, rfl, rfl, HL, HAc, HTl⟩ := hrel
    obtain ⟨w4, hw4⟩ : ∃ w4, w4 = wr := ⟨_, rfl⟩
    subst hw4
    have hii : (i : Int) < 5800 := by omega
    have HDn := hide (lx_done HL.out HJ.out)
    have hL6 : s.mv.length ≤ 1000 := HL.out.mv6.2
    obtain ⟨L, hL⟩ : ∃ L, L = s.mv.length := ⟨_, rfl⟩
    have HLe := hide hL
    rw [← hL] at hL6 ⊢
    clear hL
    by_cases hl : s.left = 0
    · rw [decide_eq_true hl] at HDn
      have HLf := hide hl
      clear hl HTl HAc
      go_wp2_with fail
      refine (HDn.out).mono ?_
      rintro e w5 ⟨rfl, hw5⟩
      rw [hw5]; clear hw5 w5 HDn
      have hend := (lx_si HL.out HJ.out).1.end_ HFt.out HLf.out
      have hee := HFt.out.et
      have HEe : Hid (P.e ≤ 150) := hide (by rw [← HPt.out]; exact hee)
      have hde : P.d ≤ P.e := by have := HFt.out.e_; omega
      have hLd : (L : Int) = (P.e : Int) - (P.d : Int) := by have := hend.2.1; have := HLe.out; omega
      have HLd := hide hLd
      have HWz := hide hend.2.2.1
      have HEw : Hid (∀ i, i < 150 → s.hw[i]? = some (finF P S P.e i)) := hide (fun i hi => end_words (lx_si HL.out HJ.out).1 HFt.out HPt.out HLf.out hi)
      have hwd := lx_wd HL.out HJ.out
      obtain ⟨B, hrow, -⟩ := hwd.row
      obtain ⟨gw, gwc, rfl, -, -, hgw⟩ := own_words (by omega) hrow
      have HSl : Hid (∀ w', Turned [] w4 w' → _) := hide (fun w' (tt : Turned [] w4 w') => rslid15 P S 150 gw gwc rp J.rq (.slice lo P.R lc) (.slice ho P.R hc) wq tq w' HFt.out HPt.out (by omega) (hwd.rb.turned0 tt) (fun j x hj => by rw [tt.cell (block_lt (hgw j x hj)) (by simp)]; exact hgw j x hj) ⟨_, _, _, _, rfl, rfl⟩)
      have hyy : w4.drew.heap[xb]? = some (.cells (wdC cp (.slice (some ⟨gw, 0, none⟩) 150 gwc) J.bp rp P (.slice lo P.R lc) (.slice ho P.R hc) (slc wq P.R) (slc tq P.R)) 41) := hwd.head
      have y0 : w4.drew.cell? ⟨xb, 0, none⟩ = some (.pointer (some ⟨cp, 0, none⟩)) := by rw [cell_of_heap hyy]; rfl
      have y2 : w4.drew.cell? ⟨xb, 2, none⟩ = some (.pointer (some ⟨J.bp, 0, none⟩)) := by rw [cell_of_heap hyy]; rfl
      have y4 : w4.drew.cell? ⟨xb, 4, none⟩ = some (.int .i64 (P.f : Int)) := by rw [cell_of_heap hyy]; rfl
      have y5 : w4.drew.cell? ⟨xb, 5, none⟩ = some (.int .i64 (P.t : Int)) := by rw [cell_of_heap hyy]; rfl
      have y6 : w4.drew.cell? ⟨xb, 6, none⟩ = some (.int .i64 (P.k : Int)) := by rw [cell_of_heap hyy]; rfl
      have y7 : w4.drew.cell? ⟨xb, 7, none⟩ = some (.int .i64 (P.d : Int)) := by rw [cell_of_heap hyy]; rfl
      have y8 : w4.drew.cell? ⟨xb, 8, none⟩ = some (.int .i64 (P.e : Int)) := by rw [cell_of_heap hyy]; rfl
      have y9 : w4.drew.cell? ⟨xb, 9, none⟩ = some (.slice lo P.R lc) := by rw [cell_of_heap hyy]; rfl
      have y10 : w4.drew.cell? ⟨xb, 10, none⟩ = some (.slice ho P.R hc) := by rw [cell_of_heap hyy]; rfl
      have y11 : w4.drew.cell? ⟨xb, 11, none⟩ = some (.slice (some ⟨wq, 0, none⟩) P.R P.R) := by rw [cell_of_heap hyy]; rfl
      have y12 : w4.drew.cell? ⟨xb, 12, none⟩ = some (.slice (some ⟨tq, 0, none⟩) P.R P.R) := by rw [cell_of_heap hyy]; rfl
      have y3 : w4.drew.cell? ⟨xb, 3, none⟩ = some (.pointer (some ⟨rp, 0, none⟩)) := by rw [cell_of_heap hyy]; rfl
      have y1 : w4.drew.cell? ⟨xb, 1, none⟩ = some (.slice (some ⟨gw, 0, none⟩) 150 gwc) := by rw [cell_of_heap hyy]; rfl
      have HT4d := hide ((Turned.refl [] w4).drew)
      clear hend hee hLd hwd hrow hgw hyy hde hL6 hi hR6 hn1 hn6
      go_wp2_with fail
      go_region_held3 (fun w' => w'.cell? ⟨xb, 4, none⟩ = some (.int .i64 (P.f : Int)) ∧ w'.cell? ⟨xb, 5, none⟩ = some (.int .i64 (P.t : Int)) ∧ w'.cell? ⟨xb, 6, none⟩ = some (.int .i64 (P.k : Int)) ∧ w'.cell? ⟨xb, 7, none⟩ = some (.int .i64 (P.d : Int)) ∧ w'.cell? ⟨xb, 8, none⟩ = some (.int .i64 (P.e : Int)) ∧ w'.cell? ⟨xb, 9, none⟩ = some (.slice lo P.R lc) ∧ w'.cell? ⟨xb, 10, none⟩ = some (.slice ho P.R hc) ∧ w'.cell? ⟨xb, 11, none⟩ = some (.slice (some ⟨wq, 0, none⟩) P.R P.R) ∧ w'.cell? ⟨xb, 12, none⟩ = some (.slice (some ⟨tq, 0, none⟩) P.R P.R) ∧ w'.cell? ⟨xb, 3, none⟩ = some (.pointer (some ⟨rp, 0, none⟩)) ∧ w'.cell? ⟨xb, 1, none⟩ = some (.slice (some ⟨gw, 0, none⟩) 150 gwc)) (go_keep)
        (first
          | (go_at_call 20; refine (HSl.out _ HT4d.out).mono ?_; rintro e w10 ⟨g1, g1c, rfl, hr10, -, t10⟩; have z4 : w10.cell? ⟨xb, 4, none⟩ = some (.int .i64 (P.f : Int)) := (by rw [t10.cell (block_lt y4) (by simp)]; exact y4); have z5 : w10.cell? ⟨xb, 5, none⟩ = some (.int .i64 (P.t : Int)) := (by rw [t10.cell (block_lt y5) (by simp)]; exact y5); have z6 : w10.cell? ⟨xb, 6, none⟩ = some (.int .i64 (P.k : Int)) := (by rw [t10.cell (block_lt y6) (by simp)]; exact y6); have z7 : w10.cell? ⟨xb, 7, none⟩ = some (.int .i64 (P.d : Int)) := (by rw [t10.cell (block_lt y7) (by simp)]; exact y7); have z8 : w10.cell? ⟨xb, 8, none⟩ = some (.int .i64 (P.e : Int)) := (by rw [t10.cell (block_lt y8) (by simp)]; exact y8); have z9 : w10.cell? ⟨xb, 9, none⟩ = some (.slice lo P.R lc) := (by rw [t10.cell (block_lt y9) (by simp)]; exact y9); have z10 : w10.cell? ⟨xb, 10, none⟩ = some (.slice ho P.R hc) := (by rw [t10.cell (block_lt y10) (by simp)]; exact y10); have z11 : w10.cell? ⟨xb, 11, none⟩ = some (.slice (some ⟨wq, 0, none⟩) P.R P.R) := (by rw [t10.cell (block_lt y11) (by simp)]; exact y11); have z12 : w10.cell? ⟨xb, 12, none⟩ = some (.slice (some ⟨tq, 0, none⟩) P.R P.R) := (by rw [t10.cell (block_lt y12) (by simp)]; exact y12); have z3 : w10.cell? ⟨xb, 3, none⟩ = some (.pointer (some ⟨rp, 0, none⟩)) := (by rw [t10.cell (block_lt y3) (by simp)]; exact y3); have zz : w10.cell? ⟨xb, 1, none⟩ = some (.slice (some ⟨gw, 0, none⟩) 150 gwc) := (by rw [t10.cell (block_lt y1) (by simp)]; exact y1); have HL10 := hide (HL.out.quiet ((Turned.refl [] w4).drew.trans t10)); have HG10 := hide hr10; clear t10 hr10))
      clear z4 z5 z6 z7 z8 z9 z10 z11 z12 z3 zz y0 y2 y4 y5 y6 y7 y8 y9 y10 y11 y12 y3 y1 HSl HT4d HL
      have HWo := hide (lx_words HL10.out HJ.out (by omega))
      rw [show ((150 : Nat) : Int) = 150 from rfl] at HWo
      have hh := (lx_wd HL10.out HJ.out).head
      have c0 : w10.cell? ⟨xb, 0, none⟩ = some (.pointer (some ⟨cp, 0, none⟩)) := by rw [cell_of_heap hh]; rfl
      clear hh
      go_wp2_with fail
      refine (HWo.out).mono ?_
      rintro e w11 ⟨g2, g2c, rfl, -, hg2, -, t11⟩
      have HL11 := hide (HL10.out.quiet t11)
      have HG11 := hide (HG10.out.turned0 t11)
      have HK11 : Hid (∀ i, i < 150 → w11.cell? ⟨g2, i, none⟩ = some (.int .i64 (finF P S P.e i))) := hide (fun i hi => hg2 i _ (HEw.out i hi))
      have hh := (lx_wd HL11.out HJ.out).head
      have c7 : w11.cell? ⟨xb, 7, none⟩ = some (.int .i64 (P.d : Int)) := by rw [cell_of_heap hh]; rfl
      have c8 : w11.cell? ⟨xb, 8, none⟩ = some (.int .i64 (P.e : Int)) := by rw [cell_of_heap hh]; rfl
      have HD11 := hide (fun mm : Nat => lx_done (HL11.out.quiet ((Turned.refl [] w11).drewN mm)) HJ.out)
      rw [decide_eq_true HLf.out] at HD11
      have HS11 := hide (fun mm : Nat => lx_step_end (HL11.out.quiet ((Turned.refl [] w11).drewN mm)) HJ.out HLf.out 0)
      have hsub : IntKind.i64.wrap ((P.e : Int) - (P.d : Int)) = (L : Int) := by rw [IntKind.wrap_i64]; have := HLd.out; have := HEe.out; omega
      clear hg2 t11 hh HWo HL10 HG10 HEw c0
      go_wp2_with fail
      go_quiet (first
        | (go_at_call 13; exact Calls.quiet_of_same (HD11.out _))
        | (go_at_call 16; exact Calls.quiet_of_same (HS11.out _)))
      go_wp2_with fail
      have HQ := hide ((Turned.refl [] w11).drewN nq)
      have HL12 := hide (HL11.out.quiet HQ.out)
      have HG12 := hide (HG11.out.turned0 HQ.out)
      have HK12 : Hid (∀ i, i < 150 → (w11.drewN nq).cell? ⟨g2, i, none⟩ = some (.int .i64 (finF P S P.e i))) := HK11
      generalize w11.drewN nq = w12 at *
      clear HL11 HG11 HK11 HD11 HS11 c7 c8 hsub HQ
      have hE6 := HEe.out
      go_loopg [22] P.e (fun gg s22 wr => ∃ (ix : Nat), gg = P.e - ix ∧ ix ≤ P.e ∧ s22 = .int .i64 (ix : Int) ∧ Hid (Ls J wr u s v m) ∧ Hid (Ri wr 2 g1 150 (finF P S P.e)) ∧ Hid (∀ i, i < 150 → wr.cell? ⟨g2, i, none⟩ = some (.int .i64 (finF P S P.e i))))
      case atStart => exact ⟨0, rfl, Nat.zero_le _, rfl, HL12, HG12, HK12⟩
      case round =>
        clear HL12 HG12 HK12
        obtain ⟨ix, rfl, hix, rfl, HL, HG, HK⟩ := hrel
        obtain ⟨w13, hw13⟩ : ∃ w13, w13 = wr := ⟨_, rfl⟩
        subst hw13
        have hh := (lx_wd HL.out HJ.out).head
        have c8 : w13.cell? ⟨xb, 8, none⟩ = some (.int .i64 (P.e : Int)) := by rw [cell_of_heap hh]; rfl
        clear hh
        by_cases hlt : ix < P.e
        · have hii2 : (ix : Int) < (P.e : Int) := by omega
          have hi150 : (ix : Int) < 150 := by omega
          have ci1 := HG.out.cell (show ix < 150 by omega)
          have ci2 := HK.out ix (by omega)
          generalize finF P S P.e ix = X at *
          go_wp2_with fail
          go_quiet (fail)
          go_wp2_with fail
          have HQ := hide ((Turned.refl [] w13).drewN nq)
          have HLq := hide (HL.out.quiet HQ.out)
          have HGq := hide (HG.out.turned0 HQ.out)
          have HKq : Hid (∀ i, i < 150 → (w13.drewN nq).cell? ⟨g2, i, none⟩ = some (.int .i64 (finF P S P.e i))) := HK
          clear ci1 ci2 c8 HQ
          go_roundg (P.e - (ix + 1))
          case measure => omega
          case rel => exact ⟨ix + 1, rfl, hlt, by go_num, HLq, HGq, HKq⟩
        · have hii2 : ¬ (ix : Int) < (P.e : Int) := by omega
          have HWt := hide (lx_waits HL.out HJ.out)
          clear hlt HG HK
          go_wp2_with fail
          refine (HWt.out).mono ?_
          rintro e w14 ⟨zb, zc, rfl, hri, -, t14⟩
          have HL14 := hide (HL.out.quiet t14)
          have HZ14 : Hid (Ri w14 3 zb P.R (fun _ => 0)) := hide (hri.congr (fun i hi => by rw [HWz.out i hi]; rfl))
          clear hri t14 HWt HL c8 hii2 hE6 hix
          have hR7 : P.R ≤ 1000 := (lx_si HL14.out HJ.out).2.2.2.2
          go_wp2_with fail
          go_loopg [24] P.R (fun gg s24 wr => ∃ (ix : Nat), gg = P.R - ix ∧ ix ≤ P.R ∧ s24 = .int .i64 (ix : Int) ∧ Hid (Ls J wr u s v m) ∧ Hid (Ri wr 3 zb P.R (fun _ => 0)))
          case atStart => exact ⟨0, rfl, Nat.zero_le _, rfl, HL14, HZ14⟩
          case round =>
            clear HL14 HZ14
            obtain ⟨iy, rfl, hiy, rfl, HL, HZ⟩ := hrel
            obtain ⟨w15, hw15⟩ : ∃ w15, w15 = wr := ⟨_, rfl⟩
            subst hw15
            by_cases hlt : iy < P.R
            · have hii2 : (iy : Int) < (P.R : Int) := by omega
              have cz := HZ.out.cell hlt
              go_wp2_with fail
              go_roundg (P.R - (iy + 1))
              case measure => omega
              case rel => exact ⟨iy + 1, rfl, hlt, by go_num, HL, HZ⟩
            · have hii2 : ¬ (iy : Int) < (P.R : Int) := by omega
              have HRy := hide (lx_ready_end HL.out HJ.out HLf.out)
              have HT15 := hide HL.out.t_
              clear hlt HZ
              go_wp2_with fail
              refine (HRy.out).mono ?_
              rintro e w16 ⟨rfl, hw16⟩
              rw [hw16]; clear hw16 w16 HRy
              go_wp2_with fail
              go_ret
              exact ⟨rfl, by rw [← HJ0.out]; exact HT15.out⟩
    · rw [decide_eq_false hl] at HDn
      have HLf := hide hl
      have hi2 : i ≤ 3200 := tl_le HTl.out hl (by omega)
      clear hl
      have hm0 : ¬ (n : Int) = 0 := by omega
      have hm1 : ¬ (n : Int) = -1 := by omega
      have hmod : (i : Int).tmod (n : Int) = ((i % n : Nat) : Int) := by rw [Int.tmod_eq_emod_of_nonneg (by omega)]; rfl
      have hmlt : i % n < n := Nat.mod_lt _ (by omega)
      obtain ⟨kt, hkt⟩ : ∃ kt, kt = i % n := ⟨_, rfl⟩
      rw [← hkt] at hmod hmlt
      have HKt := hide hkt
      clear hkt
      have hgq : w4.heap[qb]? = some (.cells #[.int .i64 x, .int .i64 y, .int .i64 z, .slice po pl pc] 25) := HL.out.keep (by rw [HJ3.out]; exact HG3.out) (by decide) (by decide)
      have q3 : w4.cell? ⟨qb, 3, none⟩ = some (.slice po pl pc) := by rw [cell_of_heap hgq]; rfl
      have HPk4 : Hid (PkRd w4 po pl ps) := hide (HPk.out.turned (by have := HL.out.t_; rwa [HJ0.out] at this))
      clear hgq
      go_wp2_with fail
      refine (HDn.out).mono ?_
      rintro e w5 ⟨rfl, hw5⟩
      rw [hw5]; clear hw5 w5 HDn
      go_upto_region 12 with fail
      obtain ⟨bq, hbq⟩ : ∃ bq, bq = decide (i < pl ∧ i < 400) := ⟨_, rfl⟩
      have HBq := hide hbq
      clear hbq
      go_cut [82] (fun s82 wc => s82 = .bool bq ∧ Aside (wc = w4))
      case first =>
        by_cases h1 : i < pl
        · have h1i : (i : Int) < (pl : Int) := by omega
          by_cases h2 : i < 400
          · have h2i : (i : Int) < 400 := by omega
            have hb : bq = true := by rw [HBq.out]; exact decide_eq_true ⟨h1, h2⟩
            go_wp2_with fail
            go_meet
            case rel => exact ⟨by rw [hb], rfl⟩
          · have h2i : ¬ (i : Int) < 400 := by omega
            have hb : bq = false := by rw [HBq.out]; exact decide_eq_false (by omega)
            go_wp2_with fail
            go_meet
            case rel => exact ⟨by rw [hb], rfl⟩
        · have h1i : ¬ (i : Int) < (pl : Int) := by omega
          have hb : bq = false := by rw [HBq.out]; exact decide_eq_false (by omega)
          go_wp2_with fail
          go_meet
          case rel => exact ⟨by rw [hb], rfl⟩
      case rest =>
      obtain ⟨rfl, hwc⟩ := hcut
      have hwc2 := hwc.out
      clear hwc
      subst hwc2
      go_upto_if 82 with fail
      go_cut [12] (fun s12 wc => ∃ kw : Nat, s12 = .int .i64 (kw : Int) ∧ kw < n ∧ Aside (400 ≤ i → kw = i % n) ∧ Aside (Ls J wc u s v m))
      case first =>
        by_cases hbt : bq = true
        · have hpi : i < pl ∧ i < 400 := by have := HBq.out; rw [hbt] at this; exact of_decide_eq_true this.symm
          subst hbt
          obtain ⟨c, hc⟩ : ∃ c, ps[i]? = some c := ⟨_, List.getElem?_eq_getElem (by rw [HPk4.out.size]; exact hpi.1)⟩
          obtain ⟨b, off, rfl, cpk⟩ := HPk4.out.cell i c hc
          have HPc := hide (fun w' : World => pick15 c n w' (HPk4.out.inn c (List.mem_of_getElem? hc)) ⟨by omega, by omega⟩)
          have HPl := hide (pkF_lt c (n := n) (by omega))
          have h1 : (i : Int) < (pl : Int) := by omega
          generalize pkF c n = kp at *
          have H400 : Hid (400 ≤ i → kp = i % n) := hide (fun h => by omega)
          clear hpi hc HBq
          go_wp2_with fail
          refine (HPc.out _).mono ?_
          rintro e w5 ⟨rfl, hw5⟩
          rw [hw5]; clear hw5 w5 HPc
          go_wp2_with fail
          go_meet
          case rel => exact ⟨kp, rfl, HPl.out, H400.out, HL.out⟩
        · rw [Bool.not_eq_true] at hbt
          subst hbt
          clear HBq
          go_wp2_with fail
          go_meet
          case rel => exact ⟨kt, rfl, hmlt, fun _ => HKt.out, HL.out⟩
      case rest =>
        clear HL HPk4 q3 hmod hmlt HKt HBq
        obtain ⟨kw, rfl, hkn, hka, hL5⟩ := hcut
        have HL5 := hide hL5.out
        have HKa := hide hka.out
        clear hL5 hka
        obtain ⟨w5, hw5⟩ : ∃ w5, w5 = wc := ⟨_, rfl⟩
        subst hw5
        have HWt := hide (lx_waits HL5.out HJ.out)
        go_wp2_with fail
        refine (HWt.out).mono ?_
        rintro e w6 ⟨zb, zc, rfl, hri, hzn, t6⟩
        have HL6 := hide (HL5.out.quiet t6)
        have HZ6 := hide hri
        have HZn := hide hzn
        have HSs := hide (lx_steps HL6.out HJ.out)
        have HSt := hide (lx_step HL6.out HJ.out kw hkn)
        have hh6 := (lx_wd HL6.out HJ.out).head
        have c60 : w6.cell? ⟨xb, 0, none⟩ = some (.pointer (some ⟨cp, 0, none⟩)) := by rw [cell_of_heap hh6]; rfl
        have HZl := hide hri.lt
        clear hri hzn t6 HWt hh6
        obtain ⟨ac, hac⟩ : ∃ ac, ac = s.ac := ⟨_, rfl⟩
        rw [← hac] at HSs
        have HAe := hide hac
        obtain ⟨s', hs'⟩ : ∃ s', s' = stepSl P S s kw := ⟨_, rfl⟩
        rw [← hs'] at HSt
        clear hac hs'
        go_wp2_with fail
        refine (HSs.out).mono ?_
        rintro e w7 ⟨rfl, hw7⟩
        rw [hw7]; clear hw7 w7 HSs
        clear c60
        go_wp2_with fail
        refine (HSt.out).mono ?_
        rintro e w7 ⟨u', v', m', rfl, h7, d7, r7, a7, b7, o7⟩
        have HL7 := hide h7
        have HZ7 : Hid (Ri w7 3 zb P.R (fun j => (s.wt j : Nat))) := hide (by
          obtain ⟨c, hc1, hc2⟩ := HZ6.out
          exact ⟨c, by rw [o7.keep HL5.out.sl HZn.out HZl.out]; exact hc1, hc2⟩)
        have HDd := hide d7
        have HTl7 : Hid (400 ≤ i + 1 → Tl P n u' s' (i + 1) 3200) := hide (tl_next 400 3200 (lx_si h7 HJ.out).1 (lx_si HL5.out HJ.out).1 HFt.out hn1 HTl.out HLf.out HKa.out (fun ha => a7 HLf.out ha) (fun hna => b7 (fun hh => hna hh.2)) (by
          have h1 := rem_le (lx_si h7 HJ.out).1 HFt.out (by rw [HPt.out]; exact Nat.le_refl _)
          have h2 := rem_mul h1 hn6
          omega))
        have HA7 : Hid (0 ≤ s'.ac ∧ s'.ac ≤ (i : Int) + 1 ∧ s'.ac ≤ ac + 1) := hide (by
          rw [HAe.out]; exact d7.acc HAc.out.1 HAc.out.2 (by omega))
        have HMv := hide (lx_moves h7 HJ.out)
        clear h7 d7 r7 a7 b7 o7 HSt HZ6 HTl HKa
        go_wp2_with fail
        refine (HMv.out).mono ?_
        rintro e w8 ⟨mo, mc, rfl, hrd, -, t8⟩
        have HL8 := hide (HL7.out.quiet t8)
        have HRd := hide hrd
        have HZ8 := hide (HZ7.out.turned0 t8)
        have HS8 := hide (lx_steps HL8.out HJ.out)
        have hh8 := (lx_wd HL8.out HJ.out).head
        have c80 : w8.cell? ⟨xb, 0, none⟩ = some (.pointer (some ⟨cp, 0, none⟩)) := by rw [cell_of_heap hh8]; rfl
        clear hrd t8 HMv HZ7 HL7 hh8
        have hac1 := HA7.out
        have hac0 : ac ≤ 5800 ∧ 0 ≤ ac := by have := HAc.out; rw [HAe.out]; omega
        have hw1 : wrap64 (ac + 1) = ac + 1 := by unfold wrap64; omega
        have hL1 : wrap64 ((L : Int) + 1) = (L : Int) + 1 := by unfold wrap64; omega
        have hng : ¬ ac + 1 < s'.ac := by omega
        have hwi : wrap64 ((i : Int) + 1) = (i : Int) + 1 := by unfold wrap64; omega
        obtain ⟨ac2, hac2⟩ : ∃ a2, a2 = s'.ac := ⟨_, rfl⟩
        have HAe2 := hide hac2
        rw [← hac2] at hng HS8
        clear hac1 hac0 hac2
        have HBd := hide (And.intro hL6 (And.intro hi2 (And.intro hkn (And.intro hn1 (And.intro hn6 hR6)))))
        clear hL6 hi2 hkn hn1 hn6 hR6 hi hii hm0 hm1 hk1 hv1 hwr hnw
        rcases Did.len HDd.out with hlen | hlen
        · rw [← HLe.out] at hlen
          have HLn := hide hlen
          rw [hlen] at HRd ⊢
          clear hlen
          have e1 : ¬ (L : Int) + 1 < (L : Int) := by omega
          go_wp2_with fail
          refine (HS8.out).mono ?_
          rintro e w9 ⟨rfl, hw9⟩
          rw [hw9]; clear hw9 w9 HS8
          go_wp2_with fail
          have hi9 := HBd.out.2.1
          go_roundg (5800 - (i + 1))
          case measure => omega
          case rel => exact ⟨i + 1, u', s', v', m', rfl, Nat.succ_le_succ HBd.out.2.1, by go_num, by rw [HLn.out], HL8, hide ⟨HA7.out.1, by have := HA7.out.2.1; omega⟩, HTl7⟩
        · rw [← HLe.out] at hlen
          have HLn := hide hlen
          rw [hlen] at HRd ⊢
          clear hlen
          have e1 : ¬ (L : Int) + 1 < (L : Int) + 1 := by omega
          have e2 : ¬ (L : Int) + 1 < (L : Int) := by omega
          have e3 : (L : Int) < (L : Int) + 1 := by omega
          go_wp2_with fail
          refine (HS8.out).mono ?_
          rintro e w9 ⟨rfl, hw9⟩
          rw [hw9]; clear hw9 w9 HS8
          obtain ⟨b, hbm, hb1, hb2, hb3, hb4⟩ : ∃ b, s'.mv = s.mv ++ [(srcN P S b, b)] ∧ P.d ≤ b ∧ b < P.e ∧ stored P u b = false ∧ s.wt (P.reg b) = 0 := by
            rcases HDd.out.mv with e | h
            · have := HLn.out; rw [e, ← HLe.out] at this; omega
            · exact h
          have HBm := hide hbm
          have HB3 := hide hb3
          have hbe : P.e ≤ P.t := HFt.out.et
          have hreg := PN.reg_in HFt.out.ok (x := b) (by have := HFt.out.fd; omega) (by omega)
          have HRg := hide (lx_region HFt.out (.slice lo P.R lc) (.slice ho P.R hc) wq tq (b : Int) w8)
          rw [show rgI P (b : Int) = ((P.reg b : Nat) : Int) by unfold rgI; rw [if_pos ⟨by have := HFt.out.fd; omega, by omega⟩, Int.toNat_natCast]] at HRg
          have HSrc := hide (fun (w' : World) (tt : Turned [] w8 w') => lx_source (HL8.out.quiet tt) HJ.out b hb1 hb2)
          obtain ⟨mb, moff, rfl, k0, k1⟩ := HRd.out.cell L (((srcN P S b : Nat) : Int), (b : Int)) (by unfold mvI; rw [List.getElem?_map, hbm, List.getElem?_append_right (by rw [HLe.out]; exact Nat.le_refl _), HLe.out, Nat.sub_self]; rfl)
          simp only at k0 k1
          have hxx := (lx_wd HL8.out HJ.out).head
          have x0 : w8.cell? ⟨xb, 0, none⟩ = some (.pointer (some ⟨cp, 0, none⟩)) := by rw [cell_of_heap hxx]; rfl
          have x2 : w8.cell? ⟨xb, 2, none⟩ = some (.pointer (some ⟨J.bp, 0, none⟩)) := by rw [cell_of_heap hxx]; rfl
          have x4 : w8.cell? ⟨xb, 4, none⟩ = some (.int .i64 (P.f : Int)) := by rw [cell_of_heap hxx]; rfl
          have x5 : w8.cell? ⟨xb, 5, none⟩ = some (.int .i64 (P.t : Int)) := by rw [cell_of_heap hxx]; rfl
          have x6 : w8.cell? ⟨xb, 6, none⟩ = some (.int .i64 (P.k : Int)) := by rw [cell_of_heap hxx]; rfl
          have x7 : w8.cell? ⟨xb, 7, none⟩ = some (.int .i64 (P.d : Int)) := by rw [cell_of_heap hxx]; rfl
          have x8 : w8.cell? ⟨xb, 8, none⟩ = some (.int .i64 (P.e : Int)) := by rw [cell_of_heap hxx]; rfl
          have x9 : w8.cell? ⟨xb, 9, none⟩ = some (.slice lo P.R lc) := by rw [cell_of_heap hxx]; rfl
          have x10 : w8.cell? ⟨xb, 10, none⟩ = some (.slice ho P.R hc) := by rw [cell_of_heap hxx]; rfl
          have x11 : w8.cell? ⟨xb, 11, none⟩ = some (.slice (some ⟨wq, 0, none⟩) P.R P.R) := by rw [cell_of_heap hxx]; rfl
          have x12 : w8.cell? ⟨xb, 12, none⟩ = some (.slice (some ⟨tq, 0, none⟩) P.R P.R) := by rw [cell_of_heap hxx]; rfl
          clear hxx
          have HLk : Hid (∀ kx, kx < L → ∃ ak bk : Nat, (mvI s'.mv)[kx]? = some ((ak : Int), (bk : Int)) ∧ ak ≠ srcN P S b ∧ bk ≠ b) := hide (fun kx hk => by
            have hk2 : kx < s.mv.length := by rw [← HLe.out]; exact hk
            obtain ⟨p, hp⟩ : ∃ p, s.mv[kx]? = some p := ⟨_, List.getElem?_eq_getElem hk2⟩
            obtain ⟨p1, p2⟩ := p
            refine ⟨p1, p2, by unfold mvI; rw [List.getElem?_map, hbm, List.getElem?_append_left hk2, hp]; rfl, ?_⟩
            have hsi := (lx_si HL5.out HJ.out).1
            obtain ⟨g1, g2⟩ := (hsi.m1 p1 p2).1 (List.mem_of_getElem? hp)
            have hne : p2 ≠ b := fun e => by rw [e, hb3] at g1; cases g1
            refine ⟨fun e => ?_, hne⟩
            unfold stored at g1
            rw [decide_eq_true_eq] at g1
            have s1 := HFt.out.srcs g1.1 g1.2.1
            have s2 := HFt.out.srcs hb1 hb2
            rw [← g2, e] at s1
            exact hne (s1.inj s2 g1.1 hb1))
          have hzc : w8.cell? ⟨zb, P.reg b, none⟩ = some (.int .i64 0) := by
            have h9 := HZ8.out.cell hreg.1
            simp only [hb4] at h9
            exact h9
          have hr1 : ¬ ((P.reg b : Nat) : Int) < 0 := by omega
          have hr2 : ¬ (P.R : Int) ≤ ((P.reg b : Nat) : Int) := by omega
          have hr3 : ((P.reg b : Nat) : Int) < (P.R : Int) := by omega
          have hr4 := hreg.1
          clear hbm hb1 hb2 hb3 hb4 hbe hreg HDd HZn HZl
          generalize P.reg b = rg at *
          generalize srcN P S b = sr at *
          have HHr := hide (And.intro hr1 (And.intro hr2 hr3))
          have HHr4 := hide hr4
          clear hr1 hr2 hr3 hr4
          go_wp2_with fail
          refine (HRg.out).mono ?_
          rintro e w9 ⟨rfl, t9⟩
          have HL9 := hide (HL8.out.quiet t9)
          have HRd9 := hide (HRd.out.turned t9)
          have HU9 := hide t9
          have hz9 : w9.drew.cell? ⟨zb, rg, none⟩ = some (.int .i64 0) := by show w9.cell? _ = _; rw [t9.cell (block_lt hzc) (by simp)]; exact hzc
          have hyy : w9.drew.heap[xb]? = _ := (lx_wd HL9.out HJ.out).head
          have y0 : w9.drew.cell? ⟨xb, 0, none⟩ = some (.pointer (some ⟨cp, 0, none⟩)) := by rw [cell_of_heap hyy]; rfl
          have y2 : w9.drew.cell? ⟨xb, 2, none⟩ = some (.pointer (some ⟨J.bp, 0, none⟩)) := by rw [cell_of_heap hyy]; rfl
          have y4 : w9.drew.cell? ⟨xb, 4, none⟩ = some (.int .i64 (P.f : Int)) := by rw [cell_of_heap hyy]; rfl
          have y5 : w9.drew.cell? ⟨xb, 5, none⟩ = some (.int .i64 (P.t : Int)) := by rw [cell_of_heap hyy]; rfl
          have y6 : w9.drew.cell? ⟨xb, 6, none⟩ = some (.int .i64 (P.k : Int)) := by rw [cell_of_heap hyy]; rfl
          have y7 : w9.drew.cell? ⟨xb, 7, none⟩ = some (.int .i64 (P.d : Int)) := by rw [cell_of_heap hyy]; rfl
          have y8 : w9.drew.cell? ⟨xb, 8, none⟩ = some (.int .i64 (P.e : Int)) := by rw [cell_of_heap hyy]; rfl
          have y9 : w9.drew.cell? ⟨xb, 9, none⟩ = some (.slice lo P.R lc) := by rw [cell_of_heap hyy]; rfl
          have y10 : w9.drew.cell? ⟨xb, 10, none⟩ = some (.slice ho P.R hc) := by rw [cell_of_heap hyy]; rfl
          have y11 : w9.drew.cell? ⟨xb, 11, none⟩ = some (.slice (some ⟨wq, 0, none⟩) P.R P.R) := by rw [cell_of_heap hyy]; rfl
          have y12 : w9.drew.cell? ⟨xb, 12, none⟩ = some (.slice (some ⟨tq, 0, none⟩) P.R P.R) := by rw [cell_of_heap hyy]; rfl
          have y3 : w9.drew.cell? ⟨xb, 3, none⟩ = some (.pointer (some ⟨rp, 0, none⟩)) := by rw [cell_of_heap hyy]; rfl
          have HD9 := hide (t9.drew)
          clear t9 hyy HRg HL8 HRd HZ8 c80 hzc k0 k1 x0 x2 x4 x5 x6 x7 x8 x9 x10 x11 x12
          have hr1 := HHr.out.1
          have hr2 := HHr.out.2.1
          have hr3 := HHr.out.2.2
          have d1 : decide (((rg : Nat) : Int) < 0) = false := decide_eq_false (by omega)
          have d2 : decide ((P.R : Int) ≤ ((rg : Nat) : Int)) = false := decide_eq_false (by omega)
          have d3 : decide (P.R ≤ rg) = false := decide_eq_false (by omega)
          go_wp2_with fail
          go_region_held3 (fun w' => w'.cell? ⟨xb, 4, none⟩ = some (.int .i64 (P.f : Int)) ∧ w'.cell? ⟨xb, 5, none⟩ = some (.int .i64 (P.t : Int)) ∧ w'.cell? ⟨xb, 6, none⟩ = some (.int .i64 (P.k : Int)) ∧ w'.cell? ⟨xb, 7, none⟩ = some (.int .i64 (P.d : Int)) ∧ w'.cell? ⟨xb, 8, none⟩ = some (.int .i64 (P.e : Int)) ∧ w'.cell? ⟨xb, 9, none⟩ = some (.slice lo P.R lc) ∧ w'.cell? ⟨xb, 10, none⟩ = some (.slice ho P.R hc) ∧ w'.cell? ⟨xb, 11, none⟩ = some (.slice (some ⟨wq, 0, none⟩) P.R P.R) ∧ w'.cell? ⟨xb, 12, none⟩ = some (.slice (some ⟨tq, 0, none⟩) P.R P.R) ∧ w'.cell? ⟨xb, 3, none⟩ = some (.pointer (some ⟨rp, 0, none⟩)) ∧ w'.cell? ⟨zb, rg, none⟩ = some (.int .i64 0)) (go_keep)
            (first
              | (go_at_call 19; refine (HSrc.out _ HD9.out).mono ?_; rintro e w10 ⟨rfl, t10⟩; have z4 : w10.cell? ⟨xb, 4, none⟩ = some (.int .i64 (P.f : Int)) := (by rw [t10.cell (block_lt y4) (by simp)]; exact y4); have z5 : w10.cell? ⟨xb, 5, none⟩ = some (.int .i64 (P.t : Int)) := (by rw [t10.cell (block_lt y5) (by simp)]; exact y5); have z6 : w10.cell? ⟨xb, 6, none⟩ = some (.int .i64 (P.k : Int)) := (by rw [t10.cell (block_lt y6) (by simp)]; exact y6); have z7 : w10.cell? ⟨xb, 7, none⟩ = some (.int .i64 (P.d : Int)) := (by rw [t10.cell (block_lt y7) (by simp)]; exact y7); have z8 : w10.cell? ⟨xb, 8, none⟩ = some (.int .i64 (P.e : Int)) := (by rw [t10.cell (block_lt y8) (by simp)]; exact y8); have z9 : w10.cell? ⟨xb, 9, none⟩ = some (.slice lo P.R lc) := (by rw [t10.cell (block_lt y9) (by simp)]; exact y9); have z10 : w10.cell? ⟨xb, 10, none⟩ = some (.slice ho P.R hc) := (by rw [t10.cell (block_lt y10) (by simp)]; exact y10); have z11 : w10.cell? ⟨xb, 11, none⟩ = some (.slice (some ⟨wq, 0, none⟩) P.R P.R) := (by rw [t10.cell (block_lt y11) (by simp)]; exact y11); have z12 : w10.cell? ⟨xb, 12, none⟩ = some (.slice (some ⟨tq, 0, none⟩) P.R P.R) := (by rw [t10.cell (block_lt y12) (by simp)]; exact y12); have z3 : w10.cell? ⟨xb, 3, none⟩ = some (.pointer (some ⟨rp, 0, none⟩)) := (by rw [t10.cell (block_lt y3) (by simp)]; exact y3); have zz : w10.cell? ⟨zb, rg, none⟩ = some (.int .i64 0) := (by rw [t10.cell (block_lt hz9) (by simp)]; exact hz9); have HL10 := hide (HL9.out.quiet ((Turned.refl [] w9).drew.trans t10)); have HRd10 := hide (HRd9.out.turned ((Turned.refl [] w9).drew.trans t10)); clear t10))
          clear z4 z5 z6 z7 z8 z9 z10 z11 z12 z3 zz y0 y2 y4 y5 y6 y7 y8 y9 y10 y11 y12 y3 hz9 d1 d2 d3 hr1 hr2 hr3 HHr HSrc HL9 HRd9 HD9 HU9
          go_wp2_with fail
          go_loopg [19] L (fun gg s19 wr => ∃ (kx : Nat), gg = L - kx ∧ kx ≤ L ∧ s19 = .int .i64 (kx : Int) ∧ Hid (Ls J wr u' s' v' m') ∧ Hid (TwRd wr (some ⟨mb, moff, none⟩) (L + 1) (mvI s'.mv)))
          case atStart => exact ⟨0, rfl, Nat.zero_le _, rfl, HL10, HRd10⟩
          case round =>
            clear HL10 HRd10
            obtain ⟨kx, rfl, hkx, rfl, HLk2, HRk⟩ := hrel
            obtain ⟨w11, hw11⟩ : ∃ w11, w11 = wr := ⟨_, rfl⟩
            subst hw11
            by_cases hlk : kx < L
            · have hki : (kx : Int) < (L : Int) := by omega
              have hki2 : (kx : Int) < (L : Int) + 1 := by omega
              obtain ⟨ak, bk, hk1', hk2', hk3'⟩ := HLk.out kx hlk
              obtain ⟨mb2, moff2, e2, j0, j1⟩ := HRk.out.cell kx _ hk1'
              cases e2
              simp only at j0 j1
              have g1 : ¬ (ak : Int) = (sr : Int) := by omega
              have g2 : ¬ (bk : Int) = (b : Int) := by omega
              have b1 : ((ak : Int) == (sr : Int)) = false := by simpa using g1
              have b2 : ((bk : Int) == (b : Int)) = false := by simpa using g2
              have b3 : (ak == sr) = false := by simpa using hk2'
              have b4 : (bk == b) = false := by simpa using hk3'
              clear hk1'
              have hL9 := HBd.out.1
              have hkw : wrap64 ((kx : Int) + 1) = (kx : Int) + 1 := by unfold wrap64; omega
              clear hL9
              go_wp2_with fail
              go_roundg (L - (kx + 1))
              case measure => omega
              case rel => exact ⟨kx + 1, rfl, hlk, by go_num, HLk2, HRk⟩
            · have hki : ¬ (kx : Int) < (L : Int) := by omega
              clear hlk
              go_wp2_with fail
              have hi9 := HBd.out.2.1
              go_roundg (5800 - (i + 1))
              case measure => omega
              case rel => exact ⟨i + 1, u', s', v', m', rfl, Nat.succ_le_succ HBd.out.2.1, by go_num, by rw [HLn.out]; go_num, HLk2, hide ⟨HA7.out.1, by have := HA7.out.2.1; omega⟩, HTl7⟩

set_option maxRecDepth 100000 in
theorem slideMoves_lifted (os : Os) (started : os.Started) (H : Type) (enc : TypeId × Value → H) :
    ReturnsInHanded {} Tryz.checked os 3 .any (fun w args => (Rows.slideMovesSpec.pre enc Tryz.prog Tryz.f3 [] false w args ∧ laidMetH Tryz.prog laidTab w) ∧ sizedMet enc Tryz.prog Tryz.f3 (OpenSpec.ofChange Rows.slideMovesSpec) false w args)
      (Rows.slideMovesSpec.post enc Tryz.prog Tryz.f3 false true false false) := by
  refine returnsInHanded_of_change_and (C := Tryz.checked) (X := fun w _ => laidMetH Tryz.prog laidTab w) (fun _ _ _ hh h => h.of_heap hh) own started (by kernel_rfl) Tryz.func3
    (ChangeSpec.witness_shaped (enc := enc) (C := Tryz.checked) (os := os) (X := fun w _ => laidMetH Tryz.prog laidTab w) false (World.doorLaid Tryz.prog 400 os) #[.slice none 0 0, .agg #[.int .i64 0, .int .i64 0, .int .i64 0, .slice none 0 0]] 8 rfl (World.shaped_of_RefB (by kernel_rfl) (by kernel_rfl)) (by kernel_rfl) (by kernel_rfl) (by kernel_rfl) (door_met os _)) ?_
  intro W base args ds gs before hval0 hW _ _ hL _
  have hTab := tab_of hL
  have hval : ∀ (j : Nat) t v, Tryz.f3.params[j]? = some t → args[j]? = some v → Value.okWide Tryz.prog W .any base t v := hval0
  have hW' := hW
  obtain ⟨p, q, hA0, hV, rfl, hfz, hnd⟩ := hW
  have hA : DataW.TrodAll enc Tryz.prog W 0 (fun _ => true) true Tryz.f3.params.toList args.toList ds p := hA0
  rw [Tryz.params3] at hA hval
  obtain ⟨v0, vs0, d0, ds0, p0, q0, hargs, rfl, rfl, h0, r0⟩ := trodAll_cons hA
  obtain ⟨v1, vs1, d1, ds1, p1, q1, rfl, rfl, rfl, h1, r1⟩ := trodAll_cons r0
  obtain ⟨rfl, rfl, rfl⟩ := trodAll_nil r1
  obtain rfl : args = #[v0, v1] := by cases args; simp_all
  obtain ⟨rfl, rfl⟩ := trodVars_none hV
  obtain ⟨a0, len0, cap0, rfl⟩ := okWide_slice Tryz.underlying22 (hval 0 22 v0 rfl rfl)
  have k0 := h0
  have lt0 : ∀ x ∈ p0, x.block < W.heap.size := by obtain ⟨m, hm⟩ := k0; exact DataW.trod_lt m _ _ _ hm
  obtain ⟨z0, w0⟩ := open_pairs h0
  have k1 := h1
  have lt1 : ∀ x ∈ p1, x.block < W.heap.size := by obtain ⟨m, hm⟩ := k1; exact DataW.trod_lt m _ _ _ hm
  obtain ⟨x1, y1, u1, po1, pl1, pc1, ps1, rfl, hx1, hy1, hu1, hp1⟩ := open_work15 (hval 1 25 v1 rfl rfl) h1
  simp only [List.append_nil] at hW'
  clear hA0 hval0
  refine (slideMoves_walk a0 len0 cap0 z0 x1 y1 u1 po1 pl1 pc1 ps1 W w0 hx1 hy1 hu1 hp1 hTab).mono fun e W' ⟨he, ht⟩ => ?_
  subst he
  have bel : Below W.heap.size W W' := ht.below0
  exact ⟨_, rfl, _, _, _, [], _, [], hW', trodAll_mk1 (shut_bool Tryz.underlying4 _), (trodAll_cons_mk (Below.trod laidOut (by kernel_rfl) (of_decide_eq_true (by kernel_rfl)) k0 bel lt0) (trodAll_cons_mk (Below.trod laidOut (by kernel_rfl) (of_decide_eq_true (by kernel_rfl)) k1 bel lt1) trodAll_mk0)), rfl, bel.frame _, fun h => by cases h⟩

theorem slideMoves_over : Rows.slideMovesRow.holds Tryz.pinned (OpenSpec.ofChange Rows.slideMovesSpec) :=
  OpenClaim.holds_of_wide 3 Tryz.f3 rfl rfl rfl rfl rfl rfl rfl ⟨rfl, rfl, rfl, rfl, rfl⟩ rfl rfl rfl rfl rfl (by kernel_rfl) Tryz.func3 (by kernel_rfl)
    (of_decide_eq_true (by kernel_rfl)) (by unfold Func.isWrapper; first | (rw [if_pos (by decide +kernel)]; kernel_rfl) | (rw [if_neg (by decide +kernel)]; exact ⟨rfl, rfl⟩))
    (fun os started H enc _ => slideMoves_lifted os started H enc)

theorem slideMoves_holds : Rows.SlideMovesSaid := slideMoves_over

theorem slideMoves_card : Rows.SlideMovesCardSaid :=
  Claim7.holds_tied_plain_at .later [] [.data] true _ true
    slideMoves_holds (fun _ h => by cases h) (by kernel_rfl) (fun _ h => by cases h) slideMoves_row_tie rfl ⟨rfl, rfl⟩ (by kernel_rfl) rfl
    (fun f fn hf hfn => by
      obtain rfl : f = 3 := Option.some.inj ((show Tryz.prog.funcNamed "ballast/ballastlaw15.SlideMoves" = some 3 by kernel_rfl).symm.trans hf) |>.symm
      obtain rfl : fn = Tryz.f3 := (Option.some.inj (Tryz.func3.symm.trans hfn)).symm
      exact ⟨by kernel_rfl, fun j t ht => by
        rw [Tryz.params3] at ht
        have h3 : t ∈ [22, 25] := by
          have h4 := Array.mem_of_getElem? ht
          simpa using h4
        have h5 : ∀ u, u ∈ [22, 25] → Tryz.prog.wantsStandIn u = false := by
          intro u hu
          simp only [List.mem_cons, List.not_mem_nil, or_false] at hu
          rcases hu with rfl | rfl <;> kernel_rfl
        exact h5 t h3⟩)
    (by kernel_rfl)
end Go.Proofs.YtbmlggemheljkaaGreatDoor
