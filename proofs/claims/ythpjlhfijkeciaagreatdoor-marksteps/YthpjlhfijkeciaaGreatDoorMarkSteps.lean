/-
  MarkSteps: a step has one access at most, of heap or control; a worker that has ended does nothing more; marking changes no word of the heap. For every list of things, any sizes, any roots and picks.
-/
import Derived.Test.YthpjlhfijkeciaaGreatDoorPack33
import Derived.Test.YthpjlhfijkeciaaGreatDoorPack32
import Derived.Test.YthpjlhfijkeciaaGreatDoorPack30
import Derived.Test.YthpjlhfijkeciaaGreatDoorPack19
import Derived.Test.YthpjlhfijkeciaaGreatDoorCards
import Derived.Test.YthpjlhfijkeciaaGreatDoorTie
import Derived.SevenTiedAt
import Derived.BigQuiet
namespace Go.Proofs.YthpjlhfijkeciaaGreatDoor
open Go.ChangeShapes Go.WideShapes Go.ChangeAt Go.RowKit
set_option linter.unusedVariables false
set_option linter.unusedSimpArgs false

theorem marksTo_le (sz : Nat → Nat) (m : Nat) : marksTo sz m ≤ m := Bt.cnt_le _ _
theorem new_four (w : World) : ∃ c : Array Value, (w.alloc (.cells #[.bool false, .bool false, .bool false, .bool false] 60)).heap[w.heap.size]? = some (.cells c 60) ∧ ∀ i, i < 4 → c[i]? = some (.bool ((fun _ => false) i)) :=
  ⟨_, heap_alloc_new _ _, fun i hi => by
    match i, hi with
    | 0, _ => rfl
    | 1, _ => rfl
    | 2, _ => rfl
    | 3, _ => rfl⟩

set_option maxHeartbeats 8000000 in
set_option maxRecDepth 100000 in
theorem markSteps_walk (ao : Option Addr) (cap : Nat) (ths : List Th) (x y z : Int) (ro : Option Addr) (rc : Nat) (rs : List Int) (po : Option Addr) (pc : Nat) (ps : List Int) (w : World) (h : ThR w ao ths) (hcap : ths.length ≤ cap ∧ cap ≤ 9223372036854775807) (hxyz : In64 x ∧ In64 y ∧ In64 z) (hr : IRd w ro rs.length rs) (hp : IRd w po ps.length ps) (hrc : rs.length ≤ rc ∧ rc ≤ 9223372036854775807) (hT : Bt.Tab w) :
    Calls Tryz.prog 4 #[.slice ao ths.length cap, .agg #[.int .i64 x, .int .i64 y, .int .i64 z], .agg #[.slice ro rs.length rc, .slice po ps.length pc]] w fun e w' => e = .returned (.bool true) ∧ Turned [] w w' := by
  obtain ⟨hx, hy, hz⟩ := hxyz
  obtain ⟨w0, hw0⟩ : ∃ w0, w0 = (w.alloc (.cells #[.int .i64 x, .int .i64 y, .int .i64 z] 24)).alloc (.cells #[.slice ro rs.length rc, .slice po ps.length pc] 27) := ⟨_, rfl⟩
  have hs1 : (w.alloc (.cells #[.int .i64 x, .int .i64 y, .int .i64 z] 24)).heap.size = w.heap.size + 1 := by simp
  have hT0 : Turned [] w w0 := by rw [hw0]; exact ((Turned.refl [] w).alloc _).alloc _
  have hS0 : w0.heap[w.heap.size]? = some (.cells #[.int .i64 x, .int .i64 y, .int .i64 z] 24) := by
    rw [hw0, Below.heap_alloc _ _ _ (by simp), heap_alloc_new]
  have hQ0 : w0.heap[w.heap.size + 1]? = some (.cells #[.slice ro rs.length rc, .slice po ps.length pc] 27) := by
    rw [hw0, ← hs1]; exact heap_alloc_new _ _
  obtain ⟨bs, hbs⟩ : ∃ bs, bs = w.heap.size := ⟨_, rfl⟩
  obtain ⟨bq, hbq⟩ : ∃ bq, bq = w.heap.size + 1 := ⟨_, rfl⟩
  rw [← hbs] at hS0
  rw [← hbq] at hQ0
  have HBn := hide (show w.heap.size ≤ bs ∧ w.heap.size ≤ bq ∧ bs ≠ bq by omega)
  have HTb := hide hT
  have HTh := hide h
  have HRs := hide hr
  have HPs := hide hp
  have HT0 := hide hT0
  have HS0 := hide hS0
  have HQ0 := hide hQ0
  have HXY := hide (And.intro hx hy)
  have HAw := hide (awake11 w0 (hT.turned hT0 (by simp)))
  have HW0 := hide (show 0 < w.heap.size by have := block_lt (hT 0 (by omega)); simpa using this)
  clear h hT hr hp hT0 hS0 hQ0 hs1 hx hy hz
  obtain ⟨pl, hpl⟩ : ∃ pl, pl = ps.length := ⟨_, rfl⟩
  obtain ⟨rl, hrl⟩ : ∃ rl, rl = rs.length := ⟨_, rfl⟩
  obtain ⟨tl, htl⟩ : ∃ tl, tl = ths.length := ⟨_, rfl⟩
  have HLp := hide hpl
  have HLr := hide hrl
  have HLt := hide htl
  have hpr := HPs.out.room
  rw [← hpl] at hpr
  rw [← hpl, ← hrl] at HQ0 hw0 ⊢
  rw [← hrl] at hrc
  rw [← htl] at hcap ⊢
  clear hpl hrl htl
  go_enter Tryz.func4, Tryz.ntmps4
  go_wp2_with fail
  rw [← hw0, ← hbq, ← hbs]
  clear hw0 hbq hbs
  refine (HAw.out).mono ?_
  rintro e w1 ⟨rfl, t1⟩
  have HT1 := hide (HT0.out.trans t1)
  have HS1 := hide (t1.at HS0.out (by simp))
  have HQ1 := hide (t1.at HQ0.out (by simp))
  clear t1 HT0 HS0 HQ0 HAw
  go_upto_if 30 with fail
  go_cut [0] (fun s0 wc => ∃ (T : List Th) (tn c' : Nat), s0 = .slice ao tn c' ∧ tn ≤ 40 ∧ Aside (tn = T.length) ∧ Aside (ThR w ao T) ∧ Aside (wc = w1))
  case first =>
    by_cases h40 : 40 < tl
    · have h40i : (40 : Int) < tl := by omega
      have hsl := cut_things ao tl cap 40 h40 hcap.1 hcap.2
      rw [show ((40 : Nat) : Int) = 40 from rfl] at hsl
      go_wp2_with fail
      go_meet
      case rel => exact ⟨ths.take 40, 40, cap, rfl, by omega, (by show 40 = (ths.take 40).length; rw [List.length_take]; have := HLt.out; omega), HTh.out.front 40, rfl⟩
    · have h40i : ¬ (40 : Int) < tl := by omega
      go_wp2_with fail
      go_meet
      case rel => exact ⟨ths, tl, cap, rfl, by omega, HLt.out, HTh.out, rfl⟩
  case rest =>
    obtain ⟨T, tn, c', rfl, htn, htT, hthr, hwc⟩ := hcut
    have hwc' := hwc.out
    subst hwc'
    clear hwc hcap HLt HTh tl
    have HTl := hide htT.out
    have HTh := hide hthr.out
    clear htT hthr
    obtain ⟨w1, hw1⟩ : ∃ w1, w1 = wc := ⟨_, rfl⟩
    subst hw1
    have q0 : w1.cell? ⟨bq, 0, none⟩ = some (.slice ro rl rc) := by rw [cell_of_heap HQ1.out]; rfl
    have qf : w1.frozen? ⟨bq, 0, none⟩ = false := by simp [World.frozen?, HQ1.out]
    have hbqs := lt_of_heap HQ1.out
    go_upto_if 36 with fail
    go_cut [6] (fun s6 wc => ∃ (RS : List Int) (rn c' : Nat), s6 = .bool false ∧ Aside (rn = RS.length ∧ rn ≤ 10) ∧ Aside (IRd w ro RS.length RS) ∧ Aside (wc.heap[bq]? = some (.cells #[.slice ro rn c', .slice po pl pc] 27)) ∧ Aside (wc.heap[bs]? = some (.cells #[.int .i64 x, .int .i64 y, .int .i64 z] 24)) ∧ Aside (Turned [] w wc))
    case first =>
      by_cases h10 : 10 < rl
      · have h10i : (10 : Int) < rl := by omega
        have hsl := cut_ints ro rl rc 10 h10 hrc.1 hrc.2
        rw [show ((10 : Nat) : Int) = 10 from rfl] at hsl
        have HQ2 : Hid ((w1.setCell ⟨bq, 0, none⟩ (.slice ro 10 rc)).heap[bq]? = some (.cells #[.slice ro 10 rc, .slice po pl pc] 27)) := hide (by rw [heap_setCell_at _ _ _ _ _ _ HQ1.out]; rfl)
        have HS2 : Hid ((w1.setCell ⟨bq, 0, none⟩ (.slice ro 10 rc)).heap[bs]? = some (.cells #[.int .i64 x, .int .i64 y, .int .i64 z] 24)) := hide (by rw [Below.heap_setCell _ _ _ _ (by show bs ≠ bq; have := HBn.out; omega)]; exact HS1.out)
        have HT2 := hide (HT1.out.setCell (p := ⟨bq, 0, none⟩) (.inr (show w.heap.size ≤ bq from HBn.out.2.1)) (.slice ro 10 rc))
        go_wp2_with fail
        go_meet
        case rel => exact ⟨rs.take 10, 10, rc, rfl, ⟨(by rw [List.length_take]; have := HLr.out; omega), by omega⟩, HRs.out.front 10, HQ2.out, HS2.out, HT2.out⟩
      · have h10i : ¬ (10 : Int) < rl := by omega
        go_wp2_with fail
        go_meet
        case rel => exact ⟨rs, rl, rc, rfl, ⟨HLr.out, by omega⟩, HRs.out, HQ1.out, HS1.out, HT1.out⟩
    case rest =>
      obtain ⟨RS, rn, c2, rfl, hrn, hrs, hq2, hs2, ht2⟩ := hcut
      have HRn := hide hrn.out
      have HRS := hide hrs.out
      have HQ2 := hide hq2.out
      have HS2 := hide hs2.out
      have HT2 := hide ht2.out
      clear hrn hrs hq2 hs2 ht2 HQ1 HS1 HT1 q0 qf hbqs HRs HLr hrc
      obtain ⟨w2, hw2⟩ : ∃ w2, w2 = wc := ⟨_, rfl⟩
      subst hw2
      have hTl40 : T.length ≤ 40 := by have := HTl.out; omega
      have HH := hide (lheap_any ao c' 300 T w2 (HTh.out.turned HT2.out) (by omega) (by omega) (heapOf_len T 300 (by omega)))
      rw [← HTl.out, show ((300 : Nat) : Int) = 300 from rfl] at HH
      have HHl := hide (heapOf_len T 300 (by omega))
      have HHi := hide (heapOf_in T 300 (by omega) (by omega) (by omega))
      have HHa := hide (heapOf_at T 300 (by omega))
      have HHf := hide (Nat.le_trans (heapOf_few T 300) hTl40)
      generalize (heapOf T 300).1 = hw at *
      generalize (heapOf T 300).2 = at_ at *
      clear hTl40 HTh HTl
      go_wp2_with fail
      refine (HH.out).mono ?_
      rintro e w3 ⟨p, q, d, v, rfl, hM3, hH3, hp3, hq3, hdp, hdq⟩
      have M3 := hide hM3
      have H3 := hide hH3
      have HT3 := hide (HT2.out.trans hH3.t)
      have HQ3 := hide (hH3.t.at HQ2.out (by simp))
      have HS3 := hide (hH3.t.at HS2.out (by simp))
      have HN3 := hide (show bq < p ∧ bq < q ∧ bq < d ∧ bs < p ∧ bs < q by have := lt_of_heap HQ2.out; have := lt_of_heap HS2.out; have := hH3.lo; omega)
      have HD3 := hide (And.intro hdp hdq)
      clear hM3 hH3 hp3 hq3 hdp hdq HH HT2 HQ2 HS2
      have HB := hide (Bt.new_any 300 w3 (by unfold Bt.In64; omega) (HTb.out.turned HT3.out (by simp)))
      rw [show Bt.kp 65536 300 = 300 from rfl] at HB
      go_wp2_with fail
      refine (HB.out).mono ?_
      rintro e w4 ⟨pb, qb, rfl, hb4, hpb, hqb, t4⟩
      have B4 := hide hb4
      have M4 := hide (M3.out.turned t4 (by simp) (by simp))
      have H4 := hide (H3.out.keep t4)
      have HT4 := hide (HT3.out.trans t4)
      have HQ4 := hide (t4.at HQ3.out (by simp))
      have HS4 := hide (t4.at HS3.out (by simp))
      have HN4 := hide (show p < qb ∧ q < qb ∧ bq < qb ∧ bs < qb ∧ d < qb by have := M3.out.ltp; have := M3.out.ltq; have := lt_of_heap HQ3.out; have := lt_of_heap HS3.out; have := H3.out.doc.ltq; omega)
      clear hb4 hpb hqb t4 HB M3 H3 HT3 HQ3 HS3
      have s0 : w4.cell? ⟨bs, 0, none⟩ = some (.int .i64 x) := by rw [cell_of_heap HS4.out]; rfl
      have s1 : w4.cell? ⟨bs, 1, none⟩ = some (.int .i64 y) := by rw [cell_of_heap HS4.out]; rfl
      have HP1 := hide (fun w => pick11 x 4 w HXY.out.1 (by omega))
      have HP2 := hide (fun w => pick11 y 6 w HXY.out.2 (by omega))
      rw [show ((4 : Nat) : Int) = 4 from rfl] at HP1
      rw [show ((6 : Nat) : Int) = 6 from rfl] at HP2
      go_wp2_with fail
      refine (HP1.out w4).mono ?_
      rintro e w5 ⟨⟨r1, rfl, hr1⟩, hw5⟩
      rw [hw5]
      clear hw5 w5 HP1
      obtain ⟨n, hn⟩ : ∃ n : Nat, n = 1 + r1 := ⟨_, rfl⟩
      have hn1 : (1 : Int) + (r1 : Int) = (n : Int) := by omega
      have hn14 : 1 ≤ n ∧ n ≤ 4 := by omega
      clear hn hr1
      go_wp2_with fail
      refine (HP2.out w4).mono ?_
      rintro e w5 ⟨⟨r2, rfl, hr2⟩, hw5⟩
      rw [hw5]
      clear hw5 w5 HP2 hn1
      obtain ⟨kc, hkc⟩ : ∃ kc : Nat, kc = 1 + r2 := ⟨_, rfl⟩
      have hk1 : (1 : Int) + (r2 : Int) = (kc : Int) := by omega
      have hk16 : 1 ≤ kc ∧ kc ≤ 6 := by omega
      clear hkc hr2
      have HNd := hide (mneed_ok n kc 3 (by omega) (by omega) (by omega) w4)
      rw [show ((3 : Nat) : Int) = 3 from rfl] at HNd
      obtain ⟨nd, hnd⟩ : ∃ nd, nd = 1 + n * (4 + kc + 3) := ⟨_, rfl⟩
      have hnd2 : 1 ≤ nd ∧ nd ≤ 53 := by
        have h1 : n * (4 + kc + 3) ≤ 4 * 13 := Nat.mul_le_mul hn14.2 (by omega)
        omega
      rw [← hnd] at HNd
      have HND := hide hnd
      clear hnd
      go_wp2_with fail
      refine (HNd.out).mono ?_
      rintro e w5 ⟨rfl, hw5⟩
      rw [hw5]
      clear hw5 w5 HNd hk1
      have HCn := hide (new_any (nd : Int) w4)
      rw [show (min (max (nd : Int) 0) 65536).toNat = nd by omega] at HCn
      go_wp2_with fail
      refine (HCn.out).mono ?_
      rintro e w5 ⟨rfl, hM5, t5, hz5⟩
      obtain ⟨qc, hqc⟩ : ∃ qc, qc = w4.heap.size := ⟨_, rfl⟩
      obtain ⟨pc2, hpc⟩ : ∃ pc2, pc2 = w4.heap.size + 1 := ⟨_, rfl⟩
      rw [← hpc, ← hqc] at hM5
      rw [← hpc]
      have MC5 := hide hM5
      have HNc := hide (show p < qc ∧ q < qc ∧ qb < qc ∧ bq < qc ∧ bs < qc ∧ d < qc ∧ pb < qc ∧ pc2 = qc + 1 by have := M4.out.ltp; have := M4.out.ltq; have := B4.out.ltq; have := B4.out.ltp; have := HN4.out; omega)
      have M5 := hide (M4.out.turned t5 (by simp) (by simp))
      have B5 := hide (B4.out.turned0 t5)
      have H5 := hide (H4.out.keep t5)
      have HT5 := hide (HT4.out.trans t5)
      have HQ5 := hide (t5.at HQ4.out (by simp))
      clear hM5 t5 hz5 hqc hpc HCn M4 B4 H4 HT4 HQ4 HS4 s0 s1
      have HF := hide (four_any w5)
      go_wp2_with fail
      refine (HF.out).mono ?_
      rintro e w6 ⟨g, rfl, hc6, t6, hg6⟩
      have M6 := hide (M5.out.turned t6 (by simp) (by simp))
      have MC6 := hide (MC5.out.turned t6 (by simp) (by simp))
      have B6 := hide (B5.out.turned0 t6)
      have H6 := hide (H5.out.keep t6)
      have HT6 := hide (HT5.out.trans t6)
      have HQ6 := hide (t6.at HQ5.out (by simp))
      have C6 := hide hc6
      clear hc6 t6 hg6 HF M5 MC5 B5 H5 HT5 HQ5
      obtain ⟨P, hP⟩ : ∃ P : MP, P = ⟨hw, four, n, kc, 3⟩ := ⟨_, rfl⟩
      have HNew := hide (mnew_ok P w6 p q pb qb pc2 qc g 0 4 4 (List.replicate nd 0) (fun _ => 0) 0 0 (by rw [hP]; exact hn14) (by rw [hP]; exact ⟨hk16.1, by show kc ≤ 64; omega⟩) (by rw [hP]; show 3 ≤ 4096; omega) (by rw [List.length_replicate, HND.out, hP]) (by rw [List.length_replicate]; omega) (by rw [hP]; exact M6.out) (by rw [hP]; show hw.length ≤ 65536; rw [HHl.out]; omega) (by rw [hP]; exact C6.out) (by omega) (by rw [hP]; show Bt.Bts w6 pb qb hw.length _; rw [HHl.out]; exact B6.out) (Bt.Bl.none _) MC6.out (by have := HNc.out; omega) (by have := M6.out.ltp; omega) (by have := HNc.out; have := HN3.out; have := HN4.out; have := HBn.out; have := HW0.out; simp; omega))
      rw [show ((P.n : Nat) : Int) = (n : Int) by rw [hP], show ((P.cap : Nat) : Int) = (kc : Int) by rw [hP], show ((P.over : Nat) : Int) = 3 by rw [hP]; rfl, List.length_replicate] at HNew
      obtain ⟨va, vc, hv, hat⟩ := H6.out.at
      subst hv
      have HPe := hide hP
      go_wp2_with fail
      refine (HNew.out).mono ?_
      rintro e w7 ⟨M, len, cp, a, gw, cw, co, ds, ws, rfl, hMz, hk⟩
      have HIk : Hid (Mk P ⟨M, p, q, len, cp, co, pb, qb, a, gw, P.n, cw, pc2, qc, ((0 : Nat) : Int)⟩ w6 w7 ds ws (MS.fresh (List.replicate nd 0) (fun _ => 0) 0 0) (fun _ => [])) := hide hk
      have HMz := hide hMz
      have H6z := hide (show p < w6.heap.size ∧ q < w6.heap.size ∧ qb < w6.heap.size ∧ pc2 < w6.heap.size ∧ qc < w6.heap.size by have := M6.out.ltp; have := M6.out.ltq; have := MC6.out.ltp; have := MC6.out.ltq; have := B6.out.ltq; omega)
      have HQ7 : Hid (w7.heap[bq]? = some (.cells #[.slice ro rn c2, .slice po pl pc] 27)) := hide (hk.tu.at HQ6.out (by have := HNc.out; have := HN3.out; have := HN4.out; show bq ∉ [p, q, qb, pc2, qc]; simp; omega))
      have HT67 := hide (show Turned [] w w7 from HT6.out.trans_new hk.tu (fun i hi => by have h1 : i ∈ [p, q, qb, pc2, qc] := hi; have := HNc.out; have := HN3.out; have := HN4.out; have := HBn.out; simp at h1; right; omega))
      have HA7 : Hid (∀ (i : Nat) (x : Int), at_[i]? = some x → ∃ g, va = some ⟨g, 0, none⟩ ∧ w7.cell? ⟨g, i, none⟩ = some (.int .i64 x)) := hide (fun i x hx => by
        obtain ⟨g', h1, h2⟩ := hat i x hx
        refine ⟨g', h1, ?_⟩
        obtain ⟨cB, hcB⟩ : ∃ cB, w6.heap[g']? = some (.cells cB 3) := by
          subst h1
          have h3 := H6.out.row
          rcases h3.2 with ⟨h4, _⟩ | ⟨g2, cap2, cur, h4, _, h5, _⟩
          · cases h4
          · cases h4
            exact ⟨_, h5⟩
        rw [hk.tu.cell (p := ⟨g', i, none⟩) (lt_of_heap hcB) (by
          show g' ∉ [p, q, qb, pc2, qc]
          obtain ⟨cq, hcq, _⟩ := B6.out.row
          have n1 := ne_of_type hcB M6.out.head (by decide)
          have n2 := ne_of_type hcB M6.out.row (by decide)
          have n3 := ne_of_type hcB hcq (by decide)
          have n4 := ne_of_type hcB MC6.out.head (by decide)
          have n5 := ne_of_type hcB MC6.out.row (by decide)
          simp [n1, n2, n3, n4, n5])]
        exact h2)
      have HD7 : Hid (Doc w7 d hw) := hide ((H6.out.doc).turned hk.tu (by have := HNc.out; have := HN3.out; have := HN4.out; have := HD3.out; show d ∉ [p, q, qb, pc2, qc]; simp; omega))
      have HDo6 := hide H6.out.doc
      clear hk hMz HNew M6 MC6 B6 H6 C6 hat hP
      have q0 : w7.cell? ⟨bq, 0, none⟩ = some (.slice ro rn c2) := by rw [cell_of_heap HQ7.out]; rfl
      have HRt := hide (roots11 va vc at_ ro c2 RS w7 HA7.out (by have := HHf.out; omega) (HRS.out.turned HT67.out) (by have := HRn.out; omega))
      rw [← HRn.out.1] at HRt
      obtain ⟨atn, hatn⟩ : ∃ atn, atn = at_.length := ⟨_, rfl⟩
      rw [← hatn] at HRt ⊢
      clear hatn
      go_wp2_with fail
      refine (HRt.out).mono ?_
      rintro e w8 ⟨v8, rfl, ho8, t8⟩
      obtain ⟨TR, hTR⟩ : ∃ TR, TR = RS.map (rootOf at_) := ⟨_, rfl⟩
      rw [← hTR] at ho8
      have HTl : Hid (rn = TR.length ∧ TR.length ≤ 10) := hide (by rw [hTR, List.length_map]; have := HRn.out; omega)
      have HTi : Hid (∀ y, y ∈ TR → In64 y) := hide (fun y hy => by
        rw [hTR] at hy
        obtain ⟨r, _, rfl⟩ := List.mem_map.1 hy
        have := rootOf_in HHa.out r
        unfold In64
        omega)
      clear hTR
      rw [HTl.out.1] at ho8
      obtain ⟨aT, cT, rfl, hrd⟩ := row_roots P.n ho8
      have HK8 := hide (HIk.out.keep0 t8)
      have HRo := hide (mroot_any (I := ⟨M, p, q, len, cp, co, pb, qb, a, gw, P.n, cw, pc2, qc, 0⟩) 0 TR aT cT HK8.out (by have := HTl.out; omega) (fun k hk => rfl) (fun k hk => Nat.zero_le _) (hrd _ (fun j y hj hy => by simp at hy)))
      rw [← HTl.out.1] at HRo ⊢
      have HQ8 := hide (t8.at HQ7.out (by simp))
      have HD8 := hide (HD7.out.turned t8 (by simp))
      clear ho8 hrd t8 HRt HIk HQ7 HD7 HT67 HA7 q0 HK8
      go_wp2_with fail
      refine (HRo.out).mono ?_
      rintro e w9 ⟨rfl, Bs9, hk9⟩
      obtain ⟨I, hI⟩ : ∃ I : Ids, I = ⟨M, p, q, len, cp, co, pb, qb, a, gw, P.n, cw, pc2, qc, ((0 + rn : Nat) : Int)⟩ := ⟨_, rfl⟩
      obtain ⟨S0, hS0⟩ : ∃ S0, S0 = rootsM P.n (MS.fresh (List.replicate nd 0) (fun _ => 0) 0 0) 0 TR := ⟨_, rfl⟩
      have hk9' : Mk P I w6 w9 ds ws S0 Bs9 := by rw [hI, hS0]; exact hk9
      have HBm0 : Hid (Bm P 11 0 S0) := hide (by
        have h1 := roots_bm (P := P) (by rw [HPe.out]; exact hn14.1) TR 0 (fresh_bm P (List.replicate nd 0) (fun _ => 0) (fun x hx => List.eq_of_mem_replicate hx)) HTi.out
        rw [← hS0] at h1
        exact h1.more (by have := HTl.out; omega))
      have HBP : Hid (BP P) := hide ⟨by rw [HPe.out]; exact hn14.1, by rw [HPe.out]; show hw.length ≤ 65536; rw [HHl.out]; omega, by rw [HPe.out]; exact HHi.out, by rw [HPe.out]; show 3 ≤ 4096; omega⟩
      have HPn := hide (show P.n = n by rw [HPe.out])
      have HPh := hide (show P.hw = hw by rw [HPe.out])
      have E1 := hide (show I.M = M by rw [hI])
      have E2 := hide (show I.ph = p ∧ I.qh = q ∧ I.pb = pb ∧ I.qb = qb ∧ I.p = pc2 ∧ I.q = qc by rw [hI]; exact ⟨rfl, rfl, rfl, rfl, rfl, rfl⟩)
      have HI5 : Hid (I.five = [p, q, qb, pc2, qc]) := hide (by rw [hI]; rfl)
      clear hk9 HRo hI hS0 HTl HTi HPe HHa HHf HRn HRS HND
      obtain ⟨w10, hw10⟩ : ∃ w10, w10 = w9.alloc (.cells #[.bool false, .bool false, .bool false, .bool false] 60) := ⟨_, rfl⟩
      obtain ⟨be, hbe⟩ : ∃ be, be = w9.heap.size := ⟨_, rfl⟩
      have HE0 : Hid (MkE P I w6 w10 ds ws S0 be (fun _ => false)) := hide (by
        have t10 : Turned [] w9 w10 := by rw [hw10]; exact (Turned.refl [] w9).alloc _
        have h1 := hk9'.tu.size
        refine ⟨⟨Bs9, hk9'.keep0 t10⟩, ?_, by omega, ?_⟩
        · rw [hw10, hbe]; exact new_four w9
        · rw [HI5.out, hbe]
          have := H6z.out
          simp
          omega)
      clear hk9'
      have HN5 : Hid (bq ∉ I.five ∧ d ∉ I.five ∧ ∀ y, y ∈ I.five → w.heap.size ≤ y) := hide (by
        rw [HI5.out]
        have := HNc.out; have := HN3.out; have := HN4.out; have := HD3.out; have := HBn.out
        refine ⟨by simp; omega, by simp; omega, fun y hy => ?_⟩
        simp at hy
        omega)
      have HQr : Hid (∀ (wr : World) S E, MkE P I w6 wr ds ws S be E → wr.heap[bq]? = some (.cells #[.slice ro rn c2, .slice po pl pc] 27)) := hide (fun wr S E hh => by
        obtain ⟨Bs, hM⟩ := hh.all
        exact hM.tu.at HQ6.out HN5.out.1)
      have HDr : Hid (∀ (wr : World) S E, MkE P I w6 wr ds ws S be E → Doc wr d hw) := hide (fun wr S E hh => by
        obtain ⟨Bs, hM⟩ := hh.all
        exact HDo6.out.turned hM.tu HN5.out.2.1)
      have HTr : Hid (∀ (wr : World) S E, MkE P I w6 wr ds ws S be E → Turned [] w wr) := hide (fun wr S E hh => by
        obtain ⟨Bs, hM⟩ := hh.all
        exact HT6.out.trans_new hM.tu (fun i hi => .inr (HN5.out.2.2 i hi)))
      have HMr : Hid (∀ (wr : World) S E, MkE P I w6 wr ds ws S be E → Mem wr p q hw S.hs ∧ Mem wr pc2 qc S.l S.cs ∧ Bt.Brd wr (some ⟨pb, 0, none⟩) 300 (Bt.sidesOf S.sz)) := hide (fun wr S E hh => by
        obtain ⟨Bs, hM⟩ := hh.all
        have h1 := hM.hm
        have h2 := hM.sh.mem
        have h3 := hM.bt
        rw [E2.out.1, E2.out.2.1, HPh.out] at h1
        rw [E2.out.2.2.2.2.1, E2.out.2.2.2.2.2] at h2
        rw [E2.out.2.2.1, E2.out.2.2.2.1, HPh.out, HHl.out] at h3
        exact ⟨h1, h2, h3.brd⟩)
      have HMS : Hid (∀ S k, marksTo (stepM P S k).sz 300 = marksTo (stepM P S k).sz P.hw.length ∧ marksTo S.sz 300 = marksTo S.sz P.hw.length) := hide (fun S k => by rw [HPh.out, HHl.out]; exact ⟨rfl, rfl⟩)
      have HCn : Hid (∀ (wr : World) (S : MS) E, MkE P I w6 wr ds ws S be E → Calls Tryz.prog 19 #[.pointer (some ⟨pb, 0, none⟩), .int .i64 0, .int .i64 300] wr fun e w' => e = .returned (.int .i64 (marksTo S.sz 300 : Nat)) ∧ ∃ m, w' = wr.drewN m) := hide (fun wr S E hh => by
        have h1 := Bt.count_any (some ⟨pb, 0, none⟩) 300 (Bt.sidesOf S.sz) 0 300 wr (HMr.out wr S E hh).2.2
        rw [show Bt.kp 300 0 = 0 from rfl, show Bt.kp 300 300 = 300 from rfl, Bt.cntIn_zero] at h1
        exact h1)
      have HStp : Hid (∀ (wr : World) (S : MS) E (k : Nat) (i : Nat), i ≤ 300 → k < n → MkE P I w6 wr ds ws S be E → Bm P 11 (i : Int) S → Calls Tryz.prog 17 #[.pointer (some ⟨M, 0, none⟩), .int .i64 k] wr fun e w' => e = .returned (.int .i64 (if ((stepM P S k).X k).ended then 2 else 0)) ∧ MkE P I w6 w' ds ws (stepM P S k) be E) := hide (fun wr S E k i hi hk hh hb => by
        have h1 := hh.step (k := k) (by rw [HPn.out]; exact hk) (hb.may HBP.out (by omega) (by omega) (by rw [HPn.out]; exact hk))
        rw [E1.out] at h1
        exact h1)
      have HBs : Hid (∀ (S : MS) (k i : Nat), k < n → Bm P 11 (i : Int) S → Bm P 11 ((i + 1 : Nat) : Int) (stepM P S k)) := hide (fun S k i hk hb => by
        have h1 := hb.step HBP.out (by omega) (show k < P.n by rw [HPn.out]; exact hk)
        rw [show ((i + 1 : Nat) : Int) = (i : Int) + 1 by omega]
        exact h1)
      clear HQ6 HDo6 HT6 HQ8 HD8 
      go_wp2_with fail
      rw [← hw10, ← hbe]
      clear hw10 hbe
      clear HHi HN3 HD3 HN4 HNc H6z HN5 HI5 HBP HPn E1 E2 HMz HW0 HBn HXY HTb
      go_loopg [18] 300 (fun gg s18 wr => ∃ (i : Nat) (S : MS) (E : Nat → Bool), s18 = .int .i64 (i : Int) ∧ i ≤ 300 ∧ 300 - i ≤ gg ∧ i ≤ pl ∧ Aside (MkE P I w6 wr ds ws S be E) ∧ Aside (Bm P 11 (i : Int) S) ∧ Aside (∀ j, E j = true → (S.X j).ended = true))
      case atStart => exact ⟨0, S0, fun _ => false, rfl, by omega, by omega, by omega, HE0.out, HBm0.out, fun j hj => by cases hj⟩
      case round =>
        obtain ⟨i, S, E, rfl, hi3, hgi, hip, hE, hB, hN⟩ := hrel
        have K1 := hide hE.out
        have B1 := hide hB.out
        have N1 := hide hN.out
        clear hE hB hN HE0 HBm0
        have q1 : wr.cell? ⟨bq, 1, none⟩ = some (.slice po pl pc) := by rw [cell_of_heap (HQr.out wr S E K1.out)]; rfl
        by_cases hgo : i < pl ∧ i < 300
        · have h1i : (i : Int) < pl := by omega
          have h2i : (i : Int) < 300 := by omega
          obtain ⟨c, hc⟩ : ∃ c, ps[i]? = some c := ⟨_, List.getElem?_eq_getElem (by have := HLp.out; omega)⟩
          obtain ⟨pbk, poff, hpo, cc⟩ := (HPs.out.turned (HTr.out wr S E K1.out)).cell i c hc
          subst hpo
          have HPk := hide (pick11 c n wr (HPs.out.inn c (List.mem_of_getElem? hc)) (by omega))
          clear hc
          go_wp2_with fail
          refine (HPk.out).mono ?_
          rintro e w11 ⟨⟨k, rfl, hk⟩, hw11⟩
          rw [hw11]
          clear hw11 w11 HPk cc q1
          obtain ⟨m1, m2, m3⟩ := HMr.out wr S E K1.out
          have HSa := hide (steps_mem p q hw S.hs wr m1)
          have HSb := hide (steps_mem pc2 qc S.l S.cs wr m2)
          have HCa := hide (HCn.out wr S E K1.out)
          have hbh := B1.out.hs
          have hbc := B1.out.cs
          obtain ⟨da, db, dc, o1, o2, o3, o4, o5, o6⟩ := step_one P S k
          rw [← (HMS.out S k).1, ← (HMS.out S k).2] at o3
          have hme := marksTo_le S.sz 300
          have HSt := hide (fun w' E' (hh : MkE P I w6 w' ds ws S be E') => HStp.out w' S E' k i hi3 hk hh B1.out)
          have B2 := hide (HBs.out S k i hk B1.out)
          have HEn : Hid (E k = true → da + db = 0 ∧ dc = 0 ∧ ((stepM P S k).X k).ended = true) := hide (fun hh => by
            have h3 := N1.out k hh
            rw [step_ended P S k h3] at o1 o2 o3 ⊢
            exact ⟨by omega, by omega, h3⟩)
          have N2 : Hid (∀ v : Bool, v = ((stepM P S k).X k).ended → ∀ j, (if j = k then v else E j) = true → ((stepM P S k).X j).ended = true) := hide (fun v hv j hj => by
            by_cases hjk : j = k
            · subst hjk; rw [if_pos rfl] at hj; rw [← hv]; exact hj
            · rw [if_neg hjk] at hj
              rw [stepM_other P S hjk]
              exact N1.out j hj)
          have HNx : Hid (∀ w' E', MkE P I w6 w' ds ws (stepM P S k) be E' → (Mem w' p q hw (stepM P S k).hs ∧ Mem w' pc2 qc (stepM P S k).l (stepM P S k).cs) ∧ Calls Tryz.prog 19 #[.pointer (some ⟨pb, 0, none⟩), .int .i64 0, .int .i64 300] w' fun e w'' => e = .returned (.int .i64 (marksTo (stepM P S k).sz 300 : Nat)) ∧ ∃ m, w'' = w'.drewN m) := hide (fun w' E' hh => ⟨⟨(HMr.out w' _ E' hh).1, (HMr.out w' _ E' hh).2.1⟩, HCn.out w' _ E' hh⟩)
          obtain ⟨S', hS'⟩ : ∃ S', S' = stepM P S k := ⟨_, rfl⟩
          rw [← hS'] at o1 o2 o3 HSt B2 HEn N2 HNx
          clear hS' m1 m2 m3 B1 N1
          obtain ⟨h0, hh0⟩ : ∃ h0, h0 = S.hs := ⟨_, rfl⟩
          obtain ⟨c0, hc0⟩ : ∃ c0, c0 = S.cs := ⟨_, rfl⟩
          obtain ⟨m0, hm0⟩ : ∃ m0, m0 = marksTo S.sz 300 := ⟨_, rfl⟩
          obtain ⟨m1, hm1⟩ : ∃ m1, m1 = marksTo S'.sz 300 := ⟨_, rfl⟩
          obtain ⟨en, hen⟩ : ∃ en, en = (S'.X k).ended := ⟨_, rfl⟩
          rw [← hh0] at o1 hbh HSa
          rw [← hc0] at o2 hbc HSb
          rw [← hm0] at o3 hme HCa
          rw [← hm1] at o3 HNx
          rw [← hen] at HSt HEn
          have HEk := hide hen
          clear hh0 hc0 hm0 hm1 hen
          go_wp2_with fail
          refine (HSa.out).mono ?_
          rintro e w11 ⟨rfl, hw11⟩
          rw [hw11]
          clear hw11 w11 HSa
          go_wp2_with fail
          refine (HSb.out).mono ?_
          rintro e w11 ⟨rfl, hw11⟩
          rw [hw11]
          clear hw11 w11 HSb
          have HO := hide (And.intro o1 (And.intro o2 o3))
          clear o1 o2 o3
          go_wp2_with fail
          refine (HCa.out).mono ?_
          rintro e w11 ⟨rfl, mm, hw11⟩
          have K2 := hide (show MkE P I w6 w11 ds ws S be E by rw [hw11]; exact K1.out.keep0 ((Turned.refl [] wr).drewN mm))
          clear hw11 K1 HCa
          go_wp2_with fail
          refine (HSt.out w11 E K2.out).mono ?_
          rintro e w12 ⟨rfl, hk12⟩
          have K3 := hide hk12
          obtain ⟨⟨mA, mB⟩, hcnt⟩ := HNx.out w12 E hk12
          have HSa := hide (steps_mem p q hw S'.hs w12 mA)
          have HSb := hide (steps_mem pc2 qc S'.l S'.cs w12 mB)
          have HCa := hide hcnt
          rw [HO.out.1] at HSa
          rw [HO.out.2.1] at HSb
          clear hk12 K2 HSt HNx mA mB hcnt
          obtain ⟨tv, htv⟩ : ∃ tv : Int, tv = if en then 2 else 0 := ⟨_, rfl⟩
          rw [show (if en = true then (2 : Int) else 0) = tv from htv.symm]
          have HTv := hide htv
          clear htv
          go_wp2_with fail
          refine (HSa.out).mono ?_
          rintro e w13 ⟨rfl, hw13⟩
          rw [hw13]
          clear hw13 w13 HSa
          go_wp2_with fail
          refine (HSb.out).mono ?_
          rintro e w13 ⟨rfl, hw13⟩
          rw [hw13]
          clear hw13 w13 HSb
          go_upto_region 24 with fail
          rw [show h0 + da + (c0 + db) - (h0 + c0) = da + db from by omega]
          obtain ⟨u, hu⟩ : ∃ u, u = da + db := ⟨_, rfl⟩
          rw [← hu] at HEn ⊢
          have hu1 : 0 ≤ u ∧ u + (dc : Int) ≤ 1 := by omega
          have hmd : (m1 : Int) - (m0 : Int) = (dc : Int) := by have := HO.out.2.2; omega
          have hm1b : m1 ≤ 301 := by have := HO.out.2.2; omega
          clear hu HO o4 o5 o6 hbh hbc
          go_wp2_with fail
          refine (HCa.out).mono ?_
          rintro e w13 ⟨rfl, mm2, hw13⟩
          have K4 := hide (show MkE P I w6 w13 ds ws S' be E by rw [hw13]; exact K3.out.keep0 ((Turned.refl [] w12).drewN mm2))
          clear hw13 K3 HCa
          go_upto_region 25 with fail
          clear hmd hm1b hme
          have hk4 : k < 4 := by omega
          have hk4i : (k : Int) < 4 := by omega
          have ce := K4.out.cell hk4
          have cf := K4.out.fz k
          generalize hEk : E k = ek at *
          go_cut [147] (fun s147 wc => s147 = .bool false ∧ Aside (wc = w13))
          case first =>
            cases ek
            · have a1 : ¬ u < 0 := by omega
              have a2 : ¬ (1 : Int) < u + (dc : Int) := by omega
              clear hu1
              go_wp2_with fail
              go_meet
              case rel => exact ⟨rfl, rfl⟩
            · obtain ⟨b1, b2, b3⟩ := HEn.out rfl
              subst b1 b2
              have b4 : tv = 2 := by rw [HTv.out, b3]; rfl
              clear b3
              subst b4
              clear hu1
              go_wp2_with fail
              go_meet
              case rel => exact ⟨rfl, rfl⟩
          case rest =>
            obtain ⟨rfl, hwc⟩ := hcut
            have hwc' := hwc.out
            subst hwc'
            clear hwc HEn hu1
            obtain ⟨w13, hw13⟩ : ∃ w13, w13 = wc := ⟨_, rfl⟩
            subst hw13
            have HSet : Hid (∀ v : Bool, MkE P I w6 (w13.setCell ⟨be, k, none⟩ (.bool v)) ds ws S' be (fun j => if j = k then v else E j)) := hide (fun v => K4.out.set k v)
            have hbl := K4.out.lt
            cases en
            · have b4 : tv = 0 := HTv.out
              clear HTv
              subst b4
              have HNf := hide (N2.out false HEk.out)
              clear K4 N2
              go_wp2_with fail
              go_roundg (300 - (i + 1))
              case measure => omega
              case rel => exact ⟨i + 1, S', fun j => if j = k then false else E j, by go_num, by omega, Nat.le_refl _, by omega, HSet.out false, B2.out, HNf.out⟩
            · have b4 : tv = 2 := HTv.out
              clear HTv
              subst b4
              have HNf := hide (N2.out true HEk.out)
              clear K4 N2
              go_wp2_with fail
              go_roundg (300 - (i + 1))
              case measure => omega
              case rel => exact ⟨i + 1, S', fun j => if j = k then true else E j, by go_num, by omega, Nat.le_refl _, by omega, HSet.out true, B2.out, HNf.out⟩
        · have HMh := hide (HMr.out wr S E K1.out).1
          have HWd := hide (words_mem p q hw S.hs 0 300 wr (by rw [HHl.out]; omega) HMh.out)
          rw [HHl.out, show (min (max (300 : Int) 0) ((300 : Nat) : Int)).toNat = 300 from rfl, show (min (max (0 : Int) 0) ((300 : Nat) : Int)).toNat = 0 from rfl, List.drop_zero, List.take_of_length_le (Nat.le_of_eq HHl.out), HHl.out] at HWd
          have HD1 := hide (HDr.out wr S E K1.out)
          have HT1 := hide (HTr.out wr S E K1.out)
          have hcond : (¬ (i : Int) < pl) ∨ ((i : Int) < pl ∧ ¬ (i : Int) < 300) := by omega
          clear K1 B1 N1 HMh
          obtain ⟨ws1, hws1⟩ : ∃ ws1, ws1 = wr := ⟨_, rfl⟩
          subst hws1
          go_upto_region 17 with fail
          go_cut [90] (fun s90 wc => s90 = .bool false ∧ Aside (wc = ws1))
          case first =>
            rcases hcond with hc1 | ⟨hc1, hc2⟩
            · go_wp2_with fail
              go_meet
              case rel => exact ⟨rfl, rfl⟩
            · go_wp2_with fail
              go_meet
              case rel => exact ⟨rfl, rfl⟩
          case rest =>
            obtain ⟨rfl, hwc⟩ := hcut
            have hwc' := hwc.out
            subst hwc'
            clear hwc hcond q1
            obtain ⟨ws1, hws1⟩ : ∃ ws1, ws1 = wc := ⟨_, rfl⟩
            subst hws1
            go_wp2_with fail
            refine (HWd.out).mono ?_
            rintro e w11 ⟨v11, rfl, ho11, t11⟩
            obtain ⟨gv, cv, rfl, -, -, -, hcell, -⟩ := ownsRow_open ho11 (by omega)
            have HCv : Hid (∀ i, i < 300 → w11.cell? ⟨gv, i, none⟩ = some (.int .i64 (hw.getD i 0)) ∧ w11.cell? ⟨d, i, none⟩ = some (.int .i64 (hw.getD i 0))) := hide (fun i hi => by
              have hx : hw[i]? = some (hw.getD i 0) := by rw [List.getD_eq_getElem?_getD, List.getElem?_eq_getElem (by rw [HHl.out]; exact hi)]; rfl
              exact ⟨hcell i _ (by rw [List.getElem?_map, hx]; rfl), ((HD1.out.turned t11 (by simp)).word hx)⟩)
            have HT2 := hide (HT1.out.trans t11)
            clear ho11 hcell t11 HD1 HT1 HWd
            go_wp2_with fail
            go_loopg [26] 300 (fun gg s26 wr => ∃ (j : Nat), s26 = .int .i64 (j : Int) ∧ j ≤ 300 ∧ 300 - j ≤ gg ∧ Aside (Turned [] w11 wr))
            case atStart => exact ⟨0, rfl, by omega, by omega, Turned.refl [] w11⟩
            case round =>
              obtain ⟨j, rfl, hj, hgj, hwr⟩ := hrel
              have hm := hwr.out
              clear hwr
              by_cases hj3 : j < 300
              · have hj3i : (j : Int) < 300 := by omega
                obtain ⟨cv1, cv2⟩ := HCv.out j hj3
                have e1 : wr.cell? ⟨gv, j, none⟩ = some (.int .i64 (hw.getD j 0)) := by rw [hm.cell (block_lt cv1) (by simp)]; exact cv1
                have e2 : wr.cell? ⟨d, j, none⟩ = some (.int .i64 (hw.getD j 0)) := by rw [hm.cell (block_lt cv2) (by simp)]; exact cv2
                have hd1 : decide ((300 : Int) ≤ (j : Int)) = false := decide_eq_false (by omega)
                have HM := hide hm
                clear hm cv1 cv2
                generalize hw.getD j 0 = xv at *
                go_wp2_with fail
                go_quiet (fail)
                go_wp2_with fail
                go_roundg (300 - (j + 1))
                case measure => omega
                case rel => exact ⟨j + 1, by go_num, by omega, Nat.le_refl _, HM.out.drewN nq⟩
              · have hj3i : ¬ (j : Int) < 300 := by omega
                have HTe : Hid (Turned [] w wr) := hide (HT2.out.trans hm)
                clear hm HT2
                go_wp2_with fail
                go_ret
                exact ⟨rfl, HTe.out⟩

set_option maxRecDepth 100000 in
theorem markSteps_lifted (os : Os) (started : os.Started) (H : Type) (enc : TypeId × Value → H) :
    ReturnsInHanded {} Tryz.checked os 4 .any (fun w args => (Rows.markStepsSpec.pre enc Tryz.prog Tryz.f4 [] false w args ∧ laidMetH Tryz.prog laidTab w) ∧ sizedMet enc Tryz.prog Tryz.f4 (OpenSpec.ofChange Rows.markStepsSpec) false w args)
      (Rows.markStepsSpec.post enc Tryz.prog Tryz.f4 false true false false) := by
  refine returnsInHanded_of_change_and (C := Tryz.checked) (X := fun w _ => laidMetH Tryz.prog laidTab w) (fun _ _ _ hh h => h.of_heap hh) own started (by kernel_rfl) Tryz.func4
    (ChangeSpec.witness_shaped (enc := enc) (C := Tryz.checked) (os := os) (X := fun w _ => laidMetH Tryz.prog laidTab w) false (World.doorLaid Tryz.prog 400 os) #[.slice none 0 0, .agg #[.int .i64 0, .int .i64 0, .int .i64 0], .agg #[.slice none 0 0, .slice none 0 0]] 8 rfl (World.shaped_of_RefB (by kernel_rfl) (by kernel_rfl)) (by kernel_rfl) (by kernel_rfl) (by kernel_rfl) (door_met os _)) ?_
  intro W base args ds gs before hval0 hW _ _ hL _
  have hTab := tab_of hL
  have hval : ∀ (j : Nat) t v, Tryz.f4.params[j]? = some t → args[j]? = some v → Value.okWide Tryz.prog W .any base t v := hval0
  have hW' := hW
  obtain ⟨p, q, hA0, hV, rfl, hfz, hnd⟩ := hW
  have hA : DataW.TrodAll enc Tryz.prog W 0 (fun _ => true) true Tryz.f4.params.toList args.toList ds p := hA0
  rw [Tryz.params4] at hA hval
  obtain ⟨v0, vs0, d0, ds0, p0, q0, hargs, rfl, rfl, h0, r0⟩ := trodAll_cons hA
  obtain ⟨v1, vs1, d1, ds1, p1, q1, rfl, rfl, rfl, h1, r1⟩ := trodAll_cons r0
  obtain ⟨v2, vs2, d2, ds2, p2, q2, rfl, rfl, rfl, h2, r2⟩ := trodAll_cons r1
  obtain ⟨rfl, rfl, rfl⟩ := trodAll_nil r2
  obtain rfl : args = #[v0, v1, v2] := by cases args; simp_all
  obtain ⟨rfl, rfl⟩ := trodVars_none hV
  obtain ⟨a0, len0, cap0, rfl⟩ := okWide_slice Tryz.underlying22 (hval 0 22 v0 rfl rfl)
  have k0 := h0
  have lt0 : ∀ x ∈ p0, x.block < W.heap.size := by obtain ⟨m, hm⟩ := k0; exact DataW.trod_lt m _ _ _ hm
  obtain ⟨ths, htl, w0, wc0⟩ := open_things h0
  subst htl
  have k1 := h1
  have lt1 : ∀ x ∈ p1, x.block < W.heap.size := by obtain ⟨m, hm⟩ := k1; exact DataW.trod_lt m _ _ _ hm
  obtain ⟨a10, a11, a12, rfl, w1⟩ := open_sizes (hval 1 24 v1 rfl rfl) h1
  have k2 := h2
  have lt2 : ∀ x ∈ p2, x.block < W.heap.size := by obtain ⟨m, hm⟩ := k2; exact DataW.trod_lt m _ _ _ hm
  obtain ⟨ro, rc, rs, po, pc, ps, rfl, w2, w3, wc2, wc3⟩ := open_work (hval 2 27 v2 rfl rfl) h2
  simp only [List.append_nil] at hW'
  clear hA0 hval0
  refine (markSteps_walk a0 cap0 ths a10 a11 a12 ro rc rs po pc ps W w0 wc0 w1 w2 w3 wc2 hTab).mono fun e W' ⟨he, ht⟩ => ?_
  subst he
  have bel : Below W.heap.size W W' := ht.below0
  exact ⟨_, rfl, _, _, _, [], _, [], hW', trodAll_mk1 (shut_bool Tryz.underlying4 _), (trodAll_cons_mk (Below.trod laidOut (by kernel_rfl) (of_decide_eq_true (by kernel_rfl)) k0 bel lt0) (trodAll_cons_mk (Below.trod laidOut (by kernel_rfl) (of_decide_eq_true (by kernel_rfl)) k1 bel lt1) (trodAll_cons_mk (Below.trod laidOut (by kernel_rfl) (of_decide_eq_true (by kernel_rfl)) k2 bel lt2) trodAll_mk0))), rfl, bel.frame _, fun h => by cases h⟩

theorem markSteps_over : Rows.markStepsRow.holds Tryz.pinned (OpenSpec.ofChange Rows.markStepsSpec) :=
  OpenClaim.holds_of_wide 4 Tryz.f4 rfl rfl rfl rfl rfl rfl rfl ⟨rfl, rfl, rfl, rfl, rfl⟩ rfl rfl rfl rfl rfl (by kernel_rfl) Tryz.func4 (by kernel_rfl)
    (of_decide_eq_true (by kernel_rfl)) (by unfold Func.isWrapper; first | (rw [if_pos (by decide +kernel)]; kernel_rfl) | (rw [if_neg (by decide +kernel)]; exact ⟨rfl, rfl⟩))
    (fun os started H enc _ => markSteps_lifted os started H enc)

theorem markSteps_holds : Rows.MarkStepsSaid := markSteps_over

theorem markSteps_card : Rows.MarkStepsCardSaid :=
  Claim7.holds_tied_plain_at .later [] [.data] true _ false
    markSteps_holds (fun _ h => by cases h) (by kernel_rfl) (fun _ h => by cases h) markSteps_row_tie rfl ⟨rfl, rfl⟩ (by kernel_rfl) rfl
    (fun f fn hf hfn => by
      obtain rfl : f = 4 := Option.some.inj ((show Tryz.prog.funcNamed "ballast/ballastlaw11.MarkSteps" = some 4 by kernel_rfl).symm.trans hf) |>.symm
      obtain rfl : fn = Tryz.f4 := (Option.some.inj (Tryz.func4.symm.trans hfn)).symm
      exact ⟨by kernel_rfl, fun j t ht => by
        rw [Tryz.params4] at ht
        have h3 : t ∈ [22, 24, 27] := by
          have h4 := Array.mem_of_getElem? ht
          simpa using h4
        have h5 : ∀ u, u ∈ [22, 24, 27] → Tryz.prog.wantsStandIn u = false := by
          intro u hu
          simp only [List.mem_cons, List.not_mem_nil, or_false] at hu
          rcases hu with rfl | rfl | rfl <;> kernel_rfl
        exact h5 t h3⟩)
    (by kernel_rfl)
end Go.Proofs.YthpjlhfijkeciaaGreatDoor
