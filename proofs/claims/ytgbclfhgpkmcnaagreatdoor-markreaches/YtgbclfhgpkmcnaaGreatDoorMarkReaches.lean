/-
  MarkReaches: whatever the heap, the roots, how many workers there are, and the order of their steps: nothing is marked that is not reached; once all have ended, just what is reached is marked, each object by its size, and was scanned once; by turns all end.
-/
import Derived.Test.YtgbclfhgpkmcnaaGreatDoorPack42
import Derived.Test.YtgbclfhgpkmcnaaGreatDoorPack39
import Derived.Test.YtgbclfhgpkmcnaaGreatDoorPack29
import Derived.Test.YtgbclfhgpkmcnaaGreatDoorPack27
import Derived.Test.YtgbclfhgpkmcnaaGreatDoorPack20
import Derived.Test.YtgbclfhgpkmcnaaGreatDoorCards
import Derived.Test.YtgbclfhgpkmcnaaGreatDoorTie
import Derived.SevenTiedAt
import Derived.BigQuiet
import Derived.Deep.RegionHeld3
namespace Go.Proofs.YtgbclfhgpkmcnaaGreatDoor
open Go.ChangeShapes Go.WideShapes Go.ChangeAt Go.RowKit
set_option linter.unusedVariables false
set_option linter.unusedSimpArgs false

theorem roots_obj11 {bs : List Blk} {at_ : List Int} (h : at_ = bs.map Blk.t) (ls : List Int) : ∀ r, r ∈ ls.map (rootOf at_) → r = 0 ∨ ∃ b, b ∈ bs ∧ r = b.t := by
  intro r hr
  obtain ⟨x, _, rfl⟩ := List.mem_map.1 hr
  unfold rootOf
  split
  · rw [List.getD_eq_getElem?_getD]
    cases e : at_[x.toNat % at_.length]? with
    | none => exact .inl rfl
    | some y =>
      right
      have hy := List.mem_of_getElem? e
      rw [h] at hy
      obtain ⟨b, hb, rfl⟩ := List.mem_map.1 hy
      exact ⟨b, hb, rfl⟩
  · exact .inl rfl
set_option maxHeartbeats 8000000 in
set_option maxRecDepth 100000 in
theorem markReaches_walk (ao : Option Addr) (cap : Nat) (ths : List Th) (x y z : Int) (ro : Option Addr) (rc : Nat) (rs : List Int) (po : Option Addr) (pc : Nat) (ps : List Int) (w : World) (h : ThR w ao ths) (hcap : ths.length ≤ cap ∧ cap ≤ 9223372036854775807) (hxyz : In64 x ∧ In64 y ∧ In64 z) (hr : IRd w ro rs.length rs) (hp1 : IRd w po ps.length ps) (hrc : rs.length ≤ rc ∧ rc ≤ 9223372036854775807) (hT : Bt.Tab w) :
    Calls Tryz.prog 3 #[.slice ao ths.length cap, .agg #[.int .i64 x, .int .i64 y, .int .i64 z], .agg #[.slice ro rs.length rc, .slice po ps.length pc]] w fun e w' => e = .returned (.bool true) ∧ Turned [] w w' := by
  have HW0 := hide (show 0 < w.heap.size by have := block_lt (hT 0 (by omega)); simpa using this)
  obtain ⟨wB, hwB⟩ : ∃ wB, wB = (w.alloc (.cells #[.int .i64 x, .int .i64 y, .int .i64 z] 24)).alloc (.cells #[.slice ro rs.length rc, .slice po ps.length pc] 27) := ⟨_, rfl⟩
  have hTB : Turned [] w wB := by rw [hwB]; exact ((Turned.refl [] w).alloc _).alloc _
  have hg2 : wB.heap[w.heap.size + 1]? = some (.cells #[.slice ro rs.length rc, .slice po ps.length pc] 27) := by
    rw [hwB]
    have := heap_alloc_new (w.alloc (.cells #[.int .i64 x, .int .i64 y, .int .i64 z] 24)) (.cells #[.slice ro rs.length rc, .slice po ps.length pc] 27)
    rw [show (w.alloc (.cells #[.int .i64 x, .int .i64 y, .int .i64 z] 24)).heap.size = w.heap.size + 1 by simp] at this
    exact this
  have hg1 : wB.heap[w.heap.size]? = some (.cells #[.int .i64 x, .int .i64 y, .int .i64 z] 24) := by
    rw [hwB, Below.heap_alloc _ _ _ (by simp)]
    exact heap_alloc_new _ _
  have HAw := hide (awake11 wB (hT.turned hTB (by simp)))
  have HTb := hide hT
  have HTh := hide h
  have HRs := hide hr
  have HT0 := hide hTB
  have HXY := hide hxyz
  have HPs := hide hp1
  clear h hT hr hTB hp1 hxyz
  obtain ⟨rl, hrl⟩ : ∃ rl, rl = rs.length := ⟨_, rfl⟩
  obtain ⟨pl, hpl⟩ : ∃ pl, pl = ps.length := ⟨_, rfl⟩
  obtain ⟨tl, htl⟩ : ∃ tl, tl = ths.length := ⟨_, rfl⟩
  have HLr := hide hrl
  have HLt := hide htl
  rw [← hpl, ← hrl] at hwB ⊢
  rw [← hpl, ← hrl] at hg2
  rw [← hpl] at HPs
  rw [← hrl] at hrc
  rw [← htl] at hcap ⊢
  clear hpl hrl htl
  obtain ⟨sb, hsb⟩ : ∃ sb, sb = w.heap.size := ⟨_, rfl⟩
  obtain ⟨qb, hqb⟩ : ∃ qb, qb = sb + 1 := ⟨_, rfl⟩
  rw [← hsb] at hg1 hg2
  rw [← hqb] at hg2
  have HBn := hide (show w.heap.size ≤ sb ∧ sb < qb by omega)
  have HS0 := hide hg1
  have HQ0 := hide hg2
  clear hg1 hg2
  go_enter Tryz.func3, Tryz.ntmps3
  go_upto_region 1 with fail
  rw [← hwB, ← hsb, ← hqb]
  clear hwB hsb hqb
  go_wp2_with fail
  refine (HAw.out).mono ?_
  rintro e w1 ⟨rfl, t1⟩
  have HT1 := hide (HT0.out.trans t1)
  have HS1 := hide (t1.at HS0.out (by simp))
  have HQ1 := hide (t1.at HQ0.out (by simp))
  clear t1 HT0 HS0 HQ0 HAw
  go_upto_if 27 with fail
  go_cut [0] (fun s0 wc => ∃ (T : List Th) (tn c' : Nat), s0 = .slice ao tn c' ∧ tn ≤ 60 ∧ Aside (tn = T.length) ∧ Aside (ThR w ao T) ∧ Aside (wc = w1))
  case first =>
    by_cases h40 : 60 < tl
    · have h40i : (60 : Int) < tl := by omega
      have hsl := cut_things ao tl cap 60 h40 hcap.1 hcap.2
      rw [show ((60 : Nat) : Int) = 60 from rfl] at hsl
      go_wp2_with fail
      go_meet
      case rel => exact ⟨ths.take 60, 60, cap, rfl, by omega, (by show 60 = (ths.take 60).length; rw [List.length_take]; have := HLt.out; omega), HTh.out.front 60, rfl⟩
    · have h40i : ¬ (60 : Int) < tl := by omega
      go_wp2_with fail
      go_meet
      case rel => exact ⟨ths, tl, cap, rfl, by omega, HLt.out, HTh.out, rfl⟩
  case rest =>
  obtain ⟨T, tn, c', rfl, htn, htT, hthr, hwc⟩ := hcut
  have hwc' := hwc.out
  subst hwc'
  clear hwc hcap HLt HTh tl
  have HTl := hide htT.out
  have HTh := hide hthr.out
  clear htT hthr
  obtain ⟨w1, hw1⟩ : ∃ w1, w1 = wc := ⟨_, rfl⟩
  subst hw1
  have q0 : w1.cell? ⟨qb, 0, none⟩ = some (.slice ro rl rc) := by rw [cell_of_heap HQ1.out]; rfl
  have qf : w1.frozen? ⟨qb, 0, none⟩ = false := by simp [World.frozen?, HQ1.out]
  have hbqs := lt_of_heap HQ1.out
  go_upto_if 33 with fail
  go_cut [6] (fun s6 wc => ∃ (RS : List Int) (rn c' : Nat), s6 = .bool false ∧ Aside (rn = RS.length ∧ rn ≤ 20) ∧ Aside (IRd w ro RS.length RS) ∧ Aside (wc.heap[qb]? = some (.cells #[.slice ro rn c', .slice po pl pc] 27)) ∧ Aside (wc.heap[sb]? = some (.cells #[.int .i64 x, .int .i64 y, .int .i64 z] 24)) ∧ Aside (Turned [] w wc))
  case first =>
    by_cases h10 : 20 < rl
    · have h10i : (20 : Int) < rl := by omega
      have hsl := cut_ints ro rl rc 20 h10 hrc.1 hrc.2
      rw [show ((20 : Nat) : Int) = 20 from rfl] at hsl
      have HQ2 : Hid ((w1.setCell ⟨qb, 0, none⟩ (.slice ro 20 rc)).heap[qb]? = some (.cells #[.slice ro 20 rc, .slice po pl pc] 27)) := hide (by rw [heap_setCell_at _ _ _ _ _ _ HQ1.out]; rfl)
      have HS2 : Hid ((w1.setCell ⟨qb, 0, none⟩ (.slice ro 20 rc)).heap[sb]? = some (.cells #[.int .i64 x, .int .i64 y, .int .i64 z] 24)) := hide (by rw [Below.heap_setCell _ _ _ _ (by show sb ≠ qb; have := HBn.out; omega)]; exact HS1.out)
      have HT2 := hide (HT1.out.setCell (p := ⟨qb, 0, none⟩) (.inr (show w.heap.size ≤ qb by have := HBn.out; omega)) (.slice ro 20 rc))
      go_wp2_with fail
      go_meet
      case rel => exact ⟨rs.take 20, 20, rc, rfl, ⟨(by rw [List.length_take]; have := HLr.out; omega), by omega⟩, HRs.out.front 20, HQ2.out, HS2.out, HT2.out⟩
    · have h10i : ¬ (20 : Int) < rl := by omega
      go_wp2_with fail
      go_meet
      case rel => exact ⟨rs, rl, rc, rfl, ⟨HLr.out, by omega⟩, HRs.out, HQ1.out, HS1.out, HT1.out⟩
  case rest =>
  obtain ⟨RS, rn, c2, rfl, hrn, hrs, hq2, hs2, ht2⟩ := hcut
  have HRn := hide hrn.out
  have HRS := hide hrs.out
  have HQ2 := hide hq2.out
  have HS2 := hide hs2.out
  have HT2 := hide ht2.out
  clear hrn hrs hq2 hs2 ht2 HQ1 HS1 HT1 q0 qf hbqs HRs HLr hrc
  obtain ⟨w2, hw2⟩ : ∃ w2, w2 = wc := ⟨_, rfl⟩
  subst hw2
  have hTl50 : T.length ≤ 60 := by have := HTl.out; omega
  have HH := hide (fun (w' : World) (t : Turned [] w w') => lheap_any ao c' 400 T w' (HTh.out.turned t) (by omega) (by omega) (heapOf_len T 400 (by omega)))
  rw [← HTl.out, show ((400 : Nat) : Int) = 400 from rfl] at HH
  have HHl := hide (heapOf_len T 400 (by omega))
  have HHi := hide (heapOf_in T 400 (by omega) (by omega) (by omega))
  have HHa := hide (heapOf_at T 400 (by omega))
  have HHf := hide (Nat.le_trans (heapOf_few T 400) hTl50)
  have HHd := hide (heapOf_hd T 400 (by omega))
  generalize (heapOf T 400).1 = hw at *
  generalize (heapOf T 400).2 = at_ at *
  clear hTl50 HTh HTl
  have HH2 := hide (HH.out w2 HT2.out)
  clear HH htn
  go_wp2_with fail
  refine (HH2.out).mono ?_
  rintro e w3 ⟨p, q, d, v, rfl, hM3, hH3, hp3, hq3, hdp, hdq⟩
  have M3 := hide hM3
  have H3 := hide hH3
  have HT3 := hide (HT2.out.trans hH3.t)
  have HS3 := hide (hH3.t.at HS2.out (by simp))
  have HQ3 := hide (hH3.t.at HQ2.out (by simp))
  have HN3 := hide (show w.heap.size ≤ p ∧ w.heap.size ≤ q ∧ qb < p ∧ qb < q ∧ d < p ∧ d < q by have := lt_of_heap HQ2.out; have := HT2.out.size; omega)
  clear hM3 hH3 hp3 hq3 hdp hdq HH2 HS2 HQ2 HT2
  have HB := hide (Bt.new_any 400 w3 (by unfold Bt.In64; omega) (HTb.out.turned HT3.out (by simp)))
  rw [show Bt.kp 65536 400 = 400 from rfl] at HB
  go_wp2_with fail
  refine (HB.out).mono ?_
  rintro e w4 ⟨pb, qb2, rfl, hb4, hpb, hqb, t4⟩
  have M4 := hide (M3.out.turned t4 (by simp) (by simp))
  have H4 := hide (H3.out.keep t4)
  have HT4 := hide (HT3.out.trans t4)
  have HS4 := hide (t4.at HS3.out (by simp))
  have HQ4 := hide (t4.at HQ3.out (by simp))
  have B4 := hide hb4
  have HN4 := hide (show p < qb2 ∧ q < qb2 ∧ qb < qb2 ∧ d < qb2 by have := M3.out.ltp; have := M3.out.ltq; have := HN3.out; omega)
  clear hb4 hpb hqb t4 HB M3 H3 HT3 HS3 HQ3
  have HMk := hide (lmade11 p q pb qb2 hw x y z w4 0 M4.out (by rw [HHl.out]; omega) (by rw [HHl.out]; exact B4.out) HXY.out (by have := M4.out.ltp; omega) (by have := HN3.out; have := HN4.out; have := HW0.out; simp; omega) (HTb.out.turned HT4.out (by simp)))
  have s0 : w4.cell? ⟨sb, 0, none⟩ = some (.int .i64 x) := by rw [cell_of_heap HS4.out]; rfl
  have s1 : w4.cell? ⟨sb, 1, none⟩ = some (.int .i64 y) := by rw [cell_of_heap HS4.out]; rfl
  have s2 : w4.cell? ⟨sb, 2, none⟩ = some (.int .i64 z) := by rw [cell_of_heap HS4.out]; rfl
  go_wp2_with fail
  refine (HMk.out).mono ?_
  rintro e w7 ⟨P, L, M, len, cp, a, gw, cw, pcc, qc, co, ds, ws, w6, rfl, hPw, hPc, hPn, hPk, hPo, hL, t6, hpc, hqc, hMz, hk⟩
  have HK := hide hk
  have HPf := hide (And.intro hPw (And.intro hPc (And.intro hPn (And.intro hPk (And.intro hPo hL)))))
  have HBP : Hid (BP P) := hide ⟨hPn.1, by rw [hPw, HHl.out]; omega, by rw [hPw]; exact HHi.out, by omega⟩
  obtain ⟨va, vc, hv, hat⟩ := H4.out.at
  subst hv
  have hrow4 : ∀ g', va = some ⟨g', 0, none⟩ → ∃ cB, w4.heap[g']? = some (.cells cB 3) := fun g' e => by
    have h3 := H4.out.row
    rcases h3.2 with ⟨h4, _⟩ | ⟨g2, cap2, cur, h4, _, h5, _⟩
    · rw [e] at h4; cases h4
    · rw [e] at h4
      cases h4
      exact ⟨_, h5⟩
  have HFi : Hid (∀ i, i ∈ [p, q, qb2, pcc, qc] → w.heap.size ≤ i ∧ qb < i ∧ d < i) := hide (fun i hi => by
    have := HN3.out; have := HN4.out; have := HT4.out.size; have := lt_of_heap HQ4.out; have := M4.out.ltp
    have := lt_of_heap M4.out.head
    simp only [List.mem_cons, List.not_mem_nil, or_false] at hi
    omega)
  have HT6 := hide (HT4.out.trans t6)
  have HQ6 := hide (t6.at HQ4.out (by simp))
  have HD6 := hide (H4.out.doc.turned t6 (by simp))
  have HT7 := hide (HT6.out.trans_new hk.tu (fun i hi => .inr (HFi.out i hi).1))
  have HQ7 := hide (hk.tu.at HQ6.out (fun hm => by have := HFi.out qb hm; omega))
  have HA7 : Hid (∀ (i : Nat) (x : Int), at_[i]? = some x → ∃ g, va = some ⟨g, 0, none⟩ ∧ w7.cell? ⟨g, i, none⟩ = some (.int .i64 x)) := hide (fun i x hx => by
    obtain ⟨g', h1, h2⟩ := hat i x hx
    refine ⟨g', h1, ?_⟩
    obtain ⟨cB, hcB⟩ := hrow4 g' h1
    have hl4 := lt_of_heap hcB
    have hcB6 := t6.at hcB (by simp)
    obtain ⟨cq, hcq, _⟩ := B4.out.row
    have n1 := ne_of_type hcB M4.out.head (by decide)
    have n2 := ne_of_type hcB M4.out.row (by decide)
    have n3 := ne_of_type hcB hcq (by decide)
    rw [hk.tu.cell (p := ⟨g', i, none⟩) (lt_of_heap hcB6) (by
      show g' ∉ [p, q, qb2, pcc, qc]
      simp [n1, n2, n3]
      omega), t6.cell (p := ⟨g', i, none⟩) hl4 (by simp)]
    exact h2)
  have HRt := hide (roots11 va vc at_ ro c2 RS w7 HA7.out (by have := HHf.out; omega) (HRS.out.turned HT7.out) (by have := HRn.out; omega))
  rw [← HRn.out.1] at HRt
  have q4 : w7.cell? ⟨qb, 0, none⟩ = some (.slice ro rn c2) := by rw [cell_of_heap HQ7.out]; rfl
  obtain ⟨atn, hatn⟩ : ∃ atn, atn = at_.length := ⟨_, rfl⟩
  rw [← hatn] at HRt ⊢
  clear hatn hk hPw hPc hPn hPk hPo hL t6 hpc hqc hMz hat hrow4 HMk s0 s1 s2 M4 B4 H4 HT4 HS4 HQ4 HA7
  go_wp2_with fail
  refine (HRt.out).mono ?_
  rintro e w8 ⟨v8, rfl, ho8, t8⟩
  obtain ⟨TR, hTR⟩ : ∃ TR, TR = RS.map (rootOf at_) := ⟨_, rfl⟩
  rw [← hTR] at ho8
  have HTl : Hid (rn = TR.length ∧ TR.length ≤ 20) := hide (by rw [hTR, List.length_map]; have := HRn.out; omega)
  have HTi : Hid (∀ y, y ∈ TR → In64 y) := hide (fun y hy => by
    rw [hTR] at hy
    obtain ⟨r, _, rfl⟩ := List.mem_map.1 hy
    have := rootOf_in HHa.out r
    unfold In64
    omega)
  obtain ⟨top, bsl, hd1, hd2⟩ := HHd.out
  have HD1 := hide hd1
  have HRz : Hid (∀ r, r ∈ TR → r = 0 ∨ ∃ b, b ∈ bsl ∧ r = b.t) := hide (by rw [hTR]; exact roots_obj11 hd2 RS)
  have HBl : Hid (bsl.length ≤ 60) := hide (by have := HHf.out; rw [hd2, List.length_map] at this; exact this)
  clear hTR hd1 hd2 HHd
  rw [HTl.out.1] at ho8
  obtain ⟨aT, cT, rfl, hrd⟩ := row_roots P.n ho8
  have HNo : Hid (aT = none → rn = 0 ∧ cT = 0) := hide (fun e => by
    rcases ho8.2 with ⟨hv, h0⟩ | ⟨g, cap, cur, hv, _⟩
    · simp only [Value.slice.injEq] at hv
      exact ⟨by rw [HTl.out.1]; exact hv.2.1, hv.2.2⟩
    · rw [e] at hv
      simp at hv)
  obtain ⟨g0, c0⟩ := lm_fresh HK.out HBP.out (by have := HPf.out; omega) (by have := HPf.out; omega)
  have HRo := hide (lm_root2 (I := ⟨M, p, q, len, cp, co, pb, qb2, a, gw, P.n, cw, pcc, qc, 0⟩) (r := 0) (T := TR) (ao := aT) (cap := cT) aT TR ⟨_, HK.out.keep0 t8, hrd _ (fun j y hj hy => by simp at hy), hrd _ (fun j y hj hy => by simp at hy)⟩ g0.gg c0 (by have := HTl.out; omega) (by omega) HTi.out)
  rw [← HTl.out.1] at HRo ⊢
  clear ho8 HRt HK g0 c0 t8 hrd q4
  go_wp2_with fail
  refine (HRo.out).mono ?_
  rintro e w9 ⟨rfl, ⟨Bs9, hm9', hr9⟩, hg9', -⟩
  obtain ⟨I, hI⟩ : ∃ I : Ids, I = ⟨M, p, q, len, cp, co, pb, qb2, a, gw, P.n, cw, pcc, qc, ((0 + rn : Nat) : Int)⟩ := ⟨_, rfl⟩
  have HIe := hide hI
  obtain ⟨S0, hS0⟩ : ∃ S0, S0 = rootsM P.n (MS.fresh (List.replicate L 0) (fun _ => 0) 0 0) 0 TR := ⟨_, rfl⟩
  have hm9 : Mk P I w6 w9 ds ws S0 Bs9 := by rw [hI, hS0]; exact hm9'
  have hg9 : Gg P TR 20 (3 * P.hw.length + 2 * 60) 0 S0 := by
    have h1 := hg9'.more (H' := 20) (E' := 3 * P.hw.length + 2 * 60) (by have := HTl.out; omega) (by have := HTl.out; omega)
    rw [hS0]
    simpa using h1
  have HRg : Hid (RightM P TR) := hide (right_link (N := 400) (top := top) (bs := bsl) (by rw [HPf.out.1]; exact HD1.out) HPf.out.2.1 HRz.out)
  have HIR : Hid (IRd w9 aT rn TR) := hide ⟨HTl.out.1.symm, by have := HTl.out; omega, fun i x hx => by
    obtain ⟨b, off, c, fr, e1, e2, e3, _⟩ := hr9 i x hx
    exact ⟨b, off, e1, by rw [cell_of_heap e2, e3]⟩, HTi.out⟩
  have htu := hm9.tu
  rw [hI] at htu
  have HD9 := hide (HD6.out.turned htu (fun hm => by have := HFi.out d hm; omega))
  have HM9 := hide hm9
  have HG9 := hide hg9
  clear hm9 hg9 hm9' hg9' hr9 hI hS0 htu HRo HD6 HT7 HQ7
  have HFo := hide (four_any w9)
  go_wp2_with fail
  refine (HFo.out).mono ?_
  rintro e w10 ⟨gc, rfl, hc10, t10, -⟩
  have HT10 := hide t10
  have HLv := hide (live11 d 400 hw top bsl (some ⟨gc, 0, none⟩) 4 4 aT rn cT TR w10 HD1.out (by omega) (fun x hx => HHi.out x hx) (HD9.out.turned t10 (by simp)) hc10.rd (HIR.out.turned t10) HNo.out HRz.out (by have := HBl.out; omega) (left_few11 (by have := HBl.out; omega) (by have := HTl.out; omega)))
  rw [show ((400 : Nat) : Int) = 400 from rfl] at HLv
  clear hc10 t10 HFo HIR HNo HD9
  go_wp2_with fail
  refine (HLv.out).mono ?_
  rintro e w11 ⟨vv, R, rfl, hown, hR, t11⟩
  have HR := hide hR
  obtain ⟨V, hV⟩ : ∃ V, V = liveBs bsl R := ⟨_, rfl⟩
  have HV := hide hV
  rw [← hV] at hown
  obtain ⟨vo, vcap, rfl, hbk⟩ := ownsRow_blks hown
  obtain ⟨F, hF⟩ : ∃ F, F = blocksM P.n I ws Bs9 := ⟨_, rfl⟩
  have HL0 : Hid (Lk P I w6 ds ws TR 20 (3 * P.hw.length + 2 * 60) F w11 ((0 : Nat) : Int) S0 w11) := hide (by rw [hF]; exact lk_of HM9.out HG9.out (HT10.out.trans t11))
  obtain ⟨vl, hvl⟩ : ∃ vl, vl = V.length := ⟨_, rfl⟩
  rw [← hvl] at hown hbk ⊢
  have HVl : Hid (vl ≤ 60) := hide (by rw [hvl, hV]; exact Nat.le_trans (List.length_filter_le _ _) HBl.out)
  have HBk : Hid (∀ wr, Turned F w11 wr → BlkRd wr vo vl V) := hide (fun wr t => by
    refine ⟨hbk.size, fun i b hb => ?_⟩
    obtain ⟨g, off, e1, c0, c1, c2', c3⟩ := hbk.cell i b hb
    have hgF : g ∉ F := fun hm => by
      rw [hF] at hm
      have h1 := blocksM_old HM9.out hm
      have h2 := HT10.out.size
      rcases hown.2 with ⟨hv, _⟩ | ⟨g', cap', cur, hv, hg', _⟩
      · cases hv; cases e1
      · cases hv; cases e1; omega
    exact ⟨g, off, e1, by rw [t.cell (block_lt c0) hgF]; exact c0, by rw [t.cell (block_lt c1) hgF]; exact c1, by rw [t.cell (block_lt c2') hgF]; exact c2', by rw [t.cell (block_lt c3) hgF]; exact c3⟩)
  have HVn := hide hvl
  clear hown hbk hV hvl hR t11 hF HLv HM9 HG9 HT10
  have HWr : Hid (∀ (wr : World) (M' : Int) (S : MS), Lk P I w6 ds ws TR 20 (3 * P.hw.length + 2 * 60) F w11 M' S wr → Turned [] w wr ∧ wr.heap[qb]? = some (.cells #[.slice ro rn c2, .slice po pl pc] 27) ∧ Bt.Brd wr (some ⟨pb, 0, none⟩) 400 (Bt.sidesOf S.sz) ∧ Bt.Bl 400 S.sz) := hide (fun wr M' S hl => by
    obtain ⟨Bs, hM, _⟩ := hl.mem
    have h1 := hM.tu
    have h2 := hM.bt
    have h3 := hM.bl
    rw [HIe.out] at h1
    rw [HIe.out, HPf.out.1, HHl.out] at h2
    rw [HPf.out.1, HHl.out] at h3
    exact ⟨HT6.out.trans_new h1 (fun i hi => .inr (HFi.out i hi).1), h1.at HQ6.out (fun hm => by have := HFi.out qb hm; omega), h2.brd, h3⟩)
  clear HT6 HQ6 HFi
  go_upto_block 0 with fail
  go_cut [17] (fun _ wc => ∃ (i : Nat) (S : MS), Aside (i ≤ 500 ∧ Lk P I w6 ds ws TR 20 (3 * P.hw.length + 2 * 60) F w11 (i : Int) S wc))
  case first =>
    go_wp2_with fail
    go_loopg [17] 500 (fun gg s17 wr => ∃ (i : Nat) (S : MS), s17 = .int .i64 (i : Int) ∧ i ≤ 500 ∧ 500 - i ≤ gg ∧ Aside (Lk P I w6 ds ws TR 20 (3 * P.hw.length + 2 * 60) F w11 (i : Int) S wr))
    case atStart => exact ⟨0, S0, rfl, by omega, by omega, HL0.out⟩
    case round =>
      obtain ⟨i, S, rfl, hi3, hgi, hL⟩ := hrel
      have L1 := hide hL.out
      clear hL HL0
      obtain ⟨hw1, hw2, -, -⟩ := HWr.out wr _ _ L1.out
      have q1 : wr.cell? ⟨qb, 1, none⟩ = some (.slice po pl pc) := by rw [cell_of_heap hw2]; rfl
      have HPw := hide (HPs.out.turned hw1)
      clear hw1 hw2
      by_cases h1 : i < pl
      · have h1i : (i : Int) < (pl : Int) := by omega
        by_cases h2 : i < 500
        · have h2i : (i : Int) < 500 := by omega
          obtain ⟨c, hc⟩ : ∃ c, ps[i]? = some c := ⟨_, List.getElem?_eq_getElem (by rw [HPw.out.size]; exact h1)⟩
          obtain ⟨pbk, poff, hpo, cc⟩ := HPw.out.cell i c hc
          subst hpo
          have HPk := hide (pick11 c P.n wr (HPs.out.inn c (List.mem_of_getElem? hc)) ⟨by have := HPf.out; omega, by have := HPf.out; omega⟩)
          clear hc
          go_wp2_with fail
          refine (HPk.out).mono ?_
          rintro e w12 ⟨⟨r, rfl, hr⟩, hw12⟩
          rw [hw12]
          clear hw12 w12 HPk cc q1 HPw
          have HSt := hide (lk_step L1.out HBP.out HRg.out hr (by omega) (by omega))
          rw [show I.M = M by rw [HIe.out]] at HSt
          go_wp2_with fail
          refine (HSt.out).mono ?_
          rintro e w13 ⟨rfl, hl13⟩
          have L3 : Hid (Lk P I w6 ds ws TR 20 (3 * P.hw.length + 2 * 60) F w11 ((i + 1 : Nat) : Int) (stepM P S r) w13) := hide (by rw [show ((i + 1 : Nat) : Int) = (i : Int) + 1 by omega]; exact hl13)
          clear hl13 HSt L1 hr
          generalize (if ((stepM P S r).X r).ended = true then (2 : Int) else 0) = tv
          generalize stepM P S r = S' at *
          go_wp2_with fail
          go_roundg (500 - (i + 1))
          case measure => omega
          case rel => exact ⟨i + 1, S', by go_num, by omega, Nat.le_refl _, L3.out⟩
        · have h2i : ¬ (i : Int) < 500 := by omega
          go_wp2_with fail
          go_meet
          case rel => exact ⟨i, S, hi3, L1.out⟩
      · have h1i : ¬ (i : Int) < (pl : Int) := by omega
        go_wp2_with fail
        go_meet
        case rel => exact ⟨i, S, hi3, L1.out⟩
  case rest =>
  clear HL0 HPs
  obtain ⟨iq, S, hL⟩ := hcut
  have L0 := hide hL.out.2
  have HIq := hide hL.out.1
  clear hL
  obtain ⟨w12, hw12⟩ : ∃ w12, w12 = wc := ⟨_, rfl⟩
  subst hw12
  have HSub : Hid (marksTo S.sz 400 ≤ vl) := hide (by
    have h1 := live_sub (S := S) (bs := bsl) (R := R) (top := top) (N := 400) (by rw [HPf.out.1]; exact HD1.out) HPf.out.2.1 HRz.out (by rw [HPf.out.1]; exact HR.out) (fun t g => (L0.out.gg.inv.reach t g).1)
    rw [HPf.out.1, HHl.out, ← HV.out, ← HVn.out] at h1
    exact h1)
  have HCa := hide (show Calls Tryz.prog 19 #[.pointer (some ⟨pb, 0, none⟩), .int .i64 0, .int .i64 400] w12 fun e w' => e = .returned (.int .i64 (marksTo S.sz 400 : Nat)) ∧ ∃ m, w' = w12.drewN m from by
    have h1 := Bt.count_any (some ⟨pb, 0, none⟩) 400 (Bt.sidesOf S.sz) 0 400 w12 (HWr.out w12 _ _ L0.out).2.2.1
    rw [show Bt.kp 400 0 = 0 from rfl, show Bt.kp 400 400 = 400 from rfl, Bt.cntIn_zero] at h1
    exact h1)
  have HIn : Hid (∀ i : Nat, 0 < S.sz i → i < 400 → (i : Int) ∈ V.map Blk.t) := hide (fun i h1 h2 => by
    have h3 := (L0.out.gg.inv.reach (i : Int) ⟨by omega, by rw [HPf.out.1, HHl.out]; omega, by rw [Int.toNat_natCast]; exact h1⟩).1
    have h4 := (live_rch (bs := bsl) (R := R) (top := top) (N := 400) (by rw [HPf.out.1]; exact HD1.out) HPf.out.2.1 HRz.out (by rw [HPf.out.1]; exact HR.out) (i : Int)).1 h3
    rw [HV.out]
    exact h4)
  obtain ⟨mc, hmc⟩ : ∃ mc, mc = marksTo S.sz 400 := ⟨_, rfl⟩
  rw [← hmc] at HCa HSub
  clear hmc
  have hng : ¬ (vl : Int) < (mc : Int) := by have := HSub.out; omega
  go_wp2_with fail
  refine (HCa.out).mono ?_
  rintro e w13 ⟨rfl, m1, hw13⟩
  have L1 := hide (L0.out.keep0 (w' := w13) (by rw [hw13]; exact (Turned.refl [] w12).drewN m1))
  clear hw13 HCa L0
  have hd0 : (vl < mc) = False := eq_false (by have := HSub.out; omega)
  have hd1 : ((vl : Int) < (mc : Int)) = False := eq_false (by have := HSub.out; omega)
  go_upto_block 2 with fail
  clear hd0 hd1
  go_cut [18] (fun _ wc => Aside (Lk P I w6 ds ws TR 20 (3 * P.hw.length + 2 * 60) F w11 (iq : Int) S wc))
  case first =>
    clear hng
    go_wp2_with fail
    go_loopg [18] 400 (fun gg s18 wr => ∃ (i : Nat), s18 = .int .i64 (i : Int) ∧ i ≤ 400 ∧ 400 - i ≤ gg ∧ Aside (Lk P I w6 ds ws TR 20 (3 * P.hw.length + 2 * 60) F w11 (iq : Int) S wr))
    case atStart => exact ⟨0, rfl, by omega, by omega, L1.out⟩
    case round =>
      obtain ⟨i, rfl, hi, hgi, hL⟩ := hrel
      have L2 := hide hL.out
      clear hL L1
      by_cases h4 : i < 400
      · have h4i : (i : Int) < 400 := by omega
        have HHs := hide (Bt.bhas_any (some ⟨pb, 0, none⟩) 400 S.sz (i : Int) wr (HWr.out wr _ _ L2.out).2.2.1 (HWr.out wr _ _ L2.out).2.2.2)
        rw [Bt.szI_nat] at HHs
        by_cases hz : 0 < S.sz i
        · rw [decide_eq_true hz] at HHs
          have HI := hide (HIn.out i hz h4)
          clear hz
          go_wp2_with fail
          refine (HHs.out).mono ?_
          rintro e w14 ⟨rfl, m2, hw14⟩
          have L3 := hide (L2.out.keep0 (w' := w14) (by rw [hw14]; exact (Turned.refl [] wr).drewN m2))
          clear hw14 HHs L2
          have HIi := hide (in11 vo vl vcap V i w14 (HBk.out w14 L3.out.t) (by have := HVl.out; omega) HI.out)
          go_wp2_with fail
          refine (HIi.out).mono ?_
          rintro e w15 ⟨rfl, t15⟩
          have L4 := hide (L3.out.keep0 t15)
          clear t15 L3 HIi HI
          go_wp2_with fail
          go_roundg (400 - (i + 1))
          case measure => omega
          case rel => exact ⟨i + 1, by go_num, by omega, Nat.le_refl _, L4.out⟩
        · rw [decide_eq_false hz] at HHs
          clear hz
          go_wp2_with fail
          refine (HHs.out).mono ?_
          rintro e w14 ⟨rfl, m2, hw14⟩
          have L3 := hide (L2.out.keep0 (w' := w14) (by rw [hw14]; exact (Turned.refl [] wr).drewN m2))
          clear hw14 HHs L2
          go_wp2_with fail
          go_roundg (400 - (i + 1))
          case measure => omega
          case rel => exact ⟨i + 1, by go_num, by omega, Nat.le_refl _, L3.out⟩
      · have h4i : ¬ (i : Int) < 400 := by omega
        go_wp2_with fail
        go_meet
        case rel => exact L2.out
  case rest =>
  have L0 := hide hcut.out
  clear hcut L1 HIn HSub hng
  obtain ⟨w14, hw14⟩ : ∃ w14, w14 = wc := ⟨_, rfl⟩
  subst hw14
  obtain ⟨BD, hBD⟩ : ∃ BD : Nat, BD = (P.n + 2) * (P.n + 2) * (100 + 40 * 400) := ⟨_, rfl⟩
  have HBD := hide hBD
  have hBs : BD ≤ 600000 := by
    rw [hBD]
    have h1 : (P.n + 2) * (P.n + 2) ≤ 6 * 6 := Nat.mul_le_mul (by have := HPf.out; omega) (by have := HPf.out; omega)
    omega
  have HBo := hide (fun W => bound11 P.n 400 HPf.out.2.2.1.2 (by omega) W)
  rw [← hBD] at HBo
  clear hBD
  go_upto_block 4 with fail
  go_cut [19] (fun _ wc => ∃ (j : Nat), Aside (j ≤ BD ∧ Lk P I w6 ds ws TR 20 (3 * P.hw.length + 2 * 60) F w11 ((iq : Int) + j) (turnsM P S j) wc) ∧ Aside (allE (turnsM P S j) P.n = true))
  case first =>
    go_wp2_with fail
    go_loopg [19] BD (fun gg s19 wr => ∃ (j : Nat), s19 = .int .i64 (j : Int) ∧ j ≤ BD ∧ BD - j ≤ gg ∧ Aside (Lk P I w6 ds ws TR 20 (3 * P.hw.length + 2 * 60) F w11 ((iq : Int) + j) (turnsM P S j) wr))
    case atStart => exact ⟨0, rfl, by omega, by omega, by rw [show (iq : Int) + ((0 : Nat) : Int) = iq by omega]; exact L0.out⟩
    case round =>
      obtain ⟨j, rfl, hj, hgj, hL1⟩ := hrel
      have L1 := hide hL1.out
      clear hL1
      have HWd := hide (show Calls Tryz.prog 23 #[.pointer (some ⟨p, 0, none⟩), .int .i64 0, .int .i64 65536] wr _ from by
        obtain ⟨Bs, hM, _⟩ := L1.out.mem
        have hm := hM.hm
        rw [HIe.out, HPf.out.1] at hm
        exact words_mem p q hw _ 0 65536 wr (by rw [HHl.out]; omega) hm)
      rw [HHl.out, show (min (max (65536 : Int) 0) ((400 : Nat) : Int)).toNat = 400 from rfl, show (min (max (0 : Int) 0) ((400 : Nat) : Int)).toNat = 0 from rfl, List.drop_zero, List.take_of_length_le (Nat.le_of_eq HHl.out), HHl.out] at HWd
      go_wp2_with fail
      refine (HWd.out).mono ?_
      rintro e w15 ⟨v15, rfl, ho15, t15⟩
      obtain ⟨gv, cv, rfl, -, -, -, -, -⟩ := ownsRow_open ho15 (by omega)
      have L2 := hide (L1.out.keep0 t15)
      clear ho15 t15 HWd L1
      go_wp2_with fail
      refine (HBo.out w15).mono ?_
      rintro e w16 ⟨rfl, hw16⟩
      rw [hw16]
      clear hw16 w16
      have HDn := hide (lm_done L2.out.lm)
      rw [show I.M = M by rw [HIe.out]] at HDn
      by_cases hjb : j < BD
      · have hjbi : (j : Int) < (BD : Int) := by omega
        cases hall : allE (turnsM P S j) P.n
        · rw [hall] at HDn
          clear hall
          have hkn : j % P.n < P.n := Nat.mod_lt _ (by have := HPf.out; omega)
          have HSt := hide (lk_step L2.out HBP.out HRg.out hkn (by have := HIq.out; omega) (by omega))
          rw [show I.M = M by rw [HIe.out]] at HSt
          have hmod : ((j : Nat) : Int).tmod (P.n : Int) = ((j % P.n : Nat) : Int) := by
            rw [Int.tmod_eq_emod_of_nonneg (by omega)]; simp
          have hnz : ¬ ((P.n : Int) = 0) := by have := HPf.out; omega
          go_wp2_with fail
          refine (HDn.out).mono ?_
          rintro e w16 ⟨rfl, hw16⟩
          rw [hw16]
          clear hw16 w16 HDn
          go_wp2_with fail
          refine (HSt.out).mono ?_
          rintro e w17 ⟨rfl, hl17⟩
          have L3 : Hid (Lk P I w6 ds ws TR 20 (3 * P.hw.length + 2 * 60) F w11 ((iq : Int) + (j + 1 : Nat)) (turnsM P S (j + 1)) w17) := hide (by rw [show (iq : Int) + ((j + 1 : Nat) : Int) = (iq : Int) + j + 1 by omega]; exact hl17)
          clear hl17 HSt L2 hmod hnz hkn
          generalize (if ((stepM P (turnsM P S j) (j % P.n)).X (j % P.n)).ended = true then (2 : Int) else 0) = tv
          go_wp2_with fail
          go_roundg (BD - (j + 1))
          case measure => omega
          case rel => exact ⟨j + 1, by go_num, by omega, Nat.le_refl _, L3.out⟩
        · rw [hall] at HDn
          have HAl := hide hall
          go_wp2_with fail
          refine (HDn.out).mono ?_
          rintro e w16 ⟨rfl, hw16⟩
          rw [hw16]
          clear hw16 w16 HDn
          go_wp2_with fail
          go_meet
          case rel => exact ⟨j, ⟨hj, L2.out⟩, HAl.out⟩
      · have hjbi : ¬ (j : Int) < (BD : Int) := by omega
        obtain rfl : j = BD := by omega
        have HAl := hide (lm_over L0.out.gg HBP.out HPf.out.2.2.1.2 (t := j) (by
          have h1 := bound_ok (n := P.n) (w := 400) (r := 60) HPf.out.2.2.1.1 HPf.out.2.2.1.2 (by omega) (by omega)
          rw [HBD.out, HPf.out.1, HHl.out]
          exact h1))
        go_wp2_with fail
        go_meet
        case rel => exact ⟨j, ⟨hj, L2.out⟩, HAl.out⟩
  case rest =>
  obtain ⟨j, hj, hall⟩ := hcut
  have L1 := hide hj.out.2
  have HAl := hide hall.out
  have HjB := hide hj.out.1
  clear hj hall HBo L0
  obtain ⟨w15, hw15⟩ : ∃ w15, w15 = wc := ⟨_, rfl⟩
  subst hw15
  obtain ⟨Sj, hSj⟩ : ∃ Sj, Sj = turnsM P S j := ⟨_, rfl⟩
  rw [← hSj] at L1 HAl
  clear hSj
  have HOv := hide (L1.out.gg.over ((allE_true _ _).1 HAl.out))
  have HCv : Hid (marksTo Sj.sz 400 = vl) := hide (by
    have h1 := live_count (S := Sj) (bs := bsl) (R := R) (top := top) (N := 400) (by rw [HPf.out.1]; exact HD1.out) HPf.out.2.1 HRz.out (by rw [HPf.out.1]; exact HR.out) HOv.out.1
    rw [HPf.out.1, HHl.out, ← HV.out, ← HVn.out] at h1
    exact h1)
  have HSv : Hid (sumTo (fun k => (Sj.X k).seen) P.n = (vl : Int)) := hide (by
    have h1 := HOv.out.2.1
    rw [HPf.out.1, HHl.out, HCv.out] at h1
    exact h1)
  have HSz : Hid (∀ (i : Nat) (b : Blk), V[i]? = some b → Bt.szI Sj.sz b.t = b.s.toNat ∧ 0 ≤ b.s) := hide (fun i b hb => by
    have h1 := live_size (S := Sj) (bs := bsl) (R := R) (top := top) (N := 400) (b := b) (by rw [HPf.out.1]; exact HD1.out) HPf.out.2.1 HRz.out (by rw [HPf.out.1]; exact HR.out) HOv.out.1 HOv.out.2.2.2 (by rw [← HV.out]; exact List.mem_of_getElem? hb)
    have h2 := Bt.szI_nat Sj.sz b.t.toNat
    rw [Int.toNat_of_nonneg (by omega)] at h2
    rw [h2]
    omega)
  have HSn : Hid (∀ i, i < P.n → 0 ≤ (Sj.X i).seen ∧ (Sj.X i).seen ≤ 1000000) := hide (fun i hi => by
    have h1 := (L1.out.gg.bm.w i hi).seen
    have := HIq.out
    have := HjB.out
    omega)
  have HSe := hide (show Calls Tryz.prog 25 #[.pointer (some ⟨M, 0, none⟩)] w15 _ from by
    obtain ⟨Bs, hM, _⟩ := L1.out.mem
    have h1 := mseen_any P I w6 w15 ds ws Sj Bs hM
    rw [show I.M = M by rw [HIe.out]] at h1
    exact h1)
  clear HOv HBD HIq HjB hBs HRg
  go_wp2_with fail
  refine (HSe.out).mono ?_
  rintro e w16 ⟨gs, csn, rfl, -, hc16, -, hcc, t16⟩
  have L2 := hide (L1.out.keep0 t16)
  have HCc : Hid (∀ i, i < P.n → w16.cell? ⟨gs, i, none⟩ = some (.int .i64 (Sj.X i).seen)) := hide (fun i hi => by rw [cell_of_heap hc16]; exact hcc i hi)
  clear t16 hc16 hcc HSe L1
  obtain ⟨f, hf⟩ : ∃ f : Nat → Int, f = fun k => (Sj.X k).seen := ⟨_, rfl⟩
  rw [← hf] at HSv
  have HCf : Hid (∀ i, i < P.n → w16.cell? ⟨gs, i, none⟩ = some (.int .i64 (f i)) ∧ 0 ≤ f i ∧ f i ≤ 1000000) := hide (fun i hi => by rw [hf]; exact ⟨HCc.out i hi, HSn.out i hi⟩)
  clear hf HCc HSn
  have HSl : Hid (∀ i : Nat, i ≤ P.n → 0 ≤ sumTo f i ∧ sumTo f i ≤ 1000000 * i) := hide (fun i => by
    induction i with
    | zero => intro _; exact ⟨Int.le_refl _, by show (0 : Int) ≤ _; omega⟩
    | succ i ih =>
      intro hi
      have h1 := ih (by omega)
      have h2 := (HCf.out i (by omega)).2
      show 0 ≤ sumTo f i + f i ∧ sumTo f i + f i ≤ _
      omega)
  go_wp2_with fail
  go_loopg [20, 22] 4 (fun gg s20 s22 wr => ∃ (i : Nat), s20 = .int .i64 (sumTo f i) ∧ s22 = .int .i64 (i : Int) ∧ i ≤ P.n ∧ P.n - i ≤ gg ∧ Aside (wr = w16))
  case atStart => exact ⟨0, rfl, rfl, by omega, by have := HPf.out; omega, rfl⟩
  case round =>
    obtain ⟨i, rfl, rfl, hi, hgi, hwr⟩ := hrel
    have hwr' := hwr.out
    rw [hwr']
    clear hwr hwr' wr
    by_cases hin : i < P.n
    · have hini : (i : Int) < (P.n : Int) := by omega
      obtain ⟨cf, f1, f2⟩ := HCf.out i hin
      have g1 := HSl.out i hi
      have hin4 : i < 4 := by have := HPf.out; omega
      have hsum : wrap64 (sumTo f i + f i) = sumTo f (i + 1) := by
        show wrap64 (sumTo f i + f i) = sumTo f i + f i
        unfold wrap64
        omega
      have HS3 : Hid (sumTo f i + f i = sumTo f (i + 1)) := hide rfl
      obtain ⟨si, hsi⟩ : ∃ si, si = sumTo f i := ⟨_, rfl⟩
      obtain ⟨fi, hfi⟩ : ∃ fi, fi = f i := ⟨_, rfl⟩
      obtain ⟨s2, hs2⟩ : ∃ s2, s2 = sumTo f (i + 1) := ⟨_, rfl⟩
      rw [← hsi] at g1 hsum HS3 ⊢
      rw [← hfi] at cf f1 f2 hsum HS3
      rw [← hs2] at hsum
      have HS2 := hide hs2
      clear hsi hfi hs2
      go_wp2_with fail
      go_roundg (P.n - (i + 1))
      case measure => omega
      case rel => exact ⟨i + 1, congrArg (Value.int .i64) HS3.out, by go_num, by omega, Nat.le_refl _, rfl⟩
    · have hini : ¬ (i : Int) < (P.n : Int) := by omega
      obtain rfl : i = P.n := by omega
      rw [HSv.out]
      have HDn := hide (lm_done L2.out.lm)
      have HFt := hide (lm_fault L2.out.lm)
      rw [HAl.out, show I.M = M by rw [HIe.out]] at HDn
      rw [show I.M = M by rw [HIe.out]] at HFt
      have HCa := hide (show Calls Tryz.prog 19 #[.pointer (some ⟨pb, 0, none⟩), .int .i64 0, .int .i64 400] w16 fun e w' => e = .returned (.int .i64 (vl : Nat)) ∧ ∃ m, w' = w16.drewN m from by
        have h1 := Bt.count_any (some ⟨pb, 0, none⟩) 400 (Bt.sidesOf Sj.sz) 0 400 w16 (HWr.out w16 _ _ L2.out).2.2.1
        rw [show Bt.kp 400 0 = 0 from rfl, show Bt.kp 400 400 = 400 from rfl, Bt.cntIn_zero] at h1
        rw [← HCv.out]
        exact h1)
      clear HSv HSl HCf HAl HCv
      go_wp2_with fail
      refine (HDn.out).mono ?_
      rintro e w17 ⟨rfl, hw17⟩
      rw [hw17]
      clear hw17 w17 HDn
      go_wp2_with fail
      refine (HCa.out).mono ?_
      rintro e w17 ⟨rfl, m1, hw17⟩
      have L3 := hide (L2.out.keep0 (w' := w17) (by rw [hw17]; exact (Turned.refl [] w16).drewN m1))
      have HFt := hide (lm_fault L3.out.lm)
      rw [show I.M = M by rw [HIe.out]] at HFt
      clear hw17 HCa L2
      go_wp2_with fail
      refine (HFt.out).mono ?_
      rintro e w18 ⟨rfl, hw18⟩
      rw [hw18]
      clear hw18 w18 HFt
      go_wp2_with fail
      go_loopg [23] vl (fun gg s23 wr => ∃ (i : Nat), s23 = .int .i64 (i : Int) ∧ i ≤ vl ∧ vl - i ≤ gg ∧ Aside (∃ M', Lk P I w6 ds ws TR 20 (3 * P.hw.length + 2 * 60) F w11 M' Sj wr))
      case atStart => exact ⟨0, rfl, by omega, by omega, _, L3.out⟩
      case round =>
        obtain ⟨i, rfl, hi, hgi, hL⟩ := hrel
        obtain ⟨M', hL'⟩ := hL.out
        have L4 := hide hL'
        clear hL hL' L3
        by_cases hiv : i < vl
        · have hivi : (i : Int) < (vl : Int) := by omega
          obtain ⟨b, hb⟩ : ∃ b, V[i]? = some b := ⟨V[i]'(by have := HVn.out; omega), by simp⟩
          have hbr := HBk.out wr L4.out.t
          obtain ⟨g, off, hvo, c0, -, -, c3⟩ := hbr.cell i b hb
          subst hvo
          have hb2 := (HWr.out wr _ _ L4.out).2.2.1
          have hb3 := (HWr.out wr _ _ L4.out).2.2.2
          have HSc := hide (fun (w' : World) (t : Turned [] wr w') => Bt.size_any (some ⟨pb, 0, none⟩) 400 Sj.sz b.t w' (by
            have h1 := (HWr.out w' _ _ (L4.out.keep0 t)).2.2.1
            exact h1) hb3)
          rw [(HSz.out i b hb).1, Int.toNat_of_nonneg (HSz.out i b hb).2] at HSc
          generalize b.t = bt at *
          generalize b.s = bz at *
          have hiv' : i < 60 := by have := HVl.out; omega
          have z0 : wr.drew.cell? ⟨g, off + i * 4, none⟩ = some (.int .i64 bt) := c0
          have z3 : wr.drew.cell? ⟨g, off + i * 4 + 3, none⟩ = some (.int .i64 bz) := c3
          have HDr := hide ((Turned.refl [] wr).drew)
          clear hbr hb2 hb3 hb
          go_wp2_with fail
          go_region_held3 (fun w' => w'.cell? ⟨g, off + i * 4, none⟩ = some (.int .i64 bt) ∧ w'.cell? ⟨g, off + i * 4 + 3, none⟩ = some (.int .i64 bz)) (go_keep)
            (first
              | (go_at_call 27; refine (HSc.out _ HDr.out).mono ?_; rintro e wz ⟨rfl, m2, hwz⟩; have HT2 := hide (HDr.out.drewN m2); rw [← hwz] at HT2; have y0 : wz.cell? ⟨g, off + i * 4, none⟩ = some (.int .i64 bt) := (by rw [hwz]; exact c0); have y3 : wz.cell? ⟨g, off + i * 4 + 3, none⟩ = some (.int .i64 bz) := (by rw [hwz]; exact c3); clear hwz z0 z3 HSc))
          have L5 := hide (L4.out.keep0 HT2.out)
          clear y0 y3 c0 c3 HT2 HDr L4
          go_wp2_with fail
          go_roundg (vl - (i + 1))
          case measure => omega
          case rel => exact ⟨i + 1, by go_num, by omega, Nat.le_refl _, _, L5.out⟩
        · have hivi : ¬ (i : Int) < (vl : Int) := by omega
          have HTe := hide (HWr.out wr _ _ L4.out).1
          go_wp2_with fail
          go_ret
          exact ⟨rfl, HTe.out⟩
set_option maxHeartbeats 2000000 in
set_option maxRecDepth 100000 in
theorem markReaches_lifted (os : Os) (started : os.Started) (H : Type) (enc : TypeId × Value → H) :
    ReturnsInHanded {} Tryz.checked os 3 .any (fun w args => (Rows.markReachesSpec.pre enc Tryz.prog Tryz.f3 [] false w args ∧ laidMetH Tryz.prog laidTab w) ∧ sizedMet enc Tryz.prog Tryz.f3 (OpenSpec.ofChange Rows.markReachesSpec) false w args)
      (Rows.markReachesSpec.post enc Tryz.prog Tryz.f3 false true false false) := by
  refine returnsInHanded_of_change_and (C := Tryz.checked) (X := fun w _ => laidMetH Tryz.prog laidTab w) (fun _ _ _ hh h => h.of_heap hh) own started (by kernel_rfl) Tryz.func3
    (ChangeSpec.witness_shaped (enc := enc) (C := Tryz.checked) (os := os) (X := fun w _ => laidMetH Tryz.prog laidTab w) false (World.doorLaid Tryz.prog 400 os) #[.slice none 0 0, .agg #[.int .i64 0, .int .i64 0, .int .i64 0], .agg #[.slice none 0 0, .slice none 0 0]] 8 rfl (World.shaped_of_RefB (by kernel_rfl) (by kernel_rfl)) (by kernel_rfl) (by kernel_rfl) (by kernel_rfl) (door_met os _)) ?_
  intro W base args ds gs before hval0 hW _ _ hL _
  have hTab := tab_of hL
  have hval : ∀ (j : Nat) t v, Tryz.f3.params[j]? = some t → args[j]? = some v → Value.okWide Tryz.prog W .any base t v := hval0
  have hW' := hW
  obtain ⟨p, q, hA0, hV, rfl, hfz, hnd⟩ := hW
  have hA : DataW.TrodAll enc Tryz.prog W 0 (fun _ => true) true Tryz.f3.params.toList args.toList ds p := hA0
  rw [Tryz.params3] at hA hval
  obtain ⟨v0, vs0, d0, ds0, p0, q0, hargs, rfl, rfl, h0, r0⟩ := trodAll_cons hA
  obtain ⟨v1, vs1, d1, ds1, p1, q1, rfl, rfl, rfl, h1, r1⟩ := trodAll_cons r0
  obtain ⟨v2, vs2, d2, ds2, p2, q2, rfl, rfl, rfl, h2, r2⟩ := trodAll_cons r1
  obtain ⟨rfl, rfl, rfl⟩ := trodAll_nil r2
  obtain rfl : args = #[v0, v1, v2] := by cases args; simp_all
  obtain ⟨rfl, rfl⟩ := trodVars_none hV
  obtain ⟨a0, len0, cap0, rfl⟩ := okWide_slice Tryz.underlying22 (hval 0 22 v0 rfl rfl)
  have k0 := h0
  have lt0 : ∀ x ∈ p0, x.block < W.heap.size := by obtain ⟨m, hm⟩ := k0; exact DataW.trod_lt m _ _ _ hm
  obtain ⟨ths, htl, w0, wc0⟩ := open_things h0
  subst htl
  have k1 := h1
  have lt1 : ∀ x ∈ p1, x.block < W.heap.size := by obtain ⟨m, hm⟩ := k1; exact DataW.trod_lt m _ _ _ hm
  obtain ⟨a10, a11, a12, rfl, w1⟩ := open_sizes (hval 1 24 v1 rfl rfl) h1
  have k2 := h2
  have lt2 : ∀ x ∈ p2, x.block < W.heap.size := by obtain ⟨m, hm⟩ := k2; exact DataW.trod_lt m _ _ _ hm
  obtain ⟨ro, rc, rs, po, pc, ps, rfl, w2, w3, wc2, wc3⟩ := open_work (hval 2 27 v2 rfl rfl) h2
  simp only [List.append_nil] at hW'
  clear hA0 hval0
  refine (markReaches_walk a0 cap0 ths a10 a11 a12 ro rc rs po pc ps W w0 wc0 w1 w2 w3 wc2 hTab).mono fun e W' ⟨he, ht⟩ => ?_
  subst he
  have bel : Below W.heap.size W W' := ht.below0
  exact ⟨_, rfl, _, _, _, [], _, [], hW', trodAll_mk1 (shut_bool Tryz.underlying4 _), (trodAll_cons_mk (Below.trod laidOut (by kernel_rfl) (of_decide_eq_true (by kernel_rfl)) k0 bel lt0) (trodAll_cons_mk (Below.trod laidOut (by kernel_rfl) (of_decide_eq_true (by kernel_rfl)) k1 bel lt1) (trodAll_cons_mk (Below.trod laidOut (by kernel_rfl) (of_decide_eq_true (by kernel_rfl)) k2 bel lt2) trodAll_mk0))), rfl, bel.frame _, fun h => by cases h⟩

theorem markReaches_over : Rows.markReachesRow.holds Tryz.pinned (OpenSpec.ofChange Rows.markReachesSpec) :=
  OpenClaim.holds_of_wide 3 Tryz.f3 rfl rfl rfl rfl rfl rfl rfl ⟨rfl, rfl, rfl, rfl, rfl⟩ rfl rfl rfl rfl rfl (by kernel_rfl) Tryz.func3 (by kernel_rfl)
    (of_decide_eq_true (by kernel_rfl)) (by unfold Func.isWrapper; first | (rw [if_pos (by decide +kernel)]; kernel_rfl) | (rw [if_neg (by decide +kernel)]; exact ⟨rfl, rfl⟩))
    (fun os started H enc _ => markReaches_lifted os started H enc)

theorem markReaches_holds : Rows.MarkReachesSaid := markReaches_over

theorem markReaches_card : Rows.MarkReachesCardSaid :=
  Claim7.holds_tied_plain_at .later [] [.data] true _ false
    markReaches_holds (fun _ h => by cases h) (by kernel_rfl) (fun _ h => by cases h) markReaches_row_tie rfl ⟨rfl, rfl⟩ (by kernel_rfl) rfl
    (fun f fn hf hfn => by
      obtain rfl : f = 3 := Option.some.inj ((show Tryz.prog.funcNamed "ballast/ballastlaw11.MarkReaches" = some 3 by kernel_rfl).symm.trans hf) |>.symm
      obtain rfl : fn = Tryz.f3 := (Option.some.inj (Tryz.func3.symm.trans hfn)).symm
      exact ⟨by kernel_rfl, fun j t ht => by
        rw [Tryz.params3] at ht
        have h3 : t ∈ [22, 24, 27] := by
          have h4 := Array.mem_of_getElem? ht
          simpa using h4
        have h5 : ∀ u, u ∈ [22, 24, 27] → Tryz.prog.wantsStandIn u = false := by
          intro u hu
          simp only [List.mem_cons, List.not_mem_nil, or_false] at hu
          rcases hu with rfl | rfl | rfl <;> kernel_rfl
        exact h5 t h3⟩)
    (by kernel_rfl)

end Go.Proofs.YtgbclfhgpkmcnaaGreatDoor
