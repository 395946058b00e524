/-
  MarkTwice: a root that is told again, or by another worker's hands, changes nothing; without roots nothing is marked. For every list of things, any sizes, any roots.
-/
import Derived.Test.YtgbclfhgpkmcnaaGreatDoorPack41
import Derived.Test.YtgbclfhgpkmcnaaGreatDoorPack38
import Derived.Test.YtgbclfhgpkmcnaaGreatDoorPack29
import Derived.Test.YtgbclfhgpkmcnaaGreatDoorPack27
import Derived.Test.YtgbclfhgpkmcnaaGreatDoorPack20
import Derived.Test.YtgbclfhgpkmcnaaGreatDoorCards
import Derived.Test.YtgbclfhgpkmcnaaGreatDoorTie
import Derived.SevenTiedAt
import Derived.BigQuiet
namespace Go.Proofs.YtgbclfhgpkmcnaaGreatDoor
open Go.ChangeShapes Go.WideShapes Go.ChangeAt Go.RowKit
set_option linter.unusedVariables false
set_option linter.unusedSimpArgs false

theorem new_three (w : World) : (w.alloc (.cells #[.int .i64 0, .int .i64 0, .int .i64 0] 68)).heap[w.heap.size]? = some (.cells #[.int .i64 0, .int .i64 0, .int .i64 0] 68) := heap_alloc_new _ _
/-- What is counted so far: in the block cb; first nothing, then each time as many. -/
def Cts (w : World) (cb k : Nat) (m : Int) : Prop := ∃ c : Array Value, w.heap[cb]? = some (.cells c 68) ∧ c.size = 3 ∧ ∀ i, i < k → c[i]? = some (.int .i64 (if i = 0 then 0 else m))
theorem roots_obj11 {bs : List Blk} {at_ : List Int} (h : at_ = bs.map Blk.t) (ls : List Int) : ∀ r, r ∈ ls.map (rootOf at_) → r = 0 ∨ ∃ b, b ∈ bs ∧ r = b.t := by
  intro r hr
  obtain ⟨x, _, rfl⟩ := List.mem_map.1 hr
  unfold rootOf
  split
  · rw [List.getD_eq_getElem?_getD]
    cases e : at_[x.toNat % at_.length]? with
    | none => exact .inl rfl
    | some y =>
      right
      have hy := List.mem_of_getElem? e
      rw [h] at hy
      obtain ⟨b, hb, rfl⟩ := List.mem_map.1 hy
      exact ⟨b, hb, rfl⟩
  · exact .inl rfl
theorem RootRd.turned {w w' : World} {ao : Option Addr} {T : List Int} {n : Nat} {Bs : Nat → List Nat} (h : RootRd w ao T n Bs) (t : Turned [] w w') : RootRd w' ao T n Bs := fun i x hx => by
  obtain ⟨b, off, c, fr, d1, d2, d3, d4⟩ := h i x hx
  exact ⟨b, off, c, fr, d1, t.at d2 (by simp), d3, d4⟩
set_option maxHeartbeats 8000000 in
set_option maxRecDepth 100000 in
theorem markTwice_walk (ao : Option Addr) (cap : Nat) (ths : List Th) (x y z : Int) (ro : Option Addr) (rc : Nat) (rs : List Int) (w : World) (h : ThR w ao ths) (hcap : ths.length ≤ cap ∧ cap ≤ 9223372036854775807) (hxyz : In64 x ∧ In64 y ∧ In64 z) (hr : IRd w ro rs.length rs) (hrc : rs.length ≤ rc ∧ rc ≤ 9223372036854775807) (hT : Bt.Tab w) :
    Calls Tryz.prog 8 #[.slice ao ths.length cap, .agg #[.int .i64 x, .int .i64 y, .int .i64 z], .slice ro rs.length rc] w fun e w' => e = .returned (.bool true) ∧ Turned [] w w' := by
  obtain ⟨w0, hw0⟩ : ∃ w0, w0 = w.alloc (.cells #[.int .i64 x, .int .i64 y, .int .i64 z] 24) := ⟨_, rfl⟩
  have hT0 : Turned [] w w0 := by rw [hw0]; exact (Turned.refl [] w).alloc _
  obtain ⟨bs, hbs⟩ : ∃ bs, bs = w.heap.size := ⟨_, rfl⟩
  have hS0 : w0.heap[bs]? = some (.cells #[.int .i64 x, .int .i64 y, .int .i64 z] 24) := by rw [hw0, hbs]; exact heap_alloc_new _ _
  have HTb := hide hT
  have HTh := hide h
  have HRs := hide hr
  have HT0 := hide hT0
  have HS0 := hide hS0
  have HXY := hide hxyz
  have HAw := hide (awake11 w0 (hT.turned hT0 (by simp)))
  have HW0 := hide (show 0 < w.heap.size by have := block_lt (hT 0 (by omega)); simpa using this)
  clear h hT hr hT0 hS0 hxyz
  obtain ⟨rl, hrl⟩ : ∃ rl, rl = rs.length := ⟨_, rfl⟩
  obtain ⟨tl, htl⟩ : ∃ tl, tl = ths.length := ⟨_, rfl⟩
  have HLr := hide hrl
  have HLt := hide htl
  rw [← hrl] at hrc ⊢
  rw [← htl] at hcap ⊢
  clear hrl htl
  go_enter Tryz.func8, Tryz.ntmps8
  go_wp2_with fail
  rw [← hw0, ← hbs]
  clear hw0 hbs
  refine (HAw.out).mono ?_
  rintro e w1 ⟨rfl, t1⟩
  have HT1 := hide (HT0.out.trans t1)
  have HS1 := hide (t1.at HS0.out (by simp))
  clear t1 HT0 HS0 HAw
  go_upto_if 22 with fail
  go_cut [0] (fun s0 wc => ∃ (T : List Th) (tn c' : Nat), s0 = .slice ao tn c' ∧ tn ≤ 40 ∧ Aside (tn = T.length) ∧ Aside (ThR w ao T) ∧ Aside (wc = w1))
  case first =>
    by_cases h40 : 40 < tl
    · have h40i : (40 : Int) < tl := by omega
      have hsl := cut_things ao tl cap 40 h40 hcap.1 hcap.2
      rw [show ((40 : Nat) : Int) = 40 from rfl] at hsl
      go_wp2_with fail
      go_meet
      case rel => exact ⟨ths.take 40, 40, cap, rfl, by omega, (by show 40 = (ths.take 40).length; rw [List.length_take]; have := HLt.out; omega), HTh.out.front 40, rfl⟩
    · have h40i : ¬ (40 : Int) < tl := by omega
      go_wp2_with fail
      go_meet
      case rel => exact ⟨ths, tl, cap, rfl, by omega, HLt.out, HTh.out, rfl⟩
  case rest =>
    obtain ⟨T, tn, c', rfl, htn, htT, hthr, hwc⟩ := hcut
    have hwc' := hwc.out
    subst hwc'
    clear hwc hcap HLt HTh tl
    have HTl := hide htT.out
    have HTh := hide hthr.out
    clear htT hthr
    obtain ⟨w1, hw1⟩ : ∃ w1, w1 = wc := ⟨_, rfl⟩
    subst hw1
    go_upto_if 27 with fail
    go_cut [2] (fun s2 wc => ∃ (RS : List Int) (rn c' : Nat), s2 = .slice ro rn c' ∧ rn ≤ 10 ∧ Aside (rn = RS.length) ∧ Aside (IRd w ro RS.length RS) ∧ Aside (wc = w1))
    case first =>
      by_cases h10 : 10 < rl
      · have h10i : (10 : Int) < rl := by omega
        have hsl := cut_ints ro rl rc 10 h10 hrc.1 hrc.2
        rw [show ((10 : Nat) : Int) = 10 from rfl] at hsl
        go_wp2_with fail
        go_meet
        case rel => exact ⟨rs.take 10, 10, rc, rfl, by omega, (by show 10 = (rs.take 10).length; rw [List.length_take]; have := HLr.out; omega), HRs.out.front 10, rfl⟩
      · have h10i : ¬ (10 : Int) < rl := by omega
        go_wp2_with fail
        go_meet
        case rel => exact ⟨rs, rl, rc, rfl, by omega, HLr.out, HRs.out, rfl⟩
    case rest =>
      obtain ⟨RS, rn, c2, rfl, hrn, hrl2, hrs, hwc⟩ := hcut
      have hwc' := hwc.out
      subst hwc'
      have HRn := hide (And.intro hrl2.out hrn)
      have HRS := hide hrs.out
      clear hwc hrn hrl2 hrs HRs HLr hrc
      obtain ⟨w1, hw1⟩ : ∃ w1, w1 = wc := ⟨_, rfl⟩
      subst hw1
      obtain ⟨w2, hw2⟩ : ∃ w2, w2 = w1.alloc (.cells #[.int .i64 0, .int .i64 0, .int .i64 0] 68) := ⟨_, rfl⟩
      obtain ⟨cb, hcb⟩ : ∃ cb, cb = w1.heap.size := ⟨_, rfl⟩
      have t2 : Turned [] w1 w2 := by rw [hw2]; exact (Turned.refl [] w1).alloc _
      have HT2 := hide (HT1.out.trans t2)
      have HS2 := hide (t2.at HS1.out (by simp))
      have HC2 : Hid (∀ m, Cts w2 cb 0 m) := hide fun m => ⟨_, by rw [hw2, hcb]; exact new_three w1, rfl, fun i hi => by omega⟩
      have HCb := hide (show bs < cb ∧ w.heap.size ≤ cb by have := lt_of_heap HS1.out; have := HT1.out.size; omega)
      clear t2 HT1 HS1
      have hTl40 : T.length ≤ 40 := by have := HTl.out; omega
      have HH := hide (fun (w' : World) (t : Turned [] w w') => lheap_any ao c' 300 T w' (HTh.out.turned t) (by omega) (by omega) (heapOf_len T 300 (by omega)))
      rw [← HTl.out, show ((300 : Nat) : Int) = 300 from rfl] at HH
      have HHl := hide (heapOf_len T 300 (by omega))
      have HHi := hide (heapOf_in T 300 (by omega) (by omega) (by omega))
      have HHa := hide (heapOf_at T 300 (by omega))
      have HHf := hide (Nat.le_trans (heapOf_few T 300) hTl40)
      have HHd := hide (heapOf_hd T 300 (by omega))
      generalize (heapOf T 300).1 = hw at *
      generalize (heapOf T 300).2 = at_ at *
      clear hTl40 HTh HTl
      go_wp2_with fail
      rw [← hw2, ← hcb]
      clear hw2 hcb
      obtain ⟨m, hm⟩ : ∃ m : Int, m = (rchN hw four (RS.map (rootOf at_)) : Nat) := ⟨_, rfl⟩
      have HMe := hide hm
      clear hm
      go_loopg [9, 10, 11, 12, 13, 14, 15, 16, 17, 18, 30, 31, 32, 33, 34, 35, 36, 37, 38, 39, 40, 41, 42, 43, 44, 45, 46, 47, 48, 49, 50, 51, 52, 53, 54, 55, 56, 57, 58, 59, 60, 61, 62, 63, 64, 65, 66, 67, 68, 69, 70, 71, 72, 73, 74, 75, 76, 77, 78, 79, 80, 81, 82, 83, 84, 85, 86, 87, 88, 89, 90, 91, 92, 93, 94, 95, 96, 97, 98] 3 (fun gg s9 _ _ _ _ _ _ _ _ _ _ _ _ _ _ _ _ _ _ _ _ _ _ _ _ _ _ _ _ _ _ _ _ _ _ _ _ _ _ _ _ _ _ _ _ _ _ _ _ _ _ _ _ _ _ _ _ _ _ _ _ _ _ _ _ _ _ _ _ _ _ _ _ _ _ _ _ _ _ wr => ∃ (k : Nat), s9 = .int .i64 (k : Int) ∧ k ≤ 3 ∧ 3 - k ≤ gg ∧ Aside (Cts wr cb k m) ∧ Aside (wr.heap[bs]? = some (.cells #[.int .i64 x, .int .i64 y, .int .i64 z] 24)) ∧ Aside (Turned [] w wr))
      case atStart => exact ⟨0, rfl, by omega, by omega, HC2.out m, HS2.out, HT2.out⟩
      case round =>
        obtain ⟨k, rfl, hk3, hgk, hCt, hSz, hTw⟩ := hrel
        have CT := hide hCt.out
        have SZ := hide hSz.out
        have TW := hide hTw.out
        clear hCt hSz hTw HC2 HS2 HT2
        by_cases hlt : k < 3
        · have hlti : (k : Int) < 3 := by omega
          obtain ⟨w2, hw2⟩ : ∃ w2, w2 = wr := ⟨_, rfl⟩
          subst hw2
          have HH2 := hide (HH.out w2 TW.out)
          go_wp2_with fail
          refine (HH2.out).mono ?_
          rintro e w3 ⟨p, q, d, v, rfl, hM3, hH3, hp3, hq3, hdp, hdq⟩
          have M3 := hide hM3
          have H3 := hide hH3
          have HT3 := hide (TW.out.trans hH3.t)
          have HS3 := hide (hH3.t.at SZ.out (by simp))
          have HC3 : Hid (Cts w3 cb k m) := hide (by obtain ⟨c, g1, g2⟩ := CT.out; exact ⟨c, hH3.t.at g1 (by simp), g2⟩)
          have HN3 := hide (show w.heap.size ≤ p ∧ w.heap.size ≤ q ∧ cb < p ∧ cb < q ∧ bs < p ∧ bs < q by have := (CT.out).choose_spec.1; have := lt_of_heap this; have := lt_of_heap SZ.out; have := hH3.lo; have := TW.out.size; omega)
          clear hM3 hH3 hp3 hq3 hdp hdq HH2 CT SZ TW
          have HB := hide (Bt.new_any 300 w3 (by unfold Bt.In64; omega) (HTb.out.turned HT3.out (by simp)))
          rw [show Bt.kp 65536 300 = 300 from rfl] at HB
          go_wp2_with fail
          refine (HB.out).mono ?_
          rintro e w4 ⟨pb, qb, rfl, hb4, hpb, hqb, t4⟩
          have B4 := hide hb4
          have M4 := hide (M3.out.turned t4 (by simp) (by simp))
          have H4 := hide (H3.out.keep t4)
          have HT4 := hide (HT3.out.trans t4)
          have HS4 := hide (t4.at HS3.out (by simp))
          have HC4 : Hid (Cts w4 cb k m) := hide (by obtain ⟨c, g1, g2⟩ := HC3.out; exact ⟨c, t4.at g1 (by simp), g2⟩)
          have HN4 := hide (show p < qb ∧ q < qb ∧ cb < qb ∧ bs < qb ∧ cb < pb by have := M3.out.ltp; have := M3.out.ltq; have := HN3.out; omega)
          clear hb4 hpb hqb t4 HB M3 H3 HT3 HS3 HC3
          have HMk := hide (lmade11 p q pb qb hw x y z w4 0 M4.out (by rw [HHl.out]; omega) (by rw [HHl.out]; exact B4.out) HXY.out (by have := M4.out.ltp; omega) (by have := HN3.out; have := HN4.out; have := HW0.out; simp; omega) (HTb.out.turned HT4.out (by simp)))
          have s0 : w4.cell? ⟨bs, 0, none⟩ = some (.int .i64 x) := by rw [cell_of_heap HS4.out]; rfl
          have s1 : w4.cell? ⟨bs, 1, none⟩ = some (.int .i64 y) := by rw [cell_of_heap HS4.out]; rfl
          have s2 : w4.cell? ⟨bs, 2, none⟩ = some (.int .i64 z) := by rw [cell_of_heap HS4.out]; rfl
          go_wp2_with fail
          refine (HMk.out).mono ?_
          rintro e w5 ⟨P, L, M, len, cp, a, gw, cw, pc, qc, co, ds, ws, w6, rfl, hPw, hPc, hPn, hPk, hPo, hL, t6, hpc, hqc, hMz, hk⟩
          have HK := hide hk
          have HMz := hide hMz
          have HPf := hide (And.intro hPw (And.intro hPc (And.intro hPk (And.intro hPo hL))))
          have HPn := hide hPn
          have HBP : Hid (BP P) := hide ⟨hPn.1, by rw [hPw, HHl.out]; omega, by rw [hPw]; exact HHi.out, by omega⟩
          obtain ⟨va, vc, hv, hat⟩ := H4.out.at
          subst hv
          have hrow4 : ∀ g', va = some ⟨g', 0, none⟩ → ∃ cB, w4.heap[g']? = some (.cells cB 3) := fun g' e => by
            have h3 := H4.out.row
            rcases h3.2 with ⟨h4, _⟩ | ⟨g2, cap2, cur, h4, _, h5, _⟩
            · rw [e] at h4; cases h4
            · rw [e] at h4
              cases h4
              exact ⟨_, h5⟩
          have HFi : Hid (∀ i, i ∈ [p, q, qb, pc, qc] → w.heap.size ≤ i ∧ cb < i ∧ bs < i) := hide (fun i hi => by have := HN3.out; have := HN4.out; have := HT4.out.size; have := lt_of_heap HS4.out; have hc4 := HC4.out; obtain ⟨cc, hcc, _⟩ := hc4; have := lt_of_heap hcc; simp at hi; omega)
          have HT5 := hide (show Turned [] w w5 from (HT4.out.trans t6).trans_new hk.tu (fun i hi => .inr (HFi.out i hi).1))
          have HA5 : Hid (∀ (i : Nat) (x : Int), at_[i]? = some x → ∃ g, va = some ⟨g, 0, none⟩ ∧ w5.cell? ⟨g, i, none⟩ = some (.int .i64 x)) := hide (fun i x hx => by
            obtain ⟨g', h1, h2⟩ := hat i x hx
            refine ⟨g', h1, ?_⟩
            obtain ⟨cB, hcB⟩ := hrow4 g' h1
            have hl4 := lt_of_heap hcB
            have hcB6 := t6.at hcB (by simp)
            obtain ⟨cq, hcq, _⟩ := B4.out.row
            have n1 := ne_of_type hcB M4.out.head (by decide)
            have n2 := ne_of_type hcB M4.out.row (by decide)
            have n3 := ne_of_type hcB hcq (by decide)
            rw [hk.tu.cell (p := ⟨g', i, none⟩) (lt_of_heap hcB6) (by
              show g' ∉ [p, q, qb, pc, qc]
              simp [n1, n2, n3]
              omega), t6.cell (p := ⟨g', i, none⟩) hl4 (by simp)]
            exact h2)
          have HS5 : Hid (w5.heap[bs]? = some (.cells #[.int .i64 x, .int .i64 y, .int .i64 z] 24)) := hide (hk.tu.at (t6.at HS4.out (by simp)) (fun hm => by have := HFi.out bs hm; omega))
          have HC5 : Hid (Cts w5 cb k m) := hide (by obtain ⟨c, g1, g2⟩ := HC4.out; exact ⟨c, hk.tu.at (t6.at g1 (by simp)) (fun hm => by have := HFi.out cb hm; omega), g2⟩)
          have HS6 := hide (t6.at HS4.out (by simp))
          have HC6 : Hid (Cts w6 cb k m) := hide (by obtain ⟨c, g1, g2⟩ := HC4.out; exact ⟨c, t6.at g1 (by simp), g2⟩)
          have HT6 := hide (HT4.out.trans t6)
          have HRt := hide (roots11 va vc at_ ro c2 RS w5 HA5.out (by have := HHf.out; omega) (HRS.out.turned HT5.out) (by have := HRn.out; omega))
          rw [← HRn.out.1] at HRt
          obtain ⟨atn, hatn⟩ : ∃ atn, atn = at_.length := ⟨_, rfl⟩
          rw [← hatn] at HRt ⊢
          clear hatn hk hMz hPw hPc hPk hPo hL t6 hpc hqc hat hrow4 HMk s0 s1 s2 M4 B4 H4 HT4 HS4 HC4 hPn
          go_upto_if 53 with fail
          go_wp2_with fail
          refine (HRt.out).mono ?_
          rintro e w8 ⟨v8, rfl, ho8, t8⟩
          obtain ⟨TR, hTR⟩ : ∃ TR, TR = RS.map (rootOf at_) := ⟨_, rfl⟩
          rw [← hTR] at ho8
          have HTl : Hid (rn = TR.length ∧ TR.length ≤ 10) := hide (by rw [hTR, List.length_map]; have := HRn.out; omega)
          have HTi : Hid (∀ y, y ∈ TR → In64 y) := hide (fun y hy => by
            rw [hTR] at hy
            obtain ⟨r, _, rfl⟩ := List.mem_map.1 hy
            have := rootOf_in HHa.out r
            unfold In64
            omega)
          have HTe := hide hTR
          clear hTR
          rw [HTl.out.1] at ho8
          obtain ⟨aT, cT, rfl, hrd⟩ := row_roots P.n ho8
          have HS8 := hide (t8.at HS5.out (by simp))
          have HC8 : Hid (Cts w8 cb k m) := hide (by obtain ⟨c, g1, g2⟩ := HC5.out; exact ⟨c, t8.at g1 (by simp), g2⟩)
          have HT8 := hide (HT5.out.trans t8)
          obtain ⟨g0, c0⟩ := lm_fresh HK.out HBP.out (by have := HPf.out; omega) (by have := HPf.out; omega)
          have HG0 := hide (And.intro g0.gg c0)
          have HK8 : Hid (∃ Bs, Mk P ⟨M, p, q, len, cp, co, pb, qb, a, gw, P.n, cw, pc, qc, ((0 * (rn + 1) : Nat) : Int)⟩ w6 w8 ds ws (MS.fresh (List.replicate L 0) (fun _ => 0) 0 0) Bs ∧ RootRd w8 aT TR P.n Bs) := hide ⟨_, by rw [Nat.zero_mul]; exact HK.out.keep0 t8, hrd _ (fun j y hj hy => by simp at hy)⟩
          rw [← HTl.out.1] 
          clear ho8 hrd t8 HRt HA5 HK HS5 HC5 HT5 g0 c0
          generalize MS.fresh (List.replicate L 0) (fun _ => 0) 0 0 = S0 at *
          go_wp2_with fail
          go_loopg [17, 57, 58, 59, 60, 61, 62, 63, 64, 65, 66, 67] 3 (fun gg s17 _ _ _ _ _ _ _ _ _ _ _ wr => ∃ (i : Nat) (S : MS) (R : List Int), s17 = .int .i64 (i : Int) ∧ i ≤ k ∧ k - i ≤ gg ∧ Aside (∃ Bs, Mk P ⟨M, p, q, len, cp, co, pb, qb, a, gw, P.n, cw, pc, qc, ((i * (rn + 1) : Nat) : Int)⟩ w6 wr ds ws S Bs ∧ RootRd wr aT TR P.n Bs) ∧ Aside (Gg P R (i * (rn + 1)) (3 * P.hw.length + 2 * (i * (rn + 1))) 0 S ∧ ChM S) ∧ Aside (∀ r, r ≠ 0 → (r ∈ R ↔ (0 < i ∧ r ∈ TR))))
          case atStart => exact ⟨0, S0, [], rfl, by omega, by omega, HK8.out, by rw [Nat.zero_mul]; exact HG0.out, fun r _ => ⟨fun g => (by cases g), fun g => absurd g.1 (by omega)⟩⟩
          case round =>
            obtain ⟨i, S, R, rfl, hik, hgi, hK, hG, hR⟩ := hrel
            have K1 := hide hK.out
            have G1 := hide hG.out
            have R1 := hide hR.out
            clear hK hG hR HG0 HK8
            by_cases hik2 : i < k
            · have hiki : (i : Int) < (k : Int) := by omega
              obtain ⟨Bs1, k1, k2⟩ := K1.out
              have HRo := hide (lm_root2 (I := ⟨M, p, q, len, cp, co, pb, qb, a, gw, P.n, cw, pc, qc, 0⟩) (r := i * (rn + 1)) (T := TR) (ao := aT) (cap := cT) aT TR ⟨Bs1, k1, k2, k2⟩ G1.out.1 G1.out.2 (by have := HTl.out; have : i * (rn + 1) ≤ 3 * 11 := Nat.mul_le_mul (by omega) (by omega); omega) (by have := HTl.out; have : i * (rn + 1) ≤ 3 * 11 := Nat.mul_le_mul (by omega) (by omega); omega) HTi.out)
              rw [← HTl.out.1] at HRo
              clear k1 k2 K1
              go_wp2_with fail
              refine (HRo.out).mono ?_
              rintro e w9 ⟨rfl, hk9, hg9, hc9⟩
              obtain ⟨wa, hwa⟩ : ∃ wa, wa = w9.alloc (.cells #[.int .i64 0] 2) := ⟨_, rfl⟩
              obtain ⟨zb, hzb⟩ : ∃ zb, zb = w9.heap.size := ⟨_, rfl⟩
              have HRo2 := hide (show Calls Tryz.prog 14 #[.pointer (some ⟨M, 0, none⟩), .slice (some ⟨zb, 0, none⟩) 1 1] wa _ from by
                obtain ⟨Bs2, k3, k4⟩ := hk9
                have ta : Turned [] w9 wa := by rw [hwa]; exact (Turned.refl [] w9).alloc _
                exact lm_root2 (I := ⟨M, p, q, len, cp, co, pb, qb, a, gw, P.n, cw, pc, qc, 0⟩) (r := i * (rn + 1) + rn) (T := [0]) (ao := some ⟨zb, 0, none⟩) (cap := 1) aT TR ⟨Bs2, k3.keep0 ta, root_new k3 (by omega) (by rw [hwa, hzb]; exact heap_alloc_new _ _) rfl (fun j x hx => by
                  match j, hx with
                  | 0, hx => simp at hx; subst hx; rfl), k4.turned ta⟩ hg9 hc9 (by have := HTl.out; have : i * (rn + 1) ≤ 3 * 11 := Nat.mul_le_mul (by omega) (by omega); simp; omega) (by have := HTl.out; have : i * (rn + 1) ≤ 3 * 11 := Nat.mul_le_mul (by omega) (by omega); omega) (fun y hy => by simp at hy; subst hy; unfold In64; omega))
              clear hk9 hg9 hc9 HRo G1
              go_wp2_with fail
              rw [← hwa, ← hzb]
              clear hwa hzb
              refine (HRo2.out).mono ?_
              rintro e w10 ⟨rfl, hk10, hg10, hc10⟩
              have e1 : (i + 1) * (rn + 1) = i * (rn + 1) + rn + 1 := by rw [Nat.succ_mul]; omega
              have HK2 : Hid (∃ Bs, Mk P ⟨M, p, q, len, cp, co, pb, qb, a, gw, P.n, cw, pc, qc, (((i + 1) * (rn + 1) : Nat) : Int)⟩ w6 w10 ds ws (rootsM P.n (rootsM P.n S (i * (rn + 1)) TR) (i * (rn + 1) + rn) [0]) Bs ∧ RootRd w10 aT TR P.n Bs) := hide (by rw [e1]; exact hk10)
              have HG2 : Hid (Gg P (R ++ TR ++ [0]) ((i + 1) * (rn + 1)) (3 * P.hw.length + 2 * ((i + 1) * (rn + 1))) 0 (rootsM P.n (rootsM P.n S (i * (rn + 1)) TR) (i * (rn + 1) + rn) [0]) ∧ ChM (rootsM P.n (rootsM P.n S (i * (rn + 1)) TR) (i * (rn + 1) + rn) [0])) := hide ⟨hg10.more (by rw [e1]; simp) (by rw [e1]; simp; omega), hc10⟩
              have HR2 : Hid (∀ r, r ≠ 0 → (r ∈ R ++ TR ++ [0] ↔ (0 < i + 1 ∧ r ∈ TR))) := hide (fun r h0 => by
                have := R1.out r h0
                simp only [List.mem_append, List.mem_singleton]
                constructor
                · rintro ((g | g) | g)
                  · exact ⟨by omega, (this.1 g).2⟩
                  · exact ⟨by omega, g⟩
                  · exact absurd g h0
                · rintro ⟨_, g⟩
                  exact .inl (.inr g))
              generalize rootsM P.n (rootsM P.n S (i * (rn + 1)) TR) (i * (rn + 1) + rn) [0] = S2 at *
              clear hk10 hg10 hc10 e1 HRo2
              go_wp2_with fail
              go_roundg (k - (i + 1))
              case measure => omega
              case rel => exact ⟨i + 1, S2, R ++ TR ++ [0], by go_num, by omega, Nat.le_refl _, HK2.out, HG2.out, HR2.out⟩
            · have hiki : ¬ (i : Int) < (k : Int) := by omega
              obtain rfl : i = k := by omega
              obtain ⟨g1, c1⟩ := G1.out
              have hmul : i * (rn + 1) ≤ 2 * 11 := Nat.mul_le_mul (by omega) (by have := HRn.out; omega)
              have HRg : Hid (RightM P R) := hide (by
                obtain ⟨top, bsl, d1, d2⟩ := HHd.out
                refine right_link (N := 300) (top := top) (bs := bsl) (by rw [HPf.out.1]; exact d1) HPf.out.2.1 (fun r hr => ?_)
                by_cases h0 : r = 0
                · exact .inl h0
                · have := ((R1.out r h0).1 hr).2
                  rw [HTe.out] at this
                  exact roots_obj11 d2 RS r this)
              have HLm : Hid (Lm P ⟨M, p, q, len, cp, co, pb, qb, a, gw, P.n, cw, pc, qc, ((i * (rn + 1) : Nat) : Int)⟩ w6 ds ws R 33 (3 * P.hw.length + 2 * 22) 0 S wr) := hide ⟨by obtain ⟨Bs, h1, _⟩ := K1.out; exact ⟨Bs, h1⟩, g1.more (by omega) (by omega)⟩
              obtain ⟨I, hI⟩ : ∃ I : Ids, I = ⟨M, p, q, len, cp, co, pb, qb, a, gw, P.n, cw, pc, qc, ((i * (rn + 1) : Nat) : Int)⟩ := ⟨_, rfl⟩
              rw [← hI] at HLm
              have HIe := hide hI
              clear hI g1 c1 K1 G1
              obtain ⟨BD, hBD⟩ : ∃ BD : Nat, BD = (P.n + 2) * (P.n + 2) * (100 + 40 * 300) := ⟨_, rfl⟩
              have HBD := hide hBD
              have hBs : BD ≤ 500000 := by
                rw [hBD]
                have h1 : (P.n + 2) * (P.n + 2) ≤ 6 * 6 := Nat.mul_le_mul (by have := HPn.out; omega) (by have := HPn.out; omega)
                omega
              have HBo := hide (fun W => bound11 P.n 300 HPn.out.2 (by omega) W)
              rw [← hBD] at HBo
              clear hBD
              have HG0 := hide HLm.out.gg
              go_upto_block 4 with fail
              go_cut [18] from 30 to 98 (fun _ wc => ∃ (j : Nat), Aside (j ≤ BD ∧ Lm P I w6 ds ws R 33 (3 * P.hw.length + 2 * 22) (j : Int) (turnsM P S j) wc) ∧ Aside (allE (turnsM P S j) P.n = true))
              case first =>
                go_wp2_with fail
                go_loopg [18, 68, 69, 70, 71, 72, 73, 74, 75, 76, 77, 78, 79, 80, 81, 82, 83, 84, 85, 86] BD (fun gg s18 _ _ _ _ _ _ _ _ _ _ _ _ _ _ _ _ _ _ _ wr => ∃ (j : Nat), s18 = .int .i64 (j : Int) ∧ j ≤ BD ∧ BD - j ≤ gg ∧ Aside (Lm P I w6 ds ws R 33 (3 * P.hw.length + 2 * 22) (j : Int) (turnsM P S j) wr))
                case atStart => exact ⟨0, rfl, by omega, by omega, HLm.out⟩
                case round =>
                  obtain ⟨j, rfl, hj, hgj, hL1⟩ := hrel
                  have L1 := hide hL1.out
                  clear hL1 HLm
                  have HWd := hide (show Calls Tryz.prog 23 #[.pointer (some ⟨p, 0, none⟩), .int .i64 0, .int .i64 65536] wr _ from by
                    obtain ⟨⟨Bs, hM⟩, _⟩ := L1.out
                    have hm := hM.hm
                    rw [HIe.out, HPf.out.1] at hm
                    exact words_mem p q hw _ 0 65536 wr (by rw [HHl.out]; omega) hm)
                  rw [HHl.out, show (min (max (65536 : Int) 0) ((300 : Nat) : Int)).toNat = 300 from rfl, show (min (max (0 : Int) 0) ((300 : Nat) : Int)).toNat = 0 from rfl, List.drop_zero, List.take_of_length_le (Nat.le_of_eq HHl.out), HHl.out] at HWd
                  go_wp2_with fail
                  refine (HWd.out).mono ?_
                  rintro e w11 ⟨v11, rfl, ho11, t11⟩
                  obtain ⟨gv, cv, rfl, -, -, -, -, -⟩ := ownsRow_open ho11 (by omega)
                  have L2 := hide (L1.out.keep0 t11)
                  clear ho11 t11 HWd L1
                  go_wp2_with fail
                  refine (HBo.out w11).mono ?_
                  rintro e w12 ⟨rfl, hw12⟩
                  rw [hw12]
                  clear hw12 w12
                  have HDn := hide (lm_done L2.out)
                  rw [show I.M = M by rw [HIe.out]] at HDn
                  by_cases hjb : j < BD
                  · have hjbi : (j : Int) < (BD : Int) := by omega
                    cases hall : allE (turnsM P S j) P.n
                    · rw [hall] at HDn
                      clear hall
                      have hkn : j % P.n < P.n := Nat.mod_lt _ (by have := HPn.out; omega)
                      have HSt := hide (lm_step L2.out HBP.out HRg.out hkn (by omega) (by omega))
                      rw [show I.M = M by rw [HIe.out]] at HSt
                      have hmod : ((j : Nat) : Int).tmod (P.n : Int) = ((j % P.n : Nat) : Int) := by
                        rw [Int.tmod_eq_emod_of_nonneg (by omega)]; simp
                      have hnz : ¬ ((P.n : Int) = 0) := by have := HPn.out; omega
                      go_wp2_with fail
                      refine (HDn.out).mono ?_
                      rintro e w12 ⟨rfl, hw12⟩
                      rw [hw12]
                      clear hw12 w12 HDn
                      go_wp2_with fail
                      refine (HSt.out).mono ?_
                      rintro e w13 ⟨rfl, hl13⟩
                      have L3 : Hid (Lm P I w6 ds ws R 33 (3 * P.hw.length + 2 * 22) ((j + 1 : Nat) : Int) (turnsM P S (j + 1)) w13) := hide (by rw [show ((j + 1 : Nat) : Int) = (j : Int) + 1 by omega]; exact hl13)
                      clear hl13 HSt L2 hmod hnz hkn
                      generalize (if ((stepM P (turnsM P S j) (j % P.n)).X (j % P.n)).ended = true then (2 : Int) else 0) = tv
                      go_wp2_with fail
                      go_roundg (BD - (j + 1))
                      case measure => omega
                      case rel => exact ⟨j + 1, by go_num, by omega, Nat.le_refl _, L3.out⟩
                    · rw [hall] at HDn
                      have HAl := hide hall
                      go_wp2_with fail
                      refine (HDn.out).mono ?_
                      rintro e w12 ⟨rfl, hw12⟩
                      rw [hw12]
                      clear hw12 w12 HDn
                      go_wp2_with fail
                      go_meet
                      case rel => exact ⟨j, ⟨hj, L2.out⟩, HAl.out⟩
                  · have hjbi : ¬ (j : Int) < (BD : Int) := by omega
                    obtain rfl : j = BD := by omega
                    have HAl := hide (lm_over HG0.out HBP.out HPn.out.2 (t := j) (by
                      have h1 := bound_ok (n := P.n) (w := 300) (r := 22) HPn.out.1 HPn.out.2 (by omega) (by omega)
                      rw [HBD.out, HPf.out.1, HHl.out]
                      exact h1))
                    go_wp2_with fail
                    go_meet
                    case rel => exact ⟨j, ⟨hj, L2.out⟩, HAl.out⟩
              case rest =>
                obtain ⟨j, hj, hall⟩ := hcut
                have L1 := hide hj.out.2
                have HAl := hide hall.out
                have HjB := hj.out.1
                clear hj hall HLm HG0 HBo
                have HOv := hide (L1.out.gg.over ((allE_true _ _).1 HAl.out))
                generalize turnsM P S j = Sj at *
                have HCn := hide (show Calls Tryz.prog 19 #[.pointer (some ⟨pb, 0, none⟩), .int .i64 0, .int .i64 300] wc fun e w' => e = .returned (.int .i64 (marksTo Sj.sz 300 : Nat)) ∧ ∃ m, w' = wc.drewN m from by
                  obtain ⟨⟨Bs, hM⟩, _⟩ := L1.out
                  have hb := hM.bt
                  rw [HIe.out, HPf.out.1, HHl.out] at hb
                  have h1 := Bt.count_any (some ⟨pb, 0, none⟩) 300 (Bt.sidesOf Sj.sz) 0 300 wc hb.brd
                  rw [show Bt.kp 300 0 = 0 from rfl, show Bt.kp 300 300 = 300 from rfl, Bt.cntIn_zero] at h1
                  exact h1)
                have HQ : Hid (((marksTo Sj.sz 300 : Nat) : Int) = if i = 0 then 0 else m) := hide (by
                  have e0 : marksTo Sj.sz 300 = marksTo Sj.sz P.hw.length := by rw [HPf.out.1, HHl.out]
                  rw [e0]
                  by_cases h0 : i = 0
                  · rw [if_pos h0, rchN_none HOv.out.1 (fun r g h => by have := ((R1.out r g).1 h).1; omega)]
                    rfl
                  · rw [if_neg h0, rchN_of (R' := TR) HOv.out.1 (fun r g => by rw [R1.out r g]; exact ⟨fun q => q.2, fun q => ⟨by omega, q⟩⟩), HMe.out, HPf.out.1, HPf.out.2.1, HTe.out])
                have HCw : Hid (Cts wc cb i m) := hide (by obtain ⟨c, g1, g2⟩ := HC6.out; exact ⟨c, L1.out.tu.at g1 (fun hm => by rw [HIe.out] at hm; have := HFi.out cb hm; omega), g2⟩)
                generalize marksTo Sj.sz 300 = q at *
                go_wp2_with fail
                refine (HCn.out).mono ?_
                rintro e w12 ⟨rfl, m1, hw12⟩
                have L2 := hide (L1.out.keep0 (w' := w12) (by rw [hw12]; exact (Turned.refl [] wc).drewN m1))
                obtain ⟨c, g1, g2, g3⟩ : Cts w12 cb i m := by rw [hw12]; exact HCw.out
                have s0 : ∃ v, w12.cell? ⟨cb, i, none⟩ = some v := ⟨c[i]'(by omega), by rw [cell_of_heap g1]; simp⟩
                obtain ⟨v0, s0⟩ := s0
                have s1 : w12.frozen? ⟨cb, i, none⟩ = false := by simp [World.frozen?, g1]
                have h5 : cb ∉ I.five := fun hm => by rw [HIe.out] at hm; have := HFi.out cb hm; omega
                have hlo : cb < w6.heap.size := by obtain ⟨c6, k1, _⟩ := HC6.out; exact lt_of_heap k1
                have L3 := hide (L2.out.oldSet g1 (by have := HCb.out; have := HW0.out; omega) hlo h5 i (.int .i64 (q : Int)))
                have HT7 : Hid (Turned [] w (w6.setCell ⟨cb, i, none⟩ (.int .i64 (q : Int)))) := hide (HT6.out.setCell (.inr HCb.out.2) _)
                have HS7 : Hid ((w6.setCell ⟨cb, i, none⟩ (.int .i64 (q : Int))).heap[bs]? = some (.cells #[.int .i64 x, .int .i64 y, .int .i64 z] 24)) := hide (by rw [Below.heap_setCell _ _ _ _ (show bs ≠ cb by have := HCb.out; omega)]; exact HS6.out)
                have HC7 : Hid (Cts (w6.setCell ⟨cb, i, none⟩ (.int .i64 (q : Int))) cb (i + 1) m) := hide (by
                  obtain ⟨c6, k1, k2, k3⟩ := HC6.out
                  refine ⟨_, heap_setCell_at _ _ _ _ _ _ k1 _, by simpa using k2, fun j hj => ?_⟩
                  rw [Array.getElem?_setIfInBounds]
                  by_cases hji : i = j
                  · subst hji
                    rw [if_pos rfl, if_pos (by omega), HQ.out]
                  · rw [if_neg hji]
                    exact k3 j (by omega))
                have HDn := hide (lm_done L3.out)
                have HFt := hide (lm_fault L3.out)
                rw [HAl.out, show I.M = M by rw [HIe.out]] at HDn
                rw [show I.M = M by rw [HIe.out]] at HFt
                have HTF := hide (HT7.out.trans_new L3.out.tu (fun y hy => .inr (by rw [HIe.out] at hy; exact (HFi.out y hy).1)))
                have HSF := hide (L3.out.tu.at HS7.out (by rw [HIe.out]; exact fun hm => by have := HFi.out bs hm; omega))
                have HCF : Hid (Cts (w12.setCell ⟨cb, i, none⟩ (.int .i64 (q : Int))) cb (i + 1) m) := hide (by obtain ⟨c7, k1, k2⟩ := HC7.out; exact ⟨c7, L3.out.tu.at k1 h5, k2⟩)
                obtain ⟨w14, hw14⟩ : ∃ w14, w14 = w12.setCell ⟨cb, i, none⟩ (.int .i64 (q : Int)) := ⟨_, rfl⟩
                rw [← hw14] at HDn HFt HTF HSF HCF
                clear hw12 L1 HCn HCw g1 g2 g3 L3 HT7 HS7 HC7 L2 HQ h5 hlo HOv
                go_wp2_with fail
                rw [← hw14]
                clear hw14 s0 s1
                refine (HDn.out).mono ?_
                rintro e w15 ⟨rfl, hw15⟩
                rw [hw15]
                clear hw15 w15 HDn
                go_wp2_with fail
                refine (HFt.out).mono ?_
                rintro e w15 ⟨rfl, hw15⟩
                rw [hw15]
                clear hw15 w15 HFt
                go_wp2_with fail
                go_roundg (3 - (i + 1))
                case measure => omega
                case rel => exact ⟨i + 1, by go_num, by omega, Nat.le_refl _, HCF.out, HSF.out, HTF.out⟩
        · have hlti : ¬ (k : Int) < 3 := by omega
          obtain rfl : k = 3 := by omega
          obtain ⟨c, g1, g2, g3⟩ := CT.out
          have s0 : wr.cell? ⟨cb, 0, none⟩ = some (.int .i64 0) := by rw [cell_of_heap g1, g3 0 (by omega)]; rfl
          have s1 : wr.cell? ⟨cb, 1, none⟩ = some (.int .i64 m) := by rw [cell_of_heap g1, g3 1 (by omega)]; rfl
          have s2 : wr.cell? ⟨cb, 2, none⟩ = some (.int .i64 m) := by rw [cell_of_heap g1, g3 2 (by omega)]; rfl
          clear g1 g2 g3 CT SZ
          go_wp2_with fail
          go_ret
          exact ⟨rfl, TW.out⟩
set_option maxHeartbeats 2000000 in
set_option maxRecDepth 100000 in
theorem markTwice_lifted (os : Os) (started : os.Started) (H : Type) (enc : TypeId × Value → H) :
    ReturnsInHanded {} Tryz.checked os 8 .any (fun w args => (Rows.markTwiceSpec.pre enc Tryz.prog Tryz.f8 [] false w args ∧ laidMetH Tryz.prog laidTab w) ∧ sizedMet enc Tryz.prog Tryz.f8 (OpenSpec.ofChange Rows.markTwiceSpec) false w args)
      (Rows.markTwiceSpec.post enc Tryz.prog Tryz.f8 false true false false) := by
  refine returnsInHanded_of_change_and (C := Tryz.checked) (X := fun w _ => laidMetH Tryz.prog laidTab w) (fun _ _ _ hh h => h.of_heap hh) own started (by kernel_rfl) Tryz.func8
    (ChangeSpec.witness_shaped (enc := enc) (C := Tryz.checked) (os := os) (X := fun w _ => laidMetH Tryz.prog laidTab w) false (World.doorLaid Tryz.prog 400 os) #[.slice none 0 0, .agg #[.int .i64 0, .int .i64 0, .int .i64 0], .slice none 0 0] 8 rfl (World.shaped_of_RefB (by kernel_rfl) (by kernel_rfl)) (by kernel_rfl) (by kernel_rfl) (by kernel_rfl) (door_met os _)) ?_
  intro W base args ds gs before hval0 hW _ _ hL _
  have hTab := tab_of hL
  have hval : ∀ (j : Nat) t v, Tryz.f8.params[j]? = some t → args[j]? = some v → Value.okWide Tryz.prog W .any base t v := hval0
  have hW' := hW
  obtain ⟨p, q, hA0, hV, rfl, hfz, hnd⟩ := hW
  have hA : DataW.TrodAll enc Tryz.prog W 0 (fun _ => true) true Tryz.f8.params.toList args.toList ds p := hA0
  rw [Tryz.params8] at hA hval
  obtain ⟨v0, vs0, d0, ds0, p0, q0, hargs, rfl, rfl, h0, r0⟩ := trodAll_cons hA
  obtain ⟨v1, vs1, d1, ds1, p1, q1, rfl, rfl, rfl, h1, r1⟩ := trodAll_cons r0
  obtain ⟨v2, vs2, d2, ds2, p2, q2, rfl, rfl, rfl, h2, r2⟩ := trodAll_cons r1
  obtain ⟨rfl, rfl, rfl⟩ := trodAll_nil r2
  obtain rfl : args = #[v0, v1, v2] := by cases args; simp_all
  obtain ⟨rfl, rfl⟩ := trodVars_none hV
  obtain ⟨a0, len0, cap0, rfl⟩ := okWide_slice Tryz.underlying22 (hval 0 22 v0 rfl rfl)
  have k0 := h0
  have lt0 : ∀ x ∈ p0, x.block < W.heap.size := by obtain ⟨m, hm⟩ := k0; exact DataW.trod_lt m _ _ _ hm
  obtain ⟨ths, htl, w0, wc0⟩ := open_things h0
  subst htl
  have k1 := h1
  have lt1 : ∀ x ∈ p1, x.block < W.heap.size := by obtain ⟨m, hm⟩ := k1; exact DataW.trod_lt m _ _ _ hm
  obtain ⟨a10, a11, a12, rfl, w1⟩ := open_sizes (hval 1 24 v1 rfl rfl) h1
  have k2 := h2
  have lt2 : ∀ x ∈ p2, x.block < W.heap.size := by obtain ⟨m, hm⟩ := k2; exact DataW.trod_lt m _ _ _ hm
  obtain ⟨a2, len2, cap2, rfl⟩ := okWide_slice Tryz.underlying25 (hval 2 25 v2 rfl rfl)
  obtain ⟨fuel2, hf2⟩ := h2
  obtain ⟨ro, rl, rc, rs, e2, w2, e3, wc2⟩ := ird_of (v := .slice a2 len2 cap2) hf2
  cases e2
  subst e3
  simp only [List.append_nil] at hW'
  clear hA0 hval0
  refine (markTwice_walk a0 cap0 ths a10 a11 a12 a2 cap2 rs W w0 wc0 w1 w2 wc2 hTab).mono fun e W' ⟨he, ht⟩ => ?_
  subst he
  have bel : Below W.heap.size W W' := ht.below0
  exact ⟨_, rfl, _, _, _, [], _, [], hW', trodAll_mk1 (shut_bool Tryz.underlying4 _), (trodAll_cons_mk (Below.trod laidOut (by kernel_rfl) (of_decide_eq_true (by kernel_rfl)) k0 bel lt0) (trodAll_cons_mk (Below.trod laidOut (by kernel_rfl) (of_decide_eq_true (by kernel_rfl)) k1 bel lt1) (trodAll_cons_mk (Below.trod laidOut (by kernel_rfl) (of_decide_eq_true (by kernel_rfl)) k2 bel lt2) trodAll_mk0))), rfl, bel.frame _, fun h => by cases h⟩

theorem markTwice_over : Rows.markTwiceRow.holds Tryz.pinned (OpenSpec.ofChange Rows.markTwiceSpec) :=
  OpenClaim.holds_of_wide 8 Tryz.f8 rfl rfl rfl rfl rfl rfl rfl ⟨rfl, rfl, rfl, rfl, rfl⟩ rfl rfl rfl rfl rfl (by kernel_rfl) Tryz.func8 (by kernel_rfl)
    (of_decide_eq_true (by kernel_rfl)) (by unfold Func.isWrapper; first | (rw [if_pos (by decide +kernel)]; kernel_rfl) | (rw [if_neg (by decide +kernel)]; exact ⟨rfl, rfl⟩))
    (fun os started H enc _ => markTwice_lifted os started H enc)

theorem markTwice_holds : Rows.MarkTwiceSaid := markTwice_over

theorem markTwice_card : Rows.MarkTwiceCardSaid :=
  Claim7.holds_tied_plain_at .later [] [.data] true _ false
    markTwice_holds (fun _ h => by cases h) (by kernel_rfl) (fun _ h => by cases h) markTwice_row_tie rfl ⟨rfl, rfl⟩ (by kernel_rfl) rfl
    (fun f fn hf hfn => by
      obtain rfl : f = 8 := Option.some.inj ((show Tryz.prog.funcNamed "ballast/ballastlaw11.MarkTwice" = some 8 by kernel_rfl).symm.trans hf) |>.symm
      obtain rfl : fn = Tryz.f8 := (Option.some.inj (Tryz.func8.symm.trans hfn)).symm
      exact ⟨by kernel_rfl, fun j t ht => by
        rw [Tryz.params8] at ht
        have h3 : t ∈ [22, 24, 25] := by
          have h4 := Array.mem_of_getElem? ht
          simpa using h4
        have h5 : ∀ u, u ∈ [22, 24, 25] → Tryz.prog.wantsStandIn u = false := by
          intro u hu
          simp only [List.mem_cons, List.not_mem_nil, or_false] at hu
          rcases hu with rfl | rfl | rfl <;> kernel_rfl
        exact h5 t h3⟩)
    (by kernel_rfl)

end Go.Proofs.YtgbclfhgpkmcnaaGreatDoor
