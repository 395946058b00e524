/-
  MarkWorkers: how many workers there are, and how they step, changes nothing of what is marked. For every list of things, any roots, any two gangs.
-/
import Derived.Test.YtgbclfhgpkmcnaaGreatDoorPack42
import Derived.Test.YtgbclfhgpkmcnaaGreatDoorPack39
import Derived.Test.YtgbclfhgpkmcnaaGreatDoorPack29
import Derived.Test.YtgbclfhgpkmcnaaGreatDoorPack27
import Derived.Test.YtgbclfhgpkmcnaaGreatDoorPack20
import Derived.Test.YtgbclfhgpkmcnaaGreatDoorCards
import Derived.Test.YtgbclfhgpkmcnaaGreatDoorTie
import Derived.SevenTiedAt
import Derived.BigQuiet
import Derived.Deep.RegionHeld3
namespace Go.Proofs.YtgbclfhgpkmcnaaGreatDoor
open Go.ChangeShapes Go.WideShapes Go.ChangeAt Go.RowKit
set_option linter.unusedVariables false
set_option linter.unusedSimpArgs false

/-- Sizes that say just what is reached. -/
def SzR (hw : List Int) (R : List Int) (sz : Nat → Nat) : Prop := (∀ t, isM hw.length sz t ↔ RchM ⟨hw, four, 1, 1, 0⟩ R t) ∧ ∀ t, isM hw.length sz t → ∃ b, MP.obj ⟨hw, four, 1, 1, 0⟩ t = some b ∧ (sz t.toNat : Int) = b.s
/-- A gang's marks: bits whose sizes say what is reached. -/
def Ent (hw : List Int) (R : List Int) (w : World) (v : Option Value) : Prop := ∃ (pb qb : Nat) (sz : Nat → Nat), v = some (.pointer (some ⟨pb, 0, none⟩)) ∧ Bt.Bts w pb qb hw.length (Bt.sidesOf sz) ∧ Bt.Bl hw.length sz ∧ SzR hw R sz
theorem Ent.turned {hw R : List Int} {w w' : World} {v : Option Value} (h : Ent hw R w v) (t : Turned [] w w') : Ent hw R w' v := by
  obtain ⟨pb, qb, sz, h1, h2, h3⟩ := h
  exact ⟨pb, qb, sz, h1, h2.turned0 t, h3⟩
/-- The array of the gangs' marks. -/
def BA (hw : List Int) (R : List Int) (w : World) (ab k : Nat) : Prop := ∃ c : Array Value, w.heap[ab]? = some (.cells c 66) ∧ c.size = 2 ∧ ∀ i, i < k → Ent hw R w c[i]?
theorem BA.turned {hw R : List Int} {w w' : World} {ab k : Nat} (h : BA hw R w ab k) (t : Turned [] w w') : BA hw R w' ab k := by
  obtain ⟨c, h1, h2, h3⟩ := h
  exact ⟨c, t.at h1 (by simp), h2, fun i hi => (h3 i hi).turned t⟩
theorem Ent.off {hw R : List Int} {w w' : World} {v : Option Value} {x : Nat} {c : Array Value} (h : Ent hw R w v) (hx : w.heap[x]? = some (.cells c 66)) (h0 : 0 < x) (t : Turned [x] w w') : Ent hw R w' v := by
  obtain ⟨pb, qb, sz, h1, h2, h3⟩ := h
  exact ⟨pb, qb, sz, h1, Bts.off h2 t (Off.one hx (by decide)) (Off.one hx (by decide)) (by simp; omega), h3⟩
theorem szr_of {P : MP} {R R' : List Int} {S : MS} (hc : P.cl = four) (h1 : ∀ t, isM P.hw.length S.sz t ↔ RchM P R t) (h2 : ∀ t, isM P.hw.length S.sz t → ∃ b, P.obj t = some b ∧ (S.sz t.toNat : Int) = b.s) (hR : ∀ r, r ≠ 0 → (r ∈ R ↔ r ∈ R')) : SzR P.hw R' S.sz := by
  refine ⟨fun t => (h1 t).trans ((rch_same hR t).trans ⟨fun g => rch_conv (P := P) (Q := ⟨P.hw, four, 1, 1, 0⟩) rfl hc g, fun g => rch_conv (P := ⟨P.hw, four, 1, 1, 0⟩) (Q := P) rfl hc.symm g⟩), fun t g => ?_⟩
  obtain ⟨b, g1, g2⟩ := h2 t g
  exact ⟨b, by rw [← g1]; unfold MP.obj; rw [hc], g2⟩
theorem szr_same {hw R : List Int} {s1 s2 : Nat → Nat} (h1 : SzR hw R s1) (h2 : SzR hw R s2) : ∀ i : Nat, i < hw.length → s1 i = s2 i := by
  have := sizes_same (P := ⟨hw, four, 1, 1, 0⟩) (Q := ⟨hw, four, 1, 1, 0⟩) (R := R) (S := MS.fresh [] s1 0 0) (T := MS.fresh [] s2 0 0) rfl rfl h1.1 h2.1 h1.2 h2.2
  exact this
theorem roots_obj11 {bs : List Blk} {at_ : List Int} (h : at_ = bs.map Blk.t) (ls : List Int) : ∀ r, r ∈ ls.map (rootOf at_) → r = 0 ∨ ∃ b, b ∈ bs ∧ r = b.t := by
  intro r hr
  obtain ⟨x, _, rfl⟩ := List.mem_map.1 hr
  unfold rootOf
  split
  · rw [List.getD_eq_getElem?_getD]
    cases e : at_[x.toNat % at_.length]? with
    | none => exact .inl rfl
    | some y =>
      right
      have hy := List.mem_of_getElem? e
      rw [h] at hy
      obtain ⟨b, hb, rfl⟩ := List.mem_map.1 hy
      exact ⟨b, hb, rfl⟩
  · exact .inl rfl
set_option maxHeartbeats 8000000 in
set_option maxRecDepth 100000 in
theorem markWorkers_walk (ao : Option Addr) (cap : Nat) (ths : List Th) (x1 y1 z1 x2 y2 z2 : Int) (ro : Option Addr) (rc : Nat) (rs : List Int) (po1 : Option Addr) (pc1 : Nat) (ps1 : List Int) (ro2 : Option Addr) (rc2 : Nat) (rs2 : List Int) (po2 : Option Addr) (pc2 : Nat) (ps2 : List Int) (w : World) (h : ThR w ao ths) (hcap : ths.length ≤ cap ∧ cap ≤ 9223372036854775807) (hxyz : (In64 x1 ∧ In64 y1 ∧ In64 z1) ∧ In64 x2 ∧ In64 y2 ∧ In64 z2) (hr : IRd w ro rs.length rs) (hp1 : IRd w po1 ps1.length ps1) (hrc : rs.length ≤ rc ∧ rc ≤ 9223372036854775807) (hp2 : IRd w po2 ps2.length ps2) (hT : Bt.Tab w) :
    Calls Tryz.prog 7 #[.slice ao ths.length cap, .agg #[.int .i64 x1, .int .i64 y1, .int .i64 z1, .int .i64 x2, .int .i64 y2, .int .i64 z2], .agg #[.slice ro rs.length rc, .slice po1 ps1.length pc1, .slice ro2 rs2.length rc2, .slice po2 ps2.length pc2]] w fun e w' => e = .returned (.bool true) ∧ Turned [] w w' := by
  have HW0 := hide (show 0 < w.heap.size by have := block_lt (hT 0 (by omega)); simpa using this)
  obtain ⟨wB, hwB⟩ : ∃ wB, wB = (w.alloc (.cells #[.int .i64 x1, .int .i64 y1, .int .i64 z1, .int .i64 x2, .int .i64 y2, .int .i64 z2] 64)).alloc (.cells #[.slice ro rs.length rc, .slice po1 ps1.length pc1, .slice ro2 rs2.length rc2, .slice po2 ps2.length pc2] 65) := ⟨_, rfl⟩
  have hTB : Turned [] w wB := by rw [hwB]; exact ((Turned.refl [] w).alloc _).alloc _
  have hg2 : wB.heap[w.heap.size + 1]? = some (.cells #[.slice ro rs.length rc, .slice po1 ps1.length pc1, .slice ro2 rs2.length rc2, .slice po2 ps2.length pc2] 65) := by
    rw [hwB]
    have := heap_alloc_new (w.alloc (.cells #[.int .i64 x1, .int .i64 y1, .int .i64 z1, .int .i64 x2, .int .i64 y2, .int .i64 z2] 64)) (.cells #[.slice ro rs.length rc, .slice po1 ps1.length pc1, .slice ro2 rs2.length rc2, .slice po2 ps2.length pc2] 65)
    rw [show (w.alloc (.cells #[.int .i64 x1, .int .i64 y1, .int .i64 z1, .int .i64 x2, .int .i64 y2, .int .i64 z2] 64)).heap.size = w.heap.size + 1 by simp] at this
    exact this
  have hg1 : wB.heap[w.heap.size]? = some (.cells #[.int .i64 x1, .int .i64 y1, .int .i64 z1, .int .i64 x2, .int .i64 y2, .int .i64 z2] 64) := by
    rw [hwB, Below.heap_alloc _ _ _ (by simp)]
    exact heap_alloc_new _ _
  have HAw := hide (awake11 wB (hT.turned hTB (by simp)))
  have HTb := hide hT
  have HTh := hide h
  have HRs := hide hr
  have HT0 := hide hTB
  have HXY := hide hxyz
  have HPk1 := hide hp1
  have HPk2 := hide hp2
  clear h hT hr hTB hp1 hp2 hxyz
  obtain ⟨rl, hrl⟩ : ∃ rl, rl = rs.length := ⟨_, rfl⟩
  obtain ⟨rl2, hrl2⟩ : ∃ rl2, rl2 = rs2.length := ⟨_, rfl⟩
  obtain ⟨pl1, hpl1⟩ : ∃ pl1, pl1 = ps1.length := ⟨_, rfl⟩
  obtain ⟨pl2, hpl2⟩ : ∃ pl2, pl2 = ps2.length := ⟨_, rfl⟩
  obtain ⟨tl, htl⟩ : ∃ tl, tl = ths.length := ⟨_, rfl⟩
  have HLr := hide hrl
  have HLt := hide htl
  rw [← hpl1, ← hpl2, ← hrl, ← hrl2] at hwB ⊢
  rw [← hpl1, ← hpl2, ← hrl, ← hrl2] at hg2
  rw [← hpl1] at HPk1
  rw [← hpl2] at HPk2
  rw [← hrl] at hrc
  rw [← htl] at hcap ⊢
  clear hpl1 hpl2 hrl hrl2 htl
  obtain ⟨sb, hsb⟩ : ∃ sb, sb = w.heap.size := ⟨_, rfl⟩
  obtain ⟨qb, hqb⟩ : ∃ qb, qb = sb + 1 := ⟨_, rfl⟩
  rw [← hsb] at hg1 hg2
  rw [← hqb] at hg2
  have HBn := hide (show w.heap.size ≤ sb ∧ sb < qb by omega)
  have HS0 := hide hg1
  have HQ0 := hide hg2
  clear hg1 hg2
  go_enter Tryz.func7, Tryz.ntmps7
  go_upto_region 1 with fail
  rw [← hwB, ← hsb, ← hqb]
  clear hwB hsb hqb
  go_wp2_with fail
  refine (HAw.out).mono ?_
  rintro e w1 ⟨rfl, t1⟩
  have HT1 := hide (HT0.out.trans t1)
  have HS1 := hide (t1.at HS0.out (by simp))
  have HQ1 := hide (t1.at HQ0.out (by simp))
  clear t1 HT0 HS0 HQ0 HAw
  go_upto_if 21 with fail
  go_cut [0] (fun s0 wc => ∃ (T : List Th) (tn c' : Nat), s0 = .slice ao tn c' ∧ tn ≤ 50 ∧ Aside (tn = T.length) ∧ Aside (ThR w ao T) ∧ Aside (wc = w1))
  case first =>
    by_cases h40 : 50 < tl
    · have h40i : (50 : Int) < tl := by omega
      have hsl := cut_things ao tl cap 50 h40 hcap.1 hcap.2
      rw [show ((50 : Nat) : Int) = 50 from rfl] at hsl
      go_wp2_with fail
      go_meet
      case rel => exact ⟨ths.take 50, 50, cap, rfl, by omega, (by show 50 = (ths.take 50).length; rw [List.length_take]; have := HLt.out; omega), HTh.out.front 50, rfl⟩
    · have h40i : ¬ (50 : Int) < tl := by omega
      go_wp2_with fail
      go_meet
      case rel => exact ⟨ths, tl, cap, rfl, by omega, HLt.out, HTh.out, rfl⟩
  case rest =>
    obtain ⟨T, tn, c', rfl, htn, htT, hthr, hwc⟩ := hcut
    have hwc' := hwc.out
    subst hwc'
    clear hwc hcap HLt HTh tl
    have HTl := hide htT.out
    have HTh := hide hthr.out
    clear htT hthr
    obtain ⟨w1, hw1⟩ : ∃ w1, w1 = wc := ⟨_, rfl⟩
    subst hw1
    have q0 : w1.cell? ⟨qb, 0, none⟩ = some (.slice ro rl rc) := by rw [cell_of_heap HQ1.out]; rfl
    have qf : w1.frozen? ⟨qb, 0, none⟩ = false := by simp [World.frozen?, HQ1.out]
    have hbqs := lt_of_heap HQ1.out
    go_upto_if 28 with fail
    go_cut [6] (fun s6 wc => ∃ (RS : List Int) (rn c' : Nat), s6 = .bool false ∧ Aside (rn = RS.length ∧ rn ≤ 10) ∧ Aside (IRd w ro RS.length RS) ∧ Aside (wc.heap[qb]? = some (.cells #[.slice ro rn c', .slice po1 pl1 pc1, .slice ro2 rl2 rc2, .slice po2 pl2 pc2] 65)) ∧ Aside (wc.heap[sb]? = some (.cells #[.int .i64 x1, .int .i64 y1, .int .i64 z1, .int .i64 x2, .int .i64 y2, .int .i64 z2] 64)) ∧ Aside (Turned [] w wc))
    case first =>
      by_cases h10 : 10 < rl
      · have h10i : (10 : Int) < rl := by omega
        have hsl := cut_ints ro rl rc 10 h10 hrc.1 hrc.2
        rw [show ((10 : Nat) : Int) = 10 from rfl] at hsl
        have HQ2 : Hid ((w1.setCell ⟨qb, 0, none⟩ (.slice ro 10 rc)).heap[qb]? = some (.cells #[.slice ro 10 rc, .slice po1 pl1 pc1, .slice ro2 rl2 rc2, .slice po2 pl2 pc2] 65)) := hide (by rw [heap_setCell_at _ _ _ _ _ _ HQ1.out]; rfl)
        have HS2 : Hid ((w1.setCell ⟨qb, 0, none⟩ (.slice ro 10 rc)).heap[sb]? = some (.cells #[.int .i64 x1, .int .i64 y1, .int .i64 z1, .int .i64 x2, .int .i64 y2, .int .i64 z2] 64)) := hide (by rw [Below.heap_setCell _ _ _ _ (by show sb ≠ qb; have := HBn.out; omega)]; exact HS1.out)
        have HT2 := hide (HT1.out.setCell (p := ⟨qb, 0, none⟩) (.inr (show w.heap.size ≤ qb by have := HBn.out; omega)) (.slice ro 10 rc))
        go_wp2_with fail
        go_meet
        case rel => exact ⟨rs.take 10, 10, rc, rfl, ⟨(by rw [List.length_take]; have := HLr.out; omega), by omega⟩, HRs.out.front 10, HQ2.out, HS2.out, HT2.out⟩
      · have h10i : ¬ (10 : Int) < rl := by omega
        go_wp2_with fail
        go_meet
        case rel => exact ⟨rs, rl, rc, rfl, ⟨HLr.out, by omega⟩, HRs.out, HQ1.out, HS1.out, HT1.out⟩
    case rest =>
    obtain ⟨RS, rn, c2, rfl, hrn, hrs, hq2, hs2, ht2⟩ := hcut
    have HRn := hide hrn.out
    have HRS := hide hrs.out
    have HQ2 := hide hq2.out
    have HS2 := hide hs2.out
    have HT2 := hide ht2.out
    clear hrn hrs hq2 hs2 ht2 HQ1 HS1 HT1 q0 qf hbqs HRs HLr hrc
    obtain ⟨w2, hw2⟩ : ∃ w2, w2 = wc := ⟨_, rfl⟩
    subst hw2
    have hTl50 : T.length ≤ 50 := by have := HTl.out; omega
    have HH := hide (fun (w' : World) (t : Turned [] w w') => lheap_any ao c' 300 T w' (HTh.out.turned t) (by omega) (by omega) (heapOf_len T 300 (by omega)))
    rw [← HTl.out, show ((300 : Nat) : Int) = 300 from rfl] at HH
    have HHl := hide (heapOf_len T 300 (by omega))
    have HHi := hide (heapOf_in T 300 (by omega) (by omega) (by omega))
    have HHa := hide (heapOf_at T 300 (by omega))
    have HHf := hide (Nat.le_trans (heapOf_few T 300) hTl50)
    have HHd := hide (heapOf_hd T 300 (by omega))
    generalize (heapOf T 300).1 = hw at *
    generalize (heapOf T 300).2 = at_ at *
    clear hTl50 HTh HTl
    go_upto_region 6 with fail
    obtain ⟨ab, hab⟩ : ∃ ab, ab = w2.heap.size := ⟨_, rfl⟩
    obtain ⟨w3, hw3⟩ : ∃ w3, w3 = w2.alloc (.cells #[.pointer none, .pointer none] 66) := ⟨_, rfl⟩
    have t3 : Turned [] w2 w3 := by rw [hw3]; exact (Turned.refl [] w2).alloc _
    have HBA : Hid (BA hw (RS.map (rootOf at_)) w3 ab 0) := hide ⟨_, by rw [hw3, hab]; exact heap_alloc_new _ _, rfl, fun i hi => by omega⟩
    have HAb : Hid (w.heap.size ≤ ab ∧ sb < ab ∧ qb < ab) := hide (by rw [hab]; have := HT2.out.size; have := lt_of_heap HQ2.out; have := lt_of_heap HS2.out; omega)
    have HT3 := hide (HT2.out.trans t3)
    have HQ3 := hide (t3.at HQ2.out (by simp))
    have HS3 := hide (t3.at HS2.out (by simp))
    clear t3 HQ2 HS2 HT2
    go_upto_region 7 with fail
    rw [← hab, ← hw3]
    clear hw3 hab htn
    go_wp2_with fail
    go_loopg [9, 10, 11, 12, 13, 14, 15, 16] 2 (fun gg s9 s10 s11 s12 s13 s14 s15 s16 wr => ∃ (k : Nat), gg = 2 - k ∧ k ≤ 2 ∧ s9 = .int .i64 (k : Int) ∧ Hid (Turned [] w wr) ∧ Hid (BA hw (RS.map (rootOf at_)) wr ab k) ∧ Hid (wr.heap[qb]? = some (.cells #[.slice ro rn c2, .slice po1 pl1 pc1, .slice ro2 rl2 rc2, .slice po2 pl2 pc2] 65)) ∧ Hid (wr.heap[sb]? = some (.cells #[.int .i64 x1, .int .i64 y1, .int .i64 z1, .int .i64 x2, .int .i64 y2, .int .i64 z2] 64)))
    case atStart => exact ⟨0, rfl, by omega, rfl, HT3, HBA, HQ3, HS3⟩
    case round =>
      clear HT3 HBA HQ3 HS3
      obtain ⟨k, rfl, hk2, rfl, TW, BAr, QZ, SZ⟩ := hrel
      obtain ⟨w2, hw2⟩ : ∃ w2, w2 = wr := ⟨_, rfl⟩
      subst hw2
      by_cases hlt : k < 2
      · have hlti : (k : Int) < 2 := by omega
        have HH2 := hide (HH.out w2 TW.out)
        go_wp2_with fail
        refine (HH2.out).mono ?_
        rintro e w3 ⟨p, q, d, v, rfl, hM3, hH3, hp3, hq3, hdp, hdq⟩
        have M3 := hide hM3
        have H3 := hide hH3
        have HT3 := hide (TW.out.trans hH3.t)
        have HS3 := hide (hH3.t.at SZ.out (by simp))
        have HQ3 := hide (hH3.t.at QZ.out (by simp))
        have H23 := hide hH3.t
        have Hlo2 := hide (show w2.heap.size ≤ p ∧ w2.heap.size ≤ q by omega)
        have HN3 := hide (show w.heap.size ≤ p ∧ w.heap.size ≤ q ∧ ab < p ∧ ab < q by have := (BAr.out).choose_spec.1; have := lt_of_heap this; have := TW.out.size; omega)
        clear hM3 hH3 hp3 hq3 hdp hdq HH2 SZ QZ TW
        have HB := hide (Bt.new_any 300 w3 (by unfold Bt.In64; omega) (HTb.out.turned HT3.out (by simp)))
        rw [show Bt.kp 65536 300 = 300 from rfl] at HB
        go_wp2_with fail
        refine (HB.out).mono ?_
        rintro e w4 ⟨pb, qb2, rfl, hb4, hpb, hqb, t4⟩
        have M4 := hide (M3.out.turned t4 (by simp) (by simp))
        have H4 := hide (H3.out.keep t4)
        have HT4 := hide (HT3.out.trans t4)
        have HS4 := hide (t4.at HS3.out (by simp))
        have HQ4 := hide (t4.at HQ3.out (by simp))
        have H24 := hide (H23.out.trans t4)
        have Hlo4 := hide (show w2.heap.size ≤ qb2 by have := H23.out.size; omega)
        have hb4' := hide hb4
        have HN4 := hide (show p < qb2 ∧ q < qb2 ∧ ab < qb2 ∧ ab < pb by have := M3.out.ltp; have := M3.out.ltq; have := HN3.out; omega)
        clear hb4 hpb hqb t4 HB M3 H3 HT3 HS3 HQ3 H23
        obtain ⟨va, vc, hv, hat⟩ := H4.out.at
        subst hv
        have hrow4 : ∀ g', va = some ⟨g', 0, none⟩ → ∃ cB, w4.heap[g']? = some (.cells cB 3) := fun g' e => by
          have h3 := H4.out.row
          rcases h3.2 with ⟨h4, _⟩ | ⟨g2, cap2, cur, h4, _, h5, _⟩
          · rw [e] at h4; cases h4
          · rw [e] at h4
            cases h4
            exact ⟨_, h5⟩
        obtain ⟨cA, g10, g2, g3⟩ := BAr.out
        have g1 := H24.out.at g10 (by simp)
        have hab0 : 0 < ab := by have := HW0.out; have := HAb.out; omega
        have s0 : ∃ v, w4.cell? ⟨ab, k, none⟩ = some v := ⟨cA[k]'(by omega), by rw [cell_of_heap g1]; simp⟩
        obtain ⟨v0, s0⟩ := s0
        have s1 : w4.frozen? ⟨ab, k, none⟩ = false := by simp [World.frozen?, g1]
        obtain ⟨w5, hw5⟩ : ∃ w5, w5 = w4.setCell ⟨ab, k, none⟩ (.pointer (some ⟨pb, 0, none⟩)) := ⟨_, rfl⟩
        have t5 : Turned [ab] w4 w5 := by rw [hw5]; exact (Turned.refl _ _).setCell (by simp) _
        have nM := M4.out
        have M5 : Hid (Mem w5 p q hw 0) := hide (nM.turned t5 (by have := HN4.out; have := HN3.out; simp; omega) (by have := HN3.out; simp; omega))
        have B5 : Hid (Bt.Bts w5 pb qb2 300 (Bt.sidesOf fun _ => 0)) := hide (Bts.off hb4'.out t5 (Off.one g1 (by decide)) (Off.one g1 (by decide)) (by simp; omega))
        have HS5 := hide (t5.at HS4.out (by have := HAb.out; simp; omega))
        have HQ5 := hide (t5.at HQ4.out (by have := HAb.out; simp; omega))
        have HB5 : Hid (∃ c : Array Value, w5.heap[ab]? = some (.cells c 66) ∧ c.size = 2 ∧ c[k]? = some (.pointer (some ⟨pb, 0, none⟩)) ∧ ∀ i, i < k → Ent hw (RS.map (rootOf at_)) w2 c[i]?) := hide (by
          refine ⟨_, by rw [hw5]; exact heap_setCell_at _ _ _ _ _ _ g1 _, by simpa using g2, ?_, fun i hi => ?_⟩
          · rw [Array.getElem?_setIfInBounds, if_pos rfl, if_pos (by omega)]
          · rw [Array.getElem?_setIfInBounds, if_neg (by omega)]
            exact g3 i hi)
        have H25 : Hid (Turned [ab] w2 w5) := hide ((H24.out.mono (fun _ h => by cases h)).trans t5)
        have HcA := hide g10
        have HT5 := hide (HT4.out.trans_new t5 (fun y hy => by simp at hy; subst hy; exact .inr HAb.out.1))
        have HA5 : Hid (∀ (i : Nat) (x : Int), at_[i]? = some x → ∃ g cB, va = some ⟨g, 0, none⟩ ∧ w5.heap[g]? = some (.cells cB 3) ∧ w5.cell? ⟨g, i, none⟩ = some (.int .i64 x)) := hide (fun i x hx => by
          obtain ⟨g', h1, h2⟩ := hat i x hx
          obtain ⟨cB, hcB⟩ := hrow4 g' h1
          have n1 := ne_of_type hcB g1 (by decide)
          refine ⟨g', cB, h1, t5.at hcB (by simpa using n1), ?_⟩
          rw [t5.cell (p := ⟨g', i, none⟩) (lt_of_heap hcB) (by simpa using n1)]
          exact h2)
        have HSk : Hid (∃ xk yk zk, (In64 xk ∧ In64 yk ∧ In64 zk) ∧ w5.cell? ⟨sb, k * 3, none⟩ = some (.int .i64 xk) ∧ w5.cell? ⟨sb, k * 3 + 1, none⟩ = some (.int .i64 yk) ∧ w5.cell? ⟨sb, k * 3 + 2, none⟩ = some (.int .i64 zk)) := hide (by
          rcases (show k = 0 ∨ k = 1 by omega) with rfl | rfl
          · exact ⟨x1, y1, z1, HXY.out.1, by rw [cell_of_heap HS5.out]; rfl, by rw [cell_of_heap HS5.out]; rfl, by rw [cell_of_heap HS5.out]; rfl⟩
          · exact ⟨x2, y2, z2, HXY.out.2, by rw [cell_of_heap HS5.out]; rfl, by rw [cell_of_heap HS5.out]; rfl, by rw [cell_of_heap HS5.out]; rfl⟩)
        obtain ⟨xk, yk, zk, hxk, q0, q1, q2⟩ := HSk.out
        have HXk := hide hxk
        have HMk : Hid (∀ w', Turned [] w5 w' → Calls Tryz.prog 12 #[.pointer (some ⟨p, 0, none⟩), .pointer (some ⟨pb, 0, none⟩), .agg #[.int .i64 xk, .int .i64 yk, .int .i64 zk]] w' fun e W' => (∃ (P : MP) (L M len cp a gw cw pc qc : Nat) (co : Option Addr) (ds ws : List Nat) (w6 : World), e = .returned (.tuple #[.pointer (some ⟨M, 0, none⟩), .int .i64 P.n]) ∧ (P.hw = hw ∧ P.cl = four ∧ (1 ≤ P.n ∧ P.n ≤ 4) ∧ (1 ≤ P.cap ∧ P.cap ≤ 6) ∧ P.over ≤ 5 ∧ L = 1 + P.n * P.need) ∧ Turned [] w5 w6 ∧ (w5.heap.size ≤ pc ∧ w5.heap.size ≤ qc) ∧ Mk P ⟨M, p, q, len, cp, co, pb, qb2, a, gw, P.n, cw, pc, qc, ((0 : Nat) : Int)⟩ w6 W' ds ws (MS.fresh (List.replicate L 0) (fun _ => 0) 0 0) (fun _ => [])) ∧ ∀ b i, b = ab ∨ b = sb → W'.cell? ⟨b, i, none⟩ = w5.cell? ⟨b, i, none⟩) := hide (fun w' t => by
          refine (lmade11 p q pb qb2 hw xk yk zk w' 0 (M5.out.turned t (by simp) (by simp)) (by rw [HHl.out]; omega) (by rw [HHl.out]; exact B5.out.turned0 t) HXk.out (by have := M5.out.ltp; have := t.size; omega) (by have := HN3.out; have := HN4.out; have := HW0.out; simp; omega) (HTb.out.turned (HT5.out.trans t) (by simp))).mono ?_
          rintro e W' ⟨P, L, M, len, cp, a, gw, cw, pc, qc, co, ds, ws, w6, rfl, h1, h2, h3, h4, h5, h6, t6, h7, h8, -, hk⟩
          have hsz := t.size
          refine ⟨⟨P, L, M, len, cp, a, gw, cw, pc, qc, co, ds, ws, w6, rfl, ⟨h1, h2, h3, h4, h5, h6⟩, t.trans t6, ⟨by omega, by omega⟩, hk⟩, fun b i hb => ?_⟩
          have hbl : b < w5.heap.size ∧ b ∉ [p, q, qb2, pc, qc] := by
            obtain ⟨c, e1, _⟩ := HB5.out
            have := lt_of_heap e1
            have := lt_of_heap HS5.out
            have := HAb.out
            have := HN3.out
            have := HN4.out
            simp only [List.mem_cons, List.not_mem_nil, or_false, not_or]
            omega
          have t56 := t.trans t6
          rw [hk.tu.cell (p := ⟨b, i, none⟩) (by have := t56.size; show b < _; omega) hbl.2, t56.cell (p := ⟨b, i, none⟩) hbl.1 (by simp)])
        have q3 : w5.cell? ⟨ab, k, none⟩ = some (.pointer (some ⟨pb, 0, none⟩)) := by obtain ⟨c, e1, e2, e3, e4⟩ := HB5.out; rw [cell_of_heap e1, e3]
        clear hxk nM hat hrow4 g1 g10 g2 g3 BAr HS4 HQ4 hb4' M4 H4 HT4 HSk t5 H24
        go_wp2_with fail
        rw [← hw5]
        clear hw5 s0 s1
        have q0' : w5.drew.cell? ⟨sb, k * 3, none⟩ = some (.int .i64 xk) := q0
        have q1' : w5.drew.cell? ⟨sb, k * 3 + 1, none⟩ = some (.int .i64 yk) := q1
        have q2' : w5.drew.cell? ⟨sb, k * 3 + 2, none⟩ = some (.int .i64 zk) := q2
        have q3' : w5.drew.cell? ⟨ab, k, none⟩ = some (.pointer (some ⟨pb, 0, none⟩)) := q3
        have HD5 := hide ((Turned.refl [] w5).drew)
        go_region_held3 (fun w' => w'.cell? ⟨sb, k * 3, none⟩ = some (.int .i64 xk) ∧ w'.cell? ⟨sb, k * 3 + 1, none⟩ = some (.int .i64 yk) ∧ w'.cell? ⟨sb, k * 3 + 2, none⟩ = some (.int .i64 zk) ∧ w'.cell? ⟨ab, k, none⟩ = some (.pointer (some ⟨pb, 0, none⟩))) (go_keep)
          (first
            | (go_at_call 12; refine (HMk.out _ HD5.out).mono ?_; rintro e w7 ⟨⟨P, L, M, len, cp, a, gw, cw, pc, qc, co, ds, ws, w6, rfl, hPf, t6, hpq, hk⟩, hce⟩; have z0 := (hce sb (k * 3) (.inr rfl)).trans q0; have z1 := (hce sb (k * 3 + 1) (.inr rfl)).trans q1; have z2 := (hce sb (k * 3 + 2) (.inr rfl)).trans q2; have z3 := (hce ab k (.inl rfl)).trans q3; have HPf := hide hPf; have HT6' := hide t6; have Hpq := hide hpq; have HK := hide hk; clear hPf t6 hpq hk hce))
        clear HMk
        have HT6 := hide (HT5.out.trans HT6'.out)
        have HFi : Hid (∀ i, i ∈ [p, q, qb2, pc, qc] → w.heap.size ≤ i ∧ ab < i ∧ sb < i ∧ qb < i ∧ w2.heap.size ≤ i) := hide (fun i hi => by
          have := HN3.out; have := HN4.out; have := HT5.out.size; have := Hpq.out; have := Hlo2.out; have := Hlo4.out; have := H25.out.size
          obtain ⟨c, e1, _⟩ := HB5.out
          have := lt_of_heap e1
          have := lt_of_heap HS5.out
          have := lt_of_heap HQ5.out
          have := HAb.out
          simp only [List.mem_cons, List.not_mem_nil, or_false] at hi
          omega)
        have HQ6 := hide (HT6'.out.at HQ5.out (by simp))
        have HS6 := hide (HT6'.out.at HS5.out (by simp))
        have HT7 := hide (HT6.out.trans_new HK.out.tu (fun i hi => .inr (HFi.out i hi).1))
        have HQ7 := hide (HK.out.tu.at HQ6.out (fun hm => by have := HFi.out qb hm; omega))
        have HA7 : Hid (∀ (i : Nat) (x : Int), at_[i]? = some x → ∃ g, va = some ⟨g, 0, none⟩ ∧ w7.cell? ⟨g, i, none⟩ = some (.int .i64 x)) := hide (fun i x hx => by
          obtain ⟨g', cB, h1, hcB, h2⟩ := HA5.out i x hx
          refine ⟨g', h1, ?_⟩
          have hl5 := lt_of_heap hcB
          have hcB6 := HT6'.out.at hcB (by simp)
          obtain ⟨cq, hcq, _⟩ := B5.out.row
          have n1 := ne_of_type hcB M5.out.head (by decide)
          have n2 := ne_of_type hcB M5.out.row (by decide)
          have n3 := ne_of_type hcB hcq (by decide)
          have := Hpq.out
          rw [HK.out.tu.cell (p := ⟨g', i, none⟩) (lt_of_heap hcB6) (by
            show g' ∉ [p, q, qb2, pc, qc]
            simp [n1, n2, n3]
            omega), HT6'.out.cell (p := ⟨g', i, none⟩) hl5 (by simp)]
          exact h2)
        have HRt := hide (roots11 va vc at_ ro c2 RS w7 HA7.out (by have := HHf.out; omega) (HRS.out.turned HT7.out) (by have := HRn.out; omega))
        rw [← HRn.out.1] at HRt
        have q4 : w7.cell? ⟨qb, 0, none⟩ = some (.slice ro rn c2) := by rw [cell_of_heap HQ7.out]; rfl
        have HBP : Hid (BP P) := hide ⟨HPf.out.2.2.1.1, by rw [HPf.out.1, HHl.out]; omega, by rw [HPf.out.1]; exact HHi.out, by have := HPf.out; omega⟩
        obtain ⟨atn, hatn⟩ : ∃ atn, atn = at_.length := ⟨_, rfl⟩
        rw [← hatn] at HRt ⊢
        clear hatn q0 q1 q2 q0' q1' q2' q3' q3 z0 z1 z2 HA5 HA7 HS5 HQ5 M5 B5 HD5
        go_upto_if 66 with fail
        go_wp2_with fail
        refine (HRt.out).mono ?_
        rintro e w8 ⟨v8, rfl, ho8, t8⟩
        obtain ⟨TR, hTR⟩ : ∃ TR, TR = RS.map (rootOf at_) := ⟨_, rfl⟩
        rw [← hTR] at ho8
        have HTl : Hid (rn = TR.length ∧ TR.length ≤ 10) := hide (by rw [hTR, List.length_map]; have := HRn.out; omega)
        have HTi : Hid (∀ y, y ∈ TR → In64 y) := hide (fun y hy => by
          rw [hTR] at hy
          obtain ⟨r, _, rfl⟩ := List.mem_map.1 hy
          have := rootOf_in HHa.out r
          unfold In64
          omega)
        have HTe := hide hTR
        clear hTR
        rw [HTl.out.1] at ho8
        obtain ⟨aT, cT, rfl, hrd⟩ := row_roots P.n ho8
        obtain ⟨g0, c0⟩ := lm_fresh HK.out HBP.out (by have := HPf.out; omega) (by have := HPf.out; omega)
        have HRo := hide (lm_root2 (I := ⟨M, p, q, len, cp, co, pb, qb2, a, gw, P.n, cw, pc, qc, 0⟩) (r := 0) (T := TR) (ao := aT) (cap := cT) aT TR ⟨_, HK.out.keep0 t8, hrd _ (fun j y hj hy => by simp at hy), hrd _ (fun j y hj hy => by simp at hy)⟩ g0.gg c0 (by have := HTl.out; omega) (by omega) HTi.out)
        rw [← HTl.out.1] at HRo ⊢
        clear ho8 HRt HK g0 c0 t8 hrd
        go_wp2_with fail
        refine (HRo.out).mono ?_
        rintro e w9 ⟨rfl, hm9, hg9, -⟩
        obtain ⟨I, hI⟩ : ∃ I : Ids, I = ⟨M, p, q, len, cp, co, pb, qb2, a, gw, P.n, cw, pc, qc, ((0 + rn : Nat) : Int)⟩ := ⟨_, rfl⟩
        have HIe := hide hI
        have HRg : Hid (RightM P TR) := hide (by
          obtain ⟨top, bsl, d1, d2⟩ := HHd.out
          refine right_link (N := 300) (top := top) (bs := bsl) (by rw [HPf.out.1]; exact d1) HPf.out.2.1 (fun r hr => ?_)
          rw [HTe.out] at hr
          exact roots_obj11 d2 RS r hr)
        have HL9 : Hid (Lm P I w6 ds ws TR 10 (3 * P.hw.length + 2 * 22) ((0 : Nat) : Int) (rootsM P.n (MS.fresh (List.replicate L 0) (fun _ => 0) 0 0) 0 TR) w9) := hide ⟨by obtain ⟨Bs, h1, _⟩ := hm9; exact ⟨Bs, by rw [hI]; exact h1⟩, by
          have h1 := hg9.more (H' := 10) (E' := 3 * P.hw.length + 2 * 22) (by have := HTl.out; omega) (by have := HTl.out; omega)
          simpa using h1⟩
        generalize rootsM P.n (MS.fresh (List.replicate L 0) (fun _ => 0) 0 0) 0 TR = S0 at *
        clear hm9 hg9 hI HRo q4 HQ7 HT7
        have HWr : Hid (∀ (wr : World) (H E : Nat) (M' : Int) (S : MS), Lm P I w6 ds ws TR H E M' S wr → Turned [] w wr ∧ wr.heap[qb]? = some (.cells #[.slice ro rn c2, .slice po1 pl1 pc1, .slice ro2 rl2 rc2, .slice po2 pl2 pc2] 65)) := hide (fun wr H E M' S hl => by
          have h1 := hl.tu
          rw [HIe.out] at h1
          exact ⟨HT6.out.trans_new h1 (fun i hi => .inr (HFi.out i hi).1), h1.at HQ6.out (fun hm => by have := HFi.out qb hm; omega)⟩)
        have HPo : Hid (∃ (po : Option Addr) (pl pcc : Nat) (ps : List Int), IRd w po pl ps ∧ ∀ wr : World, wr.heap[qb]? = some (.cells #[.slice ro rn c2, .slice po1 pl1 pc1, .slice ro2 rl2 rc2, .slice po2 pl2 pc2] 65) → wr.cell? ⟨qb, k * 2 + 1, none⟩ = some (.slice po pl pcc)) := hide (by
          rcases (show k = 0 ∨ k = 1 by omega) with rfl | rfl
          · exact ⟨po1, pl1, pc1, ps1, HPk1.out, fun wr h => by rw [cell_of_heap h]; rfl⟩
          · exact ⟨po2, pl2, pc2, ps2, HPk2.out, fun wr h => by rw [cell_of_heap h]; rfl⟩)
        obtain ⟨po, pl, pcc, ps, hps, hpo⟩ := HPo.out
        have HPs := hide hps
        have HPc := hide hpo
        clear hps hpo HPo
        go_upto_block 2 with fail
        go_cut [15] from 35 to 113 (fun _ wc => ∃ (i : Nat) (S : MS), Aside (i ≤ 300 ∧ Lm P I w6 ds ws TR 10 (3 * P.hw.length + 2 * 22) (i : Int) S wc))
        case first =>
          go_wp2_with fail
          go_loopg [15] 300 (fun gg s15 wr => ∃ (i : Nat) (S : MS), s15 = .int .i64 (i : Int) ∧ i ≤ 300 ∧ 300 - i ≤ gg ∧ Aside (Lm P I w6 ds ws TR 10 (3 * P.hw.length + 2 * 22) (i : Int) S wr))
          case atStart => exact ⟨0, S0, rfl, by omega, by omega, HL9.out⟩
          case round =>
            obtain ⟨i, S, rfl, hi3, hgi, hL⟩ := hrel
            have L1 := hide hL.out
            clear hL HL9
            obtain ⟨hw1, hw2⟩ := HWr.out wr _ _ _ _ L1.out
            have q1 := HPc.out wr hw2
            have HPw := hide (HPs.out.turned hw1)
            clear hw1 hw2
            by_cases h1 : i < pl
            · have h1i : (i : Int) < (pl : Int) := by omega
              by_cases h2 : i < 300
              · have h2i : (i : Int) < 300 := by omega
                obtain ⟨c, hc⟩ : ∃ c, ps[i]? = some c := ⟨_, List.getElem?_eq_getElem (by rw [HPw.out.size]; exact h1)⟩
                obtain ⟨pbk, poff, hpo, cc⟩ := HPw.out.cell i c hc
                subst hpo
                have HPk := hide (pick11 c P.n wr (HPs.out.inn c (List.mem_of_getElem? hc)) ⟨by have := HPf.out; omega, by have := HPf.out; omega⟩)
                clear hc
                go_wp2_with fail
                refine (HPk.out).mono ?_
                rintro e w11 ⟨⟨r, rfl, hr⟩, hw11⟩
                rw [hw11]
                clear hw11 w11 HPk cc q1 HPw
                have HSt := hide (lm_step L1.out HBP.out HRg.out hr (by omega) (by omega))
                rw [show I.M = M by rw [HIe.out]] at HSt
                go_wp2_with fail
                refine (HSt.out).mono ?_
                rintro e w13 ⟨rfl, hl13⟩
                have L3 : Hid (Lm P I w6 ds ws TR 10 (3 * P.hw.length + 2 * 22) ((i + 1 : Nat) : Int) (stepM P S r) w13) := hide (by rw [show ((i + 1 : Nat) : Int) = (i : Int) + 1 by omega]; exact hl13)
                clear hl13 HSt L1 hr
                generalize (if ((stepM P S r).X r).ended = true then (2 : Int) else 0) = tv
                generalize stepM P S r = S' at *
                go_wp2_with fail
                go_roundg (300 - (i + 1))
                case measure => omega
                case rel => exact ⟨i + 1, S', by go_num, by omega, Nat.le_refl _, L3.out⟩
              · have h2i : ¬ (i : Int) < 300 := by omega
                go_wp2_with fail
                go_meet
                case rel => exact ⟨i, S, hi3, L1.out⟩
            · have h1i : ¬ (i : Int) < (pl : Int) := by omega
              go_wp2_with fail
              go_meet
              case rel => exact ⟨i, S, hi3, L1.out⟩
        case rest =>
        clear HL9 HPs HPc
        obtain ⟨iq, S, hL⟩ := hcut
        have L0 := hide hL.out
        clear hL
        obtain ⟨BD, hBD⟩ : ∃ BD : Nat, BD = (P.n + 2) * (P.n + 2) * (100 + 40 * 300) := ⟨_, rfl⟩
        have HBD := hide hBD
        have hBs : BD ≤ 500000 := by
          rw [hBD]
          have h1 : (P.n + 2) * (P.n + 2) ≤ 6 * 6 := Nat.mul_le_mul (by have := HPf.out; omega) (by have := HPf.out; omega)
          omega
        have HBo := hide (fun W => bound11 P.n 300 HPf.out.2.2.1.2 (by omega) W)
        rw [← hBD, show ((300 : Nat) : Int) = 300 from rfl] at HBo
        clear hBD
        have HEnd : Hid (∀ (wc : World) (M' : Int) (Sj : MS), Lm P I w6 ds ws TR 10 (3 * P.hw.length + 2 * 22) M' Sj wc → allE Sj P.n = true → (Turned [] w wc ∧ BA hw (RS.map (rootOf at_)) wc ab (k + 1) ∧ wc.heap[qb]? = some (.cells #[.slice ro rn c2, .slice po1 pl1 pc1, .slice ro2 rl2 rc2, .slice po2 pl2 pc2] 65) ∧ wc.heap[sb]? = some (.cells #[.int .i64 x1, .int .i64 y1, .int .i64 z1, .int .i64 x2, .int .i64 y2, .int .i64 z2] 64))) := hide (by
          intro wc M' Sj hl1 hal
          have L1 := hide hl1
          have HOv := hide (L1.out.gg.over ((allE_true _ _).1 hal))
          have htuF := L1.out.tu
          rw [HIe.out] at htuF
          refine ⟨(HWr.out wc _ _ _ _ L1.out).1, ?_, (HWr.out wc _ _ _ _ L1.out).2, htuF.at HS6.out (fun hm => by have := HFi.out sb hm; omega)⟩
          obtain ⟨c, e1, e2, e3, e4⟩ := HB5.out
          have e1' := htuF.at (HT6'.out.at e1 (by simp)) (fun hm => by have := HFi.out ab hm; omega)
          refine ⟨c, e1', e2, fun i hi => ?_⟩
          by_cases hik : i = k
          · subst hik
            obtain ⟨Bs, hM⟩ := L1.out.mem
            have hb := hM.bt
            have hbl := hM.bl
            rw [HIe.out, HPf.out.1] at hb
            rw [HPf.out.1] at hbl
            have hz := szr_of (R' := TR) HPf.out.2.1 HOv.out.1 HOv.out.2.2.2 (fun r _ => Iff.rfl)
            rw [HPf.out.1, HTe.out] at hz
            exact ⟨pb, qb2, Sj.sz, e3, hb, hbl, hz⟩
          · refine (e4 i (by omega)).off HcA.out (by have := HW0.out; have := HAb.out; omega) ((H25.out.trans (HT6'.out.mono (fun _ h => by cases h))).trans_new htuF (fun y hy => .inr (HFi.out y hy).2.2.2.2)))
        clear HWr
        go_wp2_with fail
        go_loopg [16] BD (fun gg s16 wr => ∃ (j : Nat), s16 = .int .i64 (j : Int) ∧ j ≤ BD ∧ BD - j ≤ gg ∧ Aside (Lm P I w6 ds ws TR 10 (3 * P.hw.length + 2 * 22) ((iq : Int) + j) (turnsM P S j) wr))
        case atStart => exact ⟨0, rfl, by omega, by omega, by rw [show (iq : Int) + ((0 : Nat) : Int) = iq by omega]; exact L0.out.2⟩
        case round =>
          obtain ⟨j, rfl, hj, hgj, hL1⟩ := hrel
          have L2 := hide hL1.out
          clear hL1
          go_wp2_with fail
          refine (HBo.out wr).mono ?_
          rintro e w12 ⟨rfl, hw12⟩
          rw [hw12]
          clear hw12 w12
          have HDn := hide (lm_done L2.out)
          rw [show I.M = M by rw [HIe.out]] at HDn
          by_cases hjb : j < BD
          · have hjbi : (j : Int) < (BD : Int) := by omega
            cases hall : allE (turnsM P S j) P.n
            · rw [hall] at HDn
              clear hall
              have hkn : j % P.n < P.n := Nat.mod_lt _ (by have := HPf.out; omega)
              have HSt := hide (lm_step L2.out HBP.out HRg.out hkn (by have := L0.out.1; omega) (by omega))
              rw [show I.M = M by rw [HIe.out]] at HSt
              have hmod : ((j : Nat) : Int).tmod (P.n : Int) = ((j % P.n : Nat) : Int) := by
                rw [Int.tmod_eq_emod_of_nonneg (by omega)]; simp
              have hnz : ¬ ((P.n : Int) = 0) := by have := HPf.out; omega
              go_wp2_with fail
              refine (HDn.out).mono ?_
              rintro e w12 ⟨rfl, hw12⟩
              rw [hw12]
              clear hw12 w12 HDn
              go_wp2_with fail
              refine (HSt.out).mono ?_
              rintro e w13 ⟨rfl, hl13⟩
              have L3 : Hid (Lm P I w6 ds ws TR 10 (3 * P.hw.length + 2 * 22) ((iq : Int) + (j + 1 : Nat)) (turnsM P S (j + 1)) w13) := hide (by rw [show (iq : Int) + ((j + 1 : Nat) : Int) = (iq : Int) + j + 1 by omega]; exact hl13)
              clear hl13 HSt L2 hmod hnz hkn
              generalize (if ((stepM P (turnsM P S j) (j % P.n)).X (j % P.n)).ended = true then (2 : Int) else 0) = tv
              go_wp2_with fail
              go_roundg (BD - (j + 1))
              case measure => omega
              case rel => exact ⟨j + 1, by go_num, by omega, Nat.le_refl _, L3.out⟩
            · rw [hall] at HDn
              have HAl := hide hall
              go_wp2_with fail
              refine (HDn.out).mono ?_
              rintro e w12 ⟨rfl, hw12⟩
              rw [hw12]
              clear hw12 w12 HDn
              have HE4 := hide (HEnd.out wr _ _ L2.out HAl.out)
              clear HEnd
              go_wp2_with fail
              go_roundg (2 - (k + 1))
              case measure => omega
              case rel => exact ⟨k + 1, rfl, by omega, by go_num, hide HE4.out.1, hide HE4.out.2.1, hide HE4.out.2.2.1, hide HE4.out.2.2.2⟩
          · have hjbi : ¬ (j : Int) < (BD : Int) := by omega
            obtain rfl : j = BD := by omega
            have HAl := hide (lm_over L0.out.2.gg HBP.out HPf.out.2.2.1.2 (t := j) (by
              have h1 := bound_ok (n := P.n) (w := 300) (r := 22) HPf.out.2.2.1.1 HPf.out.2.2.1.2 (by omega) (by omega)
              rw [HBD.out, HPf.out.1, HHl.out]
              exact h1))
            have HE4 := hide (HEnd.out wr _ _ L2.out HAl.out)
            clear HEnd
            go_wp2_with fail
            go_roundg (2 - (k + 1))
            case measure => omega
            case rel => exact ⟨k + 1, rfl, by omega, by go_num, hide HE4.out.1, hide HE4.out.2.1, hide HE4.out.2.2.1, hide HE4.out.2.2.2⟩
      · have hlti : ¬ (k : Int) < 2 := by omega
        obtain rfl : k = 2 := by omega
        obtain ⟨c, e1, e2, e3⟩ := BAr.out
        obtain ⟨pb0, qb0, sz0, v0, b0, l0, z0⟩ := e3 0 (by omega)
        obtain ⟨pb1, qb1, sz1, v1, b1, l1, z1⟩ := e3 1 (by omega)
        have HA0 : Hid (w2.cell? ⟨ab, 0, none⟩ = some (.pointer (some ⟨pb0, 0, none⟩))) := hide (by rw [cell_of_heap e1, v0])
        have HA1 : Hid (w2.cell? ⟨ab, 1, none⟩ = some (.pointer (some ⟨pb1, 0, none⟩))) := hide (by rw [cell_of_heap e1, v1])
        rw [HHl.out] at b0 b1 l0 l1
        have HZ : Hid (∀ i, i < 300 → sz0 i = sz1 i) := hide (fun i hi => szr_same z0 z1 i (by rw [HHl.out]; exact hi))
        have HC0 := hide (fun (w' : World) (t : Turned [] w2 w') (x : Int) => Bt.size_any (some ⟨pb0, 0, none⟩) 300 sz0 x w' (b0.turned0 t).brd l0)
        have HC1 := hide (fun (w' : World) (t : Turned [] w2 w') (x : Int) => Bt.size_any (some ⟨pb1, 0, none⟩) 300 sz1 x w' (b1.turned0 t).brd l1)
        clear e1 e2 e3 v0 v1 b0 b1 l0 l1 z0 z1 BAr QZ SZ
        go_wp2_with fail
        go_loopg [17] 300 (fun gg s17 wr => ∃ (j : Nat), s17 = .int .i64 (j : Int) ∧ j ≤ 300 ∧ gg = 300 - j ∧ Hid (Turned [] w2 wr))
        case atStart => exact ⟨0, rfl, by omega, rfl, hide (Turned.refl [] w2)⟩
        case round =>
          obtain ⟨j, rfl, hj, rfl, HTj⟩ := hrel
          by_cases hj3 : j < 300
          · have hj3i : (j : Int) < 300 := by omega
            have a0 : wr.drew.cell? ⟨ab, 0, none⟩ = some (.pointer (some ⟨pb0, 0, none⟩)) := by show wr.cell? _ = _; rw [HTj.out.cell (block_lt HA0.out) (by simp)]; exact HA0.out
            have a1 : wr.drew.cell? ⟨ab, 1, none⟩ = some (.pointer (some ⟨pb1, 0, none⟩)) := by show wr.cell? _ = _; rw [HTj.out.cell (block_lt HA1.out) (by simp)]; exact HA1.out
            have HDj := hide (HTj.out.drew)
            have HZj : Hid (Bt.szI sz0 (j : Int) = Bt.szI sz1 (j : Int)) := hide (by rw [Bt.szI_nat, Bt.szI_nat]; exact HZ.out j hj3)
            have HK0 := hide (HC0.out _ HDj.out (j : Int))
            rw [HZj.out] at HK0
            have HK1 := hide (fun (w' : World) (t : Turned [] w2 w') => HC1.out w' t (j : Int))
            generalize Bt.szI sz1 (j : Int) = zj at *
            clear HZj
            go_wp2_with fail
            go_region_held3 (fun w' => w'.cell? ⟨ab, 0, none⟩ = some (.pointer (some ⟨pb0, 0, none⟩)) ∧ w'.cell? ⟨ab, 1, none⟩ = some (.pointer (some ⟨pb1, 0, none⟩))) (go_keep)
              (first
                | (go_at_call 27; refine (HK0.out).mono ?_; rintro e wz ⟨rfl, m1, hwz⟩; have HD1 := hide (HDj.out.drewN m1); rw [← hwz] at HD1; have a0' : wz.cell? ⟨ab, 0, none⟩ = some (.pointer (some ⟨pb0, 0, none⟩)) := (by rw [hwz]; exact a0); have a1' : wz.cell? ⟨ab, 1, none⟩ = some (.pointer (some ⟨pb1, 0, none⟩)) := (by rw [hwz]; exact a1); clear hwz a0 a1 HK0)
                | (go_at_call 27; refine (HK1.out _ HD1.out).mono ?_; rintro e wy ⟨rfl, m2, hwy⟩; have HD2 := hide (HD1.out.drewN m2); rw [← hwy] at HD2; have a0'' : wy.cell? ⟨ab, 0, none⟩ = some (.pointer (some ⟨pb0, 0, none⟩)) := (by rw [hwy]; exact a0'); have a1'' : wy.cell? ⟨ab, 1, none⟩ = some (.pointer (some ⟨pb1, 0, none⟩)) := (by rw [hwy]; exact a1'); clear hwy a0' a1' HK1))
            clear a0'' a1''
            go_wp2_with fail
            go_roundg (300 - (j + 1))
            case measure => omega
            case rel => exact ⟨j + 1, by go_num, by omega, rfl, HD2⟩
          · have hj3i : ¬ (j : Int) < 300 := by omega
            have HTe := hide (TW.out.trans HTj.out)
            go_wp2_with fail
            go_ret
            exact ⟨rfl, HTe.out⟩
set_option maxHeartbeats 2000000 in
set_option maxRecDepth 100000 in
theorem markWorkers_lifted (os : Os) (started : os.Started) (H : Type) (enc : TypeId × Value → H) :
    ReturnsInHanded {} Tryz.checked os 7 .any (fun w args => (Rows.markWorkersSpec.pre enc Tryz.prog Tryz.f7 [] false w args ∧ laidMetH Tryz.prog laidTab w) ∧ sizedMet enc Tryz.prog Tryz.f7 (OpenSpec.ofChange Rows.markWorkersSpec) false w args)
      (Rows.markWorkersSpec.post enc Tryz.prog Tryz.f7 false true false false) := by
  refine returnsInHanded_of_change_and (C := Tryz.checked) (X := fun w _ => laidMetH Tryz.prog laidTab w) (fun _ _ _ hh h => h.of_heap hh) own started (by kernel_rfl) Tryz.func7
    (ChangeSpec.witness_shaped (enc := enc) (C := Tryz.checked) (os := os) (X := fun w _ => laidMetH Tryz.prog laidTab w) false (World.doorLaid Tryz.prog 400 os) #[.slice none 0 0, .agg #[.int .i64 0, .int .i64 0, .int .i64 0, .int .i64 0, .int .i64 0, .int .i64 0], .agg #[.slice none 0 0, .slice none 0 0, .slice none 0 0, .slice none 0 0]] 8 rfl (World.shaped_of_RefB (by kernel_rfl) (by kernel_rfl)) (by kernel_rfl) (by kernel_rfl) (by kernel_rfl) (door_met os _)) ?_
  intro W base args ds gs before hval0 hW _ _ hL _
  have hTab := tab_of hL
  have hval : ∀ (j : Nat) t v, Tryz.f7.params[j]? = some t → args[j]? = some v → Value.okWide Tryz.prog W .any base t v := hval0
  have hW' := hW
  obtain ⟨p, q, hA0, hV, rfl, hfz, hnd⟩ := hW
  have hA : DataW.TrodAll enc Tryz.prog W 0 (fun _ => true) true Tryz.f7.params.toList args.toList ds p := hA0
  rw [Tryz.params7] at hA hval
  obtain ⟨v0, vs0, d0, ds0, p0, q0, hargs, rfl, rfl, h0, r0⟩ := trodAll_cons hA
  obtain ⟨v1, vs1, d1, ds1, p1, q1, rfl, rfl, rfl, h1, r1⟩ := trodAll_cons r0
  obtain ⟨v2, vs2, d2, ds2, p2, q2, rfl, rfl, rfl, h2, r2⟩ := trodAll_cons r1
  obtain ⟨rfl, rfl, rfl⟩ := trodAll_nil r2
  obtain rfl : args = #[v0, v1, v2] := by cases args; simp_all
  obtain ⟨rfl, rfl⟩ := trodVars_none hV
  obtain ⟨a0, len0, cap0, rfl⟩ := okWide_slice Tryz.underlying22 (hval 0 22 v0 rfl rfl)
  have k0 := h0
  have lt0 : ∀ x ∈ p0, x.block < W.heap.size := by obtain ⟨m, hm⟩ := k0; exact DataW.trod_lt m _ _ _ hm
  obtain ⟨ths, htl, w0, wc0⟩ := open_things h0
  subst htl
  have k1 := h1
  have lt1 : ∀ x ∈ p1, x.block < W.heap.size := by obtain ⟨m, hm⟩ := k1; exact DataW.trod_lt m _ _ _ hm
  obtain ⟨x1, y1, z1, x2, y2, z2, rfl, w1⟩ := open_sizes2 (hval 1 64 v1 rfl rfl) h1
  have k2 := h2
  have lt2 : ∀ x ∈ p2, x.block < W.heap.size := by obtain ⟨m, hm⟩ := k2; exact DataW.trod_lt m _ _ _ hm
  obtain ⟨ro, rc, rs, po, pc, ps, ro2, rc2, rs2, po2, pc2, ps2, rfl, w2, w3, wc2, w4⟩ := open_work2 (hval 2 65 v2 rfl rfl) h2
  simp only [List.append_nil] at hW'
  clear hA0 hval0
  refine (markWorkers_walk a0 cap0 ths x1 y1 z1 x2 y2 z2 ro rc rs po pc ps ro2 rc2 rs2 po2 pc2 ps2 W w0 wc0 w1 w2 w3 wc2 w4 hTab).mono fun e W' ⟨he, ht⟩ => ?_
  subst he
  have bel : Below W.heap.size W W' := ht.below0
  exact ⟨_, rfl, _, _, _, [], _, [], hW', trodAll_mk1 (shut_bool Tryz.underlying4 _), (trodAll_cons_mk (Below.trod laidOut (by kernel_rfl) (of_decide_eq_true (by kernel_rfl)) k0 bel lt0) (trodAll_cons_mk (Below.trod laidOut (by kernel_rfl) (of_decide_eq_true (by kernel_rfl)) k1 bel lt1) (trodAll_cons_mk (Below.trod laidOut (by kernel_rfl) (of_decide_eq_true (by kernel_rfl)) k2 bel lt2) trodAll_mk0))), rfl, bel.frame _, fun h => by cases h⟩

theorem markWorkers_over : Rows.markWorkersRow.holds Tryz.pinned (OpenSpec.ofChange Rows.markWorkersSpec) :=
  OpenClaim.holds_of_wide 7 Tryz.f7 rfl rfl rfl rfl rfl rfl rfl ⟨rfl, rfl, rfl, rfl, rfl⟩ rfl rfl rfl rfl rfl (by kernel_rfl) Tryz.func7 (by kernel_rfl)
    (of_decide_eq_true (by kernel_rfl)) (by unfold Func.isWrapper; first | (rw [if_pos (by decide +kernel)]; kernel_rfl) | (rw [if_neg (by decide +kernel)]; exact ⟨rfl, rfl⟩))
    (fun os started H enc _ => markWorkers_lifted os started H enc)

theorem markWorkers_holds : Rows.MarkWorkersSaid := markWorkers_over

theorem markWorkers_card : Rows.MarkWorkersCardSaid :=
  Claim7.holds_tied_plain_at .later [] [.data] true _ false
    markWorkers_holds (fun _ h => by cases h) (by kernel_rfl) (fun _ h => by cases h) markWorkers_row_tie rfl ⟨rfl, rfl⟩ (by kernel_rfl) rfl
    (fun f fn hf hfn => by
      obtain rfl : f = 7 := Option.some.inj ((show Tryz.prog.funcNamed "ballast/ballastlaw11.MarkWorkers" = some 7 by kernel_rfl).symm.trans hf) |>.symm
      obtain rfl : fn = Tryz.f7 := (Option.some.inj (Tryz.func7.symm.trans hfn)).symm
      exact ⟨by kernel_rfl, fun j t ht => by
        rw [Tryz.params7] at ht
        have h3 : t ∈ [22, 64, 65] := by
          have h4 := Array.mem_of_getElem? ht
          simpa using h4
        have h5 : ∀ u, u ∈ [22, 64, 65] → Tryz.prog.wantsStandIn u = false := by
          intro u hu
          simp only [List.mem_cons, List.not_mem_nil, or_false] at hu
          rcases hu with rfl | rfl | rfl <;> kernel_rfl
        exact h5 t h3⟩)
    (by kernel_rfl)

end Go.Proofs.YtgbclfhgpkmcnaaGreatDoor
