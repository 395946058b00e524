/-
  awake of layer 13: the answers that the document fixes.
-/
import Derived.Test.YtcckflcjjgckoaaDoorPlanAwakeP
namespace Go.Proofs.YtcckflcjjgckoaaDoor
open Go.RowKit Bt
set_option linter.unusedVariables false
set_option linter.unusedSimpArgs false

theorem R4 : Px.R = 4 := by simp [PN.R, Px]
theorem plPx (lq aq wq tq : Nat) : plC Px (slc lq Px.R) (slc aq Px.R) (slc wq Px.R) (slc tq Px.R) = #[.int .i64 1, .int .i64 21, .int .i64 5, .int .i64 6, .int .i64 14, .slice (some ⟨lq, 0, none⟩) 4 4, .slice (some ⟨aq, 0, none⟩) 4 4, .slice (some ⟨wq, 0, none⟩) 4 4, .slice (some ⟨tq, 0, none⟩) 4 4] := by rw [R4]; rfl

theorem ownsRow_pair {w : World} {B : Nat} {v : Value} {x y : Nat} (h : w.ownsRow B 43 2 v [(x, y)].length (flat2 [(x, y)])) : ∃ g cap, v = .slice (some ⟨g, 0, none⟩) 1 cap ∧ w.cell? ⟨g, 0, none⟩ = some (.int .i64 (x : Int)) ∧ w.cell? ⟨g, 1, none⟩ = some (.int .i64 (y : Int)) := by
  rcases h.2 with ⟨_, h0⟩ | ⟨g, cap, cur, hv, hg, hh, hc, _, _, ht⟩
  · simp at h0
  · refine ⟨g, cap, hv, ?_, ?_⟩
    · rw [cell_of_heap hh]
      have h1 : (flat2 [(x, y)])[0]? = some (.int .i64 (x : Int)) := rfl
      rw [← ht, List.getElem?_take] at h1
      split at h1
      · simpa using h1
      · cases h1
    · rw [cell_of_heap hh]
      have h1 : (flat2 [(x, y)])[1]? = some (.int .i64 (y : Int)) := rfl
      rw [← ht, List.getElem?_take] at h1
      split at h1
      · simpa using h1
      · cases h1

set_option maxHeartbeats 4000000 in
set_option maxRecDepth 100000 in
theorem awake13 (w : World) (hT : Tab w) :
    Calls Tryd.prog 7 #[] w fun e w' => e = .returned (.bool true) ∧ Turned [] w w' := by
  obtain ⟨w0, hw0⟩ : ∃ w0, w0 = w.alloc (.cells #[.int .i64 1, .int .i64 3, .int .i64 9, .int .i64 3, .int .i64 14, .int .i64 3, .int .i64 12, .int .i64 2] 43) := ⟨_, rfl⟩
  have hT0 : Turned [] w w0 := by rw [hw0]; exact (Turned.refl [] w).alloc _
  have hg0 : w0.heap[w.heap.size]? = some (.cells #[.int .i64 1, .int .i64 3, .int .i64 9, .int .i64 3, .int .i64 14, .int .i64 3, .int .i64 12, .int .i64 2] 43) := by rw [hw0]; exact heap_alloc_new _ _
  have hrd : TwRd w0 (some ⟨w.heap.size, 0, none⟩) 4 cs13 := by
    refine ⟨rfl, by omega, fun i c hc => ⟨_, _, rfl, ?_⟩, fun c hc => ?_⟩
    · rw [cell_of_heap hg0, cell_of_heap hg0]
      match i, hc with
      | 0, hc => cases hc; exact ⟨rfl, rfl⟩
      | 1, hc => cases hc; exact ⟨rfl, rfl⟩
      | 2, hc => cases hc; exact ⟨rfl, rfl⟩
      | 3, hc => cases hc; exact ⟨rfl, rfl⟩
      | i + 4, hc => simp [cs13] at hc
    · simp only [cs13, List.mem_cons, List.not_mem_nil, or_false] at hc
      unfold In64
      rcases hc with rfl | rfl | rfl | rfl <;> simp
  have HM := hide (marks_any 30 (some ⟨w.heap.size, 0, none⟩) 4 4 cs13 w0 (by omega) hrd (hT.turned hT0 (by simp)))
  rw [show min 4 60 = 4 from rfl, mkSx] at HM
  have HT0 := hide hT0
  clear hg0 hrd hT0 hT
  go_enter Tryd.func7, Tryd.ntmps7
  go_wp2_with fail
  rw [← hw0]
  clear hw0
  refine (HM.out).mono ?_
  rintro e w1 ⟨p, q, p2, rfl, hb, hp0, hq0, ht1⟩
  have HB1 := hide hb
  have HT1 := hide (HT0.out.trans ht1)
  have HMk := hide (make_ok p 30 Sx 1 21 5 2 w1 hb.brd (by have := mkS_bl 30 cs13 4; rw [mkSx] at this; exact this) (by omega) (by omega) (by omega) (by omega) (by omega) noCut1 noCut21)
  clear hb hp0 hq0 ht1 HM HT0
  go_wp2_with fail
  refine (HMk.out).mono ?_
  rintro e w2 ⟨P, lq, aq, wq, tq, rfl, hm, hpl, ht2⟩
  have hPx := makesPx hm
  subst hPx
  have HB2 := hide (HB1.out.turned0 ht2)
  have HT2 := hide (HT1.out.trans ht2)
  have HPl := hide hpl
  clear hm hpl ht2 HB1 HT1 HMk
  rw [plPx]
  have HBl : Hid (Bl 30 Sx) := hide (by have := mkS_bl 30 cs13 4; rw [mkSx] at this; exact this)
  have H3 := hide (heap_alloc_new w2 (.cells #[.int .i64 1, .int .i64 21, .int .i64 5, .int .i64 6, .int .i64 14, .slice (some ⟨lq, 0, none⟩) 4 4, .slice (some ⟨aq, 0, none⟩) 4 4, .slice (some ⟨wq, 0, none⟩) 4 4, .slice (some ⟨tq, 0, none⟩) 4 4] 30))
  have HT3 := hide (HT2.out.alloc (.cells #[.int .i64 1, .int .i64 21, .int .i64 5, .int .i64 6, .int .i64 14, .slice (some ⟨lq, 0, none⟩) 4 4, .slice (some ⟨aq, 0, none⟩) 4 4, .slice (some ⟨wq, 0, none⟩) 4 4, .slice (some ⟨tq, 0, none⟩) 4 4] 30))
  have HU3 := hide ((Turned.refl [] w2).alloc (.cells #[.int .i64 1, .int .i64 21, .int .i64 5, .int .i64 6, .int .i64 14, .slice (some ⟨lq, 0, none⟩) 4 4, .slice (some ⟨aq, 0, none⟩) 4 4, .slice (some ⟨wq, 0, none⟩) 4 4, .slice (some ⟨tq, 0, none⟩) 4 4] 30))
  go_wp2_with fail
  generalize w2.alloc (.cells #[Value.int .i64 1, .int .i64 21, .int .i64 5, .int .i64 6, .int .i64 14, .slice (some ⟨lq, 0, none⟩) 4 4, .slice (some ⟨aq, 0, none⟩) 4 4, .slice (some ⟨wq, 0, none⟩) 4 4, .slice (some ⟨tq, 0, none⟩) 4 4] 30) = w3 at *
  generalize w2.heap.size = pb at *
  have HP3 : Hid (Pb w3 pb Px (.slice (some ⟨lq, 0, none⟩) 4 4) (.slice (some ⟨aq, 0, none⟩) 4 4) (.slice (some ⟨wq, 0, none⟩) 4 4) (.slice (some ⟨tq, 0, none⟩) 4 4)) := H3
  have HL3 := hide (HPl.out.turned0 HU3.out)
  have HB3 := hide (HB2.out.turned0 HU3.out)
  clear H3 HU3 HB2 HT2 HPl
  have HG : Hid (Calls Tryd.prog 17 #[.agg #[.int .i64 1, .int .i64 21, .int .i64 5, .int .i64 6, .int .i64 14, .slice (some ⟨lq, 0, none⟩) 4 4, .slice (some ⟨aq, 0, none⟩) 4 4, .slice (some ⟨wq, 0, none⟩) 4 4, .slice (some ⟨tq, 0, none⟩) 4 4], .pointer (some ⟨p, 0, none⟩)] w3 fun e w' => ∃ v, e = .returned v ∧ ∃ L x, GpF Sx Px.f Px.d x L ∧ Px.d ≤ x ∧ L.length ≤ 65536 ∧ w'.ownsRow w3.heap.size 43 2 v L.length (flat2 L) ∧ Turned [] w3 w') := hide (gaps_any p 30 Sx Px (.slice (some ⟨lq, 0, none⟩) 4 4) (.slice (some ⟨aq, 0, none⟩) 4 4) (.slice (some ⟨wq, 0, none⟩) 4 4) (.slice (some ⟨tq, 0, none⟩) 4 4) w3 HB3.out.brd HBl.out (by decide) (by decide) (by decide))
  refine (HG.out).mono ?_
  rintro e w4 ⟨v, rfl, L, x, hgp, hx, -, hown, ht4⟩
  obtain rfl := gapsPx hgp hx
  have hgo := ownsRow_pair hown
  obtain ⟨gq, gc, rfl, hg0, hg1⟩ := hgo
  have HP4 := hide (HP3.out.turned0 ht4)
  have HL4 := hide (HL3.out.turned0 ht4)
  have HB4 := hide (HB3.out.turned0 ht4)
  have HT4 := hide (HT3.out.trans ht4)
  have HGg := hide (And.intro hg0 hg1)
  obtain ⟨c0, c1, c2, c3, c4, c5, c6, c7, c8⟩ := HP4.out.cs
  clear ht4 hgp hx hown HP3 HL3 HB3 HT3 HG hg0 hg1
  clear c0 c1 c2 c3 c4 c5 c6 c7 c8
  have HG4 := HGg
  clear HGg
  have HC : Hid (Calls Tryd.prog 13 #[.agg #[.int .i64 1, .int .i64 21, .int .i64 5, .int .i64 6, .int .i64 14, .slice (some ⟨lq, 0, none⟩) 4 4, .slice (some ⟨aq, 0, none⟩) 4 4, .slice (some ⟨wq, 0, none⟩) 4 4, .slice (some ⟨tq, 0, none⟩) 4 4], .int .i64 2] w4 fun e w' => e = .returned (.tuple #[.int .i64 11, .int .i64 14]) ∧ Turned [] w4 w') := hide (by have h5 := goal_in Px okPx (.slice (some ⟨lq, 0, none⟩) 4 4) (.slice (some ⟨aq, 0, none⟩) 4 4) (.slice (some ⟨wq, 0, none⟩) 4 4) (.slice (some ⟨tq, 0, none⟩) 4 4) 2 (by rw [R4]; omega) w4; rw [go20, go21] at h5; exact h5)
  obtain ⟨c0, c1, c2, c3, c4, c5, c6, c7, c8⟩ := HP4.out.cs
  replace c0 : w4.cell? ⟨pb, 0, none⟩ = some (.int .i64 1) := c0
  replace c1 : w4.cell? ⟨pb, 1, none⟩ = some (.int .i64 21) := c1
  replace c2 : w4.cell? ⟨pb, 2, none⟩ = some (.int .i64 5) := c2
  replace c3 : w4.cell? ⟨pb, 3, none⟩ = some (.int .i64 6) := c3
  replace c4 : w4.cell? ⟨pb, 4, none⟩ = some (.int .i64 14) := c4
  have l2 : w4.cell? ⟨lq, 2, none⟩ = some (.int .i64 5) := by have h5 := HL4.out.lv.cell (i := 2) (by rw [R4]; omega); rw [lv2] at h5; exact h5
  have a3 : w4.cell? ⟨aq, 3, none⟩ = some (.int .i64 7) := by have h5 := Ri.cell HL4.out.ah (i := 3) (by rw [R4]; omega); rw [ah3] at h5; exact h5
  have x2 : w4.cell? ⟨wq, 2, none⟩ = some (.int .i64 1) := by have h5 := HL4.out.wt.cell (i := 2) (by rw [R4]; omega); rw [wt2] at h5; exact h5
  have t0 : w4.cell? ⟨tq, 2, none⟩ = some (.int .i64 1) := by have h5 := HL4.out.tk.cell (i := 1) (s := 0) (by rw [R4]; omega) (by omega); rw [tk10] at h5; exact h5
  have t1 : w4.cell? ⟨tq, 3, none⟩ = some (.int .i64 3) := by have h5 := HL4.out.tk.cell (i := 1) (s := 1) (by rw [R4]; omega) (by omega); rw [tk11] at h5; exact h5
  have g0 : w4.cell? ⟨gq, 0, none⟩ = some (.int .i64 4) := HG4.out.1
  have g1 : w4.cell? ⟨gq, 1, none⟩ = some (.int .i64 6) := HG4.out.2
  go_wp2_with fail
  refine (HC.out).mono ?_
  rintro e w5 ⟨rfl, ht⟩
  have HP5 := hide (HP4.out.turned0 ht)
  have HL5 := hide (HL4.out.turned0 ht)
  have HB5 := hide (HB4.out.turned0 ht)
  have HT5 := hide (HT4.out.trans ht)
  have HG5 := hide (And.intro (show w5.cell? ⟨gq, 0, none⟩ = some (.int .i64 4) by rw [ht.cell (block_lt HG4.out.1) (by simp)]; exact HG4.out.1) (show w5.cell? ⟨gq, 1, none⟩ = some (.int .i64 6) by rw [ht.cell (block_lt HG4.out.2) (by simp)]; exact HG4.out.2))
  clear c0 c1 c2 c3 c4 c5 c6 c7 c8 l2 a3 x2 t0 t1 g0 g1
  clear ht HC HP4 HL4 HB4 HT4 HG4
  have HC : Hid (Calls Tryd.prog 11 #[.agg #[.int .i64 1, .int .i64 21, .int .i64 5, .int .i64 6, .int .i64 14, .slice (some ⟨lq, 0, none⟩) 4 4, .slice (some ⟨aq, 0, none⟩) 4 4, .slice (some ⟨wq, 0, none⟩) 4 4, .slice (some ⟨tq, 0, none⟩) 4 4], .pointer (some ⟨p, 0, none⟩), .int .i64 12] w5 fun e w' => e = .returned (.int .i64 9) ∧ Turned [] w5 w') := hide (by have h5 := forward_live (some ⟨p, 0, none⟩) 30 Px okPx Sx (.slice (some ⟨lq, 0, none⟩) 4 4) (.slice (some ⟨wq, 0, none⟩) 4 4) (.slice (some ⟨tq, 0, none⟩) 4 4) aq 4 12 w5 HB5.out.brd HBl.out HL5.out.ah (by decide) (by decide) (by decide) (by decide) (by decide) (by rw [liveSx]; decide +kernel); rw [fw12, R4] at h5; exact h5)
  obtain ⟨c0, c1, c2, c3, c4, c5, c6, c7, c8⟩ := HP5.out.cs
  replace c0 : w5.cell? ⟨pb, 0, none⟩ = some (.int .i64 1) := c0
  replace c1 : w5.cell? ⟨pb, 1, none⟩ = some (.int .i64 21) := c1
  replace c2 : w5.cell? ⟨pb, 2, none⟩ = some (.int .i64 5) := c2
  replace c3 : w5.cell? ⟨pb, 3, none⟩ = some (.int .i64 6) := c3
  replace c4 : w5.cell? ⟨pb, 4, none⟩ = some (.int .i64 14) := c4
  have l2 : w5.cell? ⟨lq, 2, none⟩ = some (.int .i64 5) := by have h5 := HL5.out.lv.cell (i := 2) (by rw [R4]; omega); rw [lv2] at h5; exact h5
  have a3 : w5.cell? ⟨aq, 3, none⟩ = some (.int .i64 7) := by have h5 := Ri.cell HL5.out.ah (i := 3) (by rw [R4]; omega); rw [ah3] at h5; exact h5
  have x2 : w5.cell? ⟨wq, 2, none⟩ = some (.int .i64 1) := by have h5 := HL5.out.wt.cell (i := 2) (by rw [R4]; omega); rw [wt2] at h5; exact h5
  have t0 : w5.cell? ⟨tq, 2, none⟩ = some (.int .i64 1) := by have h5 := HL5.out.tk.cell (i := 1) (s := 0) (by rw [R4]; omega) (by omega); rw [tk10] at h5; exact h5
  have t1 : w5.cell? ⟨tq, 3, none⟩ = some (.int .i64 3) := by have h5 := HL5.out.tk.cell (i := 1) (s := 1) (by rw [R4]; omega) (by omega); rw [tk11] at h5; exact h5
  have g0 : w5.cell? ⟨gq, 0, none⟩ = some (.int .i64 4) := HG5.out.1
  have g1 : w5.cell? ⟨gq, 1, none⟩ = some (.int .i64 6) := HG5.out.2
  go_wp2_with fail
  refine (HC.out).mono ?_
  rintro e w6 ⟨rfl, ht⟩
  have HP6 := hide (HP5.out.turned0 ht)
  have HL6 := hide (HL5.out.turned0 ht)
  have HB6 := hide (HB5.out.turned0 ht)
  have HT6 := hide (HT5.out.trans ht)
  have HG6 := hide (And.intro (show w6.cell? ⟨gq, 0, none⟩ = some (.int .i64 4) by rw [ht.cell (block_lt HG5.out.1) (by simp)]; exact HG5.out.1) (show w6.cell? ⟨gq, 1, none⟩ = some (.int .i64 6) by rw [ht.cell (block_lt HG5.out.2) (by simp)]; exact HG5.out.2))
  clear c0 c1 c2 c3 c4 c5 c6 c7 c8 l2 a3 x2 t0 t1 g0 g1
  clear ht HC HP5 HL5 HB5 HT5 HG5
  have HC : Hid (Calls Tryd.prog 11 #[.agg #[.int .i64 1, .int .i64 21, .int .i64 5, .int .i64 6, .int .i64 14, .slice (some ⟨lq, 0, none⟩) 4 4, .slice (some ⟨aq, 0, none⟩) 4 4, .slice (some ⟨wq, 0, none⟩) 4 4, .slice (some ⟨tq, 0, none⟩) 4 4], .pointer (some ⟨p, 0, none⟩), .int .i64 5] w6 fun e w' => e = .returned (.int .i64 0) ∧ Turned [] w6 w') := hide (by have h5 := forward_dead (some ⟨p, 0, none⟩) 30 Px okPx Sx (.slice (some ⟨lq, 0, none⟩) 4 4) (.slice (some ⟨wq, 0, none⟩) 4 4) (.slice (some ⟨tq, 0, none⟩) 4 4) aq 4 5 w6 HB6.out.brd HBl.out (by decide) (by decide) (by rw [liveSx]; decide +kernel); rw [R4] at h5; exact h5)
  obtain ⟨c0, c1, c2, c3, c4, c5, c6, c7, c8⟩ := HP6.out.cs
  replace c0 : w6.cell? ⟨pb, 0, none⟩ = some (.int .i64 1) := c0
  replace c1 : w6.cell? ⟨pb, 1, none⟩ = some (.int .i64 21) := c1
  replace c2 : w6.cell? ⟨pb, 2, none⟩ = some (.int .i64 5) := c2
  replace c3 : w6.cell? ⟨pb, 3, none⟩ = some (.int .i64 6) := c3
  replace c4 : w6.cell? ⟨pb, 4, none⟩ = some (.int .i64 14) := c4
  have l2 : w6.cell? ⟨lq, 2, none⟩ = some (.int .i64 5) := by have h5 := HL6.out.lv.cell (i := 2) (by rw [R4]; omega); rw [lv2] at h5; exact h5
  have a3 : w6.cell? ⟨aq, 3, none⟩ = some (.int .i64 7) := by have h5 := Ri.cell HL6.out.ah (i := 3) (by rw [R4]; omega); rw [ah3] at h5; exact h5
  have x2 : w6.cell? ⟨wq, 2, none⟩ = some (.int .i64 1) := by have h5 := HL6.out.wt.cell (i := 2) (by rw [R4]; omega); rw [wt2] at h5; exact h5
  have t0 : w6.cell? ⟨tq, 2, none⟩ = some (.int .i64 1) := by have h5 := HL6.out.tk.cell (i := 1) (s := 0) (by rw [R4]; omega) (by omega); rw [tk10] at h5; exact h5
  have t1 : w6.cell? ⟨tq, 3, none⟩ = some (.int .i64 3) := by have h5 := HL6.out.tk.cell (i := 1) (s := 1) (by rw [R4]; omega) (by omega); rw [tk11] at h5; exact h5
  have g0 : w6.cell? ⟨gq, 0, none⟩ = some (.int .i64 4) := HG6.out.1
  have g1 : w6.cell? ⟨gq, 1, none⟩ = some (.int .i64 6) := HG6.out.2
  go_wp2_with fail
  refine (HC.out).mono ?_
  rintro e w7 ⟨rfl, ht⟩
  have HP7 := hide (HP6.out.turned0 ht)
  have HL7 := hide (HL6.out.turned0 ht)
  have HB7 := hide (HB6.out.turned0 ht)
  have HT7 := hide (HT6.out.trans ht)
  have HG7 := hide (And.intro (show w7.cell? ⟨gq, 0, none⟩ = some (.int .i64 4) by rw [ht.cell (block_lt HG6.out.1) (by simp)]; exact HG6.out.1) (show w7.cell? ⟨gq, 1, none⟩ = some (.int .i64 6) by rw [ht.cell (block_lt HG6.out.2) (by simp)]; exact HG6.out.2))
  clear c0 c1 c2 c3 c4 c5 c6 c7 c8 l2 a3 x2 t0 t1 g0 g1
  clear ht HC HP6 HL6 HB6 HT6 HG6
  have HC : Hid (Calls Tryd.prog 12 #[.agg #[.int .i64 1, .int .i64 21, .int .i64 5, .int .i64 6, .int .i64 14, .slice (some ⟨lq, 0, none⟩) 4 4, .slice (some ⟨aq, 0, none⟩) 4 4, .slice (some ⟨wq, 0, none⟩) 4 4, .slice (some ⟨tq, 0, none⟩) 4 4], .pointer (some ⟨p, 0, none⟩), .int .i64 8] w7 fun e w' => e = .returned (.int .i64 (11)) ∧ Turned [] w7 w') := hide (by have h5 := source_in (some ⟨p, 0, none⟩) 30 Px okPx Sx (.slice (some ⟨lq, 0, none⟩) 4 4) (.slice (some ⟨wq, 0, none⟩) 4 4) (.slice (some ⟨tq, 0, none⟩) 4 4) aq 4 8 w7 HB7.out.brd HBl.out HL7.out.ah (by decide) (by decide) (by decide) (by decide) (by decide); rw [R4] at h5; refine h5.mono ?_; rintro e w' ⟨r, rfl, hr, ht⟩; rw [src8 hr]; exact ⟨rfl, ht⟩)
  obtain ⟨c0, c1, c2, c3, c4, c5, c6, c7, c8⟩ := HP7.out.cs
  replace c0 : w7.cell? ⟨pb, 0, none⟩ = some (.int .i64 1) := c0
  replace c1 : w7.cell? ⟨pb, 1, none⟩ = some (.int .i64 21) := c1
  replace c2 : w7.cell? ⟨pb, 2, none⟩ = some (.int .i64 5) := c2
  replace c3 : w7.cell? ⟨pb, 3, none⟩ = some (.int .i64 6) := c3
  replace c4 : w7.cell? ⟨pb, 4, none⟩ = some (.int .i64 14) := c4
  have l2 : w7.cell? ⟨lq, 2, none⟩ = some (.int .i64 5) := by have h5 := HL7.out.lv.cell (i := 2) (by rw [R4]; omega); rw [lv2] at h5; exact h5
  have a3 : w7.cell? ⟨aq, 3, none⟩ = some (.int .i64 7) := by have h5 := Ri.cell HL7.out.ah (i := 3) (by rw [R4]; omega); rw [ah3] at h5; exact h5
  have x2 : w7.cell? ⟨wq, 2, none⟩ = some (.int .i64 1) := by have h5 := HL7.out.wt.cell (i := 2) (by rw [R4]; omega); rw [wt2] at h5; exact h5
  have t0 : w7.cell? ⟨tq, 2, none⟩ = some (.int .i64 1) := by have h5 := HL7.out.tk.cell (i := 1) (s := 0) (by rw [R4]; omega) (by omega); rw [tk10] at h5; exact h5
  have t1 : w7.cell? ⟨tq, 3, none⟩ = some (.int .i64 3) := by have h5 := HL7.out.tk.cell (i := 1) (s := 1) (by rw [R4]; omega) (by omega); rw [tk11] at h5; exact h5
  have g0 : w7.cell? ⟨gq, 0, none⟩ = some (.int .i64 4) := HG7.out.1
  have g1 : w7.cell? ⟨gq, 1, none⟩ = some (.int .i64 6) := HG7.out.2
  go_wp2_with fail
  refine (HC.out).mono ?_
  rintro e w8 ⟨rfl, ht⟩
  have HP8 := hide (HP7.out.turned0 ht)
  have HL8 := hide (HL7.out.turned0 ht)
  have HB8 := hide (HB7.out.turned0 ht)
  have HT8 := hide (HT7.out.trans ht)
  have HG8 := hide (And.intro (show w8.cell? ⟨gq, 0, none⟩ = some (.int .i64 4) by rw [ht.cell (block_lt HG7.out.1) (by simp)]; exact HG7.out.1) (show w8.cell? ⟨gq, 1, none⟩ = some (.int .i64 6) by rw [ht.cell (block_lt HG7.out.2) (by simp)]; exact HG7.out.2))
  clear c0 c1 c2 c3 c4 c5 c6 c7 c8 l2 a3 x2 t0 t1 g0 g1
  clear ht HC HP7 HL7 HB7 HT7 HG7
  have HC : Hid (Calls Tryd.prog 12 #[.agg #[.int .i64 1, .int .i64 21, .int .i64 5, .int .i64 6, .int .i64 14, .slice (some ⟨lq, 0, none⟩) 4 4, .slice (some ⟨aq, 0, none⟩) 4 4, .slice (some ⟨wq, 0, none⟩) 4 4, .slice (some ⟨tq, 0, none⟩) 4 4], .pointer (some ⟨p, 0, none⟩), .int .i64 14] w8 fun e w' => e = .returned (.int .i64 (-1)) ∧ Turned [] w8 w') := hide (by have h5 := source_in (some ⟨p, 0, none⟩) 30 Px okPx Sx (.slice (some ⟨lq, 0, none⟩) 4 4) (.slice (some ⟨wq, 0, none⟩) 4 4) (.slice (some ⟨tq, 0, none⟩) 4 4) aq 4 14 w8 HB8.out.brd HBl.out HL8.out.ah (by decide) (by decide) (by decide) (by decide) (by decide); rw [R4] at h5; refine h5.mono ?_; rintro e w' ⟨r, rfl, hr, ht⟩; rw [src14 hr]; exact ⟨rfl, ht⟩)
  obtain ⟨c0, c1, c2, c3, c4, c5, c6, c7, c8⟩ := HP8.out.cs
  replace c0 : w8.cell? ⟨pb, 0, none⟩ = some (.int .i64 1) := c0
  replace c1 : w8.cell? ⟨pb, 1, none⟩ = some (.int .i64 21) := c1
  replace c2 : w8.cell? ⟨pb, 2, none⟩ = some (.int .i64 5) := c2
  replace c3 : w8.cell? ⟨pb, 3, none⟩ = some (.int .i64 6) := c3
  replace c4 : w8.cell? ⟨pb, 4, none⟩ = some (.int .i64 14) := c4
  have l2 : w8.cell? ⟨lq, 2, none⟩ = some (.int .i64 5) := by have h5 := HL8.out.lv.cell (i := 2) (by rw [R4]; omega); rw [lv2] at h5; exact h5
  have a3 : w8.cell? ⟨aq, 3, none⟩ = some (.int .i64 7) := by have h5 := Ri.cell HL8.out.ah (i := 3) (by rw [R4]; omega); rw [ah3] at h5; exact h5
  have x2 : w8.cell? ⟨wq, 2, none⟩ = some (.int .i64 1) := by have h5 := HL8.out.wt.cell (i := 2) (by rw [R4]; omega); rw [wt2] at h5; exact h5
  have t0 : w8.cell? ⟨tq, 2, none⟩ = some (.int .i64 1) := by have h5 := HL8.out.tk.cell (i := 1) (s := 0) (by rw [R4]; omega) (by omega); rw [tk10] at h5; exact h5
  have t1 : w8.cell? ⟨tq, 3, none⟩ = some (.int .i64 3) := by have h5 := HL8.out.tk.cell (i := 1) (s := 1) (by rw [R4]; omega) (by omega); rw [tk11] at h5; exact h5
  have g0 : w8.cell? ⟨gq, 0, none⟩ = some (.int .i64 4) := HG8.out.1
  have g1 : w8.cell? ⟨gq, 1, none⟩ = some (.int .i64 6) := HG8.out.2
  go_wp2_with fail
  refine (HC.out).mono ?_
  rintro e w9 ⟨rfl, ht⟩
  have HP9 := hide (HP8.out.turned0 ht)
  have HL9 := hide (HL8.out.turned0 ht)
  have HB9 := hide (HB8.out.turned0 ht)
  have HT9 := hide (HT8.out.trans ht)
  have HG9 := hide (And.intro (show w9.cell? ⟨gq, 0, none⟩ = some (.int .i64 4) by rw [ht.cell (block_lt HG8.out.1) (by simp)]; exact HG8.out.1) (show w9.cell? ⟨gq, 1, none⟩ = some (.int .i64 6) by rw [ht.cell (block_lt HG8.out.2) (by simp)]; exact HG8.out.2))
  clear c0 c1 c2 c3 c4 c5 c6 c7 c8 l2 a3 x2 t0 t1 g0 g1
  clear ht HC HP8 HL8 HB8 HT8 HG8
  obtain ⟨c0, c1, c2, c3, c4, c5, c6, c7, c8⟩ := HP9.out.cs
  replace c0 : w9.cell? ⟨pb, 0, none⟩ = some (.int .i64 1) := c0
  replace c1 : w9.cell? ⟨pb, 1, none⟩ = some (.int .i64 21) := c1
  replace c2 : w9.cell? ⟨pb, 2, none⟩ = some (.int .i64 5) := c2
  replace c3 : w9.cell? ⟨pb, 3, none⟩ = some (.int .i64 6) := c3
  replace c4 : w9.cell? ⟨pb, 4, none⟩ = some (.int .i64 14) := c4
  have l2 : w9.cell? ⟨lq, 2, none⟩ = some (.int .i64 5) := by have h5 := HL9.out.lv.cell (i := 2) (by rw [R4]; omega); rw [lv2] at h5; exact h5
  have a3 : w9.cell? ⟨aq, 3, none⟩ = some (.int .i64 7) := by have h5 := Ri.cell HL9.out.ah (i := 3) (by rw [R4]; omega); rw [ah3] at h5; exact h5
  have x2 : w9.cell? ⟨wq, 2, none⟩ = some (.int .i64 1) := by have h5 := HL9.out.wt.cell (i := 2) (by rw [R4]; omega); rw [wt2] at h5; exact h5
  have t0 : w9.cell? ⟨tq, 2, none⟩ = some (.int .i64 1) := by have h5 := HL9.out.tk.cell (i := 1) (s := 0) (by rw [R4]; omega) (by omega); rw [tk10] at h5; exact h5
  have t1 : w9.cell? ⟨tq, 3, none⟩ = some (.int .i64 3) := by have h5 := HL9.out.tk.cell (i := 1) (s := 1) (by rw [R4]; omega) (by omega); rw [tk11] at h5; exact h5
  have g0 : w9.cell? ⟨gq, 0, none⟩ = some (.int .i64 4) := HG9.out.1
  have g1 : w9.cell? ⟨gq, 1, none⟩ = some (.int .i64 6) := HG9.out.2
  have heq1 : ∀ w : World, (Op.equalIn 10000 43 (Value.agg #[.int .i64 1, .int .i64 3]) (Value.agg #[.int .i64 1, .int .i64 3])).run Tryd.prog w = .ok true w := fun _ => by kernel_rfl
  have heq4 : ∀ w : World, (Op.equalIn 10000 43 (Value.agg #[.int .i64 4, .int .i64 6]) (Value.agg #[.int .i64 4, .int .i64 6])).run Tryd.prog w = .ok true w := fun _ => by kernel_rfl
  go_wp2_with fail
  go_ret
  exact ⟨rfl, HT9.out⟩
end Go.Proofs.YtcckflcjjgckoaaDoor
