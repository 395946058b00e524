/-
  origin, liveWord, Forward, Source of package plan.
-/
import Derived.Test.YtcckflcjjgckoaaDoorPlanRows
namespace Go.Proofs.YtcckflcjjgckoaaDoor
open Go.RowKit Bt
set_option linter.unusedVariables false

/-- What lies ahead of each region, in memory. -/
def Ah (w : World) (P : PN) (S : Nat → Nat) (aq : Nat) : Prop := Ri w 3 aq P.R (fun r => (ahR P (live S) r : Nat))
theorem Ah.turned0 {w w' : World} {P : PN} {S : Nat → Nat} {aq : Nat} (h : Ah w P S aq) (t : Turned [] w w') : Ah w' P S aq := Ri.turned0 h t

theorem cell_alloc_old (w : World) (o : Obj) {a : Addr} (ha : a.block < w.heap.size) : (w.alloc o).cell? a = w.cell? a := ((Turned.refl [] w).alloc o).cell ha (by simp)
theorem cell_alloc_new (w : World) (v : Value) (ty : TypeId) : (w.alloc (.cells #[v] ty)).cell? ⟨w.heap.size, 0, none⟩ = some v := by rw [cell_of_heap (heap_alloc_new _ _)]; rfl

set_option maxRecDepth 100000 in
theorem origin_any (P : PN) (h : P.Ok) (S : Nat → Nat) (l wt tk : Value) (aq c : Nat) (x : Nat) (w : World) (ha : Ah w P S aq) (hx : x ≤ 65536) (hd : P.d ≤ 65536) :
    Calls Tryd.prog 42 #[.agg (plC P l (.slice (some ⟨aq, 0, none⟩) P.R c) wt tk), .int .i64 (x : Int)] w fun e w' => ∃ r : Nat, e = .returned (.int .i64 ((r : Int) - 1)) ∧ Finds P.R (fun r => decide ((x : Int) - P.d < ((ahR P (live S) r : Nat) : Int))) r ∧ Turned [] w w' := by
  have hF := PN.R_few h
  obtain ⟨w0, hw0⟩ : ∃ w0, w0 = w.alloc (.cells (plC P l (.slice (some ⟨aq, 0, none⟩) P.R c) wt tk) 30) := ⟨_, rfl⟩
  obtain ⟨w1, hw1⟩ : ∃ w1, w1 = w0.alloc (.cells #[.int .i64 (x : Int)] 3) := ⟨_, rfl⟩
  have ht0 : Turned [] w w0 := by rw [hw0]; exact (Turned.refl [] w).alloc _
  have ht1 : Turned [] w0 w1 := by rw [hw1]; exact (Turned.refl [] w0).alloc _
  have hp : Pb w0 w.heap.size P l (.slice (some ⟨aq, 0, none⟩) P.R c) wt tk := by rw [hw0]; exact pb_new _ _ _ _ _ _
  have hxc : w1.cell? ⟨w0.heap.size, 0, none⟩ = some (.int .i64 (x : Int)) := by rw [hw1]; exact cell_alloc_new _ _ _
  have hs0 : w0.heap.size = w.heap.size + 1 := by rw [hw0]; simp
  have HC := hide (search_origin w.heap.size (w.heap.size + 1) P.R (fun r => decide ((x : Int) - P.d < ((ahR P (live S) r : Nat) : Int))) w1 hF
    (fun i j hij hj hi => by
      have := ahR_mono P (live S) hij
      simp only [decide_eq_true_eq] at hi ⊢
      omega)
    (fun w' ht r hr => origin1_any P l wt tk w.heap.size (w.heap.size + 1) aq P.R c _ x r hr w' ((hp.turned0 ht1).turned0 ht) (by rw [← hs0, ht.cell (block_lt hxc) (by simp)]; exact hxc) (((ha.turned0 ht0).turned0 ht1).turned0 ht) (by omega) (by omega)))
  have HT := hide (ht0.trans ht1)
  have HW1 := hw1
  rw [hw0] at hw1
  have hc := hp.cs.2.2.2.2.2.2.1
  generalize (fun r => decide ((x : Int) - P.d < ((ahR P (live S) r : Nat) : Int))) = G at *
  generalize P.R = R at *
  clear ht0 ht1 hp hxc hs0 ha HW1 hw0 hc h
  obtain ⟨f, t, k, d, e⟩ := P
  unfold plC at hw1 ⊢
  simp only at hw1 ⊢
  go_enter Tryd.func42, Tryd.ntmps42
  go_wp2_with fail
  rw [← hw1]
  refine (HC.out).mono ?_
  rintro e w2 ⟨r, rfl, hr, ht2⟩
  have HT2 := hide (HT.out.trans ht2)
  have HR := hide hr
  have hr1 := hr.le
  clear hr ht2 HT hw1 HC
  go_wp2_with fail
  go_ret
  refine ⟨r, ?_, HR.out, HT2.out⟩
  first | rfl | (congr 2; unfold wrap64; omega)

/-- The region of the word that goes to x. -/
theorem finds_org {P : PN} (h : P.Ok) {S : Nat → Nat} {x r : Nat} (hd : P.f ≤ P.d) (hx : P.d ≤ x) (hR : 0 < P.R) (hf : Finds P.R (fun r => decide ((x : Int) - P.d < ((ahR P (live S) r : Nat) : Int))) r) :
    ∃ s, r = s + 1 ∧ s < P.R ∧ ahR P (live S) s ≤ x - P.d ∧ (s + 1 = P.R ∨ x - P.d < ahR P (live S) (s + 1)) := by
  have h0 : r ≠ 0 := by
    intro e
    subst e
    have := hf.yes hR
    rw [ahR_zero h _ hd] at this
    simp only [decide_eq_true_eq] at this
    omega
  obtain ⟨s, rfl⟩ : ∃ s, r = s + 1 := ⟨r - 1, by omega⟩
  refine ⟨s, rfl, by have := hf.le; omega, ?_, ?_⟩
  · have := hf.no s (by omega)
    simp only [decide_eq_false_iff_not] at this
    omega
  · by_cases h1 : s + 1 < P.R
    · right
      have := hf.yes h1
      simp only [decide_eq_true_eq] at this
      omega
    · left; have := hf.le; omega

set_option maxRecDepth 100000 in
theorem liveWord_any (ov : Option Addr) (N : Nat) (S : Nat → Nat) (fr en ah : Nat) (w : World) (h : Brd w ov N (sidesOf S)) (hs : Bl N S) (he : en ≤ N) (hlt : fr < en) (ha : ah ≤ 65536) :
    Calls Tryd.prog 43 #[.pointer ov, .int .i64 (fr : Int), .int .i64 (en : Int), .int .i64 (ah : Int)] w fun e w' => (∃ x : Nat, e = .returned (.int .i64 (x : Int)) ∧ fr ≤ x ∧ x < en ∧ live S x = true ∧ cnt (live S) x = cnt (live S) fr + ah) ∧ Turned [] w w' ∨ (e = .returned (.int .i64 (-1)) ∧ cnt (live S) en - cnt (live S) fr ≤ ah) ∧ Turned [] w w' := by
  have hf := h.few
  obtain ⟨w0, hw0⟩ : ∃ w0, w0 = w.alloc (.cells #[.pointer ov] 24) := ⟨_, rfl⟩
  obtain ⟨w1, hw1⟩ : ∃ w1, w1 = w0.alloc (.cells #[.int .i64 (fr : Int)] 3) := ⟨_, rfl⟩
  obtain ⟨w2, hw2⟩ : ∃ w2, w2 = w1.alloc (.cells #[.int .i64 (ah : Int)] 3) := ⟨_, rfl⟩
  have ht0 : Turned [] w w0 := by rw [hw0]; exact (Turned.refl [] w).alloc _
  have ht1 : Turned [] w0 w1 := by rw [hw1]; exact (Turned.refl [] w0).alloc _
  have ht2 : Turned [] w1 w2 := by rw [hw2]; exact (Turned.refl [] w1).alloc _
  have k0 : w0.cell? ⟨w.heap.size, 0, none⟩ = some (.pointer ov) := by rw [hw0]; exact cell_alloc_new _ _ _
  have k1 : w1.cell? ⟨w0.heap.size, 0, none⟩ = some (.int .i64 (fr : Int)) := by rw [hw1]; exact cell_alloc_new _ _ _
  have k2 : w2.cell? ⟨w1.heap.size, 0, none⟩ = some (.int .i64 (ah : Int)) := by rw [hw2]; exact cell_alloc_new _ _ _
  have hs0 : w0.heap.size = w.heap.size + 1 := by rw [hw0]; simp
  have hs1 : w1.heap.size = w.heap.size + 1 + 1 := by rw [hw1]; simp [hs0]
  have j0 : w2.cell? ⟨w.heap.size, 0, none⟩ = some (.pointer ov) := by rw [(ht1.trans ht2).cell (block_lt k0) (by simp)]; exact k0
  have j1 : w2.cell? ⟨w.heap.size + 1, 0, none⟩ = some (.int .i64 (fr : Int)) := by rw [← hs0, ht2.cell (block_lt k1) (by simp)]; exact k1
  have j2 : w2.cell? ⟨w.heap.size + 1 + 1, 0, none⟩ = some (.int .i64 (ah : Int)) := by rw [← hs1]; exact k2
  have hT := ht0.trans (ht1.trans ht2)
  have keep : ∀ {w' : World}, Turned [] w2 w' → ∀ a x, w2.cell? a = some x → w'.cell? a = some x := fun ht a x hx => by rw [ht.cell (block_lt hx) (by simp)]; exact hx
  have HC := hide (search_live w.heap.size (w.heap.size + 1) (w.heap.size + 1 + 1) (en - fr) (fun i => decide (ah < cnt (live S) (fr + i + 1) - cnt (live S) fr)) w2 (by omega)
    (fun i j hij hj hi => by
      have := cnt_mono (live S) (show fr + i + 1 ≤ fr + j + 1 by omega)
      simp only [decide_eq_true_eq] at hi ⊢
      omega)
    (fun w' ht r hr => liveWord1_any ov N S w.heap.size (w.heap.size + 1) (w.heap.size + 1 + 1) fr ah r w' (h.turned (hT.trans ht)) hs (keep ht _ _ j0) (keep ht _ _ j1) (keep ht _ _ j2) (by omega)))
  have HT := hide hT
  have hsub : ((en : Int) - fr) = ((en - fr : Nat) : Int) := by omega
  have HJ := hide (And.intro j1 @keep)
  rw [hw1, hw0] at hw2
  have HFin := hide (fun r (hr : Finds (en - fr) (fun i => decide (ah < cnt (live S) (fr + i + 1) - cnt (live S) fr)) r) => (show (r < en - fr ∧ live S (fr + r) = true ∧ cnt (live S) (fr + r) = cnt (live S) fr + ah) ∨ (r = en - fr ∧ cnt (live S) en - cnt (live S) fr ≤ ah) from by
    by_cases hrl : r < en - fr
    · left
      have h1 := hr.yes hrl
      simp only [decide_eq_true_eq] at h1
      have h2 : cnt (live S) (fr + r) - cnt (live S) fr ≤ ah := by
        by_cases h0 : r = 0
        · subst h0; simp
        · have := hr.no (r - 1) (by omega)
          simp only [decide_eq_false_iff_not] at this
          rw [show fr + (r - 1) + 1 = fr + r by omega] at this
          omega
      have h3 := cnt_mono (live S) (show fr ≤ fr + r by omega)
      cases hl : live S (fr + r)
      · rw [cnt_off hl] at h1; omega
      · rw [cnt_at hl] at h1; exact ⟨hrl, rfl, by omega⟩
    · right
      have hre : r = en - fr := by have := hr.le; omega
      refine ⟨hre, ?_⟩
      have := hr.no (r - 1) (by omega)
      simp only [decide_eq_false_iff_not] at this
      rw [show fr + (r - 1) + 1 = en by omega] at this
      omega))
  generalize (fun i => decide (ah < cnt (live S) (fr + i + 1) - cnt (live S) fr)) = G at *
  obtain ⟨m, hm⟩ : ∃ m, m = en - fr := ⟨_, rfl⟩
  rw [← hm] at HC HFin hsub
  have hme : m + fr = en := by omega
  clear ht0 ht1 ht2 k0 k1 k2 hs0 hs1 j0 j1 j2 hT keep hw0 hw1 h hs hm
  go_enter Tryd.func43, Tryd.ntmps43
  go_wp2_with fail
  rw [← hw2]
  refine (HC.out).mono ?_
  rintro e w3 ⟨r, rfl, hr, ht3⟩
  have hrm := hr.le
  have HF := hide (HFin.out r hr)
  have c1 := HJ.out.2 ht3 _ _ HJ.out.1
  have HT2 := hide (HT.out.trans ht3)
  clear hr ht3 HT hw2 HC HJ HFin
  by_cases hrl : r < m
  · have hrl2 : ¬ (m : Int) ≤ r := by omega
    go_wp2_with fail
    go_ret
    rcases HF.out with ⟨_, h2, h3⟩ | ⟨h1, _⟩
    · exact .inl ⟨⟨fr + r, by first | rfl | (congr 2; unfold wrap64; omega), by omega, by omega, h2, h3⟩, HT2.out⟩
    · omega
  · have hrl2 : (m : Int) ≤ r := by omega
    go_wp2_with fail
    go_ret
    rcases HF.out with ⟨h1, _⟩ | ⟨_, h1⟩
    · omega
    · exact .inr ⟨⟨rfl, h1⟩, HT2.out⟩

set_option maxRecDepth 100000 in
/-- Forward of a live word of the heap. -/
theorem forward_live (ov : Option Addr) (N : Nat) (P : PN) (h : P.Ok) (S : Nat → Nat) (l wt tk : Value) (aq c : Nat) (x : Nat) (w : World) (hb : Brd w ov N (sidesOf S)) (hs : Bl N S) (ha : Ah w P S aq) (hx0 : P.f ≤ x) (hx1 : x < P.t) (ht : P.t ≤ N) (hf : P.f ≤ P.d) (hd : P.d ≤ P.t) (hL : live S x = true) :
    Calls Tryd.prog 11 #[.agg (plC P l (.slice (some ⟨aq, 0, none⟩) P.R c) wt tk), .pointer ov, .int .i64 (x : Int)] w fun e w' => e = .returned (.int .i64 ((if x < P.d then x else P.d + (cnt (live S) x - cnt (live S) P.d) : Nat) : Int)) ∧ Turned [] w w' := by
  have hN := hb.few
  obtain ⟨hr1, hr2, hr3⟩ := PN.reg_in h hx0 hx1
  have HR := hide (fun w => region_any P h l (.slice (some ⟨aq, 0, none⟩) P.R c) wt tk x w)
  rw [show rgI P (x : Int) = ((P.reg x : Nat) : Int) by unfold rgI; rw [if_pos (by omega)]; simp] at HR
  have HV := hide (fun (w' : World) (t : Turned [] w w') => lives_any ov N S x w' (hb.turned t) hs)
  rw [lvI_nat, hL] at HV
  have HM := hide (fun w => moving_in P h l (.slice (some ⟨aq, 0, none⟩) P.R c) wt tk (P.reg x) hr1 w)
  have hcell := Ri.cell ha hr1
  have hF := PN.R_few h
  have HLi := hide (fun (w' : World) (t : Turned [] w w') => live_any ov N S ((max (P.ed (P.reg x)) P.d : Nat) : Int) (x : Int) w' (hb.turned t) hs)
  have hle := PN.ed_le P (P.reg x)
  rw [show kp N ((max (P.ed (P.reg x)) P.d : Nat) : Int) = max (P.ed (P.reg x)) P.d by unfold kp; omega, show kp N (x : Int) = x by unfold kp; omega, cntIn_sub] at HLi
  have hcx := cnt_le (live S) x
  have hsum : P.d ≤ x → P.d + ahR P (live S) (P.reg x) + (cnt (live S) x - cnt (live S) (max (P.ed (P.reg x)) P.d)) = P.d + (cnt (live S) x - cnt (live S) P.d) := by
    intro hdx
    unfold ahR
    by_cases h1 : P.d ≤ P.ed (P.reg x)
    · rw [show max (P.ed (P.reg x)) P.d = P.ed (P.reg x) by omega]
      have := cnt_mono (live S) h1
      have := cnt_mono (live S) hr2
      omega
    · rw [show max (P.ed (P.reg x)) P.d = P.d by omega]
      have := cnt_mono (live S) (show P.ed (P.reg x) ≤ P.d by omega)
      omega
  have hah : ahR P (live S) (P.reg x) ≤ 65536 := by
    unfold ahR
    have := cnt_le (live S) (P.ed (P.reg x))
    omega
  have HB := hide (pb_new w P l (.slice (some ⟨aq, 0, none⟩) P.R c) wt tk)
  have HT := hide ((Turned.refl [] w).alloc (.cells (plC P l (.slice (some ⟨aq, 0, none⟩) P.R c) wt tk) 30))
  have HCe : Hid (w.cell? ⟨aq, P.reg x, none⟩ = some (.int .i64 ((ahR P (live S) (P.reg x) : Nat) : Int))) := hide hcell
  have hu : cnt (live S) x - cnt (live S) (max (P.ed (P.reg x)) P.d) ≤ 65536 := by omega
  generalize cnt (live S) x - cnt (live S) (max (P.ed (P.reg x)) P.d) = u at *
  generalize ahR P (live S) (P.reg x) = ah at *
  generalize max (P.ed (P.reg x)) P.d = M at *
  generalize P.ed (P.reg x + 1) = E2 at *
  generalize hRR : P.R = R at *
  generalize P.reg x = r at *
  generalize cnt (live S) x - cnt (live S) P.d = v at *
  have hri : (r : Int) < R := by omega
  obtain ⟨f, t, k, d, e⟩ := P
  simp only at hx0 hx1 ht hf hd hsum hL ⊢
  unfold plC at HR HM HB HT ⊢
  simp only at HR HM HB HT ⊢
  clear h hb hs ha hr1 hr2 hr3 hle hcx hRR hcell hL
  by_cases hxd : x < d
  · have hxi : (x : Int) < d := by omega
    rw [if_pos hxd]
    go_enter Tryd.func11, Tryd.ntmps11
    go_wp2_with fail
    generalize w.alloc (.cells #[Value.int .i64 f, Value.int .i64 t, Value.int .i64 k, Value.int .i64 d, Value.int .i64 e, l, .slice (some ⟨aq, 0, none⟩) R c, wt, tk] 30) = w0 at *
    generalize w.heap.size = q at *
    refine (HR.out _).mono ?_
    rintro e1 w1 ⟨rfl, ht1⟩
    obtain ⟨c0, c1, c2, c3, c4, c5, c6, c7, c8⟩ := (HB.out.turned0 ht1).cs
    have HB1 := hide (HB.out.turned0 ht1)
    have HT1 := hide (HT.out.trans ht1)
    clear ht1 HB HT
    go_wp2_with fail
    refine (HV.out _ HT1.out).mono ?_
    rintro e1 w2 ⟨rfl, ht2⟩
    clear c0 c1 c2 c3 c4 c5 c6 c7 c8
    obtain ⟨c0, c1, c2, c3, c4, c5, c6, c7, c8⟩ := (HB1.out.turned0 ht2).cs
    have HT2 := hide (HT1.out.trans ht2)
    clear ht2 HB1 HT1
    go_wp2_with fail
    go_ret
    exact ⟨rfl, HT2.out⟩
  · have hxi : ¬ (x : Int) < d := by omega
    rw [if_neg hxd]
    have hsum2 := hsum (by omega)
    go_enter Tryd.func11, Tryd.ntmps11
    go_wp2_with fail
    generalize w.alloc (.cells #[Value.int .i64 f, Value.int .i64 t, Value.int .i64 k, Value.int .i64 d, Value.int .i64 e, l, .slice (some ⟨aq, 0, none⟩) R c, wt, tk] 30) = w0 at *
    generalize w.heap.size = q at *
    refine (HR.out _).mono ?_
    rintro e1 w1 ⟨rfl, ht1⟩
    obtain ⟨c0, c1, c2, c3, c4, c5, c6, c7, c8⟩ := (HB.out.turned0 ht1).cs
    have HB1 := hide (HB.out.turned0 ht1)
    have HT1 := hide (HT.out.trans ht1)
    clear ht1 HB HT
    go_wp2_with fail
    refine (HV.out _ HT1.out).mono ?_
    rintro e1 w2 ⟨rfl, ht2⟩
    clear c0 c1 c2 c3 c4 c5 c6 c7 c8
    obtain ⟨c0, c1, c2, c3, c4, c5, c6, c7, c8⟩ := (HB1.out.turned0 ht2).cs
    have HB2 := hide (HB1.out.turned0 ht2)
    have HT2 := hide (HT1.out.trans ht2)
    clear ht2 HB1 HT1
    go_wp2_with fail
    refine (HM.out _).mono ?_
    rintro e1 w3 ⟨rfl, ht3⟩
    clear c0 c1 c2 c3 c4 c5 c6 c7 c8
    obtain ⟨c0, c1, c2, c3, c4, c5, c6, c7, c8⟩ := (HB2.out.turned0 ht3).cs
    have HB3 := hide (HB2.out.turned0 ht3)
    have HT3 := hide (HT2.out.trans ht3)
    have ca : w3.cell? ⟨aq, r, none⟩ = some (.int .i64 (ah : Int)) := by rw [HT3.out.cell (block_lt HCe.out) (by simp)]; exact HCe.out
    clear ht3 HB2 HT2 c0 c1 c2 c4 c5 c7 c8
    have hw1 : IntKind.i64.wrap ((d : Int) + ah) = (d : Int) + ah := by rw [IntKind.wrap_i64]; omega
    have hw2 : IntKind.i64.wrap ((d : Int) + ah + u) = (d : Int) + ah + u := by rw [IntKind.wrap_i64]; omega
    go_wp2_with fail
    go_region_held3 (fun w' => w'.cell? ⟨q, 3, none⟩ = some (.int .i64 (d : Int)) ∧ w'.cell? ⟨q, 6, none⟩ = some (.slice (some ⟨aq, 0, none⟩) R c) ∧ w'.cell? ⟨aq, r, none⟩ = some (.int .i64 (ah : Int))) (go_keep)
      (first
        | (go_at_call 24; refine (HLi.out _ HT3.out.drew).mono ?_; rintro e w4 ⟨rfl, ht4⟩; have HT4 := hide ((Turned.refl [] w3).drew.trans ht4); have d1 : w4.cell? ⟨q, 3, none⟩ = some (.int .i64 (d : Int)) := (by rw [HT4.out.cell (block_lt c3) (by simp)]; exact c3); have d2 : w4.cell? ⟨q, 6, none⟩ = some (.slice (some ⟨aq, 0, none⟩) R c) := (by rw [HT4.out.cell (block_lt c6) (by simp)]; exact c6); have d3 : w4.cell? ⟨aq, r, none⟩ = some (.int .i64 (ah : Int)) := (by rw [HT4.out.cell (block_lt ca) (by simp)]; exact ca); have HT5 := hide (HT3.out.trans HT4.out); clear ht4))
    go_wp2_with fail
    go_ret
    refine ⟨?_, HT5.out⟩
    rw [← hsum2]
    first | rfl | (congr 2; omega)

/-- Forward of a dead word of the heap. -/
theorem forward_dead (ov : Option Addr) (N : Nat) (P : PN) (h : P.Ok) (S : Nat → Nat) (l wt tk : Value) (aq c : Nat) (x : Nat) (w : World) (hb : Brd w ov N (sidesOf S)) (hs : Bl N S) (hx0 : P.f ≤ x) (hx1 : x < P.t) (hL : live S x = false) :
    Calls Tryd.prog 11 #[.agg (plC P l (.slice (some ⟨aq, 0, none⟩) P.R c) wt tk), .pointer ov, .int .i64 (x : Int)] w fun e w' => e = .returned (.int .i64 0) ∧ Turned [] w w' := by
  obtain ⟨hr1, hr2, hr3⟩ := PN.reg_in h hx0 hx1
  have HR := hide (fun w => region_any P h l (.slice (some ⟨aq, 0, none⟩) P.R c) wt tk x w)
  rw [show rgI P (x : Int) = ((P.reg x : Nat) : Int) by unfold rgI; rw [if_pos (by omega)]; simp] at HR
  have HV := hide (fun (w' : World) (t : Turned [] w w') => lives_any ov N S x w' (hb.turned t) hs)
  rw [lvI_nat, hL] at HV
  have hF := PN.R_few h
  have HB := hide (pb_new w P l (.slice (some ⟨aq, 0, none⟩) P.R c) wt tk)
  have HT := hide ((Turned.refl [] w).alloc (.cells (plC P l (.slice (some ⟨aq, 0, none⟩) P.R c) wt tk) 30))
  generalize hRR : P.R = R at *
  generalize P.reg x = r at *
  have hri : (r : Int) < R := by omega
  obtain ⟨f, t, k, d, e⟩ := P
  unfold plC at HR HB HT ⊢
  simp only at HR HB HT hx0 hx1 ⊢
  clear h hb hs hr1 hr2 hr3 hRR hL
  go_enter Tryd.func11, Tryd.ntmps11
  go_wp2_with fail
  generalize w.alloc (.cells #[Value.int .i64 f, Value.int .i64 t, Value.int .i64 k, Value.int .i64 d, Value.int .i64 e, l, .slice (some ⟨aq, 0, none⟩) R c, wt, tk] 30) = w0 at *
  generalize w.heap.size = q at *
  refine (HR.out _).mono ?_
  rintro e1 w1 ⟨rfl, ht1⟩
  obtain ⟨c0, c1, c2, c3, c4, c5, c6, c7, c8⟩ := (HB.out.turned0 ht1).cs
  have HT1 := hide (HT.out.trans ht1)
  clear ht1 HB HT
  go_wp2_with fail
  refine (HV.out _ HT1.out).mono ?_
  rintro e1 w2 ⟨rfl, ht2⟩
  have HT2 := hide (HT1.out.trans ht2)
  clear ht2 HT1
  go_wp2_with fail
  go_ret
  exact ⟨rfl, HT2.out⟩

/-- What Source tells of a word of the heap. -/
def IsSrc (P : PN) (S : Nat → Nat) (x : Nat) (r : Int) : Prop :=
  (x < P.d ∧ live S x = true ∧ r = x) ∨ (x < P.d ∧ live S x = false ∧ r = -1) ∨ (P.d ≤ x ∧ ∃ s : Nat, P.d ≤ s ∧ s < P.t ∧ live S s = true ∧ cnt (live S) s = cnt (live S) P.d + (x - P.d) ∧ r = s) ∨ (P.d ≤ x ∧ P.d + (cnt (live S) P.t - cnt (live S) P.d) ≤ x ∧ r = -1)

set_option maxRecDepth 100000 in
theorem source_in (ov : Option Addr) (N : Nat) (P : PN) (h : P.Ok) (S : Nat → Nat) (l wt tk : Value) (aq c : Nat) (x : Nat) (w : World) (hb : Brd w ov N (sidesOf S)) (hs : Bl N S) (ha : Ah w P S aq) (hx0 : P.f ≤ x) (hx1 : x < P.t) (ht : P.t ≤ N) (hf : P.f ≤ P.d) (hd : P.d ≤ P.t) :
    Calls Tryd.prog 12 #[.agg (plC P l (.slice (some ⟨aq, 0, none⟩) P.R c) wt tk), .pointer ov, .int .i64 (x : Int)] w fun e w' => ∃ r : Int, e = .returned (.int .i64 r) ∧ IsSrc P S x r ∧ Turned [] w w' := by
  have hN := hb.few
  have hRp : 0 < P.R := PN.R_pos (by omega)
  have HR := hide (fun w => region_any P h l (.slice (some ⟨aq, 0, none⟩) P.R c) wt tk x w)
  rw [show rgI P (x : Int) = ((P.reg x : Nat) : Int) by unfold rgI; rw [if_pos (by omega)]; simp] at HR
  have HV := hide (fun (w' : World) (t : Turned [] w w') => lives_any ov N S x w' (hb.turned t) hs)
  rw [lvI_nat] at HV
  have HM := hide (fun r hr w => moving_in P h l (.slice (some ⟨aq, 0, none⟩) P.R c) wt tk r hr w)
  have HO := hide (fun (w' : World) (t : Turned [] w w') => origin_any P h S l wt tk aq c x w' (ha.turned0 t) (by omega) (by omega))
  have HF := hide (fun r (hdx : P.d ≤ x) hfi => finds_org h (S := S) (x := x) (r := r) hf hdx hRp hfi)
  have HCe : Hid (∀ r, r < P.R → w.cell? ⟨aq, r, none⟩ = some (.int .i64 ((ahR P (live S) r : Nat) : Int))) := hide (fun r hr => Ri.cell ha hr)
  have hF := PN.R_few h
  -- the word is found in its region
  have HLw := hide (fun (w' : World) (t : Turned [] w w') r (hr : r < P.R) (hlt : max (P.ed r) P.d < P.ed (r + 1)) (hle : ahR P (live S) r ≤ x - P.d) => liveWord_any ov N S (max (P.ed r) P.d) (P.ed (r + 1)) (x - P.d - ahR P (live S) r) w' (hb.turned t) hs (by have := PN.ed_le P (r + 1); omega) hlt (by omega))
  have HRe := hide (fun r (hr : r < P.R) (hdx : P.d ≤ x) (hle : ahR P (live S) r ≤ x - P.d) (hlast : r + 1 = P.R ∨ x - P.d < ahR P (live S) (r + 1)) => (show max (P.ed r) P.d < P.ed (r + 1) ∧ (∀ s, max (P.ed r) P.d ≤ s → s < P.ed (r + 1) → live S s = true → cnt (live S) s = cnt (live S) (max (P.ed r) P.d) + (x - P.d - ahR P (live S) r) → IsSrc P S x s) ∧ (cnt (live S) (P.ed (r + 1)) - cnt (live S) (max (P.ed r) P.d) ≤ x - P.d - ahR P (live S) r → IsSrc P S x (-1)) from by
    have hc : cnt (live S) (max (P.ed r) P.d) = cnt (live S) P.d + ahR P (live S) r := by
      unfold ahR
      by_cases h1 : P.d ≤ P.ed r
      · rw [show max (P.ed r) P.d = P.ed r by omega]
        have := cnt_mono (live S) h1
        omega
      · rw [show max (P.ed r) P.d = P.d by omega]
        have := cnt_mono (live S) (show P.ed r ≤ P.d by omega)
        omega
    have hdl : P.d < P.ed (r + 1) := by
      rcases hlast with h1 | h1
      · rw [h1, PN.ed_R h]; omega
      · unfold ahR at h1
        by_cases h2 : P.d < P.ed (r + 1)
        · exact h2
        · have := cnt_mono (live S) (show P.ed (r + 1) ≤ P.d by omega)
          omega
    have hel := PN.ed_lt h hr
    have hR2 := PN.ed_le P (r + 1)
    refine ⟨by omega, fun s h1 h2 h3 h4 => ?_, fun h1 => ?_⟩
    · exact .inr (.inr (.inl ⟨hdx, s, by omega, by omega, h3, by rw [h4, hc]; omega, rfl⟩))
    · have hsu := ahR_succ P (live S) r
      have hl2 : r + 1 = P.R := by
        rcases hlast with h5 | h5
        · exact h5
        · unfold ahR at h5 hsu hle h1
          unfold mvR at hsu
          omega
      rw [hl2, PN.ed_R h] at h1
      refine .inr (.inr (.inr ⟨hdx, ?_, rfl⟩))
      have := cnt_mono (live S) (show P.d ≤ P.t from hd)
      omega))
  have HB := hide (pb_new w P l (.slice (some ⟨aq, 0, none⟩) P.R c) wt tk)
  have HT := hide ((Turned.refl [] w).alloc (.cells (plC P l (.slice (some ⟨aq, 0, none⟩) P.R c) wt tk) 30))
  have HSrc1 : Hid (x < P.d → live S x = true → IsSrc P S x x) := hide (fun h1 h2 => .inl ⟨h1, h2, rfl⟩)
  have HSrc2 : Hid (x < P.d → live S x = false → IsSrc P S x (-1)) := hide (fun h1 h2 => .inr (.inl ⟨h1, h2, rfl⟩))
  have hdd : P.d ≤ 65536 := by omega
  generalize hRR : P.R = R at *
  generalize P.reg x = r0 at *
  generalize hIs : IsSrc P S x = I at *
  generalize hlx : live S x = lx at *
  generalize (fun r => decide ((x : Int) - P.d < ((ahR P (live S) r : Nat) : Int))) = G at *
  generalize hAH : ahR P (live S) = AH at *
  obtain ⟨f, t, k, d, e⟩ := P
  generalize hED : PN.ed ⟨f, t, k, d, e⟩ = ED at *
  simp only at *
  unfold plC at *
  simp only at *
  clear h hb hs ha hRR hlx hIs hAH hED
  by_cases hxd : x < d
  · have hxi : (x : Int) < d := by omega
    go_enter Tryd.func12, Tryd.ntmps12
    go_wp2_with fail
    generalize w.alloc (.cells #[Value.int .i64 f, Value.int .i64 t, Value.int .i64 k, Value.int .i64 d, Value.int .i64 e, l, .slice (some ⟨aq, 0, none⟩) R c, wt, tk] 30) = w0 at *
    generalize w.heap.size = q at *
    refine (HR.out _).mono ?_
    rintro e1 w1 ⟨rfl, ht1⟩
    obtain ⟨c0, c1, c2, c3, c4, c5, c6, c7, c8⟩ := (HB.out.turned0 ht1).cs
    have HB1 := hide (HB.out.turned0 ht1)
    have HT1 := hide (HT.out.trans ht1)
    clear ht1 HB HT
    go_wp2_with fail
    refine (HV.out _ HT1.out).mono ?_
    rintro e1 w2 ⟨rfl, ht2⟩
    clear c0 c1 c2 c3 c4 c5 c6 c7 c8
    obtain ⟨c0, c1, c2, c3, c4, c5, c6, c7, c8⟩ := (HB1.out.turned0 ht2).cs
    have HT2 := hide (HT1.out.trans ht2)
    clear ht2 HB1 HT1
    cases lx
    · go_wp2_with fail
      go_ret
      exact ⟨_, rfl, HSrc2.out hxd trivial, HT2.out⟩
    · go_wp2_with fail
      go_ret
      exact ⟨_, rfl, HSrc1.out hxd trivial, HT2.out⟩
  · have hxi : ¬ (x : Int) < d := by omega
    go_enter Tryd.func12, Tryd.ntmps12
    go_wp2_with fail
    generalize w.alloc (.cells #[Value.int .i64 f, Value.int .i64 t, Value.int .i64 k, Value.int .i64 d, Value.int .i64 e, l, .slice (some ⟨aq, 0, none⟩) R c, wt, tk] 30) = w0 at *
    generalize w.heap.size = q at *
    refine (HR.out _).mono ?_
    rintro e1 w1 ⟨rfl, ht1⟩
    obtain ⟨c0, c1, c2, c3, c4, c5, c6, c7, c8⟩ := (HB.out.turned0 ht1).cs
    have HB1 := hide (HB.out.turned0 ht1)
    have HT1 := hide (HT.out.trans ht1)
    clear ht1 HB HT
    go_wp2_with fail
    refine (HO.out _ HT1.out).mono ?_
    rintro e1 w2 ⟨rr, rfl, hfi, ht2⟩
    obtain ⟨s, rfl, hs1, hs2, hs3⟩ := HF.out rr (by omega) hfi
    obtain ⟨hre1, hre2⟩ := HRe.out s hs1 (by omega) hs2 hs3
    have HRf := hide hre2
    clear c0 c1 c2 c3 c4 c5 c6 c7 c8
    obtain ⟨c0, c1, c2, c3, c4, c5, c6, c7, c8⟩ := (HB1.out.turned0 ht2).cs
    have HB2 := hide (HB1.out.turned0 ht2)
    have HT2 := hide (HT1.out.trans ht2)
    rw [show (((s + 1 : Nat) : Int) - 1) = (s : Int) by omega]
    have HM2 := hide (fun w => HM.out s hs1 w)
    have HL2 := hide (fun w' t => HLw.out w' t s hs1 hre1 hs2)
    have HC2 := hide (HCe.out s hs1)
    have hsi : (s : Int) < R := by omega
    have hx6 : x ≤ 65536 := by omega
    clear ht2 HB1 HT1 hfi hs3 hre2 HRe HF HCe HM HLw HO HV HR HSrc1 HSrc2 hre1
    go_wp2_with fail
    refine (HM2.out _).mono ?_
    rintro e1 w3 ⟨rfl, ht3⟩
    clear c0 c1 c2 c3 c4 c5 c6 c7 c8
    obtain ⟨c0, c1, c2, c3, c4, c5, c6, c7, c8⟩ := (HB2.out.turned0 ht3).cs
    have HT3 := hide (HT2.out.trans ht3)
    generalize AH s = ah at *
    generalize max (ED s) d = M at *
    generalize ED (s + 1) = E2 at *
    have ca : w3.cell? ⟨aq, s, none⟩ = some (.int .i64 (ah : Int)) := by rw [HT3.out.cell (block_lt HC2.out) (by simp)]; exact HC2.out
    have hw1 : IntKind.i64.wrap ((x : Int) - d) = (x : Int) - d := by rw [IntKind.wrap_i64]; omega
    have hw2 : IntKind.i64.wrap ((x : Int) - d - ah) = ((x - d - ah : Nat) : Int) := by rw [IntKind.wrap_i64]; omega
    generalize x - d - ah = y at *
    clear ht3 HB2 HT2 c0 c1 c2 c4 c5 c7 c8 HM2 HC2
    go_wp2_with fail
    go_region_held3 (fun w' => w'.cell? ⟨q, 3, none⟩ = some (.int .i64 (d : Int)) ∧ w'.cell? ⟨q, 6, none⟩ = some (.slice (some ⟨aq, 0, none⟩) R c) ∧ w'.cell? ⟨aq, s, none⟩ = some (.int .i64 (ah : Int))) (go_keep)
      (first
        | (go_at_call 43; refine (HL2.out _ HT3.out.drew).mono ?_; intro e w4 hh; have HT4 : Turned [] w3 w4 := (by rcases hh with ⟨_, h5⟩ | ⟨_, h5⟩ <;> exact (Turned.refl [] w3).drew.trans h5); have hh2 : ∃ z : Int, e = .returned (.int .i64 z) ∧ I z := (by rcases hh with ⟨⟨z, h6, h7, h8, h9, h10⟩, _⟩ | ⟨⟨h6, h7⟩, _⟩; exact ⟨z, h6, HRf.out.1 z h7 h8 h9 h10⟩; exact ⟨-1, h6, HRf.out.2 h7⟩); obtain ⟨z, rfl, hz⟩ := hh2; have HZ := hide hz; have d1 : w4.cell? ⟨q, 3, none⟩ = some (.int .i64 (d : Int)) := (by rw [HT4.cell (block_lt c3) (by simp)]; exact c3); have d2 : w4.cell? ⟨q, 6, none⟩ = some (.slice (some ⟨aq, 0, none⟩) R c) := (by rw [HT4.cell (block_lt c6) (by simp)]; exact c6); have d3 : w4.cell? ⟨aq, s, none⟩ = some (.int .i64 (ah : Int)) := (by rw [HT4.cell (block_lt ca) (by simp)]; exact ca); have HT5 := hide (HT3.out.trans HT4); clear hh hz HT4))
    go_wp2_with fail
    go_ret
    exact ⟨_, rfl, HZ.out, HT5.out⟩
end Go.Proofs.YtcckflcjjgckoaaDoor
