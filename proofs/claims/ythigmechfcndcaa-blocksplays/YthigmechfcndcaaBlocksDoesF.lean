/-
  One call of both: Fill's arm.
-/
import Derived.Test.YthigmechfcndcaaBlocksDoes
namespace Go.Proofs.Ythigmechfcndcaa
open Go.RowKit
set_option linter.unusedVariables false

theorem fillE_two (l : List Int) (f g : Int) : fillE l f g = 0 ∨ fillE l f g = 10 := by
  unfold fillE
  split
  · exact .inl rfl
  · exact .inr rfl

theorem does_fill_pa (s p q d : Nat) (l : List Int) (ao : Option Addr) (len cap : Nat) (cs : List Cls) (k a c n x : Int) (w : World) (h : Both w s p q d l ao len cap cs) (ha : In64 a) (hn : In64 n) (hk : k.tmod 4 = 2) (h1 : 0 ≤ n) (h2 : n < 1000) (h3 : a < 1000) :
    Calls Try.prog 6 #[.pointer (some ⟨s, 0, none⟩), .agg #[.int .i64 k, .int .i64 a, .int .i64 c, .int .i64 n, .int .i64 x]] w fun e w' => e = .returned (.bool true) ∧ Both w' s p q d (fillL l a (a + n)) ao len cap cs ∧ Turned [p, q, d] w w' := by
  have hai := ha
  have hni := hn
  unfold In64 at hai hni
  obtain ⟨w1, hw1⟩ : ∃ w1, w1 = w.alloc (.cells #[.int .i64 k, .int .i64 a, .int .i64 c, .int .i64 n, .int .i64 x] 35) := ⟨_, rfl⟩
  obtain ⟨o, ho⟩ : ∃ o, o = w.heap.size := ⟨_, rfl⟩
  have ht1 : Turned [] w w1 := by rw [hw1]; exact (Turned.refl [] w).alloc _
  have hob : w1.heap[o]? = some (.cells #[.int .i64 k, .int .i64 a, .int .i64 c, .int .i64 n, .int .i64 x] 35) := by rw [hw1, ho]; exact heap_alloc_new _ _
  have hop : o ≠ p ∧ o ≠ q ∧ o ≠ d := by have h1 := h.mem.ltp; have h2 := h.mem.ltq; have h3 := h.doc.ltq; omega
  have hsb := h.box
  rw [← ht1.block s (lt_of_heap h.box) (by simp)] at hsb
  have ax0 := cell_of_heap hsb 0
  have ax1 := cell_of_heap hsb 1
  have ax2 := cell_of_heap hsb 2
  have ay0 := cell_of_heap hob 0
  have ay1 := cell_of_heap hob 1
  have ay2 := cell_of_heap hob 2
  have ay3 := cell_of_heap hob 3
  have ay4 := cell_of_heap hob 4
  simp only [List.getElem?_toArray, List.getElem?_cons_zero, List.getElem?_cons_succ] at ax0 ax1 ax2 ay0 ay1 ay2 ay3 ay4
  have HM1 := hide (h.mem.turned ht1 (by simp) (by simp))
  have HD1 := hide (h.doc.turned ht1 (by simp))
  have HC1 := hide (h.cls.turned ht1)
  have HT1 := hide ht1
  have H := hide h
  have HIn := hide (And.intro ha hn)
  have HOp := hide hop
  have HSb := hide hsb
  have HO := hide ho
  have HW1 := hide hw1
  clear h ht1 hob hop hsb ha hn ho hw1
  go_enter Try.func6, Try.ntmps6
  go_wp2_with fail
  rw [← HW1.out, ← HO.out]
  clear HW1
  generalize hE : fillE l a (a + n) = vE at *
  have HSE := hide hE
  clear hE
  go_region_held3 (fun w' => w'.cell? ⟨s, 0, none⟩ = some (.pointer (some ⟨p, 0, none⟩)) ∧ w'.cell? ⟨s, 1, none⟩ = some (.slice (some ⟨d, 0, none⟩) l.length l.length) ∧ w'.cell? ⟨s, 2, none⟩ = some (.slice ao len cap) ∧ w'.cell? ⟨o, 0, none⟩ = some (.int .i64 k) ∧ w'.cell? ⟨o, 1, none⟩ = some (.int .i64 a) ∧ w'.cell? ⟨o, 2, none⟩ = some (.int .i64 c) ∧ w'.cell? ⟨o, 3, none⟩ = some (.int .i64 n) ∧ w'.cell? ⟨o, 4, none⟩ = some (.int .i64 x)) (go_keep)
    (first
      | (go_at_call 19; refine (bfill_mem p q l 0 a (a + n) w1.drew H.out.few HM1.out.drew).mono ?_; rw [HSE.out]; rintro e w2 ⟨rfl, hm2, ht2⟩; have bx0 : w2.cell? ⟨s, 0, none⟩ = some (.pointer (some ⟨p, 0, none⟩)) := (by rw [ht2.cell (block_lt ax0) (by simp; exact ⟨H.out.sp, H.out.sq⟩)]; exact ax0); have bx1 : w2.cell? ⟨s, 1, none⟩ = some (.slice (some ⟨d, 0, none⟩) l.length l.length) := (by rw [ht2.cell (block_lt ax1) (by simp; exact ⟨H.out.sp, H.out.sq⟩)]; exact ax1); have bx2 : w2.cell? ⟨s, 2, none⟩ = some (.slice ao len cap) := (by rw [ht2.cell (block_lt ax2) (by simp; exact ⟨H.out.sp, H.out.sq⟩)]; exact ax2); have by0 : w2.cell? ⟨o, 0, none⟩ = some (.int .i64 k) := (by rw [ht2.cell (block_lt ay0) (by simp; exact ⟨HOp.out.1, HOp.out.2.1⟩)]; exact ay0); have by1 : w2.cell? ⟨o, 1, none⟩ = some (.int .i64 a) := (by rw [ht2.cell (block_lt ay1) (by simp; exact ⟨HOp.out.1, HOp.out.2.1⟩)]; exact ay1); have by2 : w2.cell? ⟨o, 2, none⟩ = some (.int .i64 c) := (by rw [ht2.cell (block_lt ay2) (by simp; exact ⟨HOp.out.1, HOp.out.2.1⟩)]; exact ay2); have by3 : w2.cell? ⟨o, 3, none⟩ = some (.int .i64 n) := (by rw [ht2.cell (block_lt ay3) (by simp; exact ⟨HOp.out.1, HOp.out.2.1⟩)]; exact ay3); have by4 : w2.cell? ⟨o, 4, none⟩ = some (.int .i64 x) := (by rw [ht2.cell (block_lt ay4) (by simp; exact ⟨HOp.out.1, HOp.out.2.1⟩)]; exact ay4); have HM2 := hide hm2; have HT2 := hide ((Turned.refl [p, q] w1).drew.trans ht2); have HD2 := hide (HD1.out.turned HT2.out (by simp; exact ⟨H.out.dp, H.out.dq⟩)); clear hm2 ht2)
      | (go_at_call 22; refine (rfill_doc d l a (a + n) w2 H.out.few HD2.out).mono ?_; rw [HSE.out]; rintro e w3 ⟨rfl, hd3, ht3⟩; have cx0 : w3.cell? ⟨s, 0, none⟩ = some (.pointer (some ⟨p, 0, none⟩)) := (by rw [ht3.cell (block_lt bx0) (by simp; exact H.out.sd)]; exact bx0); have cx1 : w3.cell? ⟨s, 1, none⟩ = some (.slice (some ⟨d, 0, none⟩) l.length l.length) := (by rw [ht3.cell (block_lt bx1) (by simp; exact H.out.sd)]; exact bx1); have cx2 : w3.cell? ⟨s, 2, none⟩ = some (.slice ao len cap) := (by rw [ht3.cell (block_lt bx2) (by simp; exact H.out.sd)]; exact bx2); have cy0 : w3.cell? ⟨o, 0, none⟩ = some (.int .i64 k) := (by rw [ht3.cell (block_lt by0) (by simp; exact HOp.out.2.2)]; exact by0); have cy1 : w3.cell? ⟨o, 1, none⟩ = some (.int .i64 a) := (by rw [ht3.cell (block_lt by1) (by simp; exact HOp.out.2.2)]; exact by1); have cy2 : w3.cell? ⟨o, 2, none⟩ = some (.int .i64 c) := (by rw [ht3.cell (block_lt by2) (by simp; exact HOp.out.2.2)]; exact by2); have cy3 : w3.cell? ⟨o, 3, none⟩ = some (.int .i64 n) := (by rw [ht3.cell (block_lt by3) (by simp; exact HOp.out.2.2)]; exact by3); have cy4 : w3.cell? ⟨o, 4, none⟩ = some (.int .i64 x) := (by rw [ht3.cell (block_lt by4) (by simp; exact HOp.out.2.2)]; exact by4); have HD3 := hide hd3; have HT3 := hide ht3; clear hd3 ht3))
  go_wp2_with fail
  go_ret
  have ht23 : Turned [p, q, d] w1 w3 := (HT2.out.mono (T := [p, q, d]) (by simp)).trans (HT3.out.mono (T := [p, q, d]) (by simp))
  refine ⟨rfl, ⟨HM2.out.turned HT3.out (by simp; exact Ne.symm H.out.dp) (by simp; exact Ne.symm H.out.dq), HD3.out, ?_, H.out.dp, H.out.dq, H.out.sp, H.out.sq, H.out.sd, (HC1.out.turnedS HT2.out (fun e he => by have := H.out.own e he; simp; exact ⟨this.1, this.2.1⟩)).turnedS HT3.out (fun e he => by have := H.out.own e he; simp; exact this.2.2), by rw [fillL_length]; exact H.out.few, H.out.own⟩, (HT1.out.mono (T := [p, q, d]) (by simp)).trans ht23⟩
  rw [fillL_length, ht23.block s (lt_of_heap HSb.out) (by simp; exact ⟨H.out.sp, H.out.sq, H.out.sd⟩)]
  exact HSb.out

theorem does_fill_pb (s p q d : Nat) (l : List Int) (ao : Option Addr) (len cap : Nat) (cs : List Cls) (k a c n x : Int) (w : World) (h : Both w s p q d l ao len cap cs) (ha : In64 a) (hn : In64 n) (hk : k.tmod 4 = 2) (h1 : n < 0) :
    Calls Try.prog 6 #[.pointer (some ⟨s, 0, none⟩), .agg #[.int .i64 k, .int .i64 a, .int .i64 c, .int .i64 n, .int .i64 x]] w fun e w' => e = .returned (.bool true) ∧ Both w' s p q d (fillL l a a) ao len cap cs ∧ Turned [p, q, d] w w' := by
  have hai := ha
  have hni := hn
  unfold In64 at hai hni
  obtain ⟨w1, hw1⟩ : ∃ w1, w1 = w.alloc (.cells #[.int .i64 k, .int .i64 a, .int .i64 c, .int .i64 n, .int .i64 x] 35) := ⟨_, rfl⟩
  obtain ⟨o, ho⟩ : ∃ o, o = w.heap.size := ⟨_, rfl⟩
  have ht1 : Turned [] w w1 := by rw [hw1]; exact (Turned.refl [] w).alloc _
  have hob : w1.heap[o]? = some (.cells #[.int .i64 k, .int .i64 a, .int .i64 c, .int .i64 n, .int .i64 x] 35) := by rw [hw1, ho]; exact heap_alloc_new _ _
  have hop : o ≠ p ∧ o ≠ q ∧ o ≠ d := by have h1 := h.mem.ltp; have h2 := h.mem.ltq; have h3 := h.doc.ltq; omega
  have hsb := h.box
  rw [← ht1.block s (lt_of_heap h.box) (by simp)] at hsb
  have ax0 := cell_of_heap hsb 0
  have ax1 := cell_of_heap hsb 1
  have ax2 := cell_of_heap hsb 2
  have ay0 := cell_of_heap hob 0
  have ay1 := cell_of_heap hob 1
  have ay2 := cell_of_heap hob 2
  have ay3 := cell_of_heap hob 3
  have ay4 := cell_of_heap hob 4
  simp only [List.getElem?_toArray, List.getElem?_cons_zero, List.getElem?_cons_succ] at ax0 ax1 ax2 ay0 ay1 ay2 ay3 ay4
  have HM1 := hide (h.mem.turned ht1 (by simp) (by simp))
  have HD1 := hide (h.doc.turned ht1 (by simp))
  have HC1 := hide (h.cls.turned ht1)
  have HT1 := hide ht1
  have H := hide h
  have HIn := hide (And.intro ha hn)
  have HOp := hide hop
  have HSb := hide hsb
  have HO := hide ho
  have HW1 := hide hw1
  clear h ht1 hob hop hsb ha hn ho hw1
  go_enter Try.func6, Try.ntmps6
  go_wp2_with fail
  rw [← HW1.out, ← HO.out]
  clear HW1
  generalize hE : fillE l a a = vE at *
  have HSE := hide hE
  clear hE
  go_region_held3 (fun w' => w'.cell? ⟨s, 0, none⟩ = some (.pointer (some ⟨p, 0, none⟩)) ∧ w'.cell? ⟨s, 1, none⟩ = some (.slice (some ⟨d, 0, none⟩) l.length l.length) ∧ w'.cell? ⟨s, 2, none⟩ = some (.slice ao len cap) ∧ w'.cell? ⟨o, 0, none⟩ = some (.int .i64 k) ∧ w'.cell? ⟨o, 1, none⟩ = some (.int .i64 a) ∧ w'.cell? ⟨o, 2, none⟩ = some (.int .i64 c) ∧ w'.cell? ⟨o, 3, none⟩ = some (.int .i64 n) ∧ w'.cell? ⟨o, 4, none⟩ = some (.int .i64 x)) (go_keep)
    (first
      | (go_at_call 19; refine (bfill_mem p q l 0 a a w1.drew H.out.few HM1.out.drew).mono ?_; rw [HSE.out]; rintro e w2 ⟨rfl, hm2, ht2⟩; have bx0 : w2.cell? ⟨s, 0, none⟩ = some (.pointer (some ⟨p, 0, none⟩)) := (by rw [ht2.cell (block_lt ax0) (by simp; exact ⟨H.out.sp, H.out.sq⟩)]; exact ax0); have bx1 : w2.cell? ⟨s, 1, none⟩ = some (.slice (some ⟨d, 0, none⟩) l.length l.length) := (by rw [ht2.cell (block_lt ax1) (by simp; exact ⟨H.out.sp, H.out.sq⟩)]; exact ax1); have bx2 : w2.cell? ⟨s, 2, none⟩ = some (.slice ao len cap) := (by rw [ht2.cell (block_lt ax2) (by simp; exact ⟨H.out.sp, H.out.sq⟩)]; exact ax2); have by0 : w2.cell? ⟨o, 0, none⟩ = some (.int .i64 k) := (by rw [ht2.cell (block_lt ay0) (by simp; exact ⟨HOp.out.1, HOp.out.2.1⟩)]; exact ay0); have by1 : w2.cell? ⟨o, 1, none⟩ = some (.int .i64 a) := (by rw [ht2.cell (block_lt ay1) (by simp; exact ⟨HOp.out.1, HOp.out.2.1⟩)]; exact ay1); have by2 : w2.cell? ⟨o, 2, none⟩ = some (.int .i64 c) := (by rw [ht2.cell (block_lt ay2) (by simp; exact ⟨HOp.out.1, HOp.out.2.1⟩)]; exact ay2); have by3 : w2.cell? ⟨o, 3, none⟩ = some (.int .i64 n) := (by rw [ht2.cell (block_lt ay3) (by simp; exact ⟨HOp.out.1, HOp.out.2.1⟩)]; exact ay3); have by4 : w2.cell? ⟨o, 4, none⟩ = some (.int .i64 x) := (by rw [ht2.cell (block_lt ay4) (by simp; exact ⟨HOp.out.1, HOp.out.2.1⟩)]; exact ay4); have HM2 := hide hm2; have HT2 := hide ((Turned.refl [p, q] w1).drew.trans ht2); have HD2 := hide (HD1.out.turned HT2.out (by simp; exact ⟨H.out.dp, H.out.dq⟩)); clear hm2 ht2)
      | (go_at_call 22; refine (rfill_doc d l a a w2 H.out.few HD2.out).mono ?_; rw [HSE.out]; rintro e w3 ⟨rfl, hd3, ht3⟩; have cx0 : w3.cell? ⟨s, 0, none⟩ = some (.pointer (some ⟨p, 0, none⟩)) := (by rw [ht3.cell (block_lt bx0) (by simp; exact H.out.sd)]; exact bx0); have cx1 : w3.cell? ⟨s, 1, none⟩ = some (.slice (some ⟨d, 0, none⟩) l.length l.length) := (by rw [ht3.cell (block_lt bx1) (by simp; exact H.out.sd)]; exact bx1); have cx2 : w3.cell? ⟨s, 2, none⟩ = some (.slice ao len cap) := (by rw [ht3.cell (block_lt bx2) (by simp; exact H.out.sd)]; exact bx2); have cy0 : w3.cell? ⟨o, 0, none⟩ = some (.int .i64 k) := (by rw [ht3.cell (block_lt by0) (by simp; exact HOp.out.2.2)]; exact by0); have cy1 : w3.cell? ⟨o, 1, none⟩ = some (.int .i64 a) := (by rw [ht3.cell (block_lt by1) (by simp; exact HOp.out.2.2)]; exact by1); have cy2 : w3.cell? ⟨o, 2, none⟩ = some (.int .i64 c) := (by rw [ht3.cell (block_lt by2) (by simp; exact HOp.out.2.2)]; exact by2); have cy3 : w3.cell? ⟨o, 3, none⟩ = some (.int .i64 n) := (by rw [ht3.cell (block_lt by3) (by simp; exact HOp.out.2.2)]; exact by3); have cy4 : w3.cell? ⟨o, 4, none⟩ = some (.int .i64 x) := (by rw [ht3.cell (block_lt by4) (by simp; exact HOp.out.2.2)]; exact by4); have HD3 := hide hd3; have HT3 := hide ht3; clear hd3 ht3))
  go_wp2_with fail
  go_ret
  have ht23 : Turned [p, q, d] w1 w3 := (HT2.out.mono (T := [p, q, d]) (by simp)).trans (HT3.out.mono (T := [p, q, d]) (by simp))
  refine ⟨rfl, ⟨HM2.out.turned HT3.out (by simp; exact Ne.symm H.out.dp) (by simp; exact Ne.symm H.out.dq), HD3.out, ?_, H.out.dp, H.out.dq, H.out.sp, H.out.sq, H.out.sd, (HC1.out.turnedS HT2.out (fun e he => by have := H.out.own e he; simp; exact ⟨this.1, this.2.1⟩)).turnedS HT3.out (fun e he => by have := H.out.own e he; simp; exact this.2.2), by rw [fillL_length]; exact H.out.few, H.out.own⟩, (HT1.out.mono (T := [p, q, d]) (by simp)).trans ht23⟩
  rw [fillL_length, ht23.block s (lt_of_heap HSb.out) (by simp; exact ⟨H.out.sp, H.out.sq, H.out.sd⟩)]
  exact HSb.out

theorem does_fill_pc (s p q d : Nat) (l : List Int) (ao : Option Addr) (len cap : Nat) (cs : List Cls) (k a c n x : Int) (w : World) (h : Both w s p q d l ao len cap cs) (ha : In64 a) (hn : In64 n) (hk : k.tmod 4 = 2) (h1 : 0 ≤ n) (h2 : ¬ n < 1000) :
    Calls Try.prog 6 #[.pointer (some ⟨s, 0, none⟩), .agg #[.int .i64 k, .int .i64 a, .int .i64 c, .int .i64 n, .int .i64 x]] w fun e w' => e = .returned (.bool true) ∧ Both w' s p q d (fillL l a a) ao len cap cs ∧ Turned [p, q, d] w w' := by
  have hai := ha
  have hni := hn
  unfold In64 at hai hni
  obtain ⟨w1, hw1⟩ : ∃ w1, w1 = w.alloc (.cells #[.int .i64 k, .int .i64 a, .int .i64 c, .int .i64 n, .int .i64 x] 35) := ⟨_, rfl⟩
  obtain ⟨o, ho⟩ : ∃ o, o = w.heap.size := ⟨_, rfl⟩
  have ht1 : Turned [] w w1 := by rw [hw1]; exact (Turned.refl [] w).alloc _
  have hob : w1.heap[o]? = some (.cells #[.int .i64 k, .int .i64 a, .int .i64 c, .int .i64 n, .int .i64 x] 35) := by rw [hw1, ho]; exact heap_alloc_new _ _
  have hop : o ≠ p ∧ o ≠ q ∧ o ≠ d := by have h1 := h.mem.ltp; have h2 := h.mem.ltq; have h3 := h.doc.ltq; omega
  have hsb := h.box
  rw [← ht1.block s (lt_of_heap h.box) (by simp)] at hsb
  have ax0 := cell_of_heap hsb 0
  have ax1 := cell_of_heap hsb 1
  have ax2 := cell_of_heap hsb 2
  have ay0 := cell_of_heap hob 0
  have ay1 := cell_of_heap hob 1
  have ay2 := cell_of_heap hob 2
  have ay3 := cell_of_heap hob 3
  have ay4 := cell_of_heap hob 4
  simp only [List.getElem?_toArray, List.getElem?_cons_zero, List.getElem?_cons_succ] at ax0 ax1 ax2 ay0 ay1 ay2 ay3 ay4
  have HM1 := hide (h.mem.turned ht1 (by simp) (by simp))
  have HD1 := hide (h.doc.turned ht1 (by simp))
  have HC1 := hide (h.cls.turned ht1)
  have HT1 := hide ht1
  have H := hide h
  have HIn := hide (And.intro ha hn)
  have HOp := hide hop
  have HSb := hide hsb
  have HO := hide ho
  have HW1 := hide hw1
  clear h ht1 hob hop hsb ha hn ho hw1
  go_enter Try.func6, Try.ntmps6
  go_wp2_with fail
  rw [← HW1.out, ← HO.out]
  clear HW1
  generalize hE : fillE l a a = vE at *
  have HSE := hide hE
  clear hE
  go_region_held3 (fun w' => w'.cell? ⟨s, 0, none⟩ = some (.pointer (some ⟨p, 0, none⟩)) ∧ w'.cell? ⟨s, 1, none⟩ = some (.slice (some ⟨d, 0, none⟩) l.length l.length) ∧ w'.cell? ⟨s, 2, none⟩ = some (.slice ao len cap) ∧ w'.cell? ⟨o, 0, none⟩ = some (.int .i64 k) ∧ w'.cell? ⟨o, 1, none⟩ = some (.int .i64 a) ∧ w'.cell? ⟨o, 2, none⟩ = some (.int .i64 c) ∧ w'.cell? ⟨o, 3, none⟩ = some (.int .i64 n) ∧ w'.cell? ⟨o, 4, none⟩ = some (.int .i64 x)) (go_keep)
    (first
      | (go_at_call 19; refine (bfill_mem p q l 0 a a w1.drew H.out.few HM1.out.drew).mono ?_; rw [HSE.out]; rintro e w2 ⟨rfl, hm2, ht2⟩; have bx0 : w2.cell? ⟨s, 0, none⟩ = some (.pointer (some ⟨p, 0, none⟩)) := (by rw [ht2.cell (block_lt ax0) (by simp; exact ⟨H.out.sp, H.out.sq⟩)]; exact ax0); have bx1 : w2.cell? ⟨s, 1, none⟩ = some (.slice (some ⟨d, 0, none⟩) l.length l.length) := (by rw [ht2.cell (block_lt ax1) (by simp; exact ⟨H.out.sp, H.out.sq⟩)]; exact ax1); have bx2 : w2.cell? ⟨s, 2, none⟩ = some (.slice ao len cap) := (by rw [ht2.cell (block_lt ax2) (by simp; exact ⟨H.out.sp, H.out.sq⟩)]; exact ax2); have by0 : w2.cell? ⟨o, 0, none⟩ = some (.int .i64 k) := (by rw [ht2.cell (block_lt ay0) (by simp; exact ⟨HOp.out.1, HOp.out.2.1⟩)]; exact ay0); have by1 : w2.cell? ⟨o, 1, none⟩ = some (.int .i64 a) := (by rw [ht2.cell (block_lt ay1) (by simp; exact ⟨HOp.out.1, HOp.out.2.1⟩)]; exact ay1); have by2 : w2.cell? ⟨o, 2, none⟩ = some (.int .i64 c) := (by rw [ht2.cell (block_lt ay2) (by simp; exact ⟨HOp.out.1, HOp.out.2.1⟩)]; exact ay2); have by3 : w2.cell? ⟨o, 3, none⟩ = some (.int .i64 n) := (by rw [ht2.cell (block_lt ay3) (by simp; exact ⟨HOp.out.1, HOp.out.2.1⟩)]; exact ay3); have by4 : w2.cell? ⟨o, 4, none⟩ = some (.int .i64 x) := (by rw [ht2.cell (block_lt ay4) (by simp; exact ⟨HOp.out.1, HOp.out.2.1⟩)]; exact ay4); have HM2 := hide hm2; have HT2 := hide ((Turned.refl [p, q] w1).drew.trans ht2); have HD2 := hide (HD1.out.turned HT2.out (by simp; exact ⟨H.out.dp, H.out.dq⟩)); clear hm2 ht2)
      | (go_at_call 22; refine (rfill_doc d l a a w2 H.out.few HD2.out).mono ?_; rw [HSE.out]; rintro e w3 ⟨rfl, hd3, ht3⟩; have cx0 : w3.cell? ⟨s, 0, none⟩ = some (.pointer (some ⟨p, 0, none⟩)) := (by rw [ht3.cell (block_lt bx0) (by simp; exact H.out.sd)]; exact bx0); have cx1 : w3.cell? ⟨s, 1, none⟩ = some (.slice (some ⟨d, 0, none⟩) l.length l.length) := (by rw [ht3.cell (block_lt bx1) (by simp; exact H.out.sd)]; exact bx1); have cx2 : w3.cell? ⟨s, 2, none⟩ = some (.slice ao len cap) := (by rw [ht3.cell (block_lt bx2) (by simp; exact H.out.sd)]; exact bx2); have cy0 : w3.cell? ⟨o, 0, none⟩ = some (.int .i64 k) := (by rw [ht3.cell (block_lt by0) (by simp; exact HOp.out.2.2)]; exact by0); have cy1 : w3.cell? ⟨o, 1, none⟩ = some (.int .i64 a) := (by rw [ht3.cell (block_lt by1) (by simp; exact HOp.out.2.2)]; exact by1); have cy2 : w3.cell? ⟨o, 2, none⟩ = some (.int .i64 c) := (by rw [ht3.cell (block_lt by2) (by simp; exact HOp.out.2.2)]; exact by2); have cy3 : w3.cell? ⟨o, 3, none⟩ = some (.int .i64 n) := (by rw [ht3.cell (block_lt by3) (by simp; exact HOp.out.2.2)]; exact by3); have cy4 : w3.cell? ⟨o, 4, none⟩ = some (.int .i64 x) := (by rw [ht3.cell (block_lt by4) (by simp; exact HOp.out.2.2)]; exact by4); have HD3 := hide hd3; have HT3 := hide ht3; clear hd3 ht3))
  go_wp2_with fail
  go_ret
  have ht23 : Turned [p, q, d] w1 w3 := (HT2.out.mono (T := [p, q, d]) (by simp)).trans (HT3.out.mono (T := [p, q, d]) (by simp))
  refine ⟨rfl, ⟨HM2.out.turned HT3.out (by simp; exact Ne.symm H.out.dp) (by simp; exact Ne.symm H.out.dq), HD3.out, ?_, H.out.dp, H.out.dq, H.out.sp, H.out.sq, H.out.sd, (HC1.out.turnedS HT2.out (fun e he => by have := H.out.own e he; simp; exact ⟨this.1, this.2.1⟩)).turnedS HT3.out (fun e he => by have := H.out.own e he; simp; exact this.2.2), by rw [fillL_length]; exact H.out.few, H.out.own⟩, (HT1.out.mono (T := [p, q, d]) (by simp)).trans ht23⟩
  rw [fillL_length, ht23.block s (lt_of_heap HSb.out) (by simp; exact ⟨H.out.sp, H.out.sq, H.out.sd⟩)]
  exact HSb.out

theorem does_fill_pe (s p q d : Nat) (l : List Int) (ao : Option Addr) (len cap : Nat) (cs : List Cls) (k a c n x : Int) (w : World) (h : Both w s p q d l ao len cap cs) (ha : In64 a) (hn : In64 n) (hk : k.tmod 4 = 2) (h1 : 0 ≤ n) (h2 : n < 1000) (h3 : ¬ a < 1000) :
    Calls Try.prog 6 #[.pointer (some ⟨s, 0, none⟩), .agg #[.int .i64 k, .int .i64 a, .int .i64 c, .int .i64 n, .int .i64 x]] w fun e w' => e = .returned (.bool true) ∧ Both w' s p q d (fillL l a a) ao len cap cs ∧ Turned [p, q, d] w w' := by
  have hai := ha
  have hni := hn
  unfold In64 at hai hni
  obtain ⟨w1, hw1⟩ : ∃ w1, w1 = w.alloc (.cells #[.int .i64 k, .int .i64 a, .int .i64 c, .int .i64 n, .int .i64 x] 35) := ⟨_, rfl⟩
  obtain ⟨o, ho⟩ : ∃ o, o = w.heap.size := ⟨_, rfl⟩
  have ht1 : Turned [] w w1 := by rw [hw1]; exact (Turned.refl [] w).alloc _
  have hob : w1.heap[o]? = some (.cells #[.int .i64 k, .int .i64 a, .int .i64 c, .int .i64 n, .int .i64 x] 35) := by rw [hw1, ho]; exact heap_alloc_new _ _
  have hop : o ≠ p ∧ o ≠ q ∧ o ≠ d := by have h1 := h.mem.ltp; have h2 := h.mem.ltq; have h3 := h.doc.ltq; omega
  have hsb := h.box
  rw [← ht1.block s (lt_of_heap h.box) (by simp)] at hsb
  have ax0 := cell_of_heap hsb 0
  have ax1 := cell_of_heap hsb 1
  have ax2 := cell_of_heap hsb 2
  have ay0 := cell_of_heap hob 0
  have ay1 := cell_of_heap hob 1
  have ay2 := cell_of_heap hob 2
  have ay3 := cell_of_heap hob 3
  have ay4 := cell_of_heap hob 4
  simp only [List.getElem?_toArray, List.getElem?_cons_zero, List.getElem?_cons_succ] at ax0 ax1 ax2 ay0 ay1 ay2 ay3 ay4
  have HM1 := hide (h.mem.turned ht1 (by simp) (by simp))
  have HD1 := hide (h.doc.turned ht1 (by simp))
  have HC1 := hide (h.cls.turned ht1)
  have HT1 := hide ht1
  have H := hide h
  have HIn := hide (And.intro ha hn)
  have HOp := hide hop
  have HSb := hide hsb
  have HO := hide ho
  have HW1 := hide hw1
  clear h ht1 hob hop hsb ha hn ho hw1
  go_enter Try.func6, Try.ntmps6
  go_wp2_with fail
  rw [← HW1.out, ← HO.out]
  clear HW1
  generalize hE : fillE l a a = vE at *
  have HSE := hide hE
  clear hE
  go_region_held3 (fun w' => w'.cell? ⟨s, 0, none⟩ = some (.pointer (some ⟨p, 0, none⟩)) ∧ w'.cell? ⟨s, 1, none⟩ = some (.slice (some ⟨d, 0, none⟩) l.length l.length) ∧ w'.cell? ⟨s, 2, none⟩ = some (.slice ao len cap) ∧ w'.cell? ⟨o, 0, none⟩ = some (.int .i64 k) ∧ w'.cell? ⟨o, 1, none⟩ = some (.int .i64 a) ∧ w'.cell? ⟨o, 2, none⟩ = some (.int .i64 c) ∧ w'.cell? ⟨o, 3, none⟩ = some (.int .i64 n) ∧ w'.cell? ⟨o, 4, none⟩ = some (.int .i64 x)) (go_keep)
    (first
      | (go_at_call 19; refine (bfill_mem p q l 0 a a w1.drew H.out.few HM1.out.drew).mono ?_; rw [HSE.out]; rintro e w2 ⟨rfl, hm2, ht2⟩; have bx0 : w2.cell? ⟨s, 0, none⟩ = some (.pointer (some ⟨p, 0, none⟩)) := (by rw [ht2.cell (block_lt ax0) (by simp; exact ⟨H.out.sp, H.out.sq⟩)]; exact ax0); have bx1 : w2.cell? ⟨s, 1, none⟩ = some (.slice (some ⟨d, 0, none⟩) l.length l.length) := (by rw [ht2.cell (block_lt ax1) (by simp; exact ⟨H.out.sp, H.out.sq⟩)]; exact ax1); have bx2 : w2.cell? ⟨s, 2, none⟩ = some (.slice ao len cap) := (by rw [ht2.cell (block_lt ax2) (by simp; exact ⟨H.out.sp, H.out.sq⟩)]; exact ax2); have by0 : w2.cell? ⟨o, 0, none⟩ = some (.int .i64 k) := (by rw [ht2.cell (block_lt ay0) (by simp; exact ⟨HOp.out.1, HOp.out.2.1⟩)]; exact ay0); have by1 : w2.cell? ⟨o, 1, none⟩ = some (.int .i64 a) := (by rw [ht2.cell (block_lt ay1) (by simp; exact ⟨HOp.out.1, HOp.out.2.1⟩)]; exact ay1); have by2 : w2.cell? ⟨o, 2, none⟩ = some (.int .i64 c) := (by rw [ht2.cell (block_lt ay2) (by simp; exact ⟨HOp.out.1, HOp.out.2.1⟩)]; exact ay2); have by3 : w2.cell? ⟨o, 3, none⟩ = some (.int .i64 n) := (by rw [ht2.cell (block_lt ay3) (by simp; exact ⟨HOp.out.1, HOp.out.2.1⟩)]; exact ay3); have by4 : w2.cell? ⟨o, 4, none⟩ = some (.int .i64 x) := (by rw [ht2.cell (block_lt ay4) (by simp; exact ⟨HOp.out.1, HOp.out.2.1⟩)]; exact ay4); have HM2 := hide hm2; have HT2 := hide ((Turned.refl [p, q] w1).drew.trans ht2); have HD2 := hide (HD1.out.turned HT2.out (by simp; exact ⟨H.out.dp, H.out.dq⟩)); clear hm2 ht2)
      | (go_at_call 22; refine (rfill_doc d l a a w2 H.out.few HD2.out).mono ?_; rw [HSE.out]; rintro e w3 ⟨rfl, hd3, ht3⟩; have cx0 : w3.cell? ⟨s, 0, none⟩ = some (.pointer (some ⟨p, 0, none⟩)) := (by rw [ht3.cell (block_lt bx0) (by simp; exact H.out.sd)]; exact bx0); have cx1 : w3.cell? ⟨s, 1, none⟩ = some (.slice (some ⟨d, 0, none⟩) l.length l.length) := (by rw [ht3.cell (block_lt bx1) (by simp; exact H.out.sd)]; exact bx1); have cx2 : w3.cell? ⟨s, 2, none⟩ = some (.slice ao len cap) := (by rw [ht3.cell (block_lt bx2) (by simp; exact H.out.sd)]; exact bx2); have cy0 : w3.cell? ⟨o, 0, none⟩ = some (.int .i64 k) := (by rw [ht3.cell (block_lt by0) (by simp; exact HOp.out.2.2)]; exact by0); have cy1 : w3.cell? ⟨o, 1, none⟩ = some (.int .i64 a) := (by rw [ht3.cell (block_lt by1) (by simp; exact HOp.out.2.2)]; exact by1); have cy2 : w3.cell? ⟨o, 2, none⟩ = some (.int .i64 c) := (by rw [ht3.cell (block_lt by2) (by simp; exact HOp.out.2.2)]; exact by2); have cy3 : w3.cell? ⟨o, 3, none⟩ = some (.int .i64 n) := (by rw [ht3.cell (block_lt by3) (by simp; exact HOp.out.2.2)]; exact by3); have cy4 : w3.cell? ⟨o, 4, none⟩ = some (.int .i64 x) := (by rw [ht3.cell (block_lt by4) (by simp; exact HOp.out.2.2)]; exact by4); have HD3 := hide hd3; have HT3 := hide ht3; clear hd3 ht3))
  go_wp2_with fail
  go_ret
  have ht23 : Turned [p, q, d] w1 w3 := (HT2.out.mono (T := [p, q, d]) (by simp)).trans (HT3.out.mono (T := [p, q, d]) (by simp))
  refine ⟨rfl, ⟨HM2.out.turned HT3.out (by simp; exact Ne.symm H.out.dp) (by simp; exact Ne.symm H.out.dq), HD3.out, ?_, H.out.dp, H.out.dq, H.out.sp, H.out.sq, H.out.sd, (HC1.out.turnedS HT2.out (fun e he => by have := H.out.own e he; simp; exact ⟨this.1, this.2.1⟩)).turnedS HT3.out (fun e he => by have := H.out.own e he; simp; exact this.2.2), by rw [fillL_length]; exact H.out.few, H.out.own⟩, (HT1.out.mono (T := [p, q, d]) (by simp)).trans ht23⟩
  rw [fillL_length, ht23.block s (lt_of_heap HSb.out) (by simp; exact ⟨H.out.sp, H.out.sq, H.out.sd⟩)]
  exact HSb.out

theorem does_fill_ma (s p q d : Nat) (l : List Int) (ao : Option Addr) (len cap : Nat) (cs : List Cls) (k a c n x : Int) (w : World) (h : Both w s p q d l ao len cap cs) (ha : In64 a) (hn : In64 n) (hk : k.tmod 4 = -2) (h1 : 0 ≤ n) (h2 : n < 1000) (h3 : a < 1000) :
    Calls Try.prog 6 #[.pointer (some ⟨s, 0, none⟩), .agg #[.int .i64 k, .int .i64 a, .int .i64 c, .int .i64 n, .int .i64 x]] w fun e w' => e = .returned (.bool true) ∧ Both w' s p q d (fillL l a (a + n)) ao len cap cs ∧ Turned [p, q, d] w w' := by
  have hai := ha
  have hni := hn
  unfold In64 at hai hni
  obtain ⟨w1, hw1⟩ : ∃ w1, w1 = w.alloc (.cells #[.int .i64 k, .int .i64 a, .int .i64 c, .int .i64 n, .int .i64 x] 35) := ⟨_, rfl⟩
  obtain ⟨o, ho⟩ : ∃ o, o = w.heap.size := ⟨_, rfl⟩
  have ht1 : Turned [] w w1 := by rw [hw1]; exact (Turned.refl [] w).alloc _
  have hob : w1.heap[o]? = some (.cells #[.int .i64 k, .int .i64 a, .int .i64 c, .int .i64 n, .int .i64 x] 35) := by rw [hw1, ho]; exact heap_alloc_new _ _
  have hop : o ≠ p ∧ o ≠ q ∧ o ≠ d := by have h1 := h.mem.ltp; have h2 := h.mem.ltq; have h3 := h.doc.ltq; omega
  have hsb := h.box
  rw [← ht1.block s (lt_of_heap h.box) (by simp)] at hsb
  have ax0 := cell_of_heap hsb 0
  have ax1 := cell_of_heap hsb 1
  have ax2 := cell_of_heap hsb 2
  have ay0 := cell_of_heap hob 0
  have ay1 := cell_of_heap hob 1
  have ay2 := cell_of_heap hob 2
  have ay3 := cell_of_heap hob 3
  have ay4 := cell_of_heap hob 4
  simp only [List.getElem?_toArray, List.getElem?_cons_zero, List.getElem?_cons_succ] at ax0 ax1 ax2 ay0 ay1 ay2 ay3 ay4
  have HM1 := hide (h.mem.turned ht1 (by simp) (by simp))
  have HD1 := hide (h.doc.turned ht1 (by simp))
  have HC1 := hide (h.cls.turned ht1)
  have HT1 := hide ht1
  have H := hide h
  have HIn := hide (And.intro ha hn)
  have HOp := hide hop
  have HSb := hide hsb
  have HO := hide ho
  have HW1 := hide hw1
  clear h ht1 hob hop hsb ha hn ho hw1
  go_enter Try.func6, Try.ntmps6
  go_wp2_with fail
  rw [← HW1.out, ← HO.out]
  clear HW1
  generalize hE : fillE l a (a + n) = vE at *
  have HSE := hide hE
  clear hE
  go_region_held3 (fun w' => w'.cell? ⟨s, 0, none⟩ = some (.pointer (some ⟨p, 0, none⟩)) ∧ w'.cell? ⟨s, 1, none⟩ = some (.slice (some ⟨d, 0, none⟩) l.length l.length) ∧ w'.cell? ⟨s, 2, none⟩ = some (.slice ao len cap) ∧ w'.cell? ⟨o, 0, none⟩ = some (.int .i64 k) ∧ w'.cell? ⟨o, 1, none⟩ = some (.int .i64 a) ∧ w'.cell? ⟨o, 2, none⟩ = some (.int .i64 c) ∧ w'.cell? ⟨o, 3, none⟩ = some (.int .i64 n) ∧ w'.cell? ⟨o, 4, none⟩ = some (.int .i64 x)) (go_keep)
    (first
      | (go_at_call 19; refine (bfill_mem p q l 0 a (a + n) w1.drew H.out.few HM1.out.drew).mono ?_; rw [HSE.out]; rintro e w2 ⟨rfl, hm2, ht2⟩; have bx0 : w2.cell? ⟨s, 0, none⟩ = some (.pointer (some ⟨p, 0, none⟩)) := (by rw [ht2.cell (block_lt ax0) (by simp; exact ⟨H.out.sp, H.out.sq⟩)]; exact ax0); have bx1 : w2.cell? ⟨s, 1, none⟩ = some (.slice (some ⟨d, 0, none⟩) l.length l.length) := (by rw [ht2.cell (block_lt ax1) (by simp; exact ⟨H.out.sp, H.out.sq⟩)]; exact ax1); have bx2 : w2.cell? ⟨s, 2, none⟩ = some (.slice ao len cap) := (by rw [ht2.cell (block_lt ax2) (by simp; exact ⟨H.out.sp, H.out.sq⟩)]; exact ax2); have by0 : w2.cell? ⟨o, 0, none⟩ = some (.int .i64 k) := (by rw [ht2.cell (block_lt ay0) (by simp; exact ⟨HOp.out.1, HOp.out.2.1⟩)]; exact ay0); have by1 : w2.cell? ⟨o, 1, none⟩ = some (.int .i64 a) := (by rw [ht2.cell (block_lt ay1) (by simp; exact ⟨HOp.out.1, HOp.out.2.1⟩)]; exact ay1); have by2 : w2.cell? ⟨o, 2, none⟩ = some (.int .i64 c) := (by rw [ht2.cell (block_lt ay2) (by simp; exact ⟨HOp.out.1, HOp.out.2.1⟩)]; exact ay2); have by3 : w2.cell? ⟨o, 3, none⟩ = some (.int .i64 n) := (by rw [ht2.cell (block_lt ay3) (by simp; exact ⟨HOp.out.1, HOp.out.2.1⟩)]; exact ay3); have by4 : w2.cell? ⟨o, 4, none⟩ = some (.int .i64 x) := (by rw [ht2.cell (block_lt ay4) (by simp; exact ⟨HOp.out.1, HOp.out.2.1⟩)]; exact ay4); have HM2 := hide hm2; have HT2 := hide ((Turned.refl [p, q] w1).drew.trans ht2); have HD2 := hide (HD1.out.turned HT2.out (by simp; exact ⟨H.out.dp, H.out.dq⟩)); clear hm2 ht2)
      | (go_at_call 22; refine (rfill_doc d l a (a + n) w2 H.out.few HD2.out).mono ?_; rw [HSE.out]; rintro e w3 ⟨rfl, hd3, ht3⟩; have cx0 : w3.cell? ⟨s, 0, none⟩ = some (.pointer (some ⟨p, 0, none⟩)) := (by rw [ht3.cell (block_lt bx0) (by simp; exact H.out.sd)]; exact bx0); have cx1 : w3.cell? ⟨s, 1, none⟩ = some (.slice (some ⟨d, 0, none⟩) l.length l.length) := (by rw [ht3.cell (block_lt bx1) (by simp; exact H.out.sd)]; exact bx1); have cx2 : w3.cell? ⟨s, 2, none⟩ = some (.slice ao len cap) := (by rw [ht3.cell (block_lt bx2) (by simp; exact H.out.sd)]; exact bx2); have cy0 : w3.cell? ⟨o, 0, none⟩ = some (.int .i64 k) := (by rw [ht3.cell (block_lt by0) (by simp; exact HOp.out.2.2)]; exact by0); have cy1 : w3.cell? ⟨o, 1, none⟩ = some (.int .i64 a) := (by rw [ht3.cell (block_lt by1) (by simp; exact HOp.out.2.2)]; exact by1); have cy2 : w3.cell? ⟨o, 2, none⟩ = some (.int .i64 c) := (by rw [ht3.cell (block_lt by2) (by simp; exact HOp.out.2.2)]; exact by2); have cy3 : w3.cell? ⟨o, 3, none⟩ = some (.int .i64 n) := (by rw [ht3.cell (block_lt by3) (by simp; exact HOp.out.2.2)]; exact by3); have cy4 : w3.cell? ⟨o, 4, none⟩ = some (.int .i64 x) := (by rw [ht3.cell (block_lt by4) (by simp; exact HOp.out.2.2)]; exact by4); have HD3 := hide hd3; have HT3 := hide ht3; clear hd3 ht3))
  go_wp2_with fail
  go_ret
  have ht23 : Turned [p, q, d] w1 w3 := (HT2.out.mono (T := [p, q, d]) (by simp)).trans (HT3.out.mono (T := [p, q, d]) (by simp))
  refine ⟨rfl, ⟨HM2.out.turned HT3.out (by simp; exact Ne.symm H.out.dp) (by simp; exact Ne.symm H.out.dq), HD3.out, ?_, H.out.dp, H.out.dq, H.out.sp, H.out.sq, H.out.sd, (HC1.out.turnedS HT2.out (fun e he => by have := H.out.own e he; simp; exact ⟨this.1, this.2.1⟩)).turnedS HT3.out (fun e he => by have := H.out.own e he; simp; exact this.2.2), by rw [fillL_length]; exact H.out.few, H.out.own⟩, (HT1.out.mono (T := [p, q, d]) (by simp)).trans ht23⟩
  rw [fillL_length, ht23.block s (lt_of_heap HSb.out) (by simp; exact ⟨H.out.sp, H.out.sq, H.out.sd⟩)]
  exact HSb.out

theorem does_fill_mb (s p q d : Nat) (l : List Int) (ao : Option Addr) (len cap : Nat) (cs : List Cls) (k a c n x : Int) (w : World) (h : Both w s p q d l ao len cap cs) (ha : In64 a) (hn : In64 n) (hk : k.tmod 4 = -2) (h1 : n < 0) :
    Calls Try.prog 6 #[.pointer (some ⟨s, 0, none⟩), .agg #[.int .i64 k, .int .i64 a, .int .i64 c, .int .i64 n, .int .i64 x]] w fun e w' => e = .returned (.bool true) ∧ Both w' s p q d (fillL l a a) ao len cap cs ∧ Turned [p, q, d] w w' := by
  have hai := ha
  have hni := hn
  unfold In64 at hai hni
  obtain ⟨w1, hw1⟩ : ∃ w1, w1 = w.alloc (.cells #[.int .i64 k, .int .i64 a, .int .i64 c, .int .i64 n, .int .i64 x] 35) := ⟨_, rfl⟩
  obtain ⟨o, ho⟩ : ∃ o, o = w.heap.size := ⟨_, rfl⟩
  have ht1 : Turned [] w w1 := by rw [hw1]; exact (Turned.refl [] w).alloc _
  have hob : w1.heap[o]? = some (.cells #[.int .i64 k, .int .i64 a, .int .i64 c, .int .i64 n, .int .i64 x] 35) := by rw [hw1, ho]; exact heap_alloc_new _ _
  have hop : o ≠ p ∧ o ≠ q ∧ o ≠ d := by have h1 := h.mem.ltp; have h2 := h.mem.ltq; have h3 := h.doc.ltq; omega
  have hsb := h.box
  rw [← ht1.block s (lt_of_heap h.box) (by simp)] at hsb
  have ax0 := cell_of_heap hsb 0
  have ax1 := cell_of_heap hsb 1
  have ax2 := cell_of_heap hsb 2
  have ay0 := cell_of_heap hob 0
  have ay1 := cell_of_heap hob 1
  have ay2 := cell_of_heap hob 2
  have ay3 := cell_of_heap hob 3
  have ay4 := cell_of_heap hob 4
  simp only [List.getElem?_toArray, List.getElem?_cons_zero, List.getElem?_cons_succ] at ax0 ax1 ax2 ay0 ay1 ay2 ay3 ay4
  have HM1 := hide (h.mem.turned ht1 (by simp) (by simp))
  have HD1 := hide (h.doc.turned ht1 (by simp))
  have HC1 := hide (h.cls.turned ht1)
  have HT1 := hide ht1
  have H := hide h
  have HIn := hide (And.intro ha hn)
  have HOp := hide hop
  have HSb := hide hsb
  have HO := hide ho
  have HW1 := hide hw1
  clear h ht1 hob hop hsb ha hn ho hw1
  go_enter Try.func6, Try.ntmps6
  go_wp2_with fail
  rw [← HW1.out, ← HO.out]
  clear HW1
  generalize hE : fillE l a a = vE at *
  have HSE := hide hE
  clear hE
  go_region_held3 (fun w' => w'.cell? ⟨s, 0, none⟩ = some (.pointer (some ⟨p, 0, none⟩)) ∧ w'.cell? ⟨s, 1, none⟩ = some (.slice (some ⟨d, 0, none⟩) l.length l.length) ∧ w'.cell? ⟨s, 2, none⟩ = some (.slice ao len cap) ∧ w'.cell? ⟨o, 0, none⟩ = some (.int .i64 k) ∧ w'.cell? ⟨o, 1, none⟩ = some (.int .i64 a) ∧ w'.cell? ⟨o, 2, none⟩ = some (.int .i64 c) ∧ w'.cell? ⟨o, 3, none⟩ = some (.int .i64 n) ∧ w'.cell? ⟨o, 4, none⟩ = some (.int .i64 x)) (go_keep)
    (first
      | (go_at_call 19; refine (bfill_mem p q l 0 a a w1.drew H.out.few HM1.out.drew).mono ?_; rw [HSE.out]; rintro e w2 ⟨rfl, hm2, ht2⟩; have bx0 : w2.cell? ⟨s, 0, none⟩ = some (.pointer (some ⟨p, 0, none⟩)) := (by rw [ht2.cell (block_lt ax0) (by simp; exact ⟨H.out.sp, H.out.sq⟩)]; exact ax0); have bx1 : w2.cell? ⟨s, 1, none⟩ = some (.slice (some ⟨d, 0, none⟩) l.length l.length) := (by rw [ht2.cell (block_lt ax1) (by simp; exact ⟨H.out.sp, H.out.sq⟩)]; exact ax1); have bx2 : w2.cell? ⟨s, 2, none⟩ = some (.slice ao len cap) := (by rw [ht2.cell (block_lt ax2) (by simp; exact ⟨H.out.sp, H.out.sq⟩)]; exact ax2); have by0 : w2.cell? ⟨o, 0, none⟩ = some (.int .i64 k) := (by rw [ht2.cell (block_lt ay0) (by simp; exact ⟨HOp.out.1, HOp.out.2.1⟩)]; exact ay0); have by1 : w2.cell? ⟨o, 1, none⟩ = some (.int .i64 a) := (by rw [ht2.cell (block_lt ay1) (by simp; exact ⟨HOp.out.1, HOp.out.2.1⟩)]; exact ay1); have by2 : w2.cell? ⟨o, 2, none⟩ = some (.int .i64 c) := (by rw [ht2.cell (block_lt ay2) (by simp; exact ⟨HOp.out.1, HOp.out.2.1⟩)]; exact ay2); have by3 : w2.cell? ⟨o, 3, none⟩ = some (.int .i64 n) := (by rw [ht2.cell (block_lt ay3) (by simp; exact ⟨HOp.out.1, HOp.out.2.1⟩)]; exact ay3); have by4 : w2.cell? ⟨o, 4, none⟩ = some (.int .i64 x) := (by rw [ht2.cell (block_lt ay4) (by simp; exact ⟨HOp.out.1, HOp.out.2.1⟩)]; exact ay4); have HM2 := hide hm2; have HT2 := hide ((Turned.refl [p, q] w1).drew.trans ht2); have HD2 := hide (HD1.out.turned HT2.out (by simp; exact ⟨H.out.dp, H.out.dq⟩)); clear hm2 ht2)
      | (go_at_call 22; refine (rfill_doc d l a a w2 H.out.few HD2.out).mono ?_; rw [HSE.out]; rintro e w3 ⟨rfl, hd3, ht3⟩; have cx0 : w3.cell? ⟨s, 0, none⟩ = some (.pointer (some ⟨p, 0, none⟩)) := (by rw [ht3.cell (block_lt bx0) (by simp; exact H.out.sd)]; exact bx0); have cx1 : w3.cell? ⟨s, 1, none⟩ = some (.slice (some ⟨d, 0, none⟩) l.length l.length) := (by rw [ht3.cell (block_lt bx1) (by simp; exact H.out.sd)]; exact bx1); have cx2 : w3.cell? ⟨s, 2, none⟩ = some (.slice ao len cap) := (by rw [ht3.cell (block_lt bx2) (by simp; exact H.out.sd)]; exact bx2); have cy0 : w3.cell? ⟨o, 0, none⟩ = some (.int .i64 k) := (by rw [ht3.cell (block_lt by0) (by simp; exact HOp.out.2.2)]; exact by0); have cy1 : w3.cell? ⟨o, 1, none⟩ = some (.int .i64 a) := (by rw [ht3.cell (block_lt by1) (by simp; exact HOp.out.2.2)]; exact by1); have cy2 : w3.cell? ⟨o, 2, none⟩ = some (.int .i64 c) := (by rw [ht3.cell (block_lt by2) (by simp; exact HOp.out.2.2)]; exact by2); have cy3 : w3.cell? ⟨o, 3, none⟩ = some (.int .i64 n) := (by rw [ht3.cell (block_lt by3) (by simp; exact HOp.out.2.2)]; exact by3); have cy4 : w3.cell? ⟨o, 4, none⟩ = some (.int .i64 x) := (by rw [ht3.cell (block_lt by4) (by simp; exact HOp.out.2.2)]; exact by4); have HD3 := hide hd3; have HT3 := hide ht3; clear hd3 ht3))
  go_wp2_with fail
  go_ret
  have ht23 : Turned [p, q, d] w1 w3 := (HT2.out.mono (T := [p, q, d]) (by simp)).trans (HT3.out.mono (T := [p, q, d]) (by simp))
  refine ⟨rfl, ⟨HM2.out.turned HT3.out (by simp; exact Ne.symm H.out.dp) (by simp; exact Ne.symm H.out.dq), HD3.out, ?_, H.out.dp, H.out.dq, H.out.sp, H.out.sq, H.out.sd, (HC1.out.turnedS HT2.out (fun e he => by have := H.out.own e he; simp; exact ⟨this.1, this.2.1⟩)).turnedS HT3.out (fun e he => by have := H.out.own e he; simp; exact this.2.2), by rw [fillL_length]; exact H.out.few, H.out.own⟩, (HT1.out.mono (T := [p, q, d]) (by simp)).trans ht23⟩
  rw [fillL_length, ht23.block s (lt_of_heap HSb.out) (by simp; exact ⟨H.out.sp, H.out.sq, H.out.sd⟩)]
  exact HSb.out

theorem does_fill_mc (s p q d : Nat) (l : List Int) (ao : Option Addr) (len cap : Nat) (cs : List Cls) (k a c n x : Int) (w : World) (h : Both w s p q d l ao len cap cs) (ha : In64 a) (hn : In64 n) (hk : k.tmod 4 = -2) (h1 : 0 ≤ n) (h2 : ¬ n < 1000) :
    Calls Try.prog 6 #[.pointer (some ⟨s, 0, none⟩), .agg #[.int .i64 k, .int .i64 a, .int .i64 c, .int .i64 n, .int .i64 x]] w fun e w' => e = .returned (.bool true) ∧ Both w' s p q d (fillL l a a) ao len cap cs ∧ Turned [p, q, d] w w' := by
  have hai := ha
  have hni := hn
  unfold In64 at hai hni
  obtain ⟨w1, hw1⟩ : ∃ w1, w1 = w.alloc (.cells #[.int .i64 k, .int .i64 a, .int .i64 c, .int .i64 n, .int .i64 x] 35) := ⟨_, rfl⟩
  obtain ⟨o, ho⟩ : ∃ o, o = w.heap.size := ⟨_, rfl⟩
  have ht1 : Turned [] w w1 := by rw [hw1]; exact (Turned.refl [] w).alloc _
  have hob : w1.heap[o]? = some (.cells #[.int .i64 k, .int .i64 a, .int .i64 c, .int .i64 n, .int .i64 x] 35) := by rw [hw1, ho]; exact heap_alloc_new _ _
  have hop : o ≠ p ∧ o ≠ q ∧ o ≠ d := by have h1 := h.mem.ltp; have h2 := h.mem.ltq; have h3 := h.doc.ltq; omega
  have hsb := h.box
  rw [← ht1.block s (lt_of_heap h.box) (by simp)] at hsb
  have ax0 := cell_of_heap hsb 0
  have ax1 := cell_of_heap hsb 1
  have ax2 := cell_of_heap hsb 2
  have ay0 := cell_of_heap hob 0
  have ay1 := cell_of_heap hob 1
  have ay2 := cell_of_heap hob 2
  have ay3 := cell_of_heap hob 3
  have ay4 := cell_of_heap hob 4
  simp only [List.getElem?_toArray, List.getElem?_cons_zero, List.getElem?_cons_succ] at ax0 ax1 ax2 ay0 ay1 ay2 ay3 ay4
  have HM1 := hide (h.mem.turned ht1 (by simp) (by simp))
  have HD1 := hide (h.doc.turned ht1 (by simp))
  have HC1 := hide (h.cls.turned ht1)
  have HT1 := hide ht1
  have H := hide h
  have HIn := hide (And.intro ha hn)
  have HOp := hide hop
  have HSb := hide hsb
  have HO := hide ho
  have HW1 := hide hw1
  clear h ht1 hob hop hsb ha hn ho hw1
  go_enter Try.func6, Try.ntmps6
  go_wp2_with fail
  rw [← HW1.out, ← HO.out]
  clear HW1
  generalize hE : fillE l a a = vE at *
  have HSE := hide hE
  clear hE
  go_region_held3 (fun w' => w'.cell? ⟨s, 0, none⟩ = some (.pointer (some ⟨p, 0, none⟩)) ∧ w'.cell? ⟨s, 1, none⟩ = some (.slice (some ⟨d, 0, none⟩) l.length l.length) ∧ w'.cell? ⟨s, 2, none⟩ = some (.slice ao len cap) ∧ w'.cell? ⟨o, 0, none⟩ = some (.int .i64 k) ∧ w'.cell? ⟨o, 1, none⟩ = some (.int .i64 a) ∧ w'.cell? ⟨o, 2, none⟩ = some (.int .i64 c) ∧ w'.cell? ⟨o, 3, none⟩ = some (.int .i64 n) ∧ w'.cell? ⟨o, 4, none⟩ = some (.int .i64 x)) (go_keep)
    (first
      | (go_at_call 19; refine (bfill_mem p q l 0 a a w1.drew H.out.few HM1.out.drew).mono ?_; rw [HSE.out]; rintro e w2 ⟨rfl, hm2, ht2⟩; have bx0 : w2.cell? ⟨s, 0, none⟩ = some (.pointer (some ⟨p, 0, none⟩)) := (by rw [ht2.cell (block_lt ax0) (by simp; exact ⟨H.out.sp, H.out.sq⟩)]; exact ax0); have bx1 : w2.cell? ⟨s, 1, none⟩ = some (.slice (some ⟨d, 0, none⟩) l.length l.length) := (by rw [ht2.cell (block_lt ax1) (by simp; exact ⟨H.out.sp, H.out.sq⟩)]; exact ax1); have bx2 : w2.cell? ⟨s, 2, none⟩ = some (.slice ao len cap) := (by rw [ht2.cell (block_lt ax2) (by simp; exact ⟨H.out.sp, H.out.sq⟩)]; exact ax2); have by0 : w2.cell? ⟨o, 0, none⟩ = some (.int .i64 k) := (by rw [ht2.cell (block_lt ay0) (by simp; exact ⟨HOp.out.1, HOp.out.2.1⟩)]; exact ay0); have by1 : w2.cell? ⟨o, 1, none⟩ = some (.int .i64 a) := (by rw [ht2.cell (block_lt ay1) (by simp; exact ⟨HOp.out.1, HOp.out.2.1⟩)]; exact ay1); have by2 : w2.cell? ⟨o, 2, none⟩ = some (.int .i64 c) := (by rw [ht2.cell (block_lt ay2) (by simp; exact ⟨HOp.out.1, HOp.out.2.1⟩)]; exact ay2); have by3 : w2.cell? ⟨o, 3, none⟩ = some (.int .i64 n) := (by rw [ht2.cell (block_lt ay3) (by simp; exact ⟨HOp.out.1, HOp.out.2.1⟩)]; exact ay3); have by4 : w2.cell? ⟨o, 4, none⟩ = some (.int .i64 x) := (by rw [ht2.cell (block_lt ay4) (by simp; exact ⟨HOp.out.1, HOp.out.2.1⟩)]; exact ay4); have HM2 := hide hm2; have HT2 := hide ((Turned.refl [p, q] w1).drew.trans ht2); have HD2 := hide (HD1.out.turned HT2.out (by simp; exact ⟨H.out.dp, H.out.dq⟩)); clear hm2 ht2)
      | (go_at_call 22; refine (rfill_doc d l a a w2 H.out.few HD2.out).mono ?_; rw [HSE.out]; rintro e w3 ⟨rfl, hd3, ht3⟩; have cx0 : w3.cell? ⟨s, 0, none⟩ = some (.pointer (some ⟨p, 0, none⟩)) := (by rw [ht3.cell (block_lt bx0) (by simp; exact H.out.sd)]; exact bx0); have cx1 : w3.cell? ⟨s, 1, none⟩ = some (.slice (some ⟨d, 0, none⟩) l.length l.length) := (by rw [ht3.cell (block_lt bx1) (by simp; exact H.out.sd)]; exact bx1); have cx2 : w3.cell? ⟨s, 2, none⟩ = some (.slice ao len cap) := (by rw [ht3.cell (block_lt bx2) (by simp; exact H.out.sd)]; exact bx2); have cy0 : w3.cell? ⟨o, 0, none⟩ = some (.int .i64 k) := (by rw [ht3.cell (block_lt by0) (by simp; exact HOp.out.2.2)]; exact by0); have cy1 : w3.cell? ⟨o, 1, none⟩ = some (.int .i64 a) := (by rw [ht3.cell (block_lt by1) (by simp; exact HOp.out.2.2)]; exact by1); have cy2 : w3.cell? ⟨o, 2, none⟩ = some (.int .i64 c) := (by rw [ht3.cell (block_lt by2) (by simp; exact HOp.out.2.2)]; exact by2); have cy3 : w3.cell? ⟨o, 3, none⟩ = some (.int .i64 n) := (by rw [ht3.cell (block_lt by3) (by simp; exact HOp.out.2.2)]; exact by3); have cy4 : w3.cell? ⟨o, 4, none⟩ = some (.int .i64 x) := (by rw [ht3.cell (block_lt by4) (by simp; exact HOp.out.2.2)]; exact by4); have HD3 := hide hd3; have HT3 := hide ht3; clear hd3 ht3))
  go_wp2_with fail
  go_ret
  have ht23 : Turned [p, q, d] w1 w3 := (HT2.out.mono (T := [p, q, d]) (by simp)).trans (HT3.out.mono (T := [p, q, d]) (by simp))
  refine ⟨rfl, ⟨HM2.out.turned HT3.out (by simp; exact Ne.symm H.out.dp) (by simp; exact Ne.symm H.out.dq), HD3.out, ?_, H.out.dp, H.out.dq, H.out.sp, H.out.sq, H.out.sd, (HC1.out.turnedS HT2.out (fun e he => by have := H.out.own e he; simp; exact ⟨this.1, this.2.1⟩)).turnedS HT3.out (fun e he => by have := H.out.own e he; simp; exact this.2.2), by rw [fillL_length]; exact H.out.few, H.out.own⟩, (HT1.out.mono (T := [p, q, d]) (by simp)).trans ht23⟩
  rw [fillL_length, ht23.block s (lt_of_heap HSb.out) (by simp; exact ⟨H.out.sp, H.out.sq, H.out.sd⟩)]
  exact HSb.out

theorem does_fill_me (s p q d : Nat) (l : List Int) (ao : Option Addr) (len cap : Nat) (cs : List Cls) (k a c n x : Int) (w : World) (h : Both w s p q d l ao len cap cs) (ha : In64 a) (hn : In64 n) (hk : k.tmod 4 = -2) (h1 : 0 ≤ n) (h2 : n < 1000) (h3 : ¬ a < 1000) :
    Calls Try.prog 6 #[.pointer (some ⟨s, 0, none⟩), .agg #[.int .i64 k, .int .i64 a, .int .i64 c, .int .i64 n, .int .i64 x]] w fun e w' => e = .returned (.bool true) ∧ Both w' s p q d (fillL l a a) ao len cap cs ∧ Turned [p, q, d] w w' := by
  have hai := ha
  have hni := hn
  unfold In64 at hai hni
  obtain ⟨w1, hw1⟩ : ∃ w1, w1 = w.alloc (.cells #[.int .i64 k, .int .i64 a, .int .i64 c, .int .i64 n, .int .i64 x] 35) := ⟨_, rfl⟩
  obtain ⟨o, ho⟩ : ∃ o, o = w.heap.size := ⟨_, rfl⟩
  have ht1 : Turned [] w w1 := by rw [hw1]; exact (Turned.refl [] w).alloc _
  have hob : w1.heap[o]? = some (.cells #[.int .i64 k, .int .i64 a, .int .i64 c, .int .i64 n, .int .i64 x] 35) := by rw [hw1, ho]; exact heap_alloc_new _ _
  have hop : o ≠ p ∧ o ≠ q ∧ o ≠ d := by have h1 := h.mem.ltp; have h2 := h.mem.ltq; have h3 := h.doc.ltq; omega
  have hsb := h.box
  rw [← ht1.block s (lt_of_heap h.box) (by simp)] at hsb
  have ax0 := cell_of_heap hsb 0
  have ax1 := cell_of_heap hsb 1
  have ax2 := cell_of_heap hsb 2
  have ay0 := cell_of_heap hob 0
  have ay1 := cell_of_heap hob 1
  have ay2 := cell_of_heap hob 2
  have ay3 := cell_of_heap hob 3
  have ay4 := cell_of_heap hob 4
  simp only [List.getElem?_toArray, List.getElem?_cons_zero, List.getElem?_cons_succ] at ax0 ax1 ax2 ay0 ay1 ay2 ay3 ay4
  have HM1 := hide (h.mem.turned ht1 (by simp) (by simp))
  have HD1 := hide (h.doc.turned ht1 (by simp))
  have HC1 := hide (h.cls.turned ht1)
  have HT1 := hide ht1
  have H := hide h
  have HIn := hide (And.intro ha hn)
  have HOp := hide hop
  have HSb := hide hsb
  have HO := hide ho
  have HW1 := hide hw1
  clear h ht1 hob hop hsb ha hn ho hw1
  go_enter Try.func6, Try.ntmps6
  go_wp2_with fail
  rw [← HW1.out, ← HO.out]
  clear HW1
  generalize hE : fillE l a a = vE at *
  have HSE := hide hE
  clear hE
  go_region_held3 (fun w' => w'.cell? ⟨s, 0, none⟩ = some (.pointer (some ⟨p, 0, none⟩)) ∧ w'.cell? ⟨s, 1, none⟩ = some (.slice (some ⟨d, 0, none⟩) l.length l.length) ∧ w'.cell? ⟨s, 2, none⟩ = some (.slice ao len cap) ∧ w'.cell? ⟨o, 0, none⟩ = some (.int .i64 k) ∧ w'.cell? ⟨o, 1, none⟩ = some (.int .i64 a) ∧ w'.cell? ⟨o, 2, none⟩ = some (.int .i64 c) ∧ w'.cell? ⟨o, 3, none⟩ = some (.int .i64 n) ∧ w'.cell? ⟨o, 4, none⟩ = some (.int .i64 x)) (go_keep)
    (first
      | (go_at_call 19; refine (bfill_mem p q l 0 a a w1.drew H.out.few HM1.out.drew).mono ?_; rw [HSE.out]; rintro e w2 ⟨rfl, hm2, ht2⟩; have bx0 : w2.cell? ⟨s, 0, none⟩ = some (.pointer (some ⟨p, 0, none⟩)) := (by rw [ht2.cell (block_lt ax0) (by simp; exact ⟨H.out.sp, H.out.sq⟩)]; exact ax0); have bx1 : w2.cell? ⟨s, 1, none⟩ = some (.slice (some ⟨d, 0, none⟩) l.length l.length) := (by rw [ht2.cell (block_lt ax1) (by simp; exact ⟨H.out.sp, H.out.sq⟩)]; exact ax1); have bx2 : w2.cell? ⟨s, 2, none⟩ = some (.slice ao len cap) := (by rw [ht2.cell (block_lt ax2) (by simp; exact ⟨H.out.sp, H.out.sq⟩)]; exact ax2); have by0 : w2.cell? ⟨o, 0, none⟩ = some (.int .i64 k) := (by rw [ht2.cell (block_lt ay0) (by simp; exact ⟨HOp.out.1, HOp.out.2.1⟩)]; exact ay0); have by1 : w2.cell? ⟨o, 1, none⟩ = some (.int .i64 a) := (by rw [ht2.cell (block_lt ay1) (by simp; exact ⟨HOp.out.1, HOp.out.2.1⟩)]; exact ay1); have by2 : w2.cell? ⟨o, 2, none⟩ = some (.int .i64 c) := (by rw [ht2.cell (block_lt ay2) (by simp; exact ⟨HOp.out.1, HOp.out.2.1⟩)]; exact ay2); have by3 : w2.cell? ⟨o, 3, none⟩ = some (.int .i64 n) := (by rw [ht2.cell (block_lt ay3) (by simp; exact ⟨HOp.out.1, HOp.out.2.1⟩)]; exact ay3); have by4 : w2.cell? ⟨o, 4, none⟩ = some (.int .i64 x) := (by rw [ht2.cell (block_lt ay4) (by simp; exact ⟨HOp.out.1, HOp.out.2.1⟩)]; exact ay4); have HM2 := hide hm2; have HT2 := hide ((Turned.refl [p, q] w1).drew.trans ht2); have HD2 := hide (HD1.out.turned HT2.out (by simp; exact ⟨H.out.dp, H.out.dq⟩)); clear hm2 ht2)
      | (go_at_call 22; refine (rfill_doc d l a a w2 H.out.few HD2.out).mono ?_; rw [HSE.out]; rintro e w3 ⟨rfl, hd3, ht3⟩; have cx0 : w3.cell? ⟨s, 0, none⟩ = some (.pointer (some ⟨p, 0, none⟩)) := (by rw [ht3.cell (block_lt bx0) (by simp; exact H.out.sd)]; exact bx0); have cx1 : w3.cell? ⟨s, 1, none⟩ = some (.slice (some ⟨d, 0, none⟩) l.length l.length) := (by rw [ht3.cell (block_lt bx1) (by simp; exact H.out.sd)]; exact bx1); have cx2 : w3.cell? ⟨s, 2, none⟩ = some (.slice ao len cap) := (by rw [ht3.cell (block_lt bx2) (by simp; exact H.out.sd)]; exact bx2); have cy0 : w3.cell? ⟨o, 0, none⟩ = some (.int .i64 k) := (by rw [ht3.cell (block_lt by0) (by simp; exact HOp.out.2.2)]; exact by0); have cy1 : w3.cell? ⟨o, 1, none⟩ = some (.int .i64 a) := (by rw [ht3.cell (block_lt by1) (by simp; exact HOp.out.2.2)]; exact by1); have cy2 : w3.cell? ⟨o, 2, none⟩ = some (.int .i64 c) := (by rw [ht3.cell (block_lt by2) (by simp; exact HOp.out.2.2)]; exact by2); have cy3 : w3.cell? ⟨o, 3, none⟩ = some (.int .i64 n) := (by rw [ht3.cell (block_lt by3) (by simp; exact HOp.out.2.2)]; exact by3); have cy4 : w3.cell? ⟨o, 4, none⟩ = some (.int .i64 x) := (by rw [ht3.cell (block_lt by4) (by simp; exact HOp.out.2.2)]; exact by4); have HD3 := hide hd3; have HT3 := hide ht3; clear hd3 ht3))
  go_wp2_with fail
  go_ret
  have ht23 : Turned [p, q, d] w1 w3 := (HT2.out.mono (T := [p, q, d]) (by simp)).trans (HT3.out.mono (T := [p, q, d]) (by simp))
  refine ⟨rfl, ⟨HM2.out.turned HT3.out (by simp; exact Ne.symm H.out.dp) (by simp; exact Ne.symm H.out.dq), HD3.out, ?_, H.out.dp, H.out.dq, H.out.sp, H.out.sq, H.out.sd, (HC1.out.turnedS HT2.out (fun e he => by have := H.out.own e he; simp; exact ⟨this.1, this.2.1⟩)).turnedS HT3.out (fun e he => by have := H.out.own e he; simp; exact this.2.2), by rw [fillL_length]; exact H.out.few, H.out.own⟩, (HT1.out.mono (T := [p, q, d]) (by simp)).trans ht23⟩
  rw [fillL_length, ht23.block s (lt_of_heap HSb.out) (by simp; exact ⟨H.out.sp, H.out.sq, H.out.sd⟩)]
  exact HSb.out

/-- Up to where is filled. -/
def fillTo (a n : Int) : Int := if 0 ≤ n ∧ n < 1000 ∧ a < 1000 then a + n else a
theorem does_fill (s p q d : Nat) (l : List Int) (ao : Option Addr) (len cap : Nat) (cs : List Cls) (k a c n x : Int) (w : World) (h : Both w s p q d l ao len cap cs) (ha : In64 a) (hn : In64 n) (hk : k.tmod 4 = 2 ∨ k.tmod 4 = -2) :
    Calls Try.prog 6 #[.pointer (some ⟨s, 0, none⟩), .agg #[.int .i64 k, .int .i64 a, .int .i64 c, .int .i64 n, .int .i64 x]] w fun e w' => e = .returned (.bool true) ∧ Both w' s p q d (fillL l a (fillTo a n)) ao len cap cs ∧ Turned [p, q, d] w w' := by
  unfold fillTo
  by_cases h1 : 0 ≤ n
  · by_cases h2 : n < 1000
    · by_cases h3 : a < 1000
      · rw [if_pos ⟨h1, h2, h3⟩]
        rcases hk with hk | hk
        · exact does_fill_pa s p q d l ao len cap cs k a c n x w h ha hn hk h1 h2 h3
        · exact does_fill_ma s p q d l ao len cap cs k a c n x w h ha hn hk h1 h2 h3
      · rw [if_neg (fun e => h3 e.2.2)]
        rcases hk with hk | hk
        · exact does_fill_pe s p q d l ao len cap cs k a c n x w h ha hn hk h1 h2 h3
        · exact does_fill_me s p q d l ao len cap cs k a c n x w h ha hn hk h1 h2 h3
    · rw [if_neg (fun e => h2 e.2.1)]
      rcases hk with hk | hk
      · exact does_fill_pc s p q d l ao len cap cs k a c n x w h ha hn hk h1 h2
      · exact does_fill_mc s p q d l ao len cap cs k a c n x w h ha hn hk h1 h2
  · rw [if_neg (fun e => h1 e.1)]
    rcases hk with hk | hk
    · exact does_fill_pb s p q d l ao len cap cs k a c n x w h ha hn hk (by omega)
    · exact does_fill_mb s p q d l ao len cap cs k a c n x w h ha hn hk (by omega)
end Go.Proofs.Ythigmechfcndcaa
