/-
  One call of both, the program's and the document's (world.does): they tell the same, and keep the same words.
-/
import Derived.Test.YthigmechfcndcaaBlocksDocO
import Derived.Deep.RegionHeld3
namespace Go.Proofs.Ythigmechfcndcaa
open Go.RowKit
set_option linter.unusedVariables false

/-- Both: the program's memory (blocks p, q), the document's words (block d), and the struct that holds both (block s). -/
structure Both (w : World) (s p q d : Nat) (l : List Int) (ao : Option Addr) (len cap : Nat) (cs : List Cls) : Prop where
  mem : Mem w p q l 0
  doc : Doc w d l
  box : w.heap[s]? = some (.cells #[.pointer (some ⟨p, 0, none⟩), .slice (some ⟨d, 0, none⟩) l.length l.length, .slice ao len cap] 32)
  dp : d ≠ p
  dq : d ≠ q
  sp : s ≠ p
  sq : s ≠ q
  sd : s ≠ d
  cls : CRd w ao len cs
  few : l.length ≤ 65536
  own : ∀ a, (ao = some a ∧ cs ≠ []) → a.block ≠ p ∧ a.block ≠ q ∧ a.block ≠ d

theorem CRd.turnedS {w w' : World} {ao : Option Addr} {len : Nat} {cs : List Cls} {S : List Nat} (h : CRd w ao len cs) (ht : Turned S w w') (hn : ∀ a, (ao = some a ∧ cs ≠ []) → a.block ∉ S) : CRd w' ao len cs := by
  refine ⟨h.size, h.room, fun i c hc => ?_, h.inn⟩
  obtain ⟨g, off, h0, h1⟩ := h.cell i c hc
  have hg := hn _ ⟨h0, by rintro rfl; simp at hc⟩
  simp only at hg
  refine ⟨g, off, h0, ?_⟩
  simp only [ht.cell (block_lt h1.1) hg, ht.cell (block_lt h1.2.1) hg, ht.cell (block_lt h1.2.2) hg]
  exact h1

theorem does_lay (s p q d : Nat) (l : List Int) (ao : Option Addr) (len cap : Nat) (cs : List Cls) (k a c n x : Int) (w : World) (h : Both w s p q d l ao len cap cs) (ha : In64 a) (hn : In64 n) (h2 : ¬ k.tmod 4 = 2) (h2' : ¬ k.tmod 4 = -2) (h3 : ¬ k.tmod 4 = 3) (h3' : ¬ k.tmod 4 = -3) :
    Calls Try.prog 6 #[.pointer (some ⟨s, 0, none⟩), .agg #[.int .i64 k, .int .i64 a, .int .i64 c, .int .i64 n, .int .i64 x]] w fun e w' => e = .returned (.bool true) ∧ Both w' s p q d (layL l cs a c n) ao len cap cs ∧ Turned [p, q, d] w w' := by
  obtain ⟨w1, hw1⟩ : ∃ w1, w1 = w.alloc (.cells #[.int .i64 k, .int .i64 a, .int .i64 c, .int .i64 n, .int .i64 x] 35) := ⟨_, rfl⟩
  obtain ⟨o, ho⟩ : ∃ o, o = w.heap.size := ⟨_, rfl⟩
  have ht1 : Turned [] w w1 := by rw [hw1]; exact (Turned.refl [] w).alloc _
  have hob : w1.heap[o]? = some (.cells #[.int .i64 k, .int .i64 a, .int .i64 c, .int .i64 n, .int .i64 x] 35) := by rw [hw1, ho]; exact heap_alloc_new _ _
  have hop : o ≠ p ∧ o ≠ q ∧ o ≠ d := by have h1 := h.mem.ltp; have h2 := h.mem.ltq; have h3 := h.doc.ltq; omega
  have hsb := h.box
  rw [← ht1.block s (lt_of_heap h.box) (by simp)] at hsb
  have ax0 := cell_of_heap hsb 0
  have ax1 := cell_of_heap hsb 1
  have ax2 := cell_of_heap hsb 2
  have ay0 := cell_of_heap hob 0
  have ay1 := cell_of_heap hob 1
  have ay2 := cell_of_heap hob 2
  have ay3 := cell_of_heap hob 3
  have ay4 := cell_of_heap hob 4
  simp only [List.getElem?_toArray, List.getElem?_cons_zero, List.getElem?_cons_succ] at ax0 ax1 ax2 ay0 ay1 ay2 ay3 ay4
  have HM1 := hide (h.mem.turned ht1 (by simp) (by simp))
  have HD1 := hide (h.doc.turned ht1 (by simp))
  have HC1 := hide (h.cls.turned ht1)
  have HT1 := hide ht1
  have H := hide h
  have HIn := hide (And.intro ha hn)
  have HOp := hide hop
  have HSb := hide hsb
  have HO := hide ho
  have HW1 := hide hw1
  clear h ht1 hob hop hsb ha hn ho hw1
  go_enter Try.func6, Try.ntmps6
  go_wp2_with fail
  rw [← HW1.out, ← HO.out]
  clear HW1
  go_region_held3 (fun w' => w'.cell? ⟨s, 0, none⟩ = some (.pointer (some ⟨p, 0, none⟩)) ∧ w'.cell? ⟨s, 1, none⟩ = some (.slice (some ⟨d, 0, none⟩) l.length l.length) ∧ w'.cell? ⟨s, 2, none⟩ = some (.slice ao len cap) ∧ w'.cell? ⟨o, 0, none⟩ = some (.int .i64 k) ∧ w'.cell? ⟨o, 1, none⟩ = some (.int .i64 a) ∧ w'.cell? ⟨o, 2, none⟩ = some (.int .i64 c) ∧ w'.cell? ⟨o, 3, none⟩ = some (.int .i64 n) ∧ w'.cell? ⟨o, 4, none⟩ = some (.int .i64 x)) (go_keep)
    (first
      | (go_at_call 17; refine (blay_mem p q l 0 ao len cap cs a c n w1.drew H.out.few HIn.out.2 HM1.out.drew (HC1.out.turned (Turned.refl [] w1).drew)).mono ?_; rintro e w2 ⟨rfl, hm2, ht2⟩; have bx0 : w2.cell? ⟨s, 0, none⟩ = some (.pointer (some ⟨p, 0, none⟩)) := (by rw [ht2.cell (block_lt ax0) (by simp; exact ⟨H.out.sp, H.out.sq⟩)]; exact ax0); have bx1 : w2.cell? ⟨s, 1, none⟩ = some (.slice (some ⟨d, 0, none⟩) l.length l.length) := (by rw [ht2.cell (block_lt ax1) (by simp; exact ⟨H.out.sp, H.out.sq⟩)]; exact ax1); have bx2 : w2.cell? ⟨s, 2, none⟩ = some (.slice ao len cap) := (by rw [ht2.cell (block_lt ax2) (by simp; exact ⟨H.out.sp, H.out.sq⟩)]; exact ax2); have by0 : w2.cell? ⟨o, 0, none⟩ = some (.int .i64 k) := (by rw [ht2.cell (block_lt ay0) (by simp; exact ⟨HOp.out.1, HOp.out.2.1⟩)]; exact ay0); have by1 : w2.cell? ⟨o, 1, none⟩ = some (.int .i64 a) := (by rw [ht2.cell (block_lt ay1) (by simp; exact ⟨HOp.out.1, HOp.out.2.1⟩)]; exact ay1); have by2 : w2.cell? ⟨o, 2, none⟩ = some (.int .i64 c) := (by rw [ht2.cell (block_lt ay2) (by simp; exact ⟨HOp.out.1, HOp.out.2.1⟩)]; exact ay2); have by3 : w2.cell? ⟨o, 3, none⟩ = some (.int .i64 n) := (by rw [ht2.cell (block_lt ay3) (by simp; exact ⟨HOp.out.1, HOp.out.2.1⟩)]; exact ay3); have by4 : w2.cell? ⟨o, 4, none⟩ = some (.int .i64 x) := (by rw [ht2.cell (block_lt ay4) (by simp; exact ⟨HOp.out.1, HOp.out.2.1⟩)]; exact ay4); have HM2 := hide hm2; have HT2 := hide ((Turned.refl [p, q] w1).drew.trans ht2); clear hm2 ht2))
  have HD2 := hide (HD1.out.turned HT2.out (by simp; exact ⟨H.out.dp, H.out.dq⟩))
  have HC2 := hide (HC1.out.turnedS HT2.out (fun e he => by have := H.out.own e he; simp; exact ⟨this.1, this.2.1⟩))
  clear ax0 ax1 ax2 ay0 ay1 ay2 ay3 ay4
  generalize hS : layS l cs a c n = vS at *
  generalize hE : layE l cs a c n = vE at *
  have HSE : Hid (layS l cs a c n = vS ∧ layE l cs a c n = vE) := ⟨hS, hE⟩
  clear hS hE
  go_wp2_with fail
  go_region_held3 (fun w' => w'.cell? ⟨s, 0, none⟩ = some (.pointer (some ⟨p, 0, none⟩)) ∧ w'.cell? ⟨s, 1, none⟩ = some (.slice (some ⟨d, 0, none⟩) l.length l.length) ∧ w'.cell? ⟨s, 2, none⟩ = some (.slice ao len cap) ∧ w'.cell? ⟨o, 0, none⟩ = some (.int .i64 k) ∧ w'.cell? ⟨o, 1, none⟩ = some (.int .i64 a) ∧ w'.cell? ⟨o, 2, none⟩ = some (.int .i64 c) ∧ w'.cell? ⟨o, 3, none⟩ = some (.int .i64 n) ∧ w'.cell? ⟨o, 4, none⟩ = some (.int .i64 x)) (go_keep)
    (first
      | (go_at_call 23; refine (rlay_doc d l ao len cap cs a c n w2.drew H.out.few HIn.out.1 HIn.out.2 (HD2.out.turned (Turned.refl [] w2).drew (by simp)) (HC2.out.turned (Turned.refl [] w2).drew)).mono ?_; rw [HSE.out.1, HSE.out.2]; rintro e w3 ⟨rfl, hd3, ht3⟩; have cx0 : w3.cell? ⟨s, 0, none⟩ = some (.pointer (some ⟨p, 0, none⟩)) := (by rw [ht3.cell (block_lt bx0) (by simp; exact H.out.sd)]; exact bx0); have cx1 : w3.cell? ⟨s, 1, none⟩ = some (.slice (some ⟨d, 0, none⟩) l.length l.length) := (by rw [ht3.cell (block_lt bx1) (by simp; exact H.out.sd)]; exact bx1); have cx2 : w3.cell? ⟨s, 2, none⟩ = some (.slice ao len cap) := (by rw [ht3.cell (block_lt bx2) (by simp; exact H.out.sd)]; exact bx2); have cy0 : w3.cell? ⟨o, 0, none⟩ = some (.int .i64 k) := (by rw [ht3.cell (block_lt by0) (by simp; exact HOp.out.2.2)]; exact by0); have cy1 : w3.cell? ⟨o, 1, none⟩ = some (.int .i64 a) := (by rw [ht3.cell (block_lt by1) (by simp; exact HOp.out.2.2)]; exact by1); have cy2 : w3.cell? ⟨o, 2, none⟩ = some (.int .i64 c) := (by rw [ht3.cell (block_lt by2) (by simp; exact HOp.out.2.2)]; exact by2); have cy3 : w3.cell? ⟨o, 3, none⟩ = some (.int .i64 n) := (by rw [ht3.cell (block_lt by3) (by simp; exact HOp.out.2.2)]; exact by3); have cy4 : w3.cell? ⟨o, 4, none⟩ = some (.int .i64 x) := (by rw [ht3.cell (block_lt by4) (by simp; exact HOp.out.2.2)]; exact by4); have HD3 := hide hd3; have HT3 := hide ((Turned.refl [d] w2).drew.trans ht3); clear hd3 ht3))
  go_wp2_with fail
  go_ret
  have ht23 : Turned [p, q, d] w1 w3 := (HT2.out.mono (T := [p, q, d]) (by simp)).trans (HT3.out.mono (T := [p, q, d]) (by simp))
  refine ⟨rfl, ⟨HM2.out.turned HT3.out (by simp; exact Ne.symm H.out.dp) (by simp; exact Ne.symm H.out.dq), HD3.out, ?_, H.out.dp, H.out.dq, H.out.sp, H.out.sq, H.out.sd, HC2.out.turnedS HT3.out (fun e he => by have := H.out.own e he; simp; exact this.2.2), by rw [layL_length]; exact H.out.few, H.out.own⟩, (HT1.out.mono (T := [p, q, d]) (by simp)).trans ht23⟩
  rw [layL_length, ht23.block s (lt_of_heap HSb.out) (by simp; exact ⟨H.out.sp, H.out.sq, H.out.sd⟩)]
  exact HSb.out
end Go.Proofs.Ythigmechfcndcaa
