/-
  One call of both: one word is put.
-/
import Derived.Test.YthigmechfcndcaaBlocksDoes
import Derived.Test.YthigmechfcndcaaBlocksAwake
namespace Go.Proofs.Ythigmechfcndcaa
open Go.RowKit
set_option linter.unusedVariables false

theorem does_word_pl (s p q d : Nat) (l : List Int) (ao : Option Addr) (len cap : Nat) (cs : List Cls) (k a c n x : Int) (w : World) (h : Both w s p q d l ao len cap cs) (ha : In64 a) (hn : In64 x) (hk : k.tmod 4 = 3) (h1 : a < 0) :
    Calls Try.prog 6 #[.pointer (some ⟨s, 0, none⟩), .agg #[.int .i64 k, .int .i64 a, .int .i64 c, .int .i64 n, .int .i64 x]] w fun e w' => e = .returned (.bool true) ∧ Both w' s p q d l ao len cap cs ∧ Turned [p, q, d] w w' := by
  have hai := ha
  unfold In64 at hai
  have dA : decide (0 ≤ a) = false := by simp; omega
  obtain ⟨w1, hw1⟩ : ∃ w1, w1 = w.alloc (.cells #[.int .i64 k, .int .i64 a, .int .i64 c, .int .i64 n, .int .i64 x] 35) := ⟨_, rfl⟩
  obtain ⟨o, ho⟩ : ∃ o, o = w.heap.size := ⟨_, rfl⟩
  have ht1 : Turned [] w w1 := by rw [hw1]; exact (Turned.refl [] w).alloc _
  have hob : w1.heap[o]? = some (.cells #[.int .i64 k, .int .i64 a, .int .i64 c, .int .i64 n, .int .i64 x] 35) := by rw [hw1, ho]; exact heap_alloc_new _ _
  have hop : o ≠ p ∧ o ≠ q ∧ o ≠ d := by have h1 := h.mem.ltp; have h2 := h.mem.ltq; have h3 := h.doc.ltq; omega
  have hsb := h.box
  rw [← ht1.block s (lt_of_heap h.box) (by simp)] at hsb
  have ax0 := cell_of_heap hsb 0
  have ax1 := cell_of_heap hsb 1
  have ax2 := cell_of_heap hsb 2
  have ay0 := cell_of_heap hob 0
  have ay1 := cell_of_heap hob 1
  have ay2 := cell_of_heap hob 2
  have ay3 := cell_of_heap hob 3
  have ay4 := cell_of_heap hob 4
  simp only [List.getElem?_toArray, List.getElem?_cons_zero, List.getElem?_cons_succ] at ax0 ax1 ax2 ay0 ay1 ay2 ay3 ay4
  have HM1 := hide (h.mem.turned ht1 (by simp) (by simp))
  have HD1 := hide (h.doc.turned ht1 (by simp))
  have HC1 := hide (h.cls.turned ht1)
  have HT1 := hide ht1
  have H := hide h
  have HIn := hide (And.intro ha hn)
  have HOp := hide hop
  have HSb := hide hsb
  have HO := hide ho
  have HW1 := hide hw1
  have ax1' := ax1
  rw [hw1] at ax1'
  have hxs := h.box
  have hss : ¬ (s = w.heap.size) := (by have := lt_of_heap h.box; omega)
  have hst : ¬ (w.heap.size = s) := (by omega)
  have hs1 := cell_of_heap hxs 1
  simp only [List.getElem?_toArray, List.getElem?_cons_zero, List.getElem?_cons_succ] at hs1
  clear hxs
  clear h ht1 hob hop hsb ha hn ho hw1
  go_enter Try.func6, Try.ntmps6
  go_wp2_with fail
  rw [← HW1.out, ← HO.out]
  go_quiet (fail)
  go_wp2_with fail
  go_ret
  have htd : Turned [] w1 (w1.drewN nq) := (Turned.refl [] w1).drewN nq
  exact ⟨rfl, ⟨HM1.out.turned htd (by simp) (by simp), HD1.out.turned htd (by simp), HSb.out, H.out.dp, H.out.dq, H.out.sp, H.out.sq, H.out.sd, HC1.out.turned htd, H.out.few, H.out.own⟩, (HT1.out.trans htd).mono (by simp)⟩

theorem does_word_ph (s p q d : Nat) (l : List Int) (ao : Option Addr) (len cap : Nat) (cs : List Cls) (k a c n x : Int) (w : World) (h : Both w s p q d l ao len cap cs) (ha : In64 a) (hn : In64 x) (hk : k.tmod 4 = 3) (h1 : 0 ≤ a) (h2 : (l.length : Int) ≤ a) :
    Calls Try.prog 6 #[.pointer (some ⟨s, 0, none⟩), .agg #[.int .i64 k, .int .i64 a, .int .i64 c, .int .i64 n, .int .i64 x]] w fun e w' => e = .returned (.bool true) ∧ Both w' s p q d l ao len cap cs ∧ Turned [p, q, d] w w' := by
  have hai := ha
  unfold In64 at hai
  have dA : decide (0 ≤ a) = true := by simp; omega
  have dB : decide (a < (l.length : Int)) = false := by simp; omega
  obtain ⟨w1, hw1⟩ : ∃ w1, w1 = w.alloc (.cells #[.int .i64 k, .int .i64 a, .int .i64 c, .int .i64 n, .int .i64 x] 35) := ⟨_, rfl⟩
  obtain ⟨o, ho⟩ : ∃ o, o = w.heap.size := ⟨_, rfl⟩
  have ht1 : Turned [] w w1 := by rw [hw1]; exact (Turned.refl [] w).alloc _
  have hob : w1.heap[o]? = some (.cells #[.int .i64 k, .int .i64 a, .int .i64 c, .int .i64 n, .int .i64 x] 35) := by rw [hw1, ho]; exact heap_alloc_new _ _
  have hop : o ≠ p ∧ o ≠ q ∧ o ≠ d := by have h1 := h.mem.ltp; have h2 := h.mem.ltq; have h3 := h.doc.ltq; omega
  have hsb := h.box
  rw [← ht1.block s (lt_of_heap h.box) (by simp)] at hsb
  have ax0 := cell_of_heap hsb 0
  have ax1 := cell_of_heap hsb 1
  have ax2 := cell_of_heap hsb 2
  have ay0 := cell_of_heap hob 0
  have ay1 := cell_of_heap hob 1
  have ay2 := cell_of_heap hob 2
  have ay3 := cell_of_heap hob 3
  have ay4 := cell_of_heap hob 4
  simp only [List.getElem?_toArray, List.getElem?_cons_zero, List.getElem?_cons_succ] at ax0 ax1 ax2 ay0 ay1 ay2 ay3 ay4
  have HM1 := hide (h.mem.turned ht1 (by simp) (by simp))
  have HD1 := hide (h.doc.turned ht1 (by simp))
  have HC1 := hide (h.cls.turned ht1)
  have HT1 := hide ht1
  have H := hide h
  have HIn := hide (And.intro ha hn)
  have HOp := hide hop
  have HSb := hide hsb
  have HO := hide ho
  have HW1 := hide hw1
  have ax1' := ax1
  rw [hw1] at ax1'
  have hxs := h.box
  have hss : ¬ (s = w.heap.size) := (by have := lt_of_heap h.box; omega)
  have hst : ¬ (w.heap.size = s) := (by omega)
  have hs1 := cell_of_heap hxs 1
  simp only [List.getElem?_toArray, List.getElem?_cons_zero, List.getElem?_cons_succ] at hs1
  clear hxs
  clear h ht1 hob hop hsb ha hn ho hw1
  go_enter Try.func6, Try.ntmps6
  go_wp2_with fail
  rw [← HW1.out, ← HO.out]
  go_quiet (fail)
  go_wp2_with fail
  go_ret
  have htd : Turned [] w1 (w1.drewN nq) := (Turned.refl [] w1).drewN nq
  exact ⟨rfl, ⟨HM1.out.turned htd (by simp) (by simp), HD1.out.turned htd (by simp), HSb.out, H.out.dp, H.out.dq, H.out.sp, H.out.sq, H.out.sd, HC1.out.turned htd, H.out.few, H.out.own⟩, (HT1.out.trans htd).mono (by simp)⟩

theorem does_word_pi (s p q d : Nat) (l : List Int) (ao : Option Addr) (len cap : Nat) (cs : List Cls) (k : Int) (an : Nat) (c n x : Int) (w : World) (h : Both w s p q d l ao len cap cs) (ha : In64 (an : Int)) (hn : In64 x) (hk : k.tmod 4 = 3) (h1 : 0 ≤ (an : Int)) (h2 : (an : Int) < (l.length : Int)) :
    Calls Try.prog 6 #[.pointer (some ⟨s, 0, none⟩), .agg #[.int .i64 k, .int .i64 (an : Int), .int .i64 c, .int .i64 n, .int .i64 x]] w fun e w' => e = .returned (.bool true) ∧ Both w' s p q d (putL l (an : Int) [x]) ao len cap cs ∧ Turned [p, q, d] w w' := by
  have hai := ha
  unfold In64 at hai
  have dA : decide (0 ≤ (an : Int)) = true := decide_eq_true (by omega)
  have dC : decide (an < l.length) = true := decide_eq_true (by omega)
  have dB : decide ((an : Int) < (l.length : Int)) = true := decide_eq_true h2
  obtain ⟨w1, hw1⟩ : ∃ w1, w1 = w.alloc (.cells #[.int .i64 k, .int .i64 (an : Int), .int .i64 c, .int .i64 n, .int .i64 x] 35) := ⟨_, rfl⟩
  obtain ⟨o, ho⟩ : ∃ o, o = w.heap.size := ⟨_, rfl⟩
  have ht1 : Turned [] w w1 := by rw [hw1]; exact (Turned.refl [] w).alloc _
  have hob : w1.heap[o]? = some (.cells #[.int .i64 k, .int .i64 (an : Int), .int .i64 c, .int .i64 n, .int .i64 x] 35) := by rw [hw1, ho]; exact heap_alloc_new _ _
  have hop : o ≠ p ∧ o ≠ q ∧ o ≠ d := by have h1 := h.mem.ltp; have h2 := h.mem.ltq; have h3 := h.doc.ltq; omega
  have hsb := h.box
  rw [← ht1.block s (lt_of_heap h.box) (by simp)] at hsb
  have ax0 := cell_of_heap hsb 0
  have ax1 := cell_of_heap hsb 1
  have ax2 := cell_of_heap hsb 2
  have ay0 := cell_of_heap hob 0
  have ay1 := cell_of_heap hob 1
  have ay2 := cell_of_heap hob 2
  have ay3 := cell_of_heap hob 3
  have ay4 := cell_of_heap hob 4
  simp only [List.getElem?_toArray, List.getElem?_cons_zero, List.getElem?_cons_succ] at ax0 ax1 ax2 ay0 ay1 ay2 ay3 ay4
  have HM1 := hide (h.mem.turned ht1 (by simp) (by simp))
  have HD1 := hide (h.doc.turned ht1 (by simp))
  have HC1 := hide (h.cls.turned ht1)
  have HT1 := hide ht1
  have H := hide h
  have HIn := hide (And.intro ha hn)
  have HOp := hide hop
  have HSb := hide hsb
  have HO := hide ho
  have HW1 := hide hw1
  have ax1' := ax1
  rw [hw1] at ax1'
  have hxs := h.box
  have hss : ¬ (s = w.heap.size) := (by have := lt_of_heap h.box; omega)
  have hst : ¬ (w.heap.size = s) := (by omega)
  have hs1 := cell_of_heap hxs 1
  simp only [List.getElem?_toArray, List.getElem?_cons_zero, List.getElem?_cons_succ] at hs1
  clear hxs
  clear h ht1 hob hop hsb ha hn ho hw1
  go_enter Try.func6, Try.ntmps6
  go_wp2_with fail
  rw [← HW1.out, ← HO.out]
  go_quiet (fail)
  go_wp2_with fail
  obtain ⟨y, hy⟩ : ∃ y, l[an]? = some y := ⟨_, List.getElem?_eq_getElem (by omega)⟩
  have cd := (HD1.out.turned ((Turned.refl [] w1).drewN nq) (by simp)).word hy
  have fd := (HD1.out.turned ((Turned.refl [] w1).drewN nq) (by simp)).fw an
  have cd2 := (HD1.out.turned ((Turned.refl [] w1).drewN (nq + 1)) (by simp)).word hy
  have fd2 := (HD1.out.turned ((Turned.refl [] w1).drewN (nq + 1)) (by simp)).fw an
  have hds := H.out.sd
  have hds' : ¬ (d = s) := fun e => hds e.symm
  have hdo := HOp.out.2.2
  have hdo' : ¬ (d = o) := fun e => hdo e.symm
  clear hy
  go_region
  go_wp2_with fail
  have htW : Turned [d] w1 ((w1.drewN (nq + 1)).setCell ⟨d, an, none⟩ (.int .i64 x)) := ((Turned.refl [d] w1).drewN (nq + 1)).setCell (p := ⟨d, an, none⟩) (.inl (by simp)) _
  have hdW : Doc ((w1.drewN (nq + 1)).setCell ⟨d, an, none⟩ (.int .i64 x)) d (l.set an x) := (HD1.out.turned ((Turned.refl [] w1).drewN (nq + 1)) (by simp)).store an x
  generalize (w1.drewN (nq + 1)).setCell ⟨d, an, none⟩ (.int .i64 x) = w4 at *
  have bx0 : w4.cell? ⟨s, 0, none⟩ = some (.pointer (some ⟨p, 0, none⟩)) := (by rw [htW.cell (block_lt ax0) (by simp; exact H.out.sd)]; exact ax0)
  have bx1 : w4.cell? ⟨s, 1, none⟩ = some (.slice (some ⟨d, 0, none⟩) l.length l.length) := (by rw [htW.cell (block_lt ax1) (by simp; exact H.out.sd)]; exact ax1)
  have bx2 : w4.cell? ⟨s, 2, none⟩ = some (.slice ao len cap) := (by rw [htW.cell (block_lt ax2) (by simp; exact H.out.sd)]; exact ax2)
  have by0 : w4.cell? ⟨o, 0, none⟩ = some (.int .i64 k) := (by rw [htW.cell (block_lt ay0) (by simp; exact HOp.out.2.2)]; exact ay0)
  have by1 : w4.cell? ⟨o, 1, none⟩ = some (.int .i64 an) := (by rw [htW.cell (block_lt ay1) (by simp; exact HOp.out.2.2)]; exact ay1)
  have by2 : w4.cell? ⟨o, 2, none⟩ = some (.int .i64 c) := (by rw [htW.cell (block_lt ay2) (by simp; exact HOp.out.2.2)]; exact ay2)
  have by3 : w4.cell? ⟨o, 3, none⟩ = some (.int .i64 n) := (by rw [htW.cell (block_lt ay3) (by simp; exact HOp.out.2.2)]; exact ay3)
  have by4 : w4.cell? ⟨o, 4, none⟩ = some (.int .i64 x) := (by rw [htW.cell (block_lt ay4) (by simp; exact HOp.out.2.2)]; exact ay4)
  have HM4 := hide (HM1.out.turned htW (by simp; exact Ne.symm H.out.dp) (by simp; exact Ne.symm H.out.dq))
  have HD4 := hide hdW
  have HC4 := hide (HC1.out.turnedS htW (fun e he => by have := H.out.own e he; simp; exact this.2.2))
  have HT4 := hide htW
  have HPE : Hid (putE l an [x] = 0 ∧ putL l an [x] = l.set an x) := by
    have h0 : (0 : Int) ≤ an ∧ (an : Int) + ([x] : List Int).length ≤ l.length := by simp; omega
    refine ⟨by unfold putE; rw [if_pos h0], ?_⟩
    unfold putL
    rw [if_pos h0]
    have := over_more l an [x] 0 x (by simp; omega) rfl
    simpa [over] using this
  clear htW hdW cd fd cd2 fd2 ax0 ax1 ax2 ay0 ay1 ay2 ay3 ay4 hds hds' hdo hdo'
  go_region_held3 (fun w' => w'.cell? ⟨s, 0, none⟩ = some (.pointer (some ⟨p, 0, none⟩)) ∧ w'.cell? ⟨s, 1, none⟩ = some (.slice (some ⟨d, 0, none⟩) l.length l.length) ∧ w'.cell? ⟨s, 2, none⟩ = some (.slice ao len cap) ∧ w'.cell? ⟨o, 0, none⟩ = some (.int .i64 k) ∧ w'.cell? ⟨o, 1, none⟩ = some (.int .i64 an) ∧ w'.cell? ⟨o, 2, none⟩ = some (.int .i64 c) ∧ w'.cell? ⟨o, 3, none⟩ = some (.int .i64 n) ∧ w'.cell? ⟨o, 4, none⟩ = some (.int .i64 x)) (go_keep)
    (first
      | (go_at_call 20; refine (put_any p q l 0 an _ 1 1 [x] (w4.drew.alloc (.cells #[.int .i64 x] 2)) H.out.few (HM4.out.drew.alloc _) (isRow_one w4.drew x HIn.out.2)).mono ?_; rw [show ([x] : List Int).take 1 = [x] from rfl, HPE.out.1, HPE.out.2]; rintro e w5 ⟨rfl, hm5, ht5⟩; have cx0 : w5.cell? ⟨s, 0, none⟩ = some (.pointer (some ⟨p, 0, none⟩)) := (by rw [((((Turned.refl [p, q] w4).drew).alloc (.cells #[.int .i64 x] 2)).trans ht5).cell (block_lt bx0) (by simp; exact ⟨H.out.sp, H.out.sq⟩)]; exact bx0); have cx1 : w5.cell? ⟨s, 1, none⟩ = some (.slice (some ⟨d, 0, none⟩) l.length l.length) := (by rw [((((Turned.refl [p, q] w4).drew).alloc (.cells #[.int .i64 x] 2)).trans ht5).cell (block_lt bx1) (by simp; exact ⟨H.out.sp, H.out.sq⟩)]; exact bx1); have cx2 : w5.cell? ⟨s, 2, none⟩ = some (.slice ao len cap) := (by rw [((((Turned.refl [p, q] w4).drew).alloc (.cells #[.int .i64 x] 2)).trans ht5).cell (block_lt bx2) (by simp; exact ⟨H.out.sp, H.out.sq⟩)]; exact bx2); have cy0 : w5.cell? ⟨o, 0, none⟩ = some (.int .i64 k) := (by rw [((((Turned.refl [p, q] w4).drew).alloc (.cells #[.int .i64 x] 2)).trans ht5).cell (block_lt by0) (by simp; exact ⟨HOp.out.1, HOp.out.2.1⟩)]; exact by0); have cy1 : w5.cell? ⟨o, 1, none⟩ = some (.int .i64 an) := (by rw [((((Turned.refl [p, q] w4).drew).alloc (.cells #[.int .i64 x] 2)).trans ht5).cell (block_lt by1) (by simp; exact ⟨HOp.out.1, HOp.out.2.1⟩)]; exact by1); have cy2 : w5.cell? ⟨o, 2, none⟩ = some (.int .i64 c) := (by rw [((((Turned.refl [p, q] w4).drew).alloc (.cells #[.int .i64 x] 2)).trans ht5).cell (block_lt by2) (by simp; exact ⟨HOp.out.1, HOp.out.2.1⟩)]; exact by2); have cy3 : w5.cell? ⟨o, 3, none⟩ = some (.int .i64 n) := (by rw [((((Turned.refl [p, q] w4).drew).alloc (.cells #[.int .i64 x] 2)).trans ht5).cell (block_lt by3) (by simp; exact ⟨HOp.out.1, HOp.out.2.1⟩)]; exact by3); have cy4 : w5.cell? ⟨o, 4, none⟩ = some (.int .i64 x) := (by rw [((((Turned.refl [p, q] w4).drew).alloc (.cells #[.int .i64 x] 2)).trans ht5).cell (block_lt by4) (by simp; exact ⟨HOp.out.1, HOp.out.2.1⟩)]; exact by4); have HM5 := hide hm5; have HT5 := hide ((((Turned.refl [p, q] w4).drew).alloc (.cells #[.int .i64 x] 2)).trans ht5); clear hm5 ht5))
  go_wp2_with fail
  go_ret
  have ht45 : Turned [p, q, d] w1 w5 := (HT4.out.mono (T := [p, q, d]) (by simp)).trans (HT5.out.mono (T := [p, q, d]) (by simp))
  rw [HPE.out.2]
  refine ⟨rfl, ⟨HM5.out, HD4.out.turned HT5.out (by simp; exact ⟨H.out.dp, H.out.dq⟩), ?_, H.out.dp, H.out.dq, H.out.sp, H.out.sq, H.out.sd, HC4.out.turnedS HT5.out (fun e he => by have := H.out.own e he; simp; exact ⟨this.1, this.2.1⟩), by rw [List.length_set]; exact H.out.few, H.out.own⟩, (HT1.out.mono (T := [p, q, d]) (by simp)).trans ht45⟩
  rw [List.length_set, ht45.block s (lt_of_heap HSb.out) (by simp; exact ⟨H.out.sp, H.out.sq, H.out.sd⟩)]
  exact HSb.out

theorem does_word_ml (s p q d : Nat) (l : List Int) (ao : Option Addr) (len cap : Nat) (cs : List Cls) (k a c n x : Int) (w : World) (h : Both w s p q d l ao len cap cs) (ha : In64 a) (hn : In64 x) (hk : k.tmod 4 = -3) (h1 : a < 0) :
    Calls Try.prog 6 #[.pointer (some ⟨s, 0, none⟩), .agg #[.int .i64 k, .int .i64 a, .int .i64 c, .int .i64 n, .int .i64 x]] w fun e w' => e = .returned (.bool true) ∧ Both w' s p q d l ao len cap cs ∧ Turned [p, q, d] w w' := by
  have hai := ha
  unfold In64 at hai
  have dA : decide (0 ≤ a) = false := by simp; omega
  obtain ⟨w1, hw1⟩ : ∃ w1, w1 = w.alloc (.cells #[.int .i64 k, .int .i64 a, .int .i64 c, .int .i64 n, .int .i64 x] 35) := ⟨_, rfl⟩
  obtain ⟨o, ho⟩ : ∃ o, o = w.heap.size := ⟨_, rfl⟩
  have ht1 : Turned [] w w1 := by rw [hw1]; exact (Turned.refl [] w).alloc _
  have hob : w1.heap[o]? = some (.cells #[.int .i64 k, .int .i64 a, .int .i64 c, .int .i64 n, .int .i64 x] 35) := by rw [hw1, ho]; exact heap_alloc_new _ _
  have hop : o ≠ p ∧ o ≠ q ∧ o ≠ d := by have h1 := h.mem.ltp; have h2 := h.mem.ltq; have h3 := h.doc.ltq; omega
  have hsb := h.box
  rw [← ht1.block s (lt_of_heap h.box) (by simp)] at hsb
  have ax0 := cell_of_heap hsb 0
  have ax1 := cell_of_heap hsb 1
  have ax2 := cell_of_heap hsb 2
  have ay0 := cell_of_heap hob 0
  have ay1 := cell_of_heap hob 1
  have ay2 := cell_of_heap hob 2
  have ay3 := cell_of_heap hob 3
  have ay4 := cell_of_heap hob 4
  simp only [List.getElem?_toArray, List.getElem?_cons_zero, List.getElem?_cons_succ] at ax0 ax1 ax2 ay0 ay1 ay2 ay3 ay4
  have HM1 := hide (h.mem.turned ht1 (by simp) (by simp))
  have HD1 := hide (h.doc.turned ht1 (by simp))
  have HC1 := hide (h.cls.turned ht1)
  have HT1 := hide ht1
  have H := hide h
  have HIn := hide (And.intro ha hn)
  have HOp := hide hop
  have HSb := hide hsb
  have HO := hide ho
  have HW1 := hide hw1
  have ax1' := ax1
  rw [hw1] at ax1'
  have hxs := h.box
  have hss : ¬ (s = w.heap.size) := (by have := lt_of_heap h.box; omega)
  have hst : ¬ (w.heap.size = s) := (by omega)
  have hs1 := cell_of_heap hxs 1
  simp only [List.getElem?_toArray, List.getElem?_cons_zero, List.getElem?_cons_succ] at hs1
  clear hxs
  clear h ht1 hob hop hsb ha hn ho hw1
  go_enter Try.func6, Try.ntmps6
  go_wp2_with fail
  rw [← HW1.out, ← HO.out]
  go_quiet (fail)
  go_wp2_with fail
  go_ret
  have htd : Turned [] w1 (w1.drewN nq) := (Turned.refl [] w1).drewN nq
  exact ⟨rfl, ⟨HM1.out.turned htd (by simp) (by simp), HD1.out.turned htd (by simp), HSb.out, H.out.dp, H.out.dq, H.out.sp, H.out.sq, H.out.sd, HC1.out.turned htd, H.out.few, H.out.own⟩, (HT1.out.trans htd).mono (by simp)⟩

theorem does_word_mh (s p q d : Nat) (l : List Int) (ao : Option Addr) (len cap : Nat) (cs : List Cls) (k a c n x : Int) (w : World) (h : Both w s p q d l ao len cap cs) (ha : In64 a) (hn : In64 x) (hk : k.tmod 4 = -3) (h1 : 0 ≤ a) (h2 : (l.length : Int) ≤ a) :
    Calls Try.prog 6 #[.pointer (some ⟨s, 0, none⟩), .agg #[.int .i64 k, .int .i64 a, .int .i64 c, .int .i64 n, .int .i64 x]] w fun e w' => e = .returned (.bool true) ∧ Both w' s p q d l ao len cap cs ∧ Turned [p, q, d] w w' := by
  have hai := ha
  unfold In64 at hai
  have dA : decide (0 ≤ a) = true := by simp; omega
  have dB : decide (a < (l.length : Int)) = false := by simp; omega
  obtain ⟨w1, hw1⟩ : ∃ w1, w1 = w.alloc (.cells #[.int .i64 k, .int .i64 a, .int .i64 c, .int .i64 n, .int .i64 x] 35) := ⟨_, rfl⟩
  obtain ⟨o, ho⟩ : ∃ o, o = w.heap.size := ⟨_, rfl⟩
  have ht1 : Turned [] w w1 := by rw [hw1]; exact (Turned.refl [] w).alloc _
  have hob : w1.heap[o]? = some (.cells #[.int .i64 k, .int .i64 a, .int .i64 c, .int .i64 n, .int .i64 x] 35) := by rw [hw1, ho]; exact heap_alloc_new _ _
  have hop : o ≠ p ∧ o ≠ q ∧ o ≠ d := by have h1 := h.mem.ltp; have h2 := h.mem.ltq; have h3 := h.doc.ltq; omega
  have hsb := h.box
  rw [← ht1.block s (lt_of_heap h.box) (by simp)] at hsb
  have ax0 := cell_of_heap hsb 0
  have ax1 := cell_of_heap hsb 1
  have ax2 := cell_of_heap hsb 2
  have ay0 := cell_of_heap hob 0
  have ay1 := cell_of_heap hob 1
  have ay2 := cell_of_heap hob 2
  have ay3 := cell_of_heap hob 3
  have ay4 := cell_of_heap hob 4
  simp only [List.getElem?_toArray, List.getElem?_cons_zero, List.getElem?_cons_succ] at ax0 ax1 ax2 ay0 ay1 ay2 ay3 ay4
  have HM1 := hide (h.mem.turned ht1 (by simp) (by simp))
  have HD1 := hide (h.doc.turned ht1 (by simp))
  have HC1 := hide (h.cls.turned ht1)
  have HT1 := hide ht1
  have H := hide h
  have HIn := hide (And.intro ha hn)
  have HOp := hide hop
  have HSb := hide hsb
  have HO := hide ho
  have HW1 := hide hw1
  have ax1' := ax1
  rw [hw1] at ax1'
  have hxs := h.box
  have hss : ¬ (s = w.heap.size) := (by have := lt_of_heap h.box; omega)
  have hst : ¬ (w.heap.size = s) := (by omega)
  have hs1 := cell_of_heap hxs 1
  simp only [List.getElem?_toArray, List.getElem?_cons_zero, List.getElem?_cons_succ] at hs1
  clear hxs
  clear h ht1 hob hop hsb ha hn ho hw1
  go_enter Try.func6, Try.ntmps6
  go_wp2_with fail
  rw [← HW1.out, ← HO.out]
  go_quiet (fail)
  go_wp2_with fail
  go_ret
  have htd : Turned [] w1 (w1.drewN nq) := (Turned.refl [] w1).drewN nq
  exact ⟨rfl, ⟨HM1.out.turned htd (by simp) (by simp), HD1.out.turned htd (by simp), HSb.out, H.out.dp, H.out.dq, H.out.sp, H.out.sq, H.out.sd, HC1.out.turned htd, H.out.few, H.out.own⟩, (HT1.out.trans htd).mono (by simp)⟩

theorem does_word_mi (s p q d : Nat) (l : List Int) (ao : Option Addr) (len cap : Nat) (cs : List Cls) (k : Int) (an : Nat) (c n x : Int) (w : World) (h : Both w s p q d l ao len cap cs) (ha : In64 (an : Int)) (hn : In64 x) (hk : k.tmod 4 = -3) (h1 : 0 ≤ (an : Int)) (h2 : (an : Int) < (l.length : Int)) :
    Calls Try.prog 6 #[.pointer (some ⟨s, 0, none⟩), .agg #[.int .i64 k, .int .i64 (an : Int), .int .i64 c, .int .i64 n, .int .i64 x]] w fun e w' => e = .returned (.bool true) ∧ Both w' s p q d (putL l (an : Int) [x]) ao len cap cs ∧ Turned [p, q, d] w w' := by
  have hai := ha
  unfold In64 at hai
  have dA : decide (0 ≤ (an : Int)) = true := decide_eq_true (by omega)
  have dC : decide (an < l.length) = true := decide_eq_true (by omega)
  have dB : decide ((an : Int) < (l.length : Int)) = true := decide_eq_true h2
  obtain ⟨w1, hw1⟩ : ∃ w1, w1 = w.alloc (.cells #[.int .i64 k, .int .i64 (an : Int), .int .i64 c, .int .i64 n, .int .i64 x] 35) := ⟨_, rfl⟩
  obtain ⟨o, ho⟩ : ∃ o, o = w.heap.size := ⟨_, rfl⟩
  have ht1 : Turned [] w w1 := by rw [hw1]; exact (Turned.refl [] w).alloc _
  have hob : w1.heap[o]? = some (.cells #[.int .i64 k, .int .i64 (an : Int), .int .i64 c, .int .i64 n, .int .i64 x] 35) := by rw [hw1, ho]; exact heap_alloc_new _ _
  have hop : o ≠ p ∧ o ≠ q ∧ o ≠ d := by have h1 := h.mem.ltp; have h2 := h.mem.ltq; have h3 := h.doc.ltq; omega
  have hsb := h.box
  rw [← ht1.block s (lt_of_heap h.box) (by simp)] at hsb
  have ax0 := cell_of_heap hsb 0
  have ax1 := cell_of_heap hsb 1
  have ax2 := cell_of_heap hsb 2
  have ay0 := cell_of_heap hob 0
  have ay1 := cell_of_heap hob 1
  have ay2 := cell_of_heap hob 2
  have ay3 := cell_of_heap hob 3
  have ay4 := cell_of_heap hob 4
  simp only [List.getElem?_toArray, List.getElem?_cons_zero, List.getElem?_cons_succ] at ax0 ax1 ax2 ay0 ay1 ay2 ay3 ay4
  have HM1 := hide (h.mem.turned ht1 (by simp) (by simp))
  have HD1 := hide (h.doc.turned ht1 (by simp))
  have HC1 := hide (h.cls.turned ht1)
  have HT1 := hide ht1
  have H := hide h
  have HIn := hide (And.intro ha hn)
  have HOp := hide hop
  have HSb := hide hsb
  have HO := hide ho
  have HW1 := hide hw1
  have ax1' := ax1
  rw [hw1] at ax1'
  have hxs := h.box
  have hss : ¬ (s = w.heap.size) := (by have := lt_of_heap h.box; omega)
  have hst : ¬ (w.heap.size = s) := (by omega)
  have hs1 := cell_of_heap hxs 1
  simp only [List.getElem?_toArray, List.getElem?_cons_zero, List.getElem?_cons_succ] at hs1
  clear hxs
  clear h ht1 hob hop hsb ha hn ho hw1
  go_enter Try.func6, Try.ntmps6
  go_wp2_with fail
  rw [← HW1.out, ← HO.out]
  go_quiet (fail)
  go_wp2_with fail
  obtain ⟨y, hy⟩ : ∃ y, l[an]? = some y := ⟨_, List.getElem?_eq_getElem (by omega)⟩
  have cd := (HD1.out.turned ((Turned.refl [] w1).drewN nq) (by simp)).word hy
  have fd := (HD1.out.turned ((Turned.refl [] w1).drewN nq) (by simp)).fw an
  have cd2 := (HD1.out.turned ((Turned.refl [] w1).drewN (nq + 1)) (by simp)).word hy
  have fd2 := (HD1.out.turned ((Turned.refl [] w1).drewN (nq + 1)) (by simp)).fw an
  have hds := H.out.sd
  have hds' : ¬ (d = s) := fun e => hds e.symm
  have hdo := HOp.out.2.2
  have hdo' : ¬ (d = o) := fun e => hdo e.symm
  clear hy
  go_region
  go_wp2_with fail
  have htW : Turned [d] w1 ((w1.drewN (nq + 1)).setCell ⟨d, an, none⟩ (.int .i64 x)) := ((Turned.refl [d] w1).drewN (nq + 1)).setCell (p := ⟨d, an, none⟩) (.inl (by simp)) _
  have hdW : Doc ((w1.drewN (nq + 1)).setCell ⟨d, an, none⟩ (.int .i64 x)) d (l.set an x) := (HD1.out.turned ((Turned.refl [] w1).drewN (nq + 1)) (by simp)).store an x
  generalize (w1.drewN (nq + 1)).setCell ⟨d, an, none⟩ (.int .i64 x) = w4 at *
  have bx0 : w4.cell? ⟨s, 0, none⟩ = some (.pointer (some ⟨p, 0, none⟩)) := (by rw [htW.cell (block_lt ax0) (by simp; exact H.out.sd)]; exact ax0)
  have bx1 : w4.cell? ⟨s, 1, none⟩ = some (.slice (some ⟨d, 0, none⟩) l.length l.length) := (by rw [htW.cell (block_lt ax1) (by simp; exact H.out.sd)]; exact ax1)
  have bx2 : w4.cell? ⟨s, 2, none⟩ = some (.slice ao len cap) := (by rw [htW.cell (block_lt ax2) (by simp; exact H.out.sd)]; exact ax2)
  have by0 : w4.cell? ⟨o, 0, none⟩ = some (.int .i64 k) := (by rw [htW.cell (block_lt ay0) (by simp; exact HOp.out.2.2)]; exact ay0)
  have by1 : w4.cell? ⟨o, 1, none⟩ = some (.int .i64 an) := (by rw [htW.cell (block_lt ay1) (by simp; exact HOp.out.2.2)]; exact ay1)
  have by2 : w4.cell? ⟨o, 2, none⟩ = some (.int .i64 c) := (by rw [htW.cell (block_lt ay2) (by simp; exact HOp.out.2.2)]; exact ay2)
  have by3 : w4.cell? ⟨o, 3, none⟩ = some (.int .i64 n) := (by rw [htW.cell (block_lt ay3) (by simp; exact HOp.out.2.2)]; exact ay3)
  have by4 : w4.cell? ⟨o, 4, none⟩ = some (.int .i64 x) := (by rw [htW.cell (block_lt ay4) (by simp; exact HOp.out.2.2)]; exact ay4)
  have HM4 := hide (HM1.out.turned htW (by simp; exact Ne.symm H.out.dp) (by simp; exact Ne.symm H.out.dq))
  have HD4 := hide hdW
  have HC4 := hide (HC1.out.turnedS htW (fun e he => by have := H.out.own e he; simp; exact this.2.2))
  have HT4 := hide htW
  have HPE : Hid (putE l an [x] = 0 ∧ putL l an [x] = l.set an x) := by
    have h0 : (0 : Int) ≤ an ∧ (an : Int) + ([x] : List Int).length ≤ l.length := by simp; omega
    refine ⟨by unfold putE; rw [if_pos h0], ?_⟩
    unfold putL
    rw [if_pos h0]
    have := over_more l an [x] 0 x (by simp; omega) rfl
    simpa [over] using this
  clear htW hdW cd fd cd2 fd2 ax0 ax1 ax2 ay0 ay1 ay2 ay3 ay4 hds hds' hdo hdo'
  go_region_held3 (fun w' => w'.cell? ⟨s, 0, none⟩ = some (.pointer (some ⟨p, 0, none⟩)) ∧ w'.cell? ⟨s, 1, none⟩ = some (.slice (some ⟨d, 0, none⟩) l.length l.length) ∧ w'.cell? ⟨s, 2, none⟩ = some (.slice ao len cap) ∧ w'.cell? ⟨o, 0, none⟩ = some (.int .i64 k) ∧ w'.cell? ⟨o, 1, none⟩ = some (.int .i64 an) ∧ w'.cell? ⟨o, 2, none⟩ = some (.int .i64 c) ∧ w'.cell? ⟨o, 3, none⟩ = some (.int .i64 n) ∧ w'.cell? ⟨o, 4, none⟩ = some (.int .i64 x)) (go_keep)
    (first
      | (go_at_call 20; refine (put_any p q l 0 an _ 1 1 [x] (w4.drew.alloc (.cells #[.int .i64 x] 2)) H.out.few (HM4.out.drew.alloc _) (isRow_one w4.drew x HIn.out.2)).mono ?_; rw [show ([x] : List Int).take 1 = [x] from rfl, HPE.out.1, HPE.out.2]; rintro e w5 ⟨rfl, hm5, ht5⟩; have cx0 : w5.cell? ⟨s, 0, none⟩ = some (.pointer (some ⟨p, 0, none⟩)) := (by rw [((((Turned.refl [p, q] w4).drew).alloc (.cells #[.int .i64 x] 2)).trans ht5).cell (block_lt bx0) (by simp; exact ⟨H.out.sp, H.out.sq⟩)]; exact bx0); have cx1 : w5.cell? ⟨s, 1, none⟩ = some (.slice (some ⟨d, 0, none⟩) l.length l.length) := (by rw [((((Turned.refl [p, q] w4).drew).alloc (.cells #[.int .i64 x] 2)).trans ht5).cell (block_lt bx1) (by simp; exact ⟨H.out.sp, H.out.sq⟩)]; exact bx1); have cx2 : w5.cell? ⟨s, 2, none⟩ = some (.slice ao len cap) := (by rw [((((Turned.refl [p, q] w4).drew).alloc (.cells #[.int .i64 x] 2)).trans ht5).cell (block_lt bx2) (by simp; exact ⟨H.out.sp, H.out.sq⟩)]; exact bx2); have cy0 : w5.cell? ⟨o, 0, none⟩ = some (.int .i64 k) := (by rw [((((Turned.refl [p, q] w4).drew).alloc (.cells #[.int .i64 x] 2)).trans ht5).cell (block_lt by0) (by simp; exact ⟨HOp.out.1, HOp.out.2.1⟩)]; exact by0); have cy1 : w5.cell? ⟨o, 1, none⟩ = some (.int .i64 an) := (by rw [((((Turned.refl [p, q] w4).drew).alloc (.cells #[.int .i64 x] 2)).trans ht5).cell (block_lt by1) (by simp; exact ⟨HOp.out.1, HOp.out.2.1⟩)]; exact by1); have cy2 : w5.cell? ⟨o, 2, none⟩ = some (.int .i64 c) := (by rw [((((Turned.refl [p, q] w4).drew).alloc (.cells #[.int .i64 x] 2)).trans ht5).cell (block_lt by2) (by simp; exact ⟨HOp.out.1, HOp.out.2.1⟩)]; exact by2); have cy3 : w5.cell? ⟨o, 3, none⟩ = some (.int .i64 n) := (by rw [((((Turned.refl [p, q] w4).drew).alloc (.cells #[.int .i64 x] 2)).trans ht5).cell (block_lt by3) (by simp; exact ⟨HOp.out.1, HOp.out.2.1⟩)]; exact by3); have cy4 : w5.cell? ⟨o, 4, none⟩ = some (.int .i64 x) := (by rw [((((Turned.refl [p, q] w4).drew).alloc (.cells #[.int .i64 x] 2)).trans ht5).cell (block_lt by4) (by simp; exact ⟨HOp.out.1, HOp.out.2.1⟩)]; exact by4); have HM5 := hide hm5; have HT5 := hide ((((Turned.refl [p, q] w4).drew).alloc (.cells #[.int .i64 x] 2)).trans ht5); clear hm5 ht5))
  go_wp2_with fail
  go_ret
  have ht45 : Turned [p, q, d] w1 w5 := (HT4.out.mono (T := [p, q, d]) (by simp)).trans (HT5.out.mono (T := [p, q, d]) (by simp))
  rw [HPE.out.2]
  refine ⟨rfl, ⟨HM5.out, HD4.out.turned HT5.out (by simp; exact ⟨H.out.dp, H.out.dq⟩), ?_, H.out.dp, H.out.dq, H.out.sp, H.out.sq, H.out.sd, HC4.out.turnedS HT5.out (fun e he => by have := H.out.own e he; simp; exact ⟨this.1, this.2.1⟩), by rw [List.length_set]; exact H.out.few, H.out.own⟩, (HT1.out.mono (T := [p, q, d]) (by simp)).trans ht45⟩
  rw [List.length_set, ht45.block s (lt_of_heap HSb.out) (by simp; exact ⟨H.out.sp, H.out.sq, H.out.sd⟩)]
  exact HSb.out

/-- The words behind it. -/
def wordL (l : List Int) (a x : Int) : List Int := if 0 ≤ a ∧ a < l.length then putL l a [x] else l
theorem does_word (s p q d : Nat) (l : List Int) (ao : Option Addr) (len cap : Nat) (cs : List Cls) (k a c n x : Int) (w : World) (h : Both w s p q d l ao len cap cs) (ha : In64 a) (hx : In64 x) (hk : k.tmod 4 = 3 ∨ k.tmod 4 = -3) :
    Calls Try.prog 6 #[.pointer (some ⟨s, 0, none⟩), .agg #[.int .i64 k, .int .i64 a, .int .i64 c, .int .i64 n, .int .i64 x]] w fun e w' => e = .returned (.bool true) ∧ Both w' s p q d (wordL l a x) ao len cap cs ∧ Turned [p, q, d] w w' := by
  unfold wordL
  by_cases h1 : 0 ≤ a
  · by_cases h2 : a < l.length
    · rw [if_pos ⟨h1, h2⟩]
      obtain ⟨an, rfl⟩ := Int.eq_ofNat_of_zero_le h1
      rcases hk with hk | hk
      · exact does_word_pi s p q d l ao len cap cs k an c n x w h ha hx hk h1 h2
      · exact does_word_mi s p q d l ao len cap cs k an c n x w h ha hx hk h1 h2
    · rw [if_neg (fun e => h2 e.2)]
      rcases hk with hk | hk
      · exact does_word_ph s p q d l ao len cap cs k a c n x w h ha hx hk h1 (by omega)
      · exact does_word_mh s p q d l ao len cap cs k a c n x w h ha hx hk h1 (by omega)
  · rw [if_neg (fun e => h1 e.1)]
    rcases hk with hk | hk
    · exact does_word_pl s p q d l ao len cap cs k a c n x w h ha hx hk (by omega)
    · exact does_word_ml s p q d l ao len cap cs k a c n x w h ha hx hk (by omega)
end Go.Proofs.Ythigmechfcndcaa
