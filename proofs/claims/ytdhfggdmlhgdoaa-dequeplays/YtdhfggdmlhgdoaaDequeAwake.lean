/-
  'awake' of the laws of layer 6: the document's examples. (Text by DequeAwake.gen.py.)
-/
import Derived.Test.YtdhfggdmlhgdoaaDequeLaw
namespace Go.Proofs.Ytdhfggdmlhgdoaa
open Go.RowKit

set_option maxHeartbeats 4000000 in
set_option maxRecDepth 100000 in
theorem awake_any (w : World) :
    Calls Try.prog 8 #[] w fun e w' => e = .returned (.bool true) ∧ Turned [] w w' := by
  have HNeed := hide (need_ok 2 1 (by omega) (by omega) w)
  have HNew := hide (new_any 7 w)
  go_enter Try.func8, Try.ntmps8
  go_wp2_with fail
  refine HNeed.out.mono ?_
  rintro e w0 ⟨rfl, rfl⟩
  go_wp2_with fail
  refine HNew.out.mono ?_
  rintro e w1 ⟨rfl, h1, t1, -⟩
  obtain ⟨p, hp⟩ : ∃ p, p = w0.heap.size + 1 := ⟨_, rfl⟩
  obtain ⟨q, hq⟩ : ∃ q, q = w0.heap.size := ⟨_, rfl⟩
  rw [← hp, ← hq] at h1
  rw [← hp]
  have hpq : w0.heap.size ≤ p ∧ w0.heap.size ≤ q := by omega
  have HPQ := hide hpq
  have HT := hide t1
  have HD := hide (dnew_ok w1 p q ⟨0, 2, 1⟩ (List.replicate 7 0) 0 (by simp) (by simp) (by simp) (by simp) h1)
  clear h1 t1 hp hq HNeed HNew hpq
  go_wp2_with fail
  refine HD.out.mono ?_
  rintro e w2 ⟨rfl, h2, t2, -⟩
  have D2 := hide (show Dn w2 w1.heap.size p q ⟨0, 2, 1⟩ [0, 0, 0, 0, 0, 0, 0] from ⟨0, h2⟩)
  have T2 := hide (HT.out.trans t2)
  have hd : w0.heap.size ≤ w1.heap.size := HT.out.size
  generalize w1.heap.size = d at *
  have HDD := hide hd
  clear h2 t2 HT HD hd

  -- push 5
  go_wp2_with fail
  refine (D2.out.push 5).mono ?_
  rintro e wa ⟨rfl, h3, h4, h5, h6⟩
  have ta := T2.out.trans h5
  have hb : w0.heap.size ≤ w2.heap.size := T2.out.size
  generalize w2.heap.size = b at *
  go_wp2_with fail
  refine (h3.did h4 h6 [0, 1, 0, 0, 5, 0, 0] (5, 0) (.inl rfl) (by decide) (by decide) (by decide) (by decide) (by decide)).mono ?_
  rintro e w3 ⟨rfl, h7, h8⟩
  have T3 := hide (ta.trans_new h8 (fun i hi => by have := HPQ.out; simp at hi; right; rcases hi with rfl | rfl | rfl <;> omega))
  have D3 := hide h7
  clear ta hb h3 h4 h5 h6 h7 h8 T2 D2

  -- push 6
  go_wp2_with fail
  refine (D3.out.push 6).mono ?_
  rintro e wa ⟨rfl, h3, h4, h5, h6⟩
  have ta := T3.out.trans h5
  have hb : w0.heap.size ≤ w3.heap.size := T3.out.size
  generalize w3.heap.size = b at *
  go_wp2_with fail
  refine (h3.did h4 h6 [0, 2, 0, 0, 5, 6, 0] (6, 0) (.inl rfl) (by decide) (by decide) (by decide) (by decide) (by decide)).mono ?_
  rintro e w4 ⟨rfl, h7, h8⟩
  have T4 := hide (ta.trans_new h8 (fun i hi => by have := HPQ.out; simp at hi; right; rcases hi with rfl | rfl | rfl <;> omega))
  have D4 := hide h7
  clear ta hb h3 h4 h5 h6 h7 h8 T3 D3

  -- push 7
  go_wp2_with fail
  refine (D4.out.push 7).mono ?_
  rintro e wa ⟨rfl, h3, h4, h5, h6⟩
  have ta := T4.out.trans h5
  have hb : w0.heap.size ≤ w4.heap.size := T4.out.size
  generalize w4.heap.size = b at *
  go_wp2_with fail
  refine (h3.did h4 h6 [0, 2, 0, 1, 5, 6, 7] (7, 0) (.inl rfl) (by decide) (by decide) (by decide) (by decide) (by decide)).mono ?_
  rintro e w5 ⟨rfl, h7, h8⟩
  have T5 := hide (ta.trans_new h8 (fun i hi => by have := HPQ.out; simp at hi; right; rcases hi with rfl | rfl | rfl <;> omega))
  have D5 := hide h7
  clear ta hb h3 h4 h5 h6 h7 h8 T4 D4

  -- push 8
  go_wp2_with fail
  refine (D5.out.push 8).mono ?_
  rintro e wa ⟨rfl, h3, h4, h5, h6⟩
  have ta := T5.out.trans h5
  have hb : w0.heap.size ≤ w5.heap.size := T5.out.size
  generalize w5.heap.size = b at *
  go_wp2_with fail
  refine (h3.did h4 h6 [0, 2, 0, 1, 5, 6, 7] (0, 14) (.inl rfl) (by decide) (by decide) (by decide) (by decide) (by decide)).mono ?_
  rintro e w6 ⟨rfl, h7, h8⟩
  have T6 := hide (ta.trans_new h8 (fun i hi => by have := HPQ.out; simp at hi; right; rcases hi with rfl | rfl | rfl <;> omega))
  have D6 := hide h7
  clear ta hb h3 h4 h5 h6 h7 h8 T5 D5

  -- Items
  have HI := hide (by obtain ⟨s, h⟩ := D6.out; exact items_any w6 d p q ⟨0, 2, 1⟩ _ s (by decide) (by decide) h)
  go_wp2_with fail
  refine HI.out.mono ?_
  rintro e w7 ⟨v, rfl, ⟨len, ho⟩, ht⟩
  have hlen : len = 3 := by have := ho.1; rw [List.length_map] at this; rw [show (itemsOf ⟨0, 2, 1⟩ [0, 2, 0, 1, 5, 6, 7]).length = 3 by decide] at this; omega
  subst hlen
  obtain ⟨-, ao, cap, rfl, -⟩ := ownsRow_any ho
  have D7 := hide (D6.out.turned ht (by simp) (by simp) (by simp))
  have T7 := hide (T6.out.trans ht)
  clear HI ho ht T6 D6

  -- steal 0
  go_wp2_with fail
  refine (D7.out.steal).mono ?_
  rintro e wa ⟨rfl, h3, h4, h5, h6⟩
  have ta := T7.out.trans h5
  have hb : w0.heap.size ≤ w7.heap.size := T7.out.size
  generalize w7.heap.size = b at *
  go_wp2_with fail
  refine (h3.did h4 h6 [1, 2, 0, 1, 5, 6, 7] (5, 0) (.inr (.inr rfl)) (by decide) (by decide) (by decide) (by decide) (by decide)).mono ?_
  rintro e w8 ⟨rfl, h7, h8⟩
  have T8 := hide (ta.trans_new h8 (fun i hi => by have := HPQ.out; simp at hi; right; rcases hi with rfl | rfl | rfl <;> omega))
  have D8 := hide h7
  clear ta hb h3 h4 h5 h6 h7 h8 T7 D7

  -- pop 0
  go_wp2_with fail
  refine (D8.out.pop).mono ?_
  rintro e wa ⟨rfl, h3, h4, h5, h6⟩
  have ta := T8.out.trans h5
  have hb : w0.heap.size ≤ w8.heap.size := T8.out.size
  generalize w8.heap.size = b at *
  go_wp2_with fail
  refine (h3.did h4 h6 [2, 2, 0, 1, 5, 6, 7] (6, 0) (.inr (.inl rfl)) (by decide) (by decide) (by decide) (by decide) (by decide)).mono ?_
  rintro e w9 ⟨rfl, h7, h8⟩
  have T9 := hide (ta.trans_new h8 (fun i hi => by have := HPQ.out; simp at hi; right; rcases hi with rfl | rfl | rfl <;> omega))
  have D9 := hide h7
  clear ta hb h3 h4 h5 h6 h7 h8 T8 D8

  -- pop 0
  go_wp2_with fail
  refine (D9.out.pop).mono ?_
  rintro e wa ⟨rfl, h3, h4, h5, h6⟩
  have ta := T9.out.trans h5
  have hb : w0.heap.size ≤ w9.heap.size := T9.out.size
  generalize w9.heap.size = b at *
  go_wp2_with fail
  refine (h3.did h4 h6 [2, 2, 0, 0, 5, 6, 7] (7, 0) (.inr (.inl rfl)) (by decide) (by decide) (by decide) (by decide) (by decide)).mono ?_
  rintro e w10 ⟨rfl, h7, h8⟩
  have T10 := hide (ta.trans_new h8 (fun i hi => by have := HPQ.out; simp at hi; right; rcases hi with rfl | rfl | rfl <;> omega))
  have D10 := hide h7
  clear ta hb h3 h4 h5 h6 h7 h8 T9 D9

  -- pop 0
  go_wp2_with fail
  refine (D10.out.pop).mono ?_
  rintro e wa ⟨rfl, h3, h4, h5, h6⟩
  have ta := T10.out.trans h5
  have hb : w0.heap.size ≤ w10.heap.size := T10.out.size
  generalize w10.heap.size = b at *
  go_wp2_with fail
  refine (h3.did h4 h6 [2, 2, 0, 0, 5, 6, 7] (0, 15) (.inr (.inl rfl)) (by decide) (by decide) (by decide) (by decide) (by decide)).mono ?_
  rintro e w11 ⟨rfl, h7, h8⟩
  have T11 := hide (ta.trans_new h8 (fun i hi => by have := HPQ.out; simp at hi; right; rcases hi with rfl | rfl | rfl <;> omega))
  have D11 := hide h7
  clear ta hb h3 h4 h5 h6 h7 h8 T10 D10

  -- push 9
  go_wp2_with fail
  refine (D11.out.push 9).mono ?_
  rintro e wa ⟨rfl, h3, h4, h5, h6⟩
  have ta := T11.out.trans h5
  have hb : w0.heap.size ≤ w11.heap.size := T11.out.size
  generalize w11.heap.size = b at *
  go_wp2_with fail
  refine (h3.did h4 h6 [2, 3, 0, 0, 9, 6, 7] (9, 0) (.inl rfl) (by decide) (by decide) (by decide) (by decide) (by decide)).mono ?_
  rintro e w12 ⟨rfl, h7, h8⟩
  have T12 := hide (ta.trans_new h8 (fun i hi => by have := HPQ.out; simp at hi; right; rcases hi with rfl | rfl | rfl <;> omega))
  have D12 := hide h7
  clear ta hb h3 h4 h5 h6 h7 h8 T11 D11

  -- two steals
  go_wp2_with fail
  refine D12.out.steal.mono ?_
  rintro e wa ⟨rfl, h3, h4, h5, h6⟩
  have ta := T12.out.trans h5
  have hb : w0.heap.size ≤ w12.heap.size := T12.out.size
  have hlt := h4.lt
  generalize w12.heap.size = b1 at *
  clear T12 D12 h5
  go_wp2_with fail
  refine h3.steal.mono ?_
  rintro e wb ⟨rfl, h7, h8, h9, h10⟩
  have tb := ta.trans h9
  have h4' := h4.turned h9 (by simp)
  have hb2 : w0.heap.size ≤ wa.heap.size := ta.size
  have hne : b1 ≠ wa.heap.size := by omega
  generalize wa.heap.size = b2 at *
  have t0 : Turned [] wb (wb.alloc (.cells #[.pointer (some ⟨b1, 0, none⟩), .pointer (some ⟨b2, 0, none⟩)] 37)) := (Turned.refl _ _).alloc _
  have HR := hide (run_two (wb.alloc (.cells #[.pointer (some ⟨b1, 0, none⟩), .pointer (some ⟨b2, 0, none⟩)] 37)) d p q b1 b2 ⟨0, 2, 1⟩ [2, 3, 0, 0, 9, 6, 7] (opNew .stealReadTop 0) (opNew .stealReadTop 0) wb.heap.size 2 8 (by omega) 1000 (by omega) (fit_new (.inr (.inr rfl)) (by decide) (by decide)) (fit_new (.inr (.inr rfl)) (by decide) (by decide)) (by decide) (by decide) (by rw [cell_of_heap (heap_alloc_new _ _)]; rfl) (by rw [cell_of_heap (heap_alloc_new _ _)]; rfl) hne h6 h10 (h7.turned t0 (by simp) (by simp) (by simp)) (h4'.turned t0 (by simp)) (h8.turned t0 (by simp)))
  have TB := hide (tb.trans t0)
  have HB := hide (And.intro hb hb2)
  clear h3 h4 h4' h6 h7 h8 h9 h10 ta tb t0 hb hb2 hlt
  go_wp2_with fail
  refine HR.out.mono ?_
  rintro e wc ⟨⟨nn, rfl⟩, -, h2, h3, h4⟩
  have TC := hide (TB.out.trans_new h4 (fun i hi => by have := HPQ.out; have := HB.out; simp at hi; right; rcases hi with rfl | rfl | rfl | rfl <;> omega))
  have V1 := hide (value_any wc d b1 _ h2)
  have V2 := hide (fun m => value_any (wc.drewN m) d b2 _ (h3.drewN m))
  rw [show valOf (goes2 ⟨0, 2, 1⟩ 8 ([2, 3, 0, 0, 9, 6, 7], opNew .stealReadTop 0, opNew .stealReadTop 0)).2.1 = (9, 0) by decide] at V1
  rw [show valOf (goes2 ⟨0, 2, 1⟩ 8 ([2, 3, 0, 0, 9, 6, 7], opNew .stealReadTop 0, opNew .stealReadTop 0)).2.2 = (0, 16) by decide] at V2
  clear HR h2 h3 h4 TB
  go_wp2_with fail
  refine V1.out.mono ?_
  rintro e wd ⟨rfl, m1, rfl⟩
  clear V1
  go_wp2_with fail
  refine (V2.out _).mono ?_
  rintro e wd ⟨rfl, m2, rfl⟩
  clear V2
  go_wp2_with fail
  go_ret
  exact ⟨rfl, TC.out.drewN _⟩
end Go.Proofs.Ytdhfggdmlhgdoaa
