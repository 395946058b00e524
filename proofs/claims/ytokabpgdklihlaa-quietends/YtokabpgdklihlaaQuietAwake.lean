/-
  'awake' of the laws of layer 7: the document's example.
-/
import Derived.Test.YtokabpgdklihlaaQuietLaw
import Derived.Deep.LoopGhost
namespace Go.Proofs.Ytokabpgdklihlaa
open Go.RowKit

def awQ : QC := ⟨0, 2, [⟨1, 2, 1⟩, ⟨11, 2, 1⟩]⟩
def awL (c : Int) : List Int := c :: List.replicate 29 0
/-- So many steps of one offer, where nobody else steps. -/
def goQ (Q : QC) : Nat → List Int × OfS → List Int × OfS
  | 0, r => r
  | k + 1, r => stepQ Q (goQ Q k r).1 (goQ Q k r).2

set_option maxHeartbeats 4000000 in
set_option maxRecDepth 100000 in
theorem awake_any (w : World) :
    Calls Try.prog 6 #[] w fun e w' => e = .returned (.bool true) ∧ Turned [] w w' := by
  have HNew := hide (new_any 30 w)
  go_enter Try.func6, Try.ntmps6
  go_wp2_with fail
  refine HNew.out.mono ?_
  rintro e w1 ⟨rfl, h1, t1, -⟩
  obtain ⟨p, hp⟩ : ∃ p, p = w.heap.size + 1 := ⟨_, rfl⟩
  obtain ⟨q, hq⟩ : ∃ q, q = w.heap.size := ⟨_, rfl⟩
  rw [← hp, ← hq] at h1
  rw [← hp]
  have HPQ := hide (show w.heap.size ≤ p ∧ w.heap.size ≤ q by omega)
  have T1 := hide t1
  have HQ := hide (qnew_ok w1 p q (List.replicate 30 0) 0 0 2 (by simp) (by simp) (by omega) h1)
  clear h1 t1 hp hq HNew
  go_wp2_with fail
  refine HQ.out.mono ?_
  rintro e w2 ⟨rfl, h2, t2, -⟩
  have T2 := hide (T1.out.trans t2)
  have HA := hide (show w.heap.size ≤ w1.heap.size from T1.out.size)
  generalize w1.heap.size = a at *
  have H2 := hide h2
  have HD := hide (dnew_ok w2 p q ⟨1, 2, 1⟩ (List.replicate 30 0) 0 (by simp) (by simp) (by simp) (by simp) h2.mem)
  clear h2 t2 HQ T1
  go_wp2_with fail
  refine HD.out.mono ?_
  rintro e w3 ⟨rfl, h3, t3, -⟩
  have H3 := hide (H2.out.add h3 t3 (by simp))
  have T3 := hide (T2.out.trans t3)
  generalize w2.heap.size = d1 at *
  clear h3 t3 HD T2 H2
  have HD := hide (dnew_ok w3 p q ⟨11, 2, 1⟩ (List.replicate 30 0) 0 (by simp) (by simp) (by simp) (by simp) H3.out.mem)
  go_wp2_with fail
  refine HD.out.mono ?_
  rintro e w4 ⟨rfl, h4, t4, -⟩
  have H4 := hide (show Sx w4 a p q [d1, w3.heap.size] awQ (awL 0) from ⟨0, H3.out.add h4 t4 (by simp)⟩)
  have T4 := hide (T3.out.trans t4)
  generalize w3.heap.size = d2 at *
  clear h4 t4 HD T3 H3
  -- the first offer
  have t0 : Turned [] w4 (w4.alloc (.cells #[pd d1, pd d2] 36)) := (Turned.refl _ _).alloc _
  have HO := hide (by
    obtain ⟨s, h⟩ := H4.out
    exact offer_any (w4.alloc (.cells #[pd d1, pd d2] 36)) a p q [d1, d2] awQ (awL 0) s w4.heap.size 0 2 (by simp) (fun i x hx => by
      rw [cell_of_heap (heap_alloc_new _ _)]
      match i, hx with
      | 0, hx => cases hx; rfl
      | 1, hx => cases hx; rfl
      | i + 2, hx => simp at hx) (h.turned t0 (by simp) (by simp) (by simp) (by simp)))
  have T5 := hide (T4.out.trans t0)
  have H5 := hide (H4.out.turned0 t0)
  clear t0 T4 H4
  go_wp2_with fail
  refine HO.out.mono ?_
  rintro e w5 ⟨x, rfl, hx, hox, t5⟩
  have HX := hide (show w.heap.size ≤ x from Nat.le_trans T5.out.size hx)
  have H6 := hide (H5.out.turned0 t5)
  have T6 := hide (T5.out.trans t5)
  have O6 := hide hox
  clear HO hx hox t5 H5 T5
  go_wp2_with fail
  refine (H6.out.step (O6.out) (l' := awL 1) (o' := ⟨.readCount, 0, 0, 0⟩) (by decide) trivial rfl).mono ?_
  rintro e w7 ⟨rfl, h1, h2, h3⟩
  have H7 := hide h1
  have T7 := hide (T6.out.trans_new h3 (fun i hi => by have := HPQ.out; have := HX.out; simp at hi; right; rcases hi with rfl | rfl | rfl <;> omega))
  have O7 := hide h2
  clear h1 h2 h3 H6 T6 O6
  go_wp2_with fail
  refine (H7.out.step (O7.out) (l' := awL 1) (o' := ⟨.readTop, 0, 0, 0⟩) (by decide) trivial rfl).mono ?_
  rintro e w8 ⟨rfl, h1, h2, h3⟩
  have H8 := hide h1
  have T8 := hide (T7.out.trans_new h3 (fun i hi => by have := HPQ.out; have := HX.out; simp at hi; right; rcases hi with rfl | rfl | rfl <;> omega))
  have O8 := hide h2
  clear h1 h2 h3 H7 T7 O7
  go_wp2_with fail
  refine (H8.out.step (O8.out) (l' := awL 1) (o' := ⟨.readBottom, 0, 0, 0⟩) (by decide) (by show 0 < 2; omega) rfl).mono ?_
  rintro e w9 ⟨rfl, h1, h2, h3⟩
  have H9 := hide h1
  have T9 := hide (T8.out.trans_new h3 (fun i hi => by have := HPQ.out; have := HX.out; simp at hi; right; rcases hi with rfl | rfl | rfl <;> omega))
  have O9 := hide h2
  clear h1 h2 h3 H8 T8 O8
  -- the second offer
  have t0 : Turned [] w9 (w9.alloc (.cells #[pd d1, pd d2] 36)) := (Turned.refl _ _).alloc _
  have HO := hide (by
    obtain ⟨s, h⟩ := H9.out
    exact offer_any (w9.alloc (.cells #[pd d1, pd d2] 36)) a p q [d1, d2] awQ (awL 1) s w9.heap.size 0 2 (by simp) (fun i x hx => by
      rw [cell_of_heap (heap_alloc_new _ _)]
      match i, hx with
      | 0, hx => cases hx; rfl
      | 1, hx => cases hx; rfl
      | i + 2, hx => simp at hx) (h.turned t0 (by simp) (by simp) (by simp) (by simp)))
  have T10 := hide (T9.out.trans t0)
  have H10 := hide (H9.out.turned0 t0)
  have O10 := hide (O9.out.turned t0 (by simp) (by simp))
  clear t0 T9 H9 O9
  go_wp2_with fail
  refine HO.out.mono ?_
  rintro e w11 ⟨y, rfl, hx, hox, t5⟩
  have HY := hide (show w.heap.size ≤ y from Nat.le_trans T10.out.size hx)
  have HNE := hide (show y ≠ x by have := O10.out.lt; omega)
  have H11 := hide (H10.out.turned0 t5)
  have T11 := hide (T10.out.trans t5)
  have Y11 := hide hox
  have O11 := hide (O10.out.turned t5 (by simp) (by simp))
  clear HO hx hox t5 H10 T10 O10
  go_wp2_with fail
  refine (H11.out.step (Y11.out) (l' := awL 2) (o' := ⟨.readCount, 0, 0, 0⟩) (by decide) trivial rfl).mono ?_
  rintro e w12 ⟨rfl, h1, h2, h3⟩
  have H12 := hide h1
  have T12 := hide (T11.out.trans_new h3 (fun i hi => by have := HPQ.out; have := HY.out; simp at hi; right; rcases hi with rfl | rfl | rfl <;> omega))
  have Y12 := hide h2
  have O12 := hide (OfB.other H11.out Y11.out O11.out (Ne.symm HNE.out) h3)
  clear h1 h2 h3 H11 T11 O11 Y11
  go_wp2_with fail
  refine (H12.out.step (Y12.out) (l' := awL 2) (o' := ⟨.readCount, 2, 0, 0⟩) (by decide) trivial rfl).mono ?_
  rintro e w13 ⟨rfl, h1, h2, h3⟩
  have H13 := hide h1
  have T13 := hide (T12.out.trans_new h3 (fun i hi => by have := HPQ.out; have := HY.out; simp at hi; right; rcases hi with rfl | rfl | rfl <;> omega))
  have Y13 := hide h2
  have O13 := hide (OfB.other H12.out Y12.out O12.out (Ne.symm HNE.out) h3)
  clear h1 h2 h3 H12 T12 O12 Y12
  go_wp2_with fail
  go_loopg [13] 7 (fun gg s13 wr => ∃ k : Nat, s13 = .int .i64 (k : Int) ∧ k ≤ 5 ∧ 5 - k ≤ gg ∧ Aside (Turned [] w wr) ∧ Aside (Sx wr a p q [d1, d2] awQ (awL 2)) ∧ Aside (OfB wr x a [d1, d2] (goQ awQ k (awL 2, ⟨.readBottom, 0, 0, 0⟩)).2))
  case atStart => exact ⟨0, rfl, by omega, by omega, T13.out, H13.out, O13.out⟩
  case round =>
    obtain ⟨k, rfl, hk, hgg, htu, hsx, hof⟩ := hrel
    have hst : ∀ k, k ≤ 5 → QOk awQ (goQ awQ k (awL 2, ⟨.readBottom, 0, 0, 0⟩)).2 ∧ stepQ awQ (awL 2) (goQ awQ k (awL 2, ⟨.readBottom, 0, 0, 0⟩)).2 = (awL 2, (goQ awQ (k + 1) (awL 2, ⟨.readBottom, 0, 0, 0⟩)).2) ∧ (goQ awQ (k + 1) (awL 2, ⟨.readBottom, 0, 0, 0⟩)).2.state = (if k = 5 then 2 else 0) := by
      intro k hk
      match k, hk with
      | 0, _ => exact ⟨by show 0 < 2; omega, rfl, rfl⟩
      | 1, _ => exact ⟨by show 0 < 2; omega, rfl, rfl⟩
      | 2, _ => exact ⟨by show 1 < 2; omega, rfl, rfl⟩
      | 3, _ => exact ⟨by show 1 < 2; omega, rfl, rfl⟩
      | 4, _ => exact ⟨by show 1 < 2; omega, rfl, rfl⟩
      | 5, _ => exact ⟨trivial, rfl, rfl⟩
      | k + 6, h => omega
    have h1 := hst k hk
    have HS := hide (hsx.out.step hof.out (by decide) h1.1 h1.2.1)
    rw [h1.2.2] at HS
    clear hst h1
    by_cases h5 : k = 5
    · subst h5
      rw [if_pos rfl] at HS
      go_wp2_with fail
      refine HS.out.mono ?_
      rintro e w5 ⟨rfl, h1, h2, h3⟩
      have HTu := hide (htu.out.trans_new h3 (fun i hi => by have := HPQ.out; have := HX.out; simp at hi; right; rcases hi with rfl | rfl | rfl <;> omega))
      have HV := hide (state_any w5 a x [d1, d2] _ h2)
      rw [show (goQ awQ (5 + 1) (awL 2, ⟨.readBottom, 0, 0, 0⟩)).2.state = 2 from rfl] at HV
      have HI := hide (by obtain ⟨s, h⟩ := h1; exact idle_any w5 a p q [d1, d2] awQ (awL 2) s h)
      rw [show cnt awQ (awL 2) = 2 from rfl] at HI
      clear HS h1 h2 h3
      go_wp2_with fail
      refine HV.out.mono ?_
      rintro e w6 ⟨rfl, rfl⟩
      go_wp2_with fail
      refine HI.out.mono ?_
      rintro e w7 ⟨rfl, h7⟩
      have H7 := hide h7
      clear h7
      go_wp2_with fail
      go_ret
      exact ⟨rfl, HTu.out.trans H7.out⟩
    · rw [if_neg h5] at HS
      go_wp2_with (go_at_call 17; refine HS.out.mono ?_; rintro e w5 ⟨rfl, h1, h2, h3⟩; have H1 := hide h1; have H2 := hide h2; have H3 := hide h3; clear h1 h2 h3)
      go_roundg (5 - (k + 1))
      case measure => omega
      case rel =>
        exact ⟨k + 1, by go_num, by omega, Nat.le_refl _, htu.out.trans_new H3.out (fun i hi => by have := HPQ.out; have := HX.out; simp at hi; right; rcases hi with rfl | rfl | rfl <;> omega), H1.out, H2.out⟩
end Go.Proofs.Ytokabpgdklihlaa
