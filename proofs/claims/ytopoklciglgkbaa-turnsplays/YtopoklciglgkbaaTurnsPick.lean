/-
  Pick of package turns, whatever the picked task's step does.
-/
import Derived.Test.YtopoklciglgkbaaTurnsThat
namespace Go.Proofs.Ytopoklciglgkbaa
open Go.RowKit

theorem pick_none (B : Nat) (w : World) (p : Nat) (F : List Nat) (ts : List Task) (pick : Int) (hr : readyOf ts = []) (h : Trn B w p F ts) :
    Calls Try.prog 18 #[.pointer (some ⟨p, 0, none⟩), .int .i64 pick] w fun e w' => e = .returned (.tuple #[.int .i64 0, .bool false]) ∧ Turned [] w w' := by
  have HR := hide (ready_any B w p F ts h)
  clear h
  go_enter Try.func18, Try.ntmps18
  go_wp2_with fail
  refine HR.out.mono ?_
  rintro e w1 ⟨v, rfl, h1, h2⟩
  obtain ⟨-, ao, cap, rfl, -⟩ := ownsRow_any h1
  rw [hr]
  clear h1
  go_wp2_with fail
  go_ret2
  exact ⟨rfl, h2⟩

theorem pick_nil (pick : Int) (w : World) :
    Calls Try.prog 18 #[.pointer none, .int .i64 pick] w fun e w' => e = .returned (.tuple #[.int .i64 0, .bool false]) ∧ w' = w := by
  have HR := hide (ready_nil w)
  go_enter Try.func18, Try.ntmps18
  go_wp2_with fail
  refine HR.out.mono ?_
  rintro e w1 ⟨rfl, rfl⟩
  go_wp2_with fail
  go_ret2
  exact ⟨rfl, rfl⟩

theorem pick_core (B : Nat) (w : World) (p : Nat) (F : List Nat) (ts : List Task) (pick : Int) (hp : -9223372036854775808 ≤ pick ∧ pick ≤ 9223372036854775807)
    (i : Nat) (t : Task) (ht : ts[i]? = some t) (hr : (readyOf ts)[placeOf pick (readyOf ts).length]? = some ((i : Int) + 1)) (h : Trn B w p F ts) (Q : Int → World → Prop)
    (hstep : ∀ w1, Trn B w1 p F ts → Turned [] w w1 → Calls Try.prog 31 #[.agg #[t.fv]] w1 fun e w2 => ∃ r, e = .returned (.int .i64 r) ∧ Q r w2)
    (hQ : ∀ r w2, Q r w2 → ∃ s n, w2.heap[t.b]? = some (.cells #[taken t.fv, .int .i64 s, .int .i64 n] 67)) :
    Calls Try.prog 18 #[.pointer (some ⟨p, 0, none⟩), .int .i64 pick] w fun e w' => e = .returned (.tuple #[.int .i64 ((i : Int) + 1), .bool true]) ∧
      ∃ r s n w2, Q r w2 ∧ w2.heap[t.b]? = some (.cells #[taken t.fv, .int .i64 s, .int .i64 n] 67) ∧ w'.heap[t.b]? = some (.cells #[taken t.fv, .int .i64 r, .int .i64 (wrap64 (n + 1))] 67) ∧ Turned [t.b] w2 w' := by
  have HR := hide (ready_any B w p F ts h)
  have HH := hide h
  have HQ := hide hQ
  have HS := hide hstep
  have hlen : placeOf pick (readyOf ts).length < (readyOf ts).length := (List.getElem?_eq_some_iff.1 hr).1
  have hne : ¬ ((readyOf ts).length = 0) := by omega
  have hl2 : (readyOf ts).length ≤ 128 := by
    have h1 := thatOf_length 0 (states ts) 0
    have h2 := h.room
    have h3 : (states ts).length = ts.length := by simp [states]
    unfold readyOf
    omega
  have HP := hide (fun w => place_any pick (readyOf ts).length w hp (by omega) (by omega))
  have HT := hide (fun w1 (h1 : Trn B w1 p F ts) => task_in B w1 p F ts i t ht h1)
  have HM := hide (List.mem_of_getElem? ht)
  have HI := hide hr
  generalize placeOf pick (readyOf ts).length = j at *
  clear h hstep hQ ht hr
  go_enter Try.func18, Try.ntmps18
  go_wp2_with fail
  refine HR.out.mono ?_
  rintro e w1 ⟨v, rfl, h1, h2⟩
  obtain ⟨-, ao, cap, rfl, hg⟩ := ownsRow_any h1
  have HH1 := hide (HH.out.turned h2 (by simp))
  have HT1 := hide h2
  obtain ⟨g, rfl, -, -, hg, -⟩ := hg j _ (by rw [List.getElem?_map, HI.out]; rfl)
  clear h1 HR h2
  go_wp2_with fail
  refine (HP.out _).mono ?_
  rintro e w2 ⟨rfl, rfl⟩
  go_wp2_with fail
  refine (HT.out _ HH1.out).mono ?_
  rintro e w3 ⟨rfl, rfl⟩
  have hc0 := HH1.out.c0 HM.out
  clear hg HT
  go_wp2_with fail
  refine (HS.out _ HH1.out HT1.out).mono ?_
  rintro e w4 ⟨r, rfl, hq⟩
  obtain ⟨s, n, hb⟩ := HQ.out r w4 hq
  have hf1 : w4.frozen? ⟨t.b, 1, none⟩ = false := by simp [World.frozen?, hb]
  have hb1 := heap_setCell_at w4 t.b 1 _ _ _ hb (.int .i64 r)
  have hc2 : (w4.setCell ⟨t.b, 1, none⟩ (.int .i64 r)).cell? ⟨t.b, 2, none⟩ = some (.int .i64 n) := by rw [cell_of_heap hb1]; rfl
  have hf2 : (w4.setCell ⟨t.b, 1, none⟩ (.int .i64 r)).frozen? ⟨t.b, 2, none⟩ = false := by simp [World.frozen?, hb1]
  have hb2 := heap_setCell_at _ t.b 2 _ _ _ hb1 (.int .i64 (wrap64 (n + 1)))
  have HB := hide hb
  have HB2 := hide hb2
  have HQ4 := hide hq
  have hs1 : ∃ c, w4.cell? ⟨t.b, 1, none⟩ = some c := ⟨_, by rw [cell_of_heap hb]; rfl⟩
  obtain ⟨c1, hs1⟩ := hs1
  clear hb hb1 hb2 hc0 hq
  go_wp2_with fail
  go_ret2
  refine ⟨rfl, r, s, n, w4, HQ4.out, HB.out, HB2.out, ((Turned.refl _ _).setCell (by simp) _).setCell (by simp) _⟩
end Go.Proofs.Ytopoklciglgkbaa
