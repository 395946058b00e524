/-
  Taken.
-/
import Derived.Test.YtpaiehieddicmaaGangShare
namespace Go.Proofs.Ytpaiehieddicmaa
open Go.RowKit
set_option linter.unusedVariables false

/-- The words of one cell. -/
theorem words_one (w : World) (a p q : Nat) (l : List Int) (s : Int) (k : Nat) (pt x : Int) (h : Sh w a p q l s k pt) (hx : l[k]? = some x) : Calls Try.prog 32 #[.pointer (some ⟨p, 0, none⟩), .int .i64 (k : Int), .int .i64 (IntKind.i64.wrap ((k : Int) + 1))] w fun e w2 => ∃ g cap, e = .returned (.slice (some ⟨g, 0, none⟩) 1 cap) ∧ w2.cell? ⟨g, 0, none⟩ = some (.int .i64 x) ∧ Turned [] w w2 := by
  have hc := h.lt
  have hm := h.most
  rw [show IntKind.i64.wrap ((k : Int) + 1) = ((k + 1 : Nat) : Int) by rw [IntKind.wrap_i64]; omega]
  refine (words_mem p q l s k ((k + 1 : Nat) : Int) w h.most h.mem).mono ?_
  rintro e w2 ⟨v, rfl, ho, ht⟩
  have e1 : (min (max ((k + 1 : Nat) : Int) 0) (l.length : Int)).toNat = k + 1 := by omega
  have e2 : (min (max (k : Int) 0) (l.length : Int)).toNat = k := by omega
  rw [e1, e2] at ho
  have e3 : (l.take (k + 1)).drop k = [x] := by
    rw [take_snoc hx, List.drop_append_of_le_length (by rw [List.length_take]; omega), List.drop_of_length_le (by rw [List.length_take]; omega)]
    rfl
  rw [e3] at ho
  obtain ⟨g, cap, rfl, _, _, _, h3, _⟩ := ownsInts_open ho (by simp)
  exact ⟨g, cap, rfl, h3 0 _ rfl, ht⟩

set_option maxHeartbeats 4000000 in
set_option maxRecDepth 4000 in
theorem staken_any (w : World) (a p q : Nat) (l : List Int) (s : Int) (k : Nat) (pt x : Int) (h : Sh w a p q l s k pt) (hx : l[k]? = some x) (hr : 0 ≤ x ∧ x < 1000000000) (hp : 0 ≤ pt) :
    Calls Try.prog 21 #[ptr a] w fun e w' => e = .returned (.int .i64 (min x pt)) ∧ Sh w' a p q l s k pt ∧ Turned [] w w' := by
  have HN := hide (snone_any w a p q l s k pt h)
  have HW := hide (fun w' (h' : Sh w' a p q l s k pt) => words_one w' a p q l s k pt x h' hx)
  have H := hide h
  clear h hx
  generalize hz : (k : Int) = z at HW
  have HZ := hide hz
  clear hz
  unfold ptr
  go_enter Try.func21, Try.ntmps21
  go_wp2_with fail
  refine HN.out.mono ?_
  rintro e w1 ⟨rfl, n, hw⟩
  have H1 := hide (show Sh w1 a p q l s k pt by rw [hw]; exact H.out.drewN n)
  have T1 := hide (show Turned [] w w1 by rw [hw]; exact (Turned.refl _ _).drewN n)
  clear hw HN H
  have c0 := H1.out.c0
  have c1 := H1.out.c1
  rw [HZ.out] at c1
  have HW2 := hide (HW.out _ H1.out.drew)
  clear HW HZ
  go_wp2_with fail
  go_region_with ((go_at_call 32; refine HW2.out.mono ?_; rintro e w2 ⟨g, cap, rfl, hcell, ht⟩; have HT := hide (T1.out.drew.trans ht); have H2 := hide (H1.out.drew.turned0 ht); have i2 := H2.out.c2; clear HW2 ht))
  all_goals (
    go_wp2_with fail
    all_goals go_ret
    all_goals exact ⟨by show Ending.returned (.int .i64 _) = _; congr 2; omega, H2.out, HT.out⟩)
end Go.Proofs.Ytpaiehieddicmaa
