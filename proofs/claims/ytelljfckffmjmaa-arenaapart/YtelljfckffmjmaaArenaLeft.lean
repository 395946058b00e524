/-
  Left of package arena.
-/
import Derived.Test.YtelljfckffmjmaaArenaSteps
namespace Go.Proofs.Ytelljfckffmjmaa
open Go.RowKit

section
variable (w : World) (a v p q B b o : Nat) (T : TypeId) (A : AC) (l : List Int) (s : Int)

/-- The words of one cell. -/
theorem awords_one (h : Arn w a v p q A l s) : Calls Try.prog 27 #[.pointer (some ⟨p, 0, none⟩), .int .i64 A.top, .int .i64 (IntKind.i64.wrap ((A.top : Int) + 1))] w fun e w2 => ∃ g cap, e = .returned (.slice (some ⟨g, 0, none⟩) 1 cap) ∧ w2.cell? ⟨g, 0, none⟩ = some (.int .i64 (topOf A l)) ∧ Turned [] w w2 := by
  have hc := h.cell
  have hm := h.most
  rw [show IntKind.i64.wrap ((A.top : Int) + 1) = ((A.top + 1 : Nat) : Int) by rw [IntKind.wrap_i64]; omega]
  refine (words_mem p q l s A.top ((A.top + 1 : Nat) : Int) w h.most h.mem).mono ?_
  rintro e w2 ⟨v, rfl, ho, ht⟩
  have e1 : (min (max ((A.top + 1 : Nat) : Int) 0) (l.length : Int)).toNat = A.top + 1 := by omega
  have e2 : (min (max (A.top : Int) 0) (l.length : Int)).toNat = A.top := by omega
  rw [e1, e2] at ho
  have e3 : (l.take (A.top + 1)).drop A.top = [topOf A l] := by
    apply List.ext_getElem?
    intro i
    rw [List.getElem?_drop, List.getElem?_take]
    rcases i with _ | i
    · simp; exact h.at
    · rw [if_neg (by omega)]; simp
  rw [e3] at ho
  obtain ⟨g, cap, rfl, h1, h2, _, h3, _⟩ := ownsRow_open ho (by simp)
  exact ⟨g, cap, rfl, h3 0 _ rfl, ht⟩

set_option maxHeartbeats 4000000 in
theorem left_any (h : Arn w a v p q A l s) :
    Calls Try.prog 23 #[.pointer (some ⟨a, 0, none⟩)] w fun e w' => e = .returned (.int .i64 (aboveOf A (topOf A l))) ∧ Turned [] w w' := by
  have H := hide (anone_any w a v p q A l s h)
  have HW := hide (awords_one w.drew a v p q A l s h.drew)
  have HV := hide (fun w' (t : Turned [] w w') => above_any w' a v p q A l s (topOf A l) (h.turned t (by simp) (by simp) (by simp) (by simp)))
  have c0 := h.c0
  have c1 := h.c1
  clear h
  generalize topOf A l = y at *
  generalize aboveOf A y = z at *
  generalize (A.top : Int) = u at *
  go_enter Try.func23, Try.ntmps23
  go_wp2_with fail
  refine H.out.mono ?_
  rintro e w1 ⟨rfl, rfl⟩
  clear H
  go_wp2_with fail
  go_region_with (first | (go_at_call 27; refine HW.out.mono ?_; rintro e w2 ⟨g, cap, rfl, hcell, ht⟩; have HT := hide ((Turned.refl [] w1).drew.trans ht); clear HW ht) | (go_at_call 44; refine (HV.out _ (by first | exact HT.out | exact HT.out.drew)).mono ?_; rintro e w3 ⟨rfl, rfl⟩))
  all_goals (
    go_wp2_with fail
    go_ret
    exact ⟨rfl, HT.out⟩)

end
end Go.Proofs.Ytelljfckffmjmaa
