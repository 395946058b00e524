/-
  New of package arena.
-/
import Derived.Test.YtelljfckffmjmaaArenaSteps
namespace Go.Proofs.Ytelljfckffmjmaa
open Go.RowKit

section
variable (w : World) (a v p q B b o : Nat) (T : TypeId) (A : AC) (l : List Int) (s : Int)

set_option maxRecDepth 4000 in
theorem anew_ok (top to buf : Nat) (ht : top < l.length) (hto : to ≤ l.length) (hb : 2 ≤ buf ∧ buf ≤ 4096) (hl : l.length ≤ 65536) (h : Mem w p q l s) :
    Calls Try.prog 10 #[.pointer (some ⟨p, 0, none⟩), .int .i64 top, .int .i64 to, .int .i64 buf] w fun e w' => ∃ a v, e = .returned (.tuple #[.pointer (some ⟨a, 0, none⟩), .int .i64 0]) ∧ Arn w' a v p q ⟨top, to, buf⟩ l s ∧ Turned [] w w' ∧ w.heap.size ≤ a ∧ w.heap.size ≤ v := by
  have h1 : ¬ ((top : Int) < 0) := by omega
  have h2 : ¬ ((l.length : Int) ≤ (top : Int)) := by omega
  have h3 : ¬ ((to : Int) < 0) := by omega
  have h4 : ¬ ((l.length : Int) < (to : Int)) := by omega
  have h5 : ¬ ((buf : Int) < 2) := by omega
  have h6 : ¬ ((4096 : Int) < (buf : Int)) := by omega
  have HM := hide h
  have HL := hide (fun w' (t : Turned [] w w') => len_mem p q l s w' (h.turned t (by simp) (by simp)))
  have HX := hide (And.intro ht (And.intro hto (And.intro hb hl)))
  clear h hb hl ht hto
  generalize hn : l.length = n at *
  have HNl := hide hn
  clear hn
  go_enter Try.func10, Try.ntmps10
  go_wp2_with fail
  have HV := hide (heap_alloc_new w (.cells #[.int .i64 buf] 3))
  have HT := hide ((Turned.refl [] w).alloc (.cells #[.int .i64 buf] 3))
  have HZ := hide (show (w.alloc (.cells #[.int .i64 buf] 3)).heap.size = w.heap.size + 1 by simp)
  have HM1 := hide (HM.out.alloc (.cells #[.int .i64 buf] 3))
  generalize w.alloc (.cells #[.int .i64 buf] 3) = w1 at *
  generalize hv : w.heap.size = v at *
  have HVS := hide hv
  clear hv HM
  have cv : w1.cell? ⟨v, 0, none⟩ = some (.int .i64 buf) := by rw [cell_of_heap HV.out]; rfl
  refine (HL.out _ HT.out).mono ?_
  rintro e w2 ⟨rfl, rfl⟩
  go_wp2_with fail
  refine (HL.out _ HT.out).mono ?_
  rintro e w3 ⟨rfl, rfl⟩
  go_wp2_with fail
  all_goals first
    | (go_ret2; obtain ⟨x1, x2, x3, x4⟩ := HX.out; have hlt := lt_of_heap HV.out; exact ⟨_, v, rfl, ⟨heap_alloc_new _ _, by rw [Below.heap_alloc _ _ _ hlt]; exact HV.out, by rw [HNl.out]; exact x1, by rw [HNl.out]; exact x2, by rw [HNl.out]; exact x4, x3, HM1.out.alloc _⟩, HT.out.alloc _, by have := HZ.out; have := HVS.out; omega, by have := HVS.out; omega⟩)

set_option maxRecDepth 4000 in
theorem anew_bad (top to buf : Int) (hx : ¬ (0 ≤ top ∧ top < l.length ∧ 0 ≤ to ∧ to ≤ l.length ∧ 2 ≤ buf ∧ buf ≤ 4096)) (h : Mem w p q l s) :
    Calls Try.prog 10 #[.pointer (some ⟨p, 0, none⟩), .int .i64 top, .int .i64 to, .int .i64 buf] w fun e w' => e = .returned (.tuple #[.pointer none, .int .i64 1]) ∧ Turned [] w w' := by
  have HL := hide (fun w' (t : Turned [] w w') => len_mem p q l s w' (h.turned t (by simp) (by simp)))
  have HX := hide hx
  clear h hx
  generalize (l.length : Int) = n at *
  go_enter Try.func10, Try.ntmps10
  go_wp2_with fail
  · have HV := hide (heap_alloc_new w (.cells #[.int .i64 buf] 3))
    have HT := hide ((Turned.refl [] w).alloc (.cells #[.int .i64 buf] 3))
    generalize w.alloc (.cells #[.int .i64 buf] 3) = w1 at *
    generalize hv : w.heap.size = v at *
    clear hv
    have cv : w1.cell? ⟨v, 0, none⟩ = some (.int .i64 buf) := by rw [cell_of_heap HV.out]; rfl
    refine (HL.out _ HT.out).mono ?_
    rintro e w2 ⟨rfl, rfl⟩
    go_wp2_with fail
    all_goals first
      | (go_ret2; exact ⟨rfl, HT.out⟩)
      | (refine (HL.out _ HT.out).mono ?_
         rintro e w3 ⟨rfl, rfl⟩
         go_wp2_with fail
         all_goals first
           | (go_ret2; exact ⟨rfl, HT.out⟩)
           | (exfalso; refine HX.out ⟨?_, ?_, ?_, ?_, ?_, ?_⟩ <;> omega))
  · go_ret2
    exact ⟨rfl, (Turned.refl _ _).alloc _⟩
end
end Go.Proofs.Ytelljfckffmjmaa
