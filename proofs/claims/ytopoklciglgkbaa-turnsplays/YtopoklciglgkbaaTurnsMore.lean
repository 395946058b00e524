/-
  Stuck of package turns; and what there is of a nil object.
-/
import Derived.Test.YtopoklciglgkbaaTurnsRun
namespace Go.Proofs.Ytopoklciglgkbaa
open Go.RowKit
set_option linter.unusedVariables false

theorem stuck_any (B : Nat) (w : World) (p : Nat) (F : List Nat) (ts : List Task) (h : Trn B w p F ts) :
    Calls Try.prog 25 #[.pointer (some ⟨p, 0, none⟩)] w fun e w' =>
      e = .returned (.bool (decide (readyOf ts = []) && decide (¬ thatOf 1 (states ts) 0 = []))) ∧ Turned [] w w' := by
  have H0 := hide (that_any B w p F ts 0 h)
  have HH := hide h
  clear h
  by_cases h0 : readyOf ts = []
  · have e0 : thatOf 0 (states ts) 0 = [] := h0
    rw [e0] at H0
    by_cases h1 : thatOf 1 (states ts) 0 = []
    · go_enter Try.func25, Try.ntmps25
      go_wp2_with fail
      refine H0.out.mono ?_
      rintro e w1 ⟨v, rfl, hown, hT⟩
      obtain ⟨-, ao, cap, rfl, -⟩ := ownsRow_any hown
      have H1 := hide (that_any B w1 p F ts 1 (HH.out.turned hT (by simp)))
      rw [h1] at H1
      have HT := hide hT
      clear hown hT H0
      go_wp2_with fail
      refine H1.out.mono ?_
      rintro e w2 ⟨v, rfl, hown, hT⟩
      obtain ⟨-, ao2, cap2, rfl, -⟩ := ownsRow_any hown
      have HT2 := hide (HT.out.trans hT)
      clear hown hT H1
      go_wp2_with fail
      go_ret
      exact ⟨by simp [h1], HT2.out⟩
    · have hpos : 0 < (thatOf 1 (states ts) 0).length := List.length_pos_iff.2 h1
      go_enter Try.func25, Try.ntmps25
      go_wp2_with fail
      refine H0.out.mono ?_
      rintro e w1 ⟨v, rfl, hown, hT⟩
      obtain ⟨-, ao, cap, rfl, -⟩ := ownsRow_any hown
      have H1 := hide (that_any B w1 p F ts 1 (HH.out.turned hT (by simp)))
      have HT := hide hT
      clear hown hT H0
      go_wp2_with fail
      refine H1.out.mono ?_
      rintro e w2 ⟨v, rfl, hown, hT⟩
      obtain ⟨-, ao2, cap2, rfl, -⟩ := ownsRow_any hown
      have HT2 := hide (HT.out.trans hT)
      clear hown hT H1
      go_wp2_with fail
      go_ret
      exact ⟨by simp [h0, h1], HT2.out⟩
  · have hpos : ¬ ((thatOf 0 (states ts) 0).length = 0) := by
      have := List.length_pos_iff.2 h0
      unfold readyOf at this
      omega
    go_enter Try.func25, Try.ntmps25
    go_wp2_with fail
    refine H0.out.mono ?_
    rintro e w1 ⟨v, rfl, hown, hT⟩
    obtain ⟨-, ao, cap, rfl, -⟩ := ownsRow_any hown
    have HT := hide hT
    clear hown hT H0
    go_wp2_with fail
    go_ret
    exact ⟨by simp [h0], HT.out⟩

theorem stuck_nil (w : World) :
    Calls Try.prog 25 #[.pointer none] w fun e w' => e = .returned (.bool false) ∧ w' = w := by
  have H0 := hide (that_nil 0 w)
  have H1 := hide (that_nil 1 w)
  go_enter Try.func25, Try.ntmps25
  go_wp2_with fail
  refine H0.out.mono ?_
  rintro e w1 ⟨rfl, rfl⟩
  go_wp2_with fail
  refine H1.out.mono ?_
  rintro e w1 ⟨rfl, rfl⟩
  go_wp2_with fail
  go_ret
  exact ⟨rfl, rfl⟩

theorem follow_nil (s : Nat) (w : World) (hc : Scr w [] s [] 0) :
    Calls Try.prog 34 #[.pointer none, .int .i64 9, .func (.func 35) #[.pointer (some ⟨s, 0, none⟩)] #[]] w fun e w' => e = .returned (.int .i64 0) ∧ Turned [s] w w' := by
  have HN := hide (next_more [] s 0 w (by omega) hc)
  clear hc
  go_enter Try.func34, Try.ntmps34
  go_wp2_with fail
  go_loopw [7, 8, 9] (fun d _ _ wr => d = .int .i64 0 ∧ wr = w) (fun d _ _ _ => 1)
  case atStart => exact ⟨rfl, rfl⟩
  case round =>
    obtain ⟨rfl, rfl⟩ := hrel
    go_wp2_with fail
    refine HN.out.mono ?_
    rintro e w1 ⟨rfl, -, ht1⟩
    have HP := hide (pick_nil 0 w1)
    have HT := hide ht1
    clear ht1 HN
    go_wp2_with fail
    refine HP.out.mono ?_
    rintro e w2 ⟨rfl, rfl⟩
    go_wp2_with fail
    go_ret
    exact ⟨rfl, HT.out⟩

theorem run_nil (w : World) :
    Calls Try.prog 16 #[.pointer none, .int .i64 9, .slice none 0 0] w fun e w' => e = .returned (.int .i64 0) ∧ Turned [] w w' := by
  have HC := hide (clone_any [] none 0 0 [] w (by omega) ⟨rfl, by simp⟩)
  have hmf : ∀ (fn : Fn) (first cap : Array Value) (w : World), (Instr.makeFunc fn first cap).run Try.prog w = .ok (.func fn first cap) w := fun _ _ _ _ => rfl
  go_enter Try.func16, Try.ntmps16
  go_wp2_with fail
  refine HC.out.mono ?_
  rintro e w1 ⟨v, rfl, hown, hT⟩
  obtain ⟨-, ao2, cap2, rfl, hcl⟩ := ownsRow_any hown
  have HFF := hide (follow_nil w1.heap.size (w1.alloc (.cells #[.slice ao2 0 cap2, .int .i64 0] 74)) ⟨ao2, cap2, heap_alloc_new _ _, ⟨rfl, by simp⟩, by simp⟩)
  have HTW := hide hT
  clear HC hown hcl hT
  go_wp2_with fail
  refine HFF.out.mono ?_
  rintro e w2 ⟨rfl, h2⟩
  have HT2 := hide ((HTW.out.alloc _).trans_new h2 (by intro k hk; simp at hk; subst hk; exact .inr HTW.out.size))
  clear h2
  go_wp2_with fail
  go_ret
  exact ⟨rfl, HT2.out⟩
end Go.Proofs.Ytopoklciglgkbaa
