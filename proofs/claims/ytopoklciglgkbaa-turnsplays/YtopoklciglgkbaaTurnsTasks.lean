/-
  The tasks of the statements: what their steps tell, and what they turn.
-/
import Derived.Test.YtopoklciglgkbaaTurnsAdd
import Derived.Deep.QuietTactic
import Derived.BigQuiet
namespace Go.Proofs.Ytopoklciglgkbaa
open Go.RowKit
set_option linter.unusedVariables false

theorem Turned.drewN {S : List Nat} {a w : World} (h : Turned S a w) (n : Nat) : Turned S a (w.drewN n) := h.trans ⟨rfl, rfl, rfl, Nat.le_refl _, fun _ _ _ => rfl⟩

/-- What the n-th step of a script of states tells. -/
def tellOf (l : List Int) (n : Nat) : Int :=
  match l[n]? with
  | some v => if v < 0 ∨ 2 < v then 2 else v
  | none => 2

theorem norm_tell (l : List Int) (n : Nat) : norm (tellOf l n) = tellOf l n := by
  unfold norm tellOf
  split
  · split <;> omega
  · rfl

theorem tell_any (F : List Nat) (ao : Option Addr) (len cap : Nat) (l : List Int) (n : Nat) (w : World) (hl : len ≤ 9223372036854775807) (hn : n ≤ 4611686018427387904) (h : Rd w F ao len l) :
    Calls Try.prog 32 #[.slice ao len cap, .int .i64 (n : Int)] w fun e w' => e = .returned (.int .i64 (tellOf l n)) ∧ w' = w := by
  have hlen := h.1
  by_cases hlt : n < len
  · obtain ⟨x, hx⟩ : ∃ x, l[n]? = some x := ⟨_, List.getElem?_eq_getElem (by omega)⟩
    obtain ⟨g, off, rfl, _, hc⟩ := h.2 n x hx
    have hT : tellOf l n = if x < 0 ∨ 2 < x then 2 else x := by unfold tellOf; rw [hx]
    have h1 : ¬ ((len : Int) ≤ (n : Int)) := by omega
    clear h hx
    by_cases h2 : x < 0
    · rw [hT, if_pos (.inl h2)]
      clear hT
      go_enter Try.func32, Try.ntmps32
      go_wp2
      go_ret
      exact ⟨rfl, rfl⟩
    · by_cases h3 : 2 < x
      · rw [hT, if_pos (.inr h3)]
        clear hT
        go_enter Try.func32, Try.ntmps32
        go_wp2
        go_ret
        exact ⟨rfl, rfl⟩
      · rw [hT, if_neg (by omega)]
        clear hT
        go_enter Try.func32, Try.ntmps32
        go_wp2
        go_ret
        exact ⟨rfl, rfl⟩
  · have hT : tellOf l n = 2 := by unfold tellOf; rw [List.getElem?_eq_none (by omega)]
    have h1 : (len : Int) ≤ (n : Int) := by omega
    rw [hT]
    clear h hT
    go_enter Try.func32, Try.ntmps32
    go_wp2
    go_ret
    exact ⟨rfl, rfl⟩

theorem Rd.drop {w : World} {F G : List Nat} {ao : Option Addr} {len : Nat} {l : List Int} (h : Rd w F ao len l) (hs : ∀ k, k ∈ G → k ∈ F) : Rd w G ao len l :=
  ⟨h.1, fun i x hx => by
    obtain ⟨g, off, h1, h2, h3⟩ := h.2 i x hx
    exact ⟨g, off, h1, fun e => h2 (hs _ e), h3⟩⟩

theorem told_step (x : Nat) (ao : Option Addr) (len cap : Nat) (l : List Int) (n : Nat) (w : World) (hl : len ≤ 9223372036854775807) (hn : n < 4611686018427387904) (hx : w.heap[x]? = some (.cells #[.slice ao len cap, .int .i64 (n : Int)] 37)) (h : Rd w [x] ao len l) :
    Calls Try.prog 14 #[.pointer (some ⟨x, 0, none⟩)] w fun e w' => e = .returned (.int .i64 (tellOf l n)) ∧ w'.heap[x]? = some (.cells #[.slice ao len cap, .int .i64 ((n : Int) + 1)] 37) ∧ Turned [x] w w' := by
  have hc1 : w.cell? ⟨x, 1, none⟩ = some (.int .i64 (n : Int)) := by rw [cell_of_heap hx]; rfl
  have hf1 : w.frozen? ⟨x, 1, none⟩ = false := by simp [World.frozen?, hx]
  have hx2 := heap_setCell_at w x 1 _ _ _ hx (.int .i64 ((n : Int) + 1))
  have hc2 : (w.setCell ⟨x, 1, none⟩ (.int .i64 ((n : Int) + 1))).cell? ⟨x, 1, none⟩ = some (.int .i64 ((n : Int) + 1)) := by rw [cell_of_heap hx2]; rfl
  have hc0 : (w.setCell ⟨x, 1, none⟩ (.int .i64 ((n : Int) + 1))).cell? ⟨x, 0, none⟩ = some (.slice ao len cap) := by rw [cell_of_heap hx2]; rfl
  have e1 : wrap64 ((n : Int) + 1) = (n : Int) + 1 := by unfold wrap64; omega
  have e2 : wrap64 ((n : Int) + 1 - 1) = (n : Int) := by unfold wrap64; omega
  have HT := hide ((Turned.refl [x] w).setCell (p := ⟨x, 1, none⟩) (by simp) (.int .i64 ((n : Int) + 1)))
  have HX := hide hx2
  have HC := hide (fun m => tell_any [x] ao len cap l n ((w.setCell ⟨x, 1, none⟩ (.int .i64 ((n : Int) + 1))).drewN m) hl (by omega) ((h.turned HT.out (fun _ hk => hk)).turned ((Turned.refl [] _).drewN m) (by simp)))
  clear hx hx2 h
  go_enter Try.func14, Try.ntmps14
  go_wp2_with fail
  go_quiet ((go_at_call 32; exact Calls.quiet_of_same (HC.out _)))
  go_wp2_with fail
  go_ret
  exact ⟨rfl, HX.out, HT.out.drewN _⟩

theorem counter_step (x : Nat) (n : Int) (w : World) (hn : -4611686018427387904 ≤ n ∧ n ≤ 4611686018427387904) (hx : w.heap[x]? = some (.cells #[.int .i64 n] 52)) :
    Calls Try.prog 26 #[.pointer (some ⟨x, 0, none⟩)] w fun e w' => e = .returned (.int .i64 (if n - 1 ≤ 0 then 2 else 0)) ∧ w'.heap[x]? = some (.cells #[.int .i64 (n - 1)] 52) ∧ Turned [x] w w' := by
  have hc1 : w.cell? ⟨x, 0, none⟩ = some (.int .i64 n) := by rw [cell_of_heap hx]; rfl
  have hf1 : w.frozen? ⟨x, 0, none⟩ = false := by simp [World.frozen?, hx]
  have hx2 := heap_setCell_at w x 0 _ _ _ hx (.int .i64 (n - 1))
  have hc2 : (w.setCell ⟨x, 0, none⟩ (.int .i64 (n - 1))).cell? ⟨x, 0, none⟩ = some (.int .i64 (n - 1)) := by rw [cell_of_heap hx2]; rfl
  have e1 : wrap64 (n - 1) = n - 1 := by unfold wrap64; omega
  have HT := hide ((Turned.refl [x] w).setCell (p := ⟨x, 0, none⟩) (by simp) (.int .i64 (n - 1)))
  have HX := hide hx2
  clear hx hx2
  by_cases h0 : n - 1 ≤ 0
  · go_enter Try.func26, Try.ntmps26
    go_wp2
    go_ret
    exact ⟨by simp, HX.out, HT.out⟩
  · go_enter Try.func26, Try.ntmps26
    go_wp2
    go_ret
    exact ⟨by simp, HX.out, HT.out⟩

/-- Who takes a step: whatever the step does. -/
theorem take_told (x : Nat) (w : World) (r : Int) (Q : World → Prop) (h : ∀ w1, Turned [] w w1 → Calls Try.prog 14 #[.pointer (some ⟨x, 0, none⟩)] w1 fun e w' => e = .returned (.int .i64 r) ∧ Q w') :
    Calls Try.prog 31 #[.agg #[.func (.func 14) #[.pointer (some ⟨x, 0, none⟩)] #[]]] w fun e w' => e = .returned (.int .i64 (norm r)) ∧ Q w' := by
  have hc : (w.alloc (.cells #[.func (.func 14) #[.pointer (some ⟨x, 0, none⟩)] #[]] 69)).cell? ⟨w.heap.size, 0, none⟩ = some (.func (.func 14) #[.pointer (some ⟨x, 0, none⟩)] #[]) := by rw [cell_of_heap (heap_alloc_new _ _)]; rfl
  have HC := hide (h _ ((Turned.refl _ _).alloc (.cells #[.func (.func 14) #[.pointer (some ⟨x, 0, none⟩)] #[]] 69)))
  clear h
  by_cases h0 : r = 0
  · subst h0
    go_enter Try.func31, Try.ntmps31
    go_wp2_with fail
    refine HC.out.mono ?_
    rintro e w1 ⟨rfl, hq⟩
    go_wp2_with fail
    go_ret
    exact ⟨rfl, hq⟩
  · by_cases h1 : r = 1
    · subst h1
      go_enter Try.func31, Try.ntmps31
      go_wp2_with fail
      refine HC.out.mono ?_
      rintro e w1 ⟨rfl, hq⟩
      go_wp2_with fail
      go_ret
      exact ⟨rfl, hq⟩
    · have hnr : norm r = 2 := by unfold norm; rw [if_neg (by omega)]
      rw [hnr]
      have b0 : (r == 0) = false := by simp [h0]
      have b1 : (r == 1) = false := by simp [h1]
      go_enter Try.func31, Try.ntmps31
      go_wp2_with fail
      refine HC.out.mono ?_
      rintro e w1 ⟨rfl, hq⟩
      go_wp2_with fail
      go_ret
      exact ⟨rfl, hq⟩
/-- Who takes a step: whatever the step does. -/
theorem take_counter (x : Nat) (w : World) (r : Int) (Q : World → Prop) (h : ∀ w1, Turned [] w w1 → Calls Try.prog 26 #[.pointer (some ⟨x, 0, none⟩)] w1 fun e w' => e = .returned (.int .i64 r) ∧ Q w') :
    Calls Try.prog 31 #[.agg #[.func (.func 26) #[.pointer (some ⟨x, 0, none⟩)] #[]]] w fun e w' => e = .returned (.int .i64 (norm r)) ∧ Q w' := by
  have hc : (w.alloc (.cells #[.func (.func 26) #[.pointer (some ⟨x, 0, none⟩)] #[]] 69)).cell? ⟨w.heap.size, 0, none⟩ = some (.func (.func 26) #[.pointer (some ⟨x, 0, none⟩)] #[]) := by rw [cell_of_heap (heap_alloc_new _ _)]; rfl
  have HC := hide (h _ ((Turned.refl _ _).alloc (.cells #[.func (.func 26) #[.pointer (some ⟨x, 0, none⟩)] #[]] 69)))
  clear h
  by_cases h0 : r = 0
  · subst h0
    go_enter Try.func31, Try.ntmps31
    go_wp2_with fail
    refine HC.out.mono ?_
    rintro e w1 ⟨rfl, hq⟩
    go_wp2_with fail
    go_ret
    exact ⟨rfl, hq⟩
  · by_cases h1 : r = 1
    · subst h1
      go_enter Try.func31, Try.ntmps31
      go_wp2_with fail
      refine HC.out.mono ?_
      rintro e w1 ⟨rfl, hq⟩
      go_wp2_with fail
      go_ret
      exact ⟨rfl, hq⟩
    · have hnr : norm r = 2 := by unfold norm; rw [if_neg (by omega)]
      rw [hnr]
      have b0 : (r == 0) = false := by simp [h0]
      have b1 : (r == 1) = false := by simp [h1]
      go_enter Try.func31, Try.ntmps31
      go_wp2_with fail
      refine HC.out.mono ?_
      rintro e w1 ⟨rfl, hq⟩
      go_wp2_with fail
      go_ret
      exact ⟨rfl, hq⟩

/-- Who takes a step: whatever the step does. -/
theorem take_adder (x : Nat) (w : World) (r : Int) (Q : World → Prop) (h : ∀ w1, Turned [] w w1 → Calls Try.prog 29 #[.pointer (some ⟨x, 0, none⟩)] w1 fun e w' => e = .returned (.int .i64 r) ∧ Q w') :
    Calls Try.prog 31 #[.agg #[.func (.func 29) #[.pointer (some ⟨x, 0, none⟩)] #[]]] w fun e w' => e = .returned (.int .i64 (norm r)) ∧ Q w' := by
  have hc : (w.alloc (.cells #[.func (.func 29) #[.pointer (some ⟨x, 0, none⟩)] #[]] 69)).cell? ⟨w.heap.size, 0, none⟩ = some (.func (.func 29) #[.pointer (some ⟨x, 0, none⟩)] #[]) := by rw [cell_of_heap (heap_alloc_new _ _)]; rfl
  have HC := hide (h _ ((Turned.refl _ _).alloc (.cells #[.func (.func 29) #[.pointer (some ⟨x, 0, none⟩)] #[]] 69)))
  clear h
  by_cases h0 : r = 0
  · subst h0
    go_enter Try.func31, Try.ntmps31
    go_wp2_with fail
    refine HC.out.mono ?_
    rintro e w1 ⟨rfl, hq⟩
    go_wp2_with fail
    go_ret
    exact ⟨rfl, hq⟩
  · by_cases h1 : r = 1
    · subst h1
      go_enter Try.func31, Try.ntmps31
      go_wp2_with fail
      refine HC.out.mono ?_
      rintro e w1 ⟨rfl, hq⟩
      go_wp2_with fail
      go_ret
      exact ⟨rfl, hq⟩
    · have hnr : norm r = 2 := by unfold norm; rw [if_neg (by omega)]
      rw [hnr]
      have b0 : (r == 0) = false := by simp [h0]
      have b1 : (r == 1) = false := by simp [h1]
      go_enter Try.func31, Try.ntmps31
      go_wp2_with fail
      refine HC.out.mono ?_
      rintro e w1 ⟨rfl, hq⟩
      go_wp2_with fail
      go_ret
      exact ⟨rfl, hq⟩

/-- Who takes a step: whatever the step does. -/
theorem take_two (w : World) (r : Int) (Q : World → Prop) (h : ∀ w1, Turned [] w w1 → Calls Try.prog 28 #[] w1 fun e w' => e = .returned (.int .i64 r) ∧ Q w') :
    Calls Try.prog 31 #[.agg #[.func (.func 28) #[] #[]]] w fun e w' => e = .returned (.int .i64 (norm r)) ∧ Q w' := by
  have hc : (w.alloc (.cells #[.func (.func 28) #[] #[]] 69)).cell? ⟨w.heap.size, 0, none⟩ = some (.func (.func 28) #[] #[]) := by rw [cell_of_heap (heap_alloc_new _ _)]; rfl
  have HC := hide (h _ ((Turned.refl _ _).alloc (.cells #[.func (.func 28) #[] #[]] 69)))
  clear h
  by_cases h0 : r = 0
  · subst h0
    go_enter Try.func31, Try.ntmps31
    go_wp2_with fail
    refine HC.out.mono ?_
    rintro e w1 ⟨rfl, hq⟩
    go_wp2_with fail
    go_ret
    exact ⟨rfl, hq⟩
  · by_cases h1 : r = 1
    · subst h1
      go_enter Try.func31, Try.ntmps31
      go_wp2_with fail
      refine HC.out.mono ?_
      rintro e w1 ⟨rfl, hq⟩
      go_wp2_with fail
      go_ret
      exact ⟨rfl, hq⟩
    · have hnr : norm r = 2 := by unfold norm; rw [if_neg (by omega)]
      rw [hnr]
      have b0 : (r == 0) = false := by simp [h0]
      have b1 : (r == 1) = false := by simp [h1]
      go_enter Try.func31, Try.ntmps31
      go_wp2_with fail
      refine HC.out.mono ?_
      rintro e w1 ⟨rfl, hq⟩
      go_wp2_with fail
      go_ret
      exact ⟨rfl, hq⟩
end Go.Proofs.Ytopoklciglgkbaa
