/-
  Step, whatever the operation's next step is; the operations' beginnings; Top, Bottom, Stack. (Text by DequeStep.gen.py.)
-/
import Derived.Test.YtokabpgdklihlaaDequeSteps
namespace Go.Proofs.Ytokabpgdklihlaa
open Go.RowKit

section
variable (w : World) (d p q b : Nat) (C : Cfg) (l : List Int) (s : Int)

theorem act_any (N : Int) (hN : N ≤ 4611686018427387904) (o : OpS) (fit : Fit C l o N) (hd : o.done = false) (hne : b ≠ d ∧ b ≠ p ∧ b ≠ q) (h : Dq w d p q C l s) (ho : OpB w b d o) :
    Calls Try.prog o.at_.fn #[.pointer (some ⟨d, 0, none⟩), .pointer (some ⟨b, 0, none⟩)] w fun e w' => e = .returned (.tuple #[]) ∧ Dq w' d p q C (stepOf C l o).1 (wrap64 (s + 1)) ∧ OpB w' b d (stepOf C l o).2 ∧ Turned [p, q, b] w w' := by
  obtain ⟨a, dn, t, u, n, v, en⟩ := o
  have hd' : dn = false := hd
  subst hd'
  cases a
  case pushReadBottom =>
    refine (st_pushReadBottom w d p q b C l s t u n v en hne h ho).mono ?_
    rintro e w' ⟨rfl, h1, h2, h3⟩
    exact ⟨rfl, h1, h2, h3⟩
  case pushReadTop =>
    refine (st_pushReadTop w d p q b C l s t u n v en (by have := fit.t; omega) (by have := fit.ob; simp at this; omega) hne h ho).mono ?_
    rintro e w' ⟨rfl, h1, h2, h3⟩
    exact ⟨rfl, h1, h2, h3⟩
  case pushSlot =>
    refine (st_pushSlot w d p q b C l s t u n v en hne h ho).mono ?_
    rintro e w' ⟨rfl, h1, h2, h3⟩
    exact ⟨rfl, h1, h2, h3⟩
  case pushBottom =>
    refine (st_pushBottom w d p q b C l s t u n v en (by have := fit.ob; simp at this; omega) hne h ho).mono ?_
    rintro e w' ⟨rfl, h1, h2, h3⟩
    exact ⟨rfl, h1, h2, h3⟩
  case pushLock =>
    refine (st_pushLock w d p q b C l s t u n v en hne h ho).mono ?_
    rintro e w' ⟨rfl, h1, h2, h3⟩
    by_cases hz : rd C l 2 = 0
    · simp only [hz, if_true] at h1 h2
      refine ⟨rfl, ?_, ?_, h3⟩
      · simpa [stepOf, hz] using h1
      · simpa [stepOf, hz] using h2
    · simp only [hz, if_false] at h1 h2
      refine ⟨rfl, ?_, ?_, h3⟩
      · simpa [stepOf, hz] using h1
      · simpa [stepOf, hz] using h2
  case pushCount =>
    refine (st_pushCount w d p q b C l s t u n v en hne h ho).mono ?_
    rintro e w' ⟨rfl, h1, h2, h3⟩
    by_cases hz : C.over ≤ stackedOf C (rd C l 3)
    · simp only [hz, if_true] at h1 h2
      refine ⟨rfl, ?_, ?_, h3⟩
      · simpa [stepOf, hz] using h1
      · simpa [stepOf, hz] using h2
    · simp only [hz, if_false] at h1 h2
      refine ⟨rfl, ?_, ?_, h3⟩
      · simpa [stepOf, hz] using h1
      · simpa [stepOf, hz] using h2
  case pushCell =>
    refine (st_pushCell w d p q b C l s t u n v en fit.cnt hne h ho).mono ?_
    rintro e w' ⟨rfl, h1, h2, h3⟩
    exact ⟨rfl, h1, h2, h3⟩
  case pushCounted =>
    refine (st_pushCounted w d p q b C l s t u n v en fit.cnt hne h ho).mono ?_
    rintro e w' ⟨rfl, h1, h2, h3⟩
    exact ⟨rfl, h1, h2, h3⟩
  case free =>
    refine (st_free w d p q b C l s t u n v en hne h ho).mono ?_
    rintro e w' ⟨rfl, h1, h2, h3⟩
    exact ⟨rfl, h1, h2, h3⟩
  case popReadBottom =>
    refine (st_popReadBottom w d p q b C l s t u n v en (by have := fit.b; omega) hne h ho).mono ?_
    rintro e w' ⟨rfl, h1, h2, h3⟩
    exact ⟨rfl, h1, h2, h3⟩
  case popBottom =>
    refine (st_popBottom w d p q b C l s t u n v en hne h ho).mono ?_
    rintro e w' ⟨rfl, h1, h2, h3⟩
    exact ⟨rfl, h1, h2, h3⟩
  case popReadTop =>
    refine (st_popReadTop w d p q b C l s t u n v en hne h ho).mono ?_
    rintro e w' ⟨rfl, h1, h2, h3⟩
    exact ⟨rfl, h1, h2, h3⟩
  case popSlot =>
    refine (st_popSlot w d p q b C l s t u n v en hne h ho).mono ?_
    rintro e w' ⟨rfl, h1, h2, h3⟩
    exact ⟨rfl, h1, h2, h3⟩
  case popLast =>
    refine (st_popLast w d p q b C l s t u n v en hne h ho).mono ?_
    rintro e w' ⟨rfl, h1, h2, h3⟩
    exact ⟨rfl, h1, h2, h3⟩
  case popSwap =>
    refine (st_popSwap w d p q b C l s t u n v en (by have := fit.ot; simp at this; omega) hne h ho).mono ?_
    rintro e w' ⟨rfl, h1, h2, h3⟩
    by_cases hz : rd C l 0 = t
    · simp only [hz, if_true] at h1 h2
      refine ⟨rfl, ?_, ?_, h3⟩
      · simpa [stepOf, hz] using h1
      · simpa [stepOf, hz] using h2
    · simp only [hz, if_false] at h1 h2
      refine ⟨rfl, ?_, ?_, h3⟩
      · simpa [stepOf, hz] using h1
      · simpa [stepOf, hz] using h2
  case popWon =>
    refine (st_popWon w d p q b C l s t u n v en hne h ho).mono ?_
    rintro e w' ⟨rfl, h1, h2, h3⟩
    exact ⟨rfl, h1, h2, h3⟩
  case popNothing =>
    refine (st_popNothing w d p q b C l s t u n v en hne h ho).mono ?_
    rintro e w' ⟨rfl, h1, h2, h3⟩
    exact ⟨rfl, h1, h2, h3⟩
  case stealReadTop =>
    refine (st_stealReadTop w d p q b C l s t u n v en hne h ho).mono ?_
    rintro e w' ⟨rfl, h1, h2, h3⟩
    exact ⟨rfl, h1, h2, h3⟩
  case stealReadBottom =>
    refine (st_stealReadBottom w d p q b C l s t u n v en hne h ho).mono ?_
    rintro e w' ⟨rfl, h1, h2, h3⟩
    exact ⟨rfl, h1, h2, h3⟩
  case stealSlot =>
    refine (st_stealSlot w d p q b C l s t u n v en hne h ho).mono ?_
    rintro e w' ⟨rfl, h1, h2, h3⟩
    exact ⟨rfl, h1, h2, h3⟩
  case stealSwap =>
    refine (st_stealSwap w d p q b C l s t u n v en (by have := fit.ot; simp at this; omega) hne h ho).mono ?_
    rintro e w' ⟨rfl, h1, h2, h3⟩
    by_cases hz : rd C l 0 = t
    · simp only [hz, if_true] at h1 h2
      refine ⟨rfl, ?_, ?_, h3⟩
      · simpa [stepOf, hz] using h1
      · simpa [stepOf, hz] using h2
    · simp only [hz, if_false] at h1 h2
      refine ⟨rfl, ?_, ?_, h3⟩
      · simpa [stepOf, hz] using h1
      · simpa [stepOf, hz] using h2
  case takeLock =>
    refine (st_takeLock w d p q b C l s t u n v en hne h ho).mono ?_
    rintro e w' ⟨rfl, h1, h2, h3⟩
    by_cases hz : rd C l 2 = 0
    · simp only [hz, if_true] at h1 h2
      refine ⟨rfl, ?_, ?_, h3⟩
      · simpa [stepOf, hz] using h1
      · simpa [stepOf, hz] using h2
    · simp only [hz, if_false] at h1 h2
      refine ⟨rfl, ?_, ?_, h3⟩
      · simpa [stepOf, hz] using h1
      · simpa [stepOf, hz] using h2
  case takeCount =>
    refine (st_takeCount w d p q b C l s t u n v en hne h ho).mono ?_
    rintro e w' ⟨rfl, h1, h2, h3⟩
    by_cases hz : stackedOf C (rd C l 3) = 0
    · simp only [hz, if_true] at h1 h2
      refine ⟨rfl, ?_, ?_, h3⟩
      · simpa [stepOf, hz] using h1
      · simpa [stepOf, hz] using h2
    · simp only [hz, if_false] at h1 h2
      refine ⟨rfl, ?_, ?_, h3⟩
      · simpa [stepOf, hz] using h1
      · simpa [stepOf, hz] using h2
  case takeCell =>
    refine (st_takeCell w d p q b C l s t u n v en fit.cnt hne h ho).mono ?_
    rintro e w' ⟨rfl, h1, h2, h3⟩
    exact ⟨rfl, h1, h2, h3⟩
  case takeCounted =>
    refine (st_takeCounted w d p q b C l s t u n v en fit.cnt hne h ho).mono ?_
    rintro e w' ⟨rfl, h1, h2, h3⟩
    exact ⟨rfl, h1, h2, h3⟩

theorem stepOf_done {o : OpS} (h : o.done = true) : stepOf C l o = (l, o) := by simp [stepOf, h]

theorem step_done (o : OpS) (hd : o.done = true) (ho : OpB w b d o) :
    Calls Try.prog 24 #[.pointer (some ⟨b, 0, none⟩)] w fun e w' => e = .returned (.bool true) ∧ w' = w := by
  have H := hide (done_any w d b o ho)
  rw [hd] at H
  clear ho hd
  go_enter Try.func24, Try.ntmps24
  go_wp2_with fail
  refine H.out.mono ?_
  rintro e w1 ⟨rfl, rfl⟩
  go_wp2_with fail
  refine H.out.mono ?_
  rintro e w1 ⟨rfl, rfl⟩
  go_wp2_with fail
  go_ret
  exact ⟨rfl, rfl⟩

theorem step_nil :
    Calls Try.prog 24 #[.pointer none] w fun e w' => e = .returned (.bool true) ∧ w' = w := by
  have H := hide (done_nil w)
  go_enter Try.func24, Try.ntmps24
  go_wp2_with fail
  refine H.out.mono ?_
  rintro e w1 ⟨rfl, rfl⟩
  go_wp2_with fail
  refine H.out.mono ?_
  rintro e w1 ⟨rfl, rfl⟩
  go_wp2_with fail
  go_ret
  exact ⟨rfl, rfl⟩

set_option maxHeartbeats 4000000 in
set_option maxRecDepth 4000 in
theorem step_open (N : Int) (hN : N ≤ 4611686018427387904) (o : OpS) (fit : Fit C l o N) (hd : o.done = false) (hne : b ≠ d ∧ b ≠ p ∧ b ≠ q) (h : Dq w d p q C l s) (ho : OpB w b d o) :
    Calls Try.prog 24 #[.pointer (some ⟨b, 0, none⟩)] w fun e w' => e = .returned (.bool (stepOf C l o).2.done) ∧ Dq w' d p q C (stepOf C l o).1 (wrap64 (s + 1)) ∧ OpB w' b d (stepOf C l o).2 ∧ Turned [p, q, b] w w' := by
  have HA := act_any w d p q b C l s N hN o fit hd hne h ho
  have f0 := ho.f0
  have H := hide (done_any w d b o ho)
  rw [hd] at H
  generalize stepOf C l o = R at *
  clear ho h fit hd
  generalize o.at_ = a at *
  cases a
  all_goals (
    simp only [Stp.fn] at HA f0
    have HB := hide HA
    clear HA
    go_enter Try.func24, Try.ntmps24
    go_wp2_with fail
    refine H.out.mono ?_
    rintro e w1 ⟨rfl, rfl⟩
    clear H
    go_wp2_with fail
    refine HB.out.mono ?_
    rintro e w2 ⟨rfl, h1, h2, h3⟩
    have H2 := hide (done_any w2 d b _ h2)
    have H3 := hide (And.intro h1 (And.intro h2 h3))
    clear HB h1 h2 h3 f0
    go_wp2_with fail
    refine H2.out.mono ?_
    rintro e w3 ⟨rfl, rfl⟩
    go_wp2_with fail
    go_ret
    exact ⟨rfl, H3.out⟩)

theorem step_any (N : Int) (hN : N ≤ 4611686018427387904) (o : OpS) (fit : Fit C l o N) (hne : b ≠ d ∧ b ≠ p ∧ b ≠ q) (h : Dq w d p q C l s) (ho : OpB w b d o) :
    Calls Try.prog 24 #[.pointer (some ⟨b, 0, none⟩)] w fun e w' => e = .returned (.bool (stepOf C l o).2.done) ∧ Dq w' d p q C (stepOf C l o).1 (if o.done then s else wrap64 (s + 1)) ∧ OpB w' b d (stepOf C l o).2 ∧ Turned [p, q, b] w w' := by
  by_cases hd : o.done = true
  · refine (step_done w d b o hd ho).mono ?_
    rintro e w' ⟨rfl, rfl⟩
    rw [stepOf_done C l hd, if_pos hd]
    exact ⟨by rw [hd], h, ho, Turned.refl _ _⟩
  · have hd' : o.done = false := by simpa using hd
    rw [if_neg hd]
    exact step_open w d p q b C l s N hN o fit hd' hne h ho

/-- An operation at its beginning. -/
def opNew (a : Stp) (v : Int) : OpS := ⟨a, false, 0, 0, 0, v, 0⟩

theorem begin_any (K : Nat) (v : Int) (h : Dq w d p q C l s) :
    Calls Try.prog 30 #[.pointer (some ⟨d, 0, none⟩), .func (.func K) #[.pointer (some ⟨d, 0, none⟩)] #[], .int .i64 v] w fun e w' => e = .returned (.pointer (some ⟨w.heap.size, 0, none⟩)) ∧ w' = w.alloc (.cells #[.func (.func K) #[.pointer (some ⟨d, 0, none⟩)] #[], .bool false, .int .i64 0, .int .i64 0, .int .i64 0, .int .i64 v, .int .i64 0] 84) := by
  have H := hide (dnone_any w d p q C l s h)
  clear h
  go_enter Try.func30, Try.ntmps30
  go_wp2_with fail
  refine H.out.mono ?_
  rintro e w1 ⟨rfl, rfl⟩
  clear H
  go_wp2_with fail
  go_ret
  exact ⟨rfl, rfl⟩

theorem tell_any (k : Nat) (hk : k < 4 + C.cap + C.over) (h : Dq w d p q C l s) :
    Calls Try.prog 92 #[.pointer (some ⟨d, 0, none⟩), .int .i64 k] w fun e w' => e = .returned (.int .i64 (rd C l k)) ∧ Dq w' d p q C l (wrap64 (s + 1)) ∧ Turned [p, q] w w' := by
  have H := hide (dnone_any w d p q C l s h)
  have HL := hide (dload_any w d p q C l s k hk h)
  generalize rd C l k = y at *
  clear h hk
  go_enter Try.func92, Try.ntmps92
  go_wp2_with fail
  refine H.out.mono ?_
  rintro e w1 ⟨rfl, rfl⟩
  clear H
  go_wp2_with fail
  refine HL.out.mono ?_
  rintro e w2 ⟨rfl, h1, h2⟩
  have H3 := hide (And.intro h1 h2)
  clear h1 h2 HL
  go_wp2_with fail
  go_ret
  exact ⟨rfl, H3.out⟩


theorem push_any (v : Int) (h : Dq w d p q C l s) :
    Calls Try.prog 14 #[.pointer (some ⟨d, 0, none⟩), .int .i64 v] w fun e w' => e = .returned (.pointer (some ⟨w.heap.size, 0, none⟩)) ∧ Dq w' d p q C l s ∧ OpB w' w.heap.size d (opNew .pushReadBottom v) ∧ Turned [] w w' ∧ w'.heap.size = w.heap.size + 1 := by
  have H := hide (begin_any w d p q C l s 31 v h)
  have HH := hide h
  clear h
  go_enter Try.func14, Try.ntmps14
  go_wp2_with fail
  refine H.out.mono ?_
  rintro e w1 ⟨rfl, rfl⟩
  clear H
  go_wp2_with fail
  go_ret
  have t1 : Turned [] w (w.alloc (.cells (opCells d (opNew .pushReadBottom v)) 84)) := (Turned.refl _ _).alloc _
  exact ⟨rfl, HH.out.turned t1 (by simp) (by simp) (by simp), heap_alloc_new _ _, t1, by simp⟩


theorem pop_any (h : Dq w d p q C l s) :
    Calls Try.prog 42 #[.pointer (some ⟨d, 0, none⟩)] w fun e w' => e = .returned (.pointer (some ⟨w.heap.size, 0, none⟩)) ∧ Dq w' d p q C l s ∧ OpB w' w.heap.size d (opNew .popReadBottom 0) ∧ Turned [] w w' ∧ w'.heap.size = w.heap.size + 1 := by
  have H := hide (begin_any w d p q C l s 53 0 h)
  have HH := hide h
  clear h
  go_enter Try.func42, Try.ntmps42
  go_wp2_with fail
  refine H.out.mono ?_
  rintro e w1 ⟨rfl, rfl⟩
  clear H
  go_wp2_with fail
  go_ret
  have t1 : Turned [] w (w.alloc (.cells (opCells d (opNew .popReadBottom 0)) 84)) := (Turned.refl _ _).alloc _
  exact ⟨rfl, HH.out.turned t1 (by simp) (by simp) (by simp), heap_alloc_new _ _, t1, by simp⟩


theorem steal_any (h : Dq w d p q C l s) :
    Calls Try.prog 43 #[.pointer (some ⟨d, 0, none⟩)] w fun e w' => e = .returned (.pointer (some ⟨w.heap.size, 0, none⟩)) ∧ Dq w' d p q C l s ∧ OpB w' w.heap.size d (opNew .stealReadTop 0) ∧ Turned [] w w' ∧ w'.heap.size = w.heap.size + 1 := by
  have H := hide (begin_any w d p q C l s 54 0 h)
  have HH := hide h
  clear h
  go_enter Try.func43, Try.ntmps43
  go_wp2_with fail
  refine H.out.mono ?_
  rintro e w1 ⟨rfl, rfl⟩
  clear H
  go_wp2_with fail
  go_ret
  have t1 : Turned [] w (w.alloc (.cells (opCells d (opNew .stealReadTop 0)) 84)) := (Turned.refl _ _).alloc _
  exact ⟨rfl, HH.out.turned t1 (by simp) (by simp) (by simp), heap_alloc_new _ _, t1, by simp⟩


theorem top_any (h : Dq w d p q C l s) :
    Calls Try.prog 82 #[.pointer (some ⟨d, 0, none⟩)] w fun e w' => e = .returned (.int .i64 (rd C l 0)) ∧ Dq w' d p q C l (wrap64 (s + 1)) ∧ Turned [p, q] w w' := by
  have HL := hide (tell_any w d p q C l s 0 (by have := h.cap; omega) h)
  generalize rd C l 0 = y at *
  clear h
  go_enter Try.func82, Try.ntmps82
  go_wp2_with fail
  refine HL.out.mono ?_
  rintro e w2 ⟨rfl, h1, h2⟩
  have H3 := hide (And.intro h1 h2)
  clear h1 h2 HL
  go_wp2_with fail
  go_ret
  exact ⟨rfl, H3.out⟩


theorem bottom_any (h : Dq w d p q C l s) :
    Calls Try.prog 94 #[.pointer (some ⟨d, 0, none⟩)] w fun e w' => e = .returned (.int .i64 (rd C l 1)) ∧ Dq w' d p q C l (wrap64 (s + 1)) ∧ Turned [p, q] w w' := by
  have HL := hide (tell_any w d p q C l s 1 (by have := h.cap; omega) h)
  generalize rd C l 1 = y at *
  clear h
  go_enter Try.func94, Try.ntmps94
  go_wp2_with fail
  refine HL.out.mono ?_
  rintro e w2 ⟨rfl, h1, h2⟩
  have H3 := hide (And.intro h1 h2)
  clear h1 h2 HL
  go_wp2_with fail
  go_ret
  exact ⟨rfl, H3.out⟩


theorem stack_any (h : Dq w d p q C l s) :
    Calls Try.prog 100 #[.pointer (some ⟨d, 0, none⟩)] w fun e w' => e = .returned (.int .i64 (rd C l 3)) ∧ Dq w' d p q C l (wrap64 (s + 1)) ∧ Turned [p, q] w w' := by
  have HL := hide (tell_any w d p q C l s 3 (by have := h.cap; omega) h)
  generalize rd C l 3 = y at *
  clear h
  go_enter Try.func100, Try.ntmps100
  go_wp2_with fail
  refine HL.out.mono ?_
  rintro e w2 ⟨rfl, h1, h2⟩
  have H3 := hide (And.intro h1 h2)
  clear h1 h2 HL
  go_wp2_with fail
  go_ret
  exact ⟨rfl, H3.out⟩


end
end Go.Proofs.Ytokabpgdklihlaa
