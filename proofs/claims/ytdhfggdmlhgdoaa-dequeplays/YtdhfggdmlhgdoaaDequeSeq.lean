/-
  An operation alone at a deque: what it tells and what the cells are then, each way through it. No Go is walked here.
-/
import Derived.Test.YtdhfggdmlhgdoaaDequeLaw
namespace Go.Proofs.Ytdhfggdmlhgdoaa
open Go.RowKit

/-- A deque that nobody is at: T top, B bottom, N items in the stack. -/
structure Sq (C : Cfg) (l : List Int) (T B : Int) (N : Nat) : Prop where
  t : rd C l 0 = T
  b : rd C l 1 = B
  k : rd C l 2 = 0
  n : rd C l 3 = N
  room : C.base + (4 + C.cap + C.over) ≤ l.length
  cap : 1 ≤ C.cap
  le : T ≤ B ∧ B ≤ T + C.cap
  nn : N ≤ C.over

theorem gstep {C : Cfg} {k : Nat} {l l' : List Int} {o o' : OpS} (h : stepOf C l o = (l', o')) : goes C (k + 1) (l, o) = goes C k (l', o') := by rw [goes, h]
theorem gend {C : Cfg} {k : Nat} {l : List Int} {o : OpS} (h : o.done = true) : goes C k (l, o) = (l, o) := goes_done C k (l, o) h

section
variable {C : Cfg} {l : List Int} {T B : Int} {N : Nat}

theorem Sq.stk (h : Sq C l T B N) : stackedOf C (N : Int) = N := by
  have := h.nn
  unfold stackedOf
  omega

theorem seq_push_slot (h : Sq C l T B N) (hlt : B - T < C.cap) (v : Int) :
    opRun C .pushReadBottom v l = (wr C (wr C l (slotOf C B) v) 1 (B + 1), ⟨.pushBottom, true, T, B, 0, v, 0⟩) := by
  have hh : heldOf C T B < C.cap := by have := h.le; have := h.cap; unfold heldOf; split <;> omega
  have e1 : stepOf C l ⟨.pushReadBottom, false, 0, 0, 0, v, 0⟩ = (l, ⟨.pushReadTop, false, 0, B, 0, v, 0⟩) := by simp [stepOf, h.b]
  have e2 : stepOf C l ⟨.pushReadTop, false, 0, B, 0, v, 0⟩ = (l, ⟨.pushSlot, false, T, B, 0, v, 0⟩) := by simp [stepOf, h.t, hh]
  have e3 : stepOf C l ⟨.pushSlot, false, T, B, 0, v, 0⟩ = (wr C l (slotOf C B) v, ⟨.pushBottom, false, T, B, 0, v, 0⟩) := by simp [stepOf]
  have e4 : stepOf C (wr C l (slotOf C B) v) ⟨.pushBottom, false, T, B, 0, v, 0⟩ = (wr C (wr C l (slotOf C B) v) 1 (B + 1), ⟨.pushBottom, true, T, B, 0, v, 0⟩) := by simp [stepOf]
  exact (gstep (k := 11) e1).trans ((gstep (k := 10) e2).trans ((gstep (k := 9) e3).trans ((gstep (k := 8) e4).trans (gend rfl))))

theorem seq_push_stack (h : Sq C l T B N) (hge : B - T = C.cap) (hN : N < C.over) (v : Int) :
    opRun C .pushReadBottom v l = (wr C (wr C (wr C (wr C l 2 1) (4 + C.cap + N) v) 3 ((N : Int) + 1)) 2 0, ⟨.free, true, T, B, N, v, 0⟩) := by
  have hh : ¬ heldOf C T B < C.cap := by have := h.le; have := h.cap; unfold heldOf; split <;> omega
  have n1 : rd C (wr C l 2 1) 3 = N := by rw [rd_wr_ne _ _ _ _ _ (by omega)]; exact h.n
  have e1 : stepOf C l ⟨.pushReadBottom, false, 0, 0, 0, v, 0⟩ = (l, ⟨.pushReadTop, false, 0, B, 0, v, 0⟩) := by simp [stepOf, h.b]
  have e2 : stepOf C l ⟨.pushReadTop, false, 0, B, 0, v, 0⟩ = (l, ⟨.pushLock, false, T, B, 0, v, 0⟩) := by simp [stepOf, h.t, hh]
  have e3 : stepOf C l ⟨.pushLock, false, T, B, 0, v, 0⟩ = (wr C l 2 1, ⟨.pushCount, false, T, B, 0, v, 0⟩) := by simp [stepOf, h.k]
  have hno : ¬ C.over ≤ N := by omega
  have e4 : stepOf C (wr C l 2 1) ⟨.pushCount, false, T, B, 0, v, 0⟩ = (wr C l 2 1, ⟨.pushCell, false, T, B, N, v, 0⟩) := by simp [stepOf, n1, h.stk, hno]
  have e5 : stepOf C (wr C l 2 1) ⟨.pushCell, false, T, B, N, v, 0⟩ = (wr C (wr C l 2 1) (4 + C.cap + N) v, ⟨.pushCounted, false, T, B, N, v, 0⟩) := by simp [stepOf]
  have e6 : stepOf C (wr C (wr C l 2 1) (4 + C.cap + N) v) ⟨.pushCounted, false, T, B, N, v, 0⟩ = (wr C (wr C (wr C l 2 1) (4 + C.cap + N) v) 3 ((N : Int) + 1), ⟨.free, false, T, B, N, v, 0⟩) := by simp [stepOf]
  have e7 : stepOf C (wr C (wr C (wr C l 2 1) (4 + C.cap + N) v) 3 ((N : Int) + 1)) ⟨.free, false, T, B, N, v, 0⟩ = (wr C (wr C (wr C (wr C l 2 1) (4 + C.cap + N) v) 3 ((N : Int) + 1)) 2 0, ⟨.free, true, T, B, N, v, 0⟩) := by simp [stepOf]
  exact (gstep (k := 11) e1).trans ((gstep (k := 10) e2).trans ((gstep (k := 9) e3).trans ((gstep (k := 8) e4).trans ((gstep (k := 7) e5).trans ((gstep (k := 6) e6).trans ((gstep (k := 5) e7).trans (gend rfl)))))))

/-- By the stack, for a pop or a steal: what is told and left. -/
theorem seq_take (l : List Int) (hk : rd C l 2 = 0) (hn : rd C l 3 = N) (hN : N ≤ C.over) (j : Nat) (t b x : Int) :
    goes C (j + 5) (l, ⟨.takeLock, false, t, b, 0, x, 0⟩) =
      if N = 0 then (wr C (wr C l 2 1) 2 0, ⟨.free, true, t, b, 0, x, 15⟩) else (wr C (wr C (wr C l 2 1) 3 ((N : Int) - 1)) 2 0, ⟨.free, true, t, b, N, rd C l (4 + C.cap + (N - 1)), 0⟩) := by
  have n1 : rd C (wr C l 2 1) 3 = N := by rw [rd_wr_ne _ _ _ _ _ (by omega)]; exact hn
  have hs : stackedOf C (N : Int) = N := by unfold stackedOf; omega
  have e1 : stepOf C l ⟨.takeLock, false, t, b, 0, x, 0⟩ = (wr C l 2 1, ⟨.takeCount, false, t, b, 0, x, 0⟩) := by simp [stepOf, hk]
  by_cases h0 : N = 0
  · subst h0
    rw [if_pos rfl]
    have e2 : stepOf C (wr C l 2 1) ⟨.takeCount, false, t, b, 0, x, 0⟩ = (wr C l 2 1, ⟨.free, false, t, b, 0, x, 15⟩) := by simp only [stepOf, n1, hs]; rfl
    have e3 : stepOf C (wr C l 2 1) ⟨.free, false, t, b, 0, x, 15⟩ = (wr C (wr C l 2 1) 2 0, ⟨.free, true, t, b, 0, x, 15⟩) := by simp [stepOf]
    exact (gstep (k := j + 4) e1).trans ((gstep (k := j + 3) e2).trans ((gstep (k := j + 2) e3).trans (gend rfl)))
  · rw [if_neg h0]
    have r1 : rd C (wr C l 2 1) (4 + C.cap + (N - 1)) = rd C l (4 + C.cap + (N - 1)) := rd_wr_ne _ _ _ _ _ (by omega)
    have e2 : stepOf C (wr C l 2 1) ⟨.takeCount, false, t, b, 0, x, 0⟩ = (wr C l 2 1, ⟨.takeCell, false, t, b, N, x, 0⟩) := by simp [stepOf, n1, hs, h0]
    have e3 : stepOf C (wr C l 2 1) ⟨.takeCell, false, t, b, N, x, 0⟩ = (wr C l 2 1, ⟨.takeCounted, false, t, b, N, rd C l (4 + C.cap + (N - 1)), 0⟩) := by simp [stepOf, r1]
    have e4 : stepOf C (wr C l 2 1) ⟨.takeCounted, false, t, b, N, rd C l (4 + C.cap + (N - 1)), 0⟩ = (wr C (wr C l 2 1) 3 ((N : Int) - 1), ⟨.free, false, t, b, N, rd C l (4 + C.cap + (N - 1)), 0⟩) := by simp [stepOf]
    have e5 : stepOf C (wr C (wr C l 2 1) 3 ((N : Int) - 1)) ⟨.free, false, t, b, N, rd C l (4 + C.cap + (N - 1)), 0⟩ = (wr C (wr C (wr C l 2 1) 3 ((N : Int) - 1)) 2 0, ⟨.free, true, t, b, N, rd C l (4 + C.cap + (N - 1)), 0⟩) := by simp [stepOf]
    exact (gstep (k := j + 4) e1).trans ((gstep (k := j + 3) e2).trans ((gstep (k := j + 2) e3).trans ((gstep (k := j + 1) e4).trans ((gstep (k := j) e5).trans (gend rfl)))))

theorem seq_pop_slot (h : Sq C l T B N) (hlt : T < B - 1) :
    opRun C .popReadBottom 0 l = (wr C l 1 (B - 1), ⟨.popSlot, true, T, B - 1, 0, rd C l (slotOf C (B - 1)), 0⟩) := by
  have r0 : rd C (wr C l 1 (B - 1)) 0 = T := by rw [rd_wr_ne _ _ _ _ _ (by omega)]; exact h.t
  have rs : rd C (wr C l 1 (B - 1)) (slotOf C (B - 1)) = rd C l (slotOf C (B - 1)) := rd_wr_ne _ _ _ _ _ (by have := slotOf_lt C (B - 1) h.cap; omega)
  have e1 : stepOf C l ⟨.popReadBottom, false, 0, 0, 0, 0, 0⟩ = (l, ⟨.popBottom, false, 0, B - 1, 0, 0, 0⟩) := by simp [stepOf, h.b]
  have e2 : stepOf C l ⟨.popBottom, false, 0, B - 1, 0, 0, 0⟩ = (wr C l 1 (B - 1), ⟨.popReadTop, false, 0, B - 1, 0, 0, 0⟩) := by simp [stepOf]
  have e3 : stepOf C (wr C l 1 (B - 1)) ⟨.popReadTop, false, 0, B - 1, 0, 0, 0⟩ = (wr C l 1 (B - 1), ⟨.popSlot, false, T, B - 1, 0, 0, 0⟩) := by simp [stepOf, r0, hlt]
  have e4 : stepOf C (wr C l 1 (B - 1)) ⟨.popSlot, false, T, B - 1, 0, 0, 0⟩ = (wr C l 1 (B - 1), ⟨.popSlot, true, T, B - 1, 0, rd C l (slotOf C (B - 1)), 0⟩) := by simp [stepOf, rs]
  exact (gstep (k := 11) e1).trans ((gstep (k := 10) e2).trans ((gstep (k := 9) e3).trans ((gstep (k := 8) e4).trans (gend rfl))))

theorem seq_pop_last (h : Sq C l T B N) (heq : T = B - 1) :
    opRun C .popReadBottom 0 l = (wr C (wr C (wr C l 1 (B - 1)) 0 (T + 1)) 1 (T + 1), ⟨.popWon, true, T + 1, B - 1, 0, rd C l (slotOf C (B - 1)), 0⟩) := by
  have r0 : rd C (wr C l 1 (B - 1)) 0 = T := by rw [rd_wr_ne _ _ _ _ _ (by omega)]; exact h.t
  have rs : rd C (wr C l 1 (B - 1)) (slotOf C (B - 1)) = rd C l (slotOf C (B - 1)) := rd_wr_ne _ _ _ _ _ (by have := slotOf_lt C (B - 1) h.cap; omega)
  have hn : ¬ T < B - 1 := by omega
  have e1 : stepOf C l ⟨.popReadBottom, false, 0, 0, 0, 0, 0⟩ = (l, ⟨.popBottom, false, 0, B - 1, 0, 0, 0⟩) := by simp [stepOf, h.b]
  have e2 : stepOf C l ⟨.popBottom, false, 0, B - 1, 0, 0, 0⟩ = (wr C l 1 (B - 1), ⟨.popReadTop, false, 0, B - 1, 0, 0, 0⟩) := by simp [stepOf]
  have e3 : stepOf C (wr C l 1 (B - 1)) ⟨.popReadTop, false, 0, B - 1, 0, 0, 0⟩ = (wr C l 1 (B - 1), ⟨.popLast, false, T, B - 1, 0, 0, 0⟩) := by simp [stepOf, r0, heq]
  have e4 : stepOf C (wr C l 1 (B - 1)) ⟨.popLast, false, T, B - 1, 0, 0, 0⟩ = (wr C l 1 (B - 1), ⟨.popSwap, false, T, B - 1, 0, rd C l (slotOf C (B - 1)), 0⟩) := by simp [stepOf, rs]
  have e5 : stepOf C (wr C l 1 (B - 1)) ⟨.popSwap, false, T, B - 1, 0, rd C l (slotOf C (B - 1)), 0⟩ = (wr C (wr C l 1 (B - 1)) 0 (T + 1), ⟨.popWon, false, T + 1, B - 1, 0, rd C l (slotOf C (B - 1)), 0⟩) := by simp [stepOf, r0]
  have e6 : stepOf C (wr C (wr C l 1 (B - 1)) 0 (T + 1)) ⟨.popWon, false, T + 1, B - 1, 0, rd C l (slotOf C (B - 1)), 0⟩ = (wr C (wr C (wr C l 1 (B - 1)) 0 (T + 1)) 1 (T + 1), ⟨.popWon, true, T + 1, B - 1, 0, rd C l (slotOf C (B - 1)), 0⟩) := by simp [stepOf]
  exact (gstep (k := 11) e1).trans ((gstep (k := 10) e2).trans ((gstep (k := 9) e3).trans ((gstep (k := 8) e4).trans ((gstep (k := 7) e5).trans ((gstep (k := 6) e6).trans (gend rfl))))))

theorem seq_pop_stack (h : Sq C l T B N) (heq : T = B) :
    opRun C .popReadBottom 0 l = goes C 8 (wr C (wr C l 1 (B - 1)) 1 T, ⟨.takeLock, false, T, B - 1, 0, 0, 0⟩) := by
  have r0 : rd C (wr C l 1 (B - 1)) 0 = T := by rw [rd_wr_ne _ _ _ _ _ (by omega)]; exact h.t
  have hn : ¬ T < B - 1 := by omega
  have hn2 : ¬ T = B - 1 := by omega
  have e1 : stepOf C l ⟨.popReadBottom, false, 0, 0, 0, 0, 0⟩ = (l, ⟨.popBottom, false, 0, B - 1, 0, 0, 0⟩) := by simp [stepOf, h.b]
  have e2 : stepOf C l ⟨.popBottom, false, 0, B - 1, 0, 0, 0⟩ = (wr C l 1 (B - 1), ⟨.popReadTop, false, 0, B - 1, 0, 0, 0⟩) := by simp [stepOf]
  have e3 : stepOf C (wr C l 1 (B - 1)) ⟨.popReadTop, false, 0, B - 1, 0, 0, 0⟩ = (wr C l 1 (B - 1), ⟨.popNothing, false, T, B - 1, 0, 0, 0⟩) := by simp [stepOf, r0, hn, hn2]
  have e4 : stepOf C (wr C l 1 (B - 1)) ⟨.popNothing, false, T, B - 1, 0, 0, 0⟩ = (wr C (wr C l 1 (B - 1)) 1 T, ⟨.takeLock, false, T, B - 1, 0, 0, 0⟩) := by simp [stepOf]
  exact (gstep (k := 11) e1).trans ((gstep (k := 10) e2).trans ((gstep (k := 9) e3).trans (gstep (k := 8) e4)))

theorem seq_steal_slot (h : Sq C l T B N) (hlt : T < B) :
    opRun C .stealReadTop 0 l = (wr C l 0 (T + 1), ⟨.stealSwap, true, T, B, 0, rd C l (slotOf C T), 0⟩) := by
  have e1 : stepOf C l ⟨.stealReadTop, false, 0, 0, 0, 0, 0⟩ = (l, ⟨.stealReadBottom, false, T, 0, 0, 0, 0⟩) := by simp [stepOf, h.t]
  have e2 : stepOf C l ⟨.stealReadBottom, false, T, 0, 0, 0, 0⟩ = (l, ⟨.stealSlot, false, T, B, 0, 0, 0⟩) := by simp [stepOf, h.b, hlt]
  have e3 : stepOf C l ⟨.stealSlot, false, T, B, 0, 0, 0⟩ = (l, ⟨.stealSwap, false, T, B, 0, rd C l (slotOf C T), 0⟩) := by simp [stepOf]
  have e4 : stepOf C l ⟨.stealSwap, false, T, B, 0, rd C l (slotOf C T), 0⟩ = (wr C l 0 (T + 1), ⟨.stealSwap, true, T, B, 0, rd C l (slotOf C T), 0⟩) := by simp [stepOf, h.t]
  exact (gstep (k := 11) e1).trans ((gstep (k := 10) e2).trans ((gstep (k := 9) e3).trans ((gstep (k := 8) e4).trans (gend rfl))))

theorem seq_steal_stack (h : Sq C l T B N) (heq : T = B) :
    opRun C .stealReadTop 0 l = goes C 10 (l, ⟨.takeLock, false, T, B, 0, 0, 0⟩) := by
  have hn : ¬ T < B := by omega
  have e1 : stepOf C l ⟨.stealReadTop, false, 0, 0, 0, 0, 0⟩ = (l, ⟨.stealReadBottom, false, T, 0, 0, 0, 0⟩) := by simp [stepOf, h.t]
  have e2 : stepOf C l ⟨.stealReadBottom, false, T, 0, 0, 0, 0⟩ = (l, ⟨.takeLock, false, T, B, 0, 0, 0⟩) := by simp [stepOf, h.b, hn]
  exact (gstep (k := 11) e1).trans (gstep (k := 10) e2)
end

/-- What an operation alone comes to: it is done, tells r, and leaves the cells l'. -/
def Did (C : Cfg) (a : Stp) (v : Int) (l l' : List Int) (r : Int × Int) : Prop := (opRun C a v l).2.done = true ∧ (opRun C a v l).1 = l' ∧ valOf (opRun C a v l).2 = r

/-- Items xs at a deque whose slots do not go round (base and top from 0 on): T top, B bottom, the stack has those from the cap-th on, to place M. -/
structure Lies (C : Cfg) (l : List Int) (xs : Nat → Int) (T B M : Nat) : Prop where
  sq : Sq C l T B (M - C.cap)
  hi : B ≤ C.cap
  slot : ∀ i, T ≤ i → i < B → rd C l (4 + i) = xs i
  stk : ∀ i, C.cap ≤ i → i < M → rd C l (4 + i) = xs i
  over : M ≤ C.cap + C.over

theorem slotOf_low (C : Cfg) (i : Nat) (h : i < C.cap) : slotOf C (i : Int) = 4 + i := by
  unfold slotOf
  rw [Int.emod_eq_of_lt (by omega) (by omega)]
  omega

section
variable {C : Cfg} {l : List Int} {xs : Nat → Int} {T B M : Nat}

/-- Into the slots. -/
theorem Lies.push_slot (h : Lies C l xs T B M) (hB : B < C.cap) (hM : M ≤ C.cap) : ∃ l', Did C .pushReadBottom (xs B) l l' (xs B, 0) ∧ Lies C l' xs T (B + 1) M := by
  have hle := h.sq.le
  have hr := h.sq.room
  have e := seq_push_slot h.sq (by omega) (xs B)
  rw [slotOf_low C B hB] at e
  refine ⟨_, ⟨by rw [e], by rw [e], by rw [e]; rfl⟩, ⟨⟨?_, ?_, ?_, ?_, by simp only [wr_length]; exact hr, h.sq.cap, by omega, h.sq.nn⟩, by omega, ?_, ?_, h.over⟩⟩
  · rw [rd_wr_ne _ _ _ _ _ (by omega), rd_wr_ne _ _ _ _ _ (by omega)]; exact h.sq.t
  · rw [rd_wr _ _ _ _ _ (by rw [wr_length]; omega), if_pos rfl]; rfl
  · rw [rd_wr_ne _ _ _ _ _ (by omega), rd_wr_ne _ _ _ _ _ (by omega)]; exact h.sq.k
  · rw [rd_wr_ne _ _ _ _ _ (by omega), rd_wr_ne _ _ _ _ _ (by omega)]; exact h.sq.n
  · intro i hi1 hi2
    rw [rd_wr_ne _ _ _ _ _ (by omega), rd_wr _ _ _ _ _ (by omega)]
    by_cases e2 : i = B
    · subst e2; rw [if_pos rfl]
    · rw [if_neg (by omega)]; exact h.slot i hi1 (by omega)
  · intro i hi1 hi2
    omega

/-- Into the stack. -/
theorem Lies.push_stack (h : Lies C l xs 0 C.cap M) (hM : C.cap ≤ M) (hO : M < C.cap + C.over) : ∃ l', Did C .pushReadBottom (xs M) l l' (xs M, 0) ∧ Lies C l' xs 0 C.cap (M + 1) := by
  have hr := h.sq.room
  have e := seq_push_stack h.sq (by omega) (by omega) (xs M)
  rw [show 4 + C.cap + (M - C.cap) = 4 + M by omega] at e
  have r2 : ∀ k, k ≠ 2 → k ≠ 3 → k ≠ 4 + M → rd C (wr C (wr C (wr C (wr C l 2 1) (4 + M) (xs M)) 3 (((M - C.cap : Nat) : Int) + 1)) 2 0) k = rd C l k := by
    intro k h2 h3 h4
    rw [rd_wr_ne _ _ _ _ _ h2, rd_wr_ne _ _ _ _ _ h3, rd_wr_ne _ _ _ _ _ h4, rd_wr_ne _ _ _ _ _ h2]
  refine ⟨_, ⟨by rw [e], by rw [e], by rw [e]; rfl⟩, ⟨⟨?_, ?_, ?_, ?_, by simp only [wr_length]; exact hr, h.sq.cap, h.sq.le, by omega⟩, by omega, ?_, ?_, by omega⟩⟩
  · rw [r2 0 (by omega) (by omega) (by omega)]; exact h.sq.t
  · rw [r2 1 (by omega) (by omega) (by omega)]; exact h.sq.b
  · rw [rd_wr _ _ _ _ _ (by simp only [wr_length]; omega), if_pos rfl]
  · rw [rd_wr_ne _ _ _ _ _ (by omega), rd_wr _ _ _ _ _ (by simp only [wr_length]; omega), if_pos rfl]
    omega
  · intro i hi1 hi2
    rw [r2 (4 + i) (by omega) (by omega) (by omega)]
    exact h.slot i hi1 hi2
  · intro i hi1 hi2
    by_cases e2 : i = M
    · subst e2
      rw [rd_wr_ne _ _ _ _ _ (by omega), rd_wr_ne _ _ _ _ _ (by omega), rd_wr _ _ _ _ _ (by simp only [wr_length]; omega), if_pos rfl]
    · rw [r2 (4 + i) (by omega) (by omega) (by omega)]
      exact h.stk i hi1 (by omega)

theorem Lies.steal_slot (h : Lies C l xs T B M) (hlt : T < B) : ∃ l', Did C .stealReadTop 0 l l' (xs T, 0) ∧ Lies C l' xs (T + 1) B M := by
  have hle := h.sq.le
  have hr := h.sq.room
  have hhi := h.hi
  have e := seq_steal_slot h.sq (by omega)
  rw [slotOf_low C T (by omega), h.slot T (Nat.le_refl _) hlt] at e
  refine ⟨_, ⟨by rw [e], by rw [e], by rw [e]; rfl⟩, ⟨⟨?_, ?_, ?_, ?_, by simp only [wr_length]; exact hr, h.sq.cap, by omega, h.sq.nn⟩, by omega, ?_, ?_, h.over⟩⟩
  · rw [rd_wr _ _ _ _ _ (by omega), if_pos rfl]; rfl
  · rw [rd_wr_ne _ _ _ _ _ (by omega)]; exact h.sq.b
  · rw [rd_wr_ne _ _ _ _ _ (by omega)]; exact h.sq.k
  · rw [rd_wr_ne _ _ _ _ _ (by omega)]; exact h.sq.n
  · intro i hi1 hi2
    rw [rd_wr_ne _ _ _ _ _ (by omega)]; exact h.slot i (by omega) hi2
  · intro i hi1 hi2
    rw [rd_wr_ne _ _ _ _ _ (by omega)]; exact h.stk i hi1 hi2

theorem Lies.pop_slot (h : Lies C l xs T (B + 1) M) (hlt : T < B) : ∃ l', Did C .popReadBottom 0 l l' (xs B, 0) ∧ Lies C l' xs T B M := by
  have hle := h.sq.le
  have hr := h.sq.room
  have hhi := h.hi
  have e := seq_pop_slot h.sq (by omega)
  rw [show ((B + 1 : Nat) : Int) - 1 = (B : Int) by omega, slotOf_low C B (by omega), h.slot B (by omega) (by omega)] at e
  refine ⟨_, ⟨by rw [e], by rw [e], by rw [e]; rfl⟩, ⟨⟨?_, ?_, ?_, ?_, by simp only [wr_length]; exact hr, h.sq.cap, by omega, h.sq.nn⟩, by omega, ?_, ?_, h.over⟩⟩
  · rw [rd_wr_ne _ _ _ _ _ (by omega)]; exact h.sq.t
  · rw [rd_wr _ _ _ _ _ (by omega), if_pos rfl]
  · rw [rd_wr_ne _ _ _ _ _ (by omega)]; exact h.sq.k
  · rw [rd_wr_ne _ _ _ _ _ (by omega)]; exact h.sq.n
  · intro i hi1 hi2
    rw [rd_wr_ne _ _ _ _ _ (by omega)]; exact h.slot i hi1 (by omega)
  · intro i hi1 hi2
    rw [rd_wr_ne _ _ _ _ _ (by omega)]; exact h.stk i hi1 hi2

theorem Lies.pop_last (h : Lies C l xs T (T + 1) M) : ∃ l', Did C .popReadBottom 0 l l' (xs T, 0) ∧ Lies C l' xs (T + 1) (T + 1) M := by
  have hr := h.sq.room
  have hhi := h.hi
  have e := seq_pop_last h.sq (by omega)
  rw [show ((T + 1 : Nat) : Int) - 1 = (T : Int) by omega, slotOf_low C T (by omega), h.slot T (by omega) (by omega)] at e
  refine ⟨_, ⟨by rw [e], by rw [e], by rw [e]; rfl⟩, ⟨⟨?_, ?_, ?_, ?_, by simp only [wr_length]; exact hr, h.sq.cap, by omega, h.sq.nn⟩, by omega, ?_, ?_, h.over⟩⟩
  · rw [rd_wr_ne _ _ _ _ _ (by omega), rd_wr _ _ _ _ _ (by simp only [wr_length]; omega), if_pos rfl]; rfl
  · rw [rd_wr _ _ _ _ _ (by simp only [wr_length]; omega), if_pos rfl]; rfl
  · rw [rd_wr_ne _ _ _ _ _ (by omega), rd_wr_ne _ _ _ _ _ (by omega), rd_wr_ne _ _ _ _ _ (by omega)]; exact h.sq.k
  · rw [rd_wr_ne _ _ _ _ _ (by omega), rd_wr_ne _ _ _ _ _ (by omega), rd_wr_ne _ _ _ _ _ (by omega)]; exact h.sq.n
  · intro i hi1 hi2
    omega
  · intro i hi1 hi2
    rw [rd_wr_ne _ _ _ _ _ (by omega), rd_wr_ne _ _ _ _ _ (by omega), rd_wr_ne _ _ _ _ _ (by omega)]; exact h.stk i hi1 hi2

/-- Off the stack, by a pop or a steal. -/
theorem Lies.take (h : Lies C l xs T T M) (a : Stp) (ha : a = .popReadBottom ∨ a = .stealReadTop) :
    (C.cap < M → ∃ l', Did C a 0 l l' (xs (M - 1), 0) ∧ Lies C l' xs T T (M - 1)) ∧ (M ≤ C.cap → ∃ l', Did C a 0 l l' (0, 15) ∧ Lies C l' xs T T M) := by
  have hr := h.sq.room
  have hhi := h.hi
  have hov := h.over
  obtain ⟨l0, t0, b0, hrun, hlen, hrd⟩ : ∃ l0 t0 b0, (∃ j, opRun C a 0 l = goes C (j + 5) (l0, ⟨.takeLock, false, t0, b0, 0, 0, 0⟩)) ∧ l0.length = l.length ∧ ∀ k, rd C l0 k = rd C l k := by
    rcases ha with rfl | rfl
    · refine ⟨_, _, _, ⟨3, seq_pop_stack h.sq rfl⟩, by simp only [wr_length], fun k => ?_⟩
      by_cases hk : k = 1
      · subst hk
        rw [rd_wr _ _ _ _ _ (by simp only [wr_length]; omega), if_pos rfl]
        exact h.sq.b.symm
      · rw [rd_wr_ne _ _ _ _ _ hk, rd_wr_ne _ _ _ _ _ hk]
    · exact ⟨_, _, _, ⟨5, seq_steal_stack h.sq rfl⟩, rfl, fun _ => rfl⟩
  obtain ⟨j, hrun⟩ := hrun
  have ht := seq_take (N := M - C.cap) l0 (by rw [hrd]; exact h.sq.k) (by rw [hrd]; exact h.sq.n) h.sq.nn j t0 b0 0
  constructor
  · intro hM
    rw [if_neg (by omega)] at ht
    rw [hrd, show 4 + C.cap + (M - C.cap - 1) = 4 + (M - 1) by omega, h.stk (M - 1) (by omega) (by omega)] at ht
    rw [ht] at hrun
    have r2 : ∀ k, k ≠ 2 → k ≠ 3 → rd C (wr C (wr C (wr C l0 2 1) 3 (((M - C.cap : Nat) : Int) - 1)) 2 0) k = rd C l k := by
      intro k h2 h3
      rw [rd_wr_ne _ _ _ _ _ h2, rd_wr_ne _ _ _ _ _ h3, rd_wr_ne _ _ _ _ _ h2, hrd]
    refine ⟨_, ⟨by rw [hrun], by rw [hrun], by rw [hrun]; rfl⟩, ⟨⟨?_, ?_, ?_, ?_, by simp only [wr_length]; omega, h.sq.cap, by omega, by omega⟩, by omega, ?_, ?_, by omega⟩⟩
    · rw [r2 0 (by omega) (by omega)]; exact h.sq.t
    · rw [r2 1 (by omega) (by omega)]; exact h.sq.b
    · rw [rd_wr _ _ _ _ _ (by simp only [wr_length]; omega), if_pos rfl]
    · rw [rd_wr_ne _ _ _ _ _ (by omega), rd_wr _ _ _ _ _ (by simp only [wr_length]; omega), if_pos rfl]
      omega
    · intro i hi1 hi2
      omega
    · intro i hi1 hi2
      rw [r2 (4 + i) (by omega) (by omega)]
      exact h.stk i hi1 (by omega)
  · intro hM
    rw [if_pos (by omega)] at ht
    rw [ht] at hrun
    have r2 : ∀ k, rd C (wr C (wr C l0 2 1) 2 0) k = rd C l k := by
      intro k
      by_cases hk : k = 2
      · subst hk
        rw [rd_wr _ _ _ _ _ (by simp only [wr_length]; omega), if_pos rfl]
        exact h.sq.k.symm
      · rw [rd_wr_ne _ _ _ _ _ hk, rd_wr_ne _ _ _ _ _ hk, hrd]
    refine ⟨_, ⟨by rw [hrun], by rw [hrun], by rw [hrun]; rfl⟩, ⟨⟨?_, ?_, ?_, ?_, by simp only [wr_length]; omega, h.sq.cap, by omega, by omega⟩, by omega, ?_, ?_, by omega⟩⟩
    · rw [r2]; exact h.sq.t
    · rw [r2]; exact h.sq.b
    · rw [r2]; exact h.sq.k
    · rw [r2]; exact h.sq.n
    · intro i hi1 hi2
      omega
    · intro i hi1 hi2
      omega
end
end Go.Proofs.Ytdhfggdmlhgdoaa
