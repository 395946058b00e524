/-
  The steps of package deque's operations, each a method of the deque: what each does to the cells and to the operation. (Text by DequeSteps.gen.py.)
-/
import Derived.Test.YtokabpgdklihlaaDequeAcc
import Derived.Laws.EntriesVeiled
namespace Go.Proofs.Ytokabpgdklihlaa
open Go.RowKit

/-- On the way through a step: the deque, the operation's cells as they stand, what was turned. -/
structure St (w0 w : World) (d p q b : Nat) (C : Cfg) (l : List Int) (s : Int) (c : Array Value) : Prop where
  ne : b ≠ d ∧ b ≠ p ∧ b ≠ q
  dq : Dq w d p q C l s
  op : OpR w b c
  tu : Turned [p, q, b] w0 w
  lt : b < w0.heap.size

section
variable {w0 w : World} {d p q b : Nat} {C : Cfg} {l : List Int} {s : Int} {c : Array Value} {o : OpS}
theorem St.of (h : Dq w d p q C l s) (ho : OpB w b d o) (hne : b ≠ d ∧ b ≠ p ∧ b ≠ q) : St w w d p q b C l s (opCells d o) := ⟨hne, h, ho, Turned.refl _ _, ho.lt⟩
theorem St.acc (h : St w0 w d p q b C l s c) {l' : List Int} {s' : Int} {w' : World} (m : Dq w' d p q C l' s') (t : Turned [p, q] w w') : St w0 w' d p q b C l' s' c :=
  ⟨h.ne, m, by have e := t.block b (lt_of_heap h.op) (by simp; exact h.ne.2); unfold OpR; rw [e]; exact h.op, h.tu.trans (t.mono (by intro k hk; simp at hk; rcases hk with rfl | rfl <;> simp)), h.lt⟩
theorem St.set (h : St w0 w d p q b C l s c) (i : Nat) (v : Value) : St w0 (w.setCell ⟨b, i, none⟩ v) d p q b C l s (c.setIfInBounds i v) :=
  ⟨h.ne, h.dq.turned (S := [b]) ((Turned.refl _ _).setCell (by simp) _) (by simp; exact Ne.symm h.ne.1) (by simp; exact Ne.symm h.ne.2.1) (by simp; exact Ne.symm h.ne.2.2), h.op.set i v, h.tu.setCell (by simp) _, h.lt⟩
theorem St.drewN (h : St w0 w d p q b C l s c) (m : Nat) : St w0 (w.drewN m) d p q b C l s c := ⟨h.ne, h.dq.drewN m, h.op, h.tu.drewN m, h.lt⟩
theorem St.drew (h : St w0 w d p q b C l s c) : St w0 w.drew d p q b C l s c := ⟨h.ne, h.dq.drew, h.op, h.tu.drew, h.lt⟩
theorem St.opB (h : St w0 w d p q b C l s c) (e : c = opCells d o) : OpB w b d o := h.op.mk e
theorem St.endd (h : St w0 w d p q b C l s c) {w' : World} {o' : OpS} (ho : OpB w' b d o') (t : Turned [b] w w') : St w0 w' d p q b C l s (opCells d o') :=
  ⟨h.ne, h.dq.turned t (by simp; exact Ne.symm h.ne.1) (by simp; exact Ne.symm h.ne.2.1) (by simp; exact Ne.symm h.ne.2.2), ho, h.tu.trans (t.mono (by simp)), h.lt⟩
theorem St.fin (h : St w0 w d p q b C l s c) (e : c = opCells d o) : Dq w d p q C l s ∧ OpB w b d o ∧ Turned [p, q, b] w0 w := ⟨h.dq, h.op.mk e, h.tu⟩
end

section
variable (w : World) (d p q b : Nat) (C : Cfg) (l : List Int) (s : Int) (t u : Int) (n : Nat) (v en : Int)

set_option maxRecDepth 4000 in
theorem st_pushReadBottom (hne : b ≠ d ∧ b ≠ p ∧ b ≠ q) (h : Dq w d p q C l s) (ho : OpB w b d ⟨.pushReadBottom, false, t, u, n, v, en⟩) :
    Calls Try.prog 31 #[.pointer (some ⟨d, 0, none⟩), .pointer (some ⟨b, 0, none⟩)] w fun e w' => e = .returned (.tuple #[]) ∧ Dq w' d p q C l (wrap64 (s + 1)) ∧ OpB w' b d ⟨.pushReadTop, false, t, (rd C l 1), n, v, en⟩ ∧ Turned [p, q, b] w w' := by
  have S0 := hide (St.of h ho hne)
  have HL := hide (dload_any w d p q C l s 1 (by have := h.cap; omega) h)
  have hC := h.cap
  generalize rd C l 1 = y at *
  clear ho h
  go_enter Try.func31, Try.ntmps31
  go_wp2_with fail
  refine HL.out.mono ?_
  rintro e w1 ⟨rfl, g1, t1⟩
  have S1 := hide (S0.out.acc g1 t1)
  have f0 := (S1.out.opB rfl).f0
  have fz0 := (S1.out.opB rfl).fz 0
  have f3 := (S1.out.opB rfl).f3
  have fz3 := (S1.out.opB rfl).fz 3
  clear g1 t1 HL S0
  go_wp2_with fail
  first | refine bodyPost_end (results_none rfl _ _ _) rfl ?_ | refine bodyPost_ret (results_none rfl _ _ _) rfl ?_
  exact ⟨rfl, ((S1.out.set 3 _).set 0 _).fin rfl⟩

set_option maxRecDepth 4000 in
theorem st_popReadBottom (hy : -4611686018427387904 ≤ rd C l 1 ∧ rd C l 1 ≤ 4611686018427387904) (hne : b ≠ d ∧ b ≠ p ∧ b ≠ q) (h : Dq w d p q C l s) (ho : OpB w b d ⟨.popReadBottom, false, t, u, n, v, en⟩) :
    Calls Try.prog 53 #[.pointer (some ⟨d, 0, none⟩), .pointer (some ⟨b, 0, none⟩)] w fun e w' => e = .returned (.tuple #[]) ∧ Dq w' d p q C l (wrap64 (s + 1)) ∧ OpB w' b d ⟨.popBottom, false, t, (rd C l 1 - 1), n, v, en⟩ ∧ Turned [p, q, b] w w' := by
  have S0 := hide (St.of h ho hne)
  have HL := hide (dload_any w d p q C l s 1 (by have := h.cap; omega) h)
  have hC := h.cap
  generalize rd C l 1 = y at *
  clear ho h
  go_enter Try.func53, Try.ntmps53
  go_wp2_with fail
  refine HL.out.mono ?_
  rintro e w1 ⟨rfl, g1, t1⟩
  have S1 := hide (S0.out.acc g1 t1)
  have f0 := (S1.out.opB rfl).f0
  have fz0 := (S1.out.opB rfl).fz 0
  have f3 := (S1.out.opB rfl).f3
  have fz3 := (S1.out.opB rfl).fz 3
  clear g1 t1 HL S0
  go_wp2_with fail
  first | refine bodyPost_end (results_none rfl _ _ _) rfl ?_ | refine bodyPost_ret (results_none rfl _ _ _) rfl ?_
  exact ⟨rfl, ((S1.out.set 3 _).set 0 _).fin rfl⟩

set_option maxRecDepth 4000 in
theorem st_stealReadTop (hne : b ≠ d ∧ b ≠ p ∧ b ≠ q) (h : Dq w d p q C l s) (ho : OpB w b d ⟨.stealReadTop, false, t, u, n, v, en⟩) :
    Calls Try.prog 54 #[.pointer (some ⟨d, 0, none⟩), .pointer (some ⟨b, 0, none⟩)] w fun e w' => e = .returned (.tuple #[]) ∧ Dq w' d p q C l (wrap64 (s + 1)) ∧ OpB w' b d ⟨.stealReadBottom, false, (rd C l 0), u, n, v, en⟩ ∧ Turned [p, q, b] w w' := by
  have S0 := hide (St.of h ho hne)
  have HL := hide (dload_any w d p q C l s 0 (by have := h.cap; omega) h)
  have hC := h.cap
  generalize rd C l 0 = y at *
  clear ho h
  go_enter Try.func54, Try.ntmps54
  go_wp2_with fail
  refine HL.out.mono ?_
  rintro e w1 ⟨rfl, g1, t1⟩
  have S1 := hide (S0.out.acc g1 t1)
  have f0 := (S1.out.opB rfl).f0
  have fz0 := (S1.out.opB rfl).fz 0
  have f2 := (S1.out.opB rfl).f2
  have fz2 := (S1.out.opB rfl).fz 2
  clear g1 t1 HL S0
  go_wp2_with fail
  first | refine bodyPost_end (results_none rfl _ _ _) rfl ?_ | refine bodyPost_ret (results_none rfl _ _ _) rfl ?_
  exact ⟨rfl, ((S1.out.set 2 _).set 0 _).fin rfl⟩

set_option maxRecDepth 4000 in
theorem st_pushReadTop (hy : -4611686018427387904 ≤ rd C l 0 ∧ rd C l 0 ≤ 4611686018427387904) (hu : -4611686018427387904 ≤ u ∧ u ≤ 4611686018427387904) (hne : b ≠ d ∧ b ≠ p ∧ b ≠ q) (h : Dq w d p q C l s) (ho : OpB w b d ⟨.pushReadTop, false, t, u, n, v, en⟩) :
    Calls Try.prog 48 #[.pointer (some ⟨d, 0, none⟩), .pointer (some ⟨b, 0, none⟩)] w fun e w' => e = .returned (.tuple #[]) ∧ Dq w' d p q C l (wrap64 (s + 1)) ∧ OpB w' b d ⟨if heldOf C (rd C l 0) u < C.cap then .pushSlot else .pushLock, false, (rd C l 0), u, n, v, en⟩ ∧ Turned [p, q, b] w w' := by
  have S0 := hide (St.of h ho hne)
  have HL := hide (dload_any w d p q C l s 0 (by have := h.cap; omega) h)
  have hC := h.cap
  have HV := hide (fun w' (g : Dq w' d p q C l (wrap64 (s + 1))) => held_any w' d p q C l (wrap64 (s + 1)) (rd C l 0) u hy hu g)
  generalize heldOf C (rd C l 0) u = z at *
  generalize rd C l 0 = y at *
  clear ho h
  go_enter Try.func48, Try.ntmps48
  go_wp2_with fail
  refine HL.out.mono ?_
  rintro e w1 ⟨rfl, g1, t1⟩
  have S1 := hide (S0.out.acc g1 t1)
  clear g1 t1 HL S0
  have f0 := (S1.out.opB rfl).f0
  have fz0 := (S1.out.opB rfl).fz 0
  have f2 := (S1.out.opB rfl).f2
  have fz2 := (S1.out.opB rfl).fz 2
  go_wp2_with fail
  have S2 := hide ((S1.out.set 2 (.int .i64 y)).set 0 (.func (.func 58) #[.pointer (some ⟨d, 0, none⟩)] #[]))
  generalize ((w1.setCell ⟨b, 2, none⟩ (.int .i64 y)).setCell ⟨b, 0, none⟩ (.func (.func 58) #[.pointer (some ⟨d, 0, none⟩)] #[])) = w2 at S2 ⊢
  clear f0 fz0 f2 fz2 S1
  have S2' := hide (S2.out.opB (o := ⟨.pushLock, false, y, u, n, v, en⟩) rfl)
  have f0 := (S2'.out).f0
  have fz0 := (S2'.out).fz 0
  have f2 := (S2'.out).f2
  have fz2 := (S2'.out).fz 2
  have f3 := (S2'.out).f3
  have fz3 := (S2'.out).fz 3
  have c2 := S2.out.dq.c2
  have HV2 := hide (fun m => HV.out (w2.drewN m) (S2.out.dq.drewN m))
  clear HV
  go_quiet ((go_at_call 36; exact Calls.quiet_of_same (HV2.out _)))
  go_wp2_with fail
  · skip
    first | refine bodyPost_end (results_none rfl _ _ _) rfl ?_ | refine bodyPost_ret (results_none rfl _ _ _) rfl ?_
    exact ⟨rfl, ((S2.out.drewN _).set 0 _).fin rfl⟩
  · skip
    first | refine bodyPost_end (results_none rfl _ _ _) rfl ?_ | refine bodyPost_ret (results_none rfl _ _ _) rfl ?_
    exact ⟨rfl, (S2.out.drewN _).fin rfl⟩

set_option maxRecDepth 4000 in
theorem st_pushBottom (hu : -4611686018427387904 ≤ u ∧ u ≤ 4611686018427387904) (hne : b ≠ d ∧ b ≠ p ∧ b ≠ q) (h : Dq w d p q C l s) (ho : OpB w b d ⟨.pushBottom, false, t, u, n, v, en⟩) :
    Calls Try.prog 69 #[.pointer (some ⟨d, 0, none⟩), .pointer (some ⟨b, 0, none⟩)] w fun e w' => e = .returned (.tuple #[]) ∧ Dq w' d p q C (wr C l 1 (u + 1)) (wrap64 (s + 1)) ∧ OpB w' b d ⟨.pushBottom, true, t, u, n, v, 0⟩ ∧ Turned [p, q, b] w w' := by
  have S0 := hide (St.of h ho hne)
  have HL := hide (dstore_any w d p q C l s 1 (u + 1) (by have := h.cap; omega) h)
  have hC := h.cap
  have hO := h.over
  have f3 := (ho).f3
  have fz3 := (ho).fz 3
  generalize wr C l 1 (u + 1) = l2 at *
  clear ho h
  go_enter Try.func69, Try.ntmps69
  go_wp2_with fail
  refine HL.out.mono ?_
  rintro e w1 ⟨rfl, g1, t1⟩
  have S1 := hide (S0.out.acc g1 t1)
  clear g1 t1 HL S0
  clear f3 fz3
  have HE := hide (end_any w1 d b _ 0 (S1.out.opB (o := ⟨.pushBottom, false, t, u, n, v, en⟩) rfl))
  have f6 := (S1.out.opB (o := ⟨.pushBottom, false, t, u, n, v, en⟩) rfl).f6
  have fz6 := (S1.out.opB (o := ⟨.pushBottom, false, t, u, n, v, en⟩) rfl).fz 6
  go_wp2_with fail
  refine HE.out.mono ?_
  rintro e w2 ⟨rfl, g2, t2⟩
  have S2 := hide (S1.out.endd g2 t2)
  clear g2 t2 HE f6 fz6 S1
  go_wp2_with fail
  first | refine bodyPost_end (results_none rfl _ _ _) rfl ?_ | refine bodyPost_ret (results_none rfl _ _ _) rfl ?_
  exact ⟨rfl, S2.out.fin rfl⟩

set_option maxRecDepth 4000 in
theorem st_popBottom (hne : b ≠ d ∧ b ≠ p ∧ b ≠ q) (h : Dq w d p q C l s) (ho : OpB w b d ⟨.popBottom, false, t, u, n, v, en⟩) :
    Calls Try.prog 63 #[.pointer (some ⟨d, 0, none⟩), .pointer (some ⟨b, 0, none⟩)] w fun e w' => e = .returned (.tuple #[]) ∧ Dq w' d p q C (wr C l 1 u) (wrap64 (s + 1)) ∧ OpB w' b d ⟨.popReadTop, false, t, u, n, v, en⟩ ∧ Turned [p, q, b] w w' := by
  have S0 := hide (St.of h ho hne)
  have HL := hide (dstore_any w d p q C l s 1 u (by have := h.cap; omega) h)
  have hC := h.cap
  have hO := h.over
  have f3 := (ho).f3
  have fz3 := (ho).fz 3
  generalize wr C l 1 u = l2 at *
  clear ho h
  go_enter Try.func63, Try.ntmps63
  go_wp2_with fail
  refine HL.out.mono ?_
  rintro e w1 ⟨rfl, g1, t1⟩
  have S1 := hide (S0.out.acc g1 t1)
  clear g1 t1 HL S0
  clear f3 fz3
  have f0 := (S1.out.opB rfl).f0
  have fz0 := (S1.out.opB rfl).fz 0
  go_wp2_with fail
  first | refine bodyPost_end (results_none rfl _ _ _) rfl ?_ | refine bodyPost_ret (results_none rfl _ _ _) rfl ?_
  exact ⟨rfl, (S1.out.set 0 _).fin rfl⟩

set_option maxRecDepth 4000 in
theorem st_popWon (hne : b ≠ d ∧ b ≠ p ∧ b ≠ q) (h : Dq w d p q C l s) (ho : OpB w b d ⟨.popWon, false, t, u, n, v, en⟩) :
    Calls Try.prog 101 #[.pointer (some ⟨d, 0, none⟩), .pointer (some ⟨b, 0, none⟩)] w fun e w' => e = .returned (.tuple #[]) ∧ Dq w' d p q C (wr C l 1 t) (wrap64 (s + 1)) ∧ OpB w' b d ⟨.popWon, true, t, u, n, v, 0⟩ ∧ Turned [p, q, b] w w' := by
  have S0 := hide (St.of h ho hne)
  have HL := hide (dstore_any w d p q C l s 1 t (by have := h.cap; omega) h)
  have hC := h.cap
  have hO := h.over
  have f2 := (ho).f2
  have fz2 := (ho).fz 2
  generalize wr C l 1 t = l2 at *
  clear ho h
  go_enter Try.func101, Try.ntmps101
  go_wp2_with fail
  refine HL.out.mono ?_
  rintro e w1 ⟨rfl, g1, t1⟩
  have S1 := hide (S0.out.acc g1 t1)
  clear g1 t1 HL S0
  clear f2 fz2
  have HE := hide (end_any w1 d b _ 0 (S1.out.opB (o := ⟨.popWon, false, t, u, n, v, en⟩) rfl))
  have f6 := (S1.out.opB (o := ⟨.popWon, false, t, u, n, v, en⟩) rfl).f6
  have fz6 := (S1.out.opB (o := ⟨.popWon, false, t, u, n, v, en⟩) rfl).fz 6
  go_wp2_with fail
  refine HE.out.mono ?_
  rintro e w2 ⟨rfl, g2, t2⟩
  have S2 := hide (S1.out.endd g2 t2)
  clear g2 t2 HE f6 fz6 S1
  go_wp2_with fail
  first | refine bodyPost_end (results_none rfl _ _ _) rfl ?_ | refine bodyPost_ret (results_none rfl _ _ _) rfl ?_
  exact ⟨rfl, S2.out.fin rfl⟩

set_option maxRecDepth 4000 in
theorem st_popNothing (hne : b ≠ d ∧ b ≠ p ∧ b ≠ q) (h : Dq w d p q C l s) (ho : OpB w b d ⟨.popNothing, false, t, u, n, v, en⟩) :
    Calls Try.prog 86 #[.pointer (some ⟨d, 0, none⟩), .pointer (some ⟨b, 0, none⟩)] w fun e w' => e = .returned (.tuple #[]) ∧ Dq w' d p q C (wr C l 1 t) (wrap64 (s + 1)) ∧ OpB w' b d ⟨.takeLock, false, t, u, n, v, en⟩ ∧ Turned [p, q, b] w w' := by
  have S0 := hide (St.of h ho hne)
  have HL := hide (dstore_any w d p q C l s 1 t (by have := h.cap; omega) h)
  have hC := h.cap
  have hO := h.over
  have f2 := (ho).f2
  have fz2 := (ho).fz 2
  generalize wr C l 1 t = l2 at *
  clear ho h
  go_enter Try.func86, Try.ntmps86
  go_wp2_with fail
  refine HL.out.mono ?_
  rintro e w1 ⟨rfl, g1, t1⟩
  have S1 := hide (S0.out.acc g1 t1)
  clear g1 t1 HL S0
  clear f2 fz2
  have f0 := (S1.out.opB rfl).f0
  have fz0 := (S1.out.opB rfl).fz 0
  go_wp2_with fail
  first | refine bodyPost_end (results_none rfl _ _ _) rfl ?_ | refine bodyPost_ret (results_none rfl _ _ _) rfl ?_
  exact ⟨rfl, (S1.out.set 0 _).fin rfl⟩

set_option maxRecDepth 4000 in
theorem st_pushCounted (hn : n < C.over) (hne : b ≠ d ∧ b ≠ p ∧ b ≠ q) (h : Dq w d p q C l s) (ho : OpB w b d ⟨.pushCounted, false, t, u, n, v, en⟩) :
    Calls Try.prog 90 #[.pointer (some ⟨d, 0, none⟩), .pointer (some ⟨b, 0, none⟩)] w fun e w' => e = .returned (.tuple #[]) ∧ Dq w' d p q C (wr C l 3 ((n : Int) + 1)) (wrap64 (s + 1)) ∧ OpB w' b d ⟨.free, false, t, u, n, v, en⟩ ∧ Turned [p, q, b] w w' := by
  have S0 := hide (St.of h ho hne)
  have HL := hide (dstore_any w d p q C l s 3 ((n : Int) + 1) (by have := h.cap; omega) h)
  have hC := h.cap
  have hO := h.over
  have f4 := (ho).f4
  have fz4 := (ho).fz 4
  generalize wr C l 3 ((n : Int) + 1) = l2 at *
  clear ho h
  go_enter Try.func90, Try.ntmps90
  go_wp2_with fail
  refine HL.out.mono ?_
  rintro e w1 ⟨rfl, g1, t1⟩
  have S1 := hide (S0.out.acc g1 t1)
  clear g1 t1 HL S0
  clear f4 fz4
  have f0 := (S1.out.opB rfl).f0
  have fz0 := (S1.out.opB rfl).fz 0
  go_wp2_with fail
  first | refine bodyPost_end (results_none rfl _ _ _) rfl ?_ | refine bodyPost_ret (results_none rfl _ _ _) rfl ?_
  exact ⟨rfl, (S1.out.set 0 _).fin rfl⟩

set_option maxRecDepth 4000 in
theorem st_takeCounted (hn : 0 < n ∧ n ≤ C.over) (hne : b ≠ d ∧ b ≠ p ∧ b ≠ q) (h : Dq w d p q C l s) (ho : OpB w b d ⟨.takeCounted, false, t, u, n, v, en⟩) :
    Calls Try.prog 102 #[.pointer (some ⟨d, 0, none⟩), .pointer (some ⟨b, 0, none⟩)] w fun e w' => e = .returned (.tuple #[]) ∧ Dq w' d p q C (wr C l 3 ((n : Int) - 1)) (wrap64 (s + 1)) ∧ OpB w' b d ⟨.free, false, t, u, n, v, en⟩ ∧ Turned [p, q, b] w w' := by
  have S0 := hide (St.of h ho hne)
  have HL := hide (dstore_any w d p q C l s 3 ((n : Int) - 1) (by have := h.cap; omega) h)
  have hC := h.cap
  have hO := h.over
  have f4 := (ho).f4
  have fz4 := (ho).fz 4
  generalize wr C l 3 ((n : Int) - 1) = l2 at *
  clear ho h
  go_enter Try.func102, Try.ntmps102
  go_wp2_with fail
  refine HL.out.mono ?_
  rintro e w1 ⟨rfl, g1, t1⟩
  have S1 := hide (S0.out.acc g1 t1)
  clear g1 t1 HL S0
  clear f4 fz4
  have f0 := (S1.out.opB rfl).f0
  have fz0 := (S1.out.opB rfl).fz 0
  go_wp2_with fail
  first | refine bodyPost_end (results_none rfl _ _ _) rfl ?_ | refine bodyPost_ret (results_none rfl _ _ _) rfl ?_
  exact ⟨rfl, (S1.out.set 0 _).fin rfl⟩

set_option maxRecDepth 4000 in
theorem st_free (hne : b ≠ d ∧ b ≠ p ∧ b ≠ q) (h : Dq w d p q C l s) (ho : OpB w b d ⟨.free, false, t, u, n, v, en⟩) :
    Calls Try.prog 79 #[.pointer (some ⟨d, 0, none⟩), .pointer (some ⟨b, 0, none⟩)] w fun e w' => e = .returned (.tuple #[]) ∧ Dq w' d p q C (wr C l 2 0) (wrap64 (s + 1)) ∧ OpB w' b d ⟨.free, true, t, u, n, v, en⟩ ∧ Turned [p, q, b] w w' := by
  have S0 := hide (St.of h ho hne)
  have HL := hide (dstore_any w d p q C l s 2 0 (by have := h.cap; omega) h)
  have hC := h.cap
  have hO := h.over
  generalize wr C l 2 0 = l2 at *
  clear ho h
  go_enter Try.func79, Try.ntmps79
  go_wp2_with fail
  refine HL.out.mono ?_
  rintro e w1 ⟨rfl, g1, t1⟩
  have S1 := hide (S0.out.acc g1 t1)
  clear g1 t1 HL S0
  have HE := hide (end_any w1 d b _ en (S1.out.opB (o := ⟨.free, false, t, u, n, v, en⟩) rfl))
  have f6 := (S1.out.opB (o := ⟨.free, false, t, u, n, v, en⟩) rfl).f6
  have fz6 := (S1.out.opB (o := ⟨.free, false, t, u, n, v, en⟩) rfl).fz 6
  go_wp2_with fail
  refine HE.out.mono ?_
  rintro e w2 ⟨rfl, g2, t2⟩
  have S2 := hide (S1.out.endd g2 t2)
  clear g2 t2 HE f6 fz6 S1
  go_wp2_with fail
  first | refine bodyPost_end (results_none rfl _ _ _) rfl ?_ | refine bodyPost_ret (results_none rfl _ _ _) rfl ?_
  exact ⟨rfl, S2.out.fin rfl⟩

set_option maxRecDepth 4000 in
theorem st_pushLock (hne : b ≠ d ∧ b ≠ p ∧ b ≠ q) (h : Dq w d p q C l s) (ho : OpB w b d ⟨.pushLock, false, t, u, n, v, en⟩) :
    Calls Try.prog 58 #[.pointer (some ⟨d, 0, none⟩), .pointer (some ⟨b, 0, none⟩)] w fun e w' => e = .returned (.tuple #[]) ∧ Dq w' d p q C (if rd C l 2 = 0 then wr C l 2 1 else l) (wrap64 (s + 1)) ∧ OpB w' b d (if rd C l 2 = 0 then ⟨.pushCount, false, t, u, n, v, en⟩ else ⟨.pushLock, false, t, u, n, v, en⟩) ∧ Turned [p, q, b] w w' := by
  have S0 := hide (St.of h ho hne)
  have HL := hide (dswap_any w d p q C l s 2 0 1 (by have := h.cap; omega) h)
  clear ho h
  go_enter Try.func58, Try.ntmps58
  go_wp2_with fail
  refine HL.out.mono ?_
  rintro e w1 ⟨rfl, g1, t1⟩
  have S1 := hide (S0.out.acc g1 t1)
  clear g1 t1 HL S0
  have f0 := (S1.out.opB (o := ⟨.pushLock, false, t, u, n, v, en⟩) rfl).f0
  have fz0 := (S1.out.opB (o := ⟨.pushLock, false, t, u, n, v, en⟩) rfl).fz 0
  by_cases hz : rd C l 2 = 0
  · rw [if_pos hz] at S1
    go_wp2_with fail
    first | refine bodyPost_end (results_none rfl _ _ _) rfl ?_ | refine bodyPost_ret (results_none rfl _ _ _) rfl ?_
    exact ⟨rfl, (S1.out.set 0 _).fin rfl⟩
  · rw [if_neg hz] at S1
    go_wp2_with fail
    first | refine bodyPost_end (results_none rfl _ _ _) rfl ?_ | refine bodyPost_ret (results_none rfl _ _ _) rfl ?_
    exact ⟨rfl, S1.out.fin rfl⟩

set_option maxRecDepth 4000 in
theorem st_takeLock (hne : b ≠ d ∧ b ≠ p ∧ b ≠ q) (h : Dq w d p q C l s) (ho : OpB w b d ⟨.takeLock, false, t, u, n, v, en⟩) :
    Calls Try.prog 74 #[.pointer (some ⟨d, 0, none⟩), .pointer (some ⟨b, 0, none⟩)] w fun e w' => e = .returned (.tuple #[]) ∧ Dq w' d p q C (if rd C l 2 = 0 then wr C l 2 1 else l) (wrap64 (s + 1)) ∧ OpB w' b d (if rd C l 2 = 0 then ⟨.takeCount, false, t, u, n, v, en⟩ else ⟨.takeLock, false, t, u, n, v, en⟩) ∧ Turned [p, q, b] w w' := by
  have S0 := hide (St.of h ho hne)
  have HL := hide (dswap_any w d p q C l s 2 0 1 (by have := h.cap; omega) h)
  clear ho h
  go_enter Try.func74, Try.ntmps74
  go_wp2_with fail
  refine HL.out.mono ?_
  rintro e w1 ⟨rfl, g1, t1⟩
  have S1 := hide (S0.out.acc g1 t1)
  clear g1 t1 HL S0
  have f0 := (S1.out.opB (o := ⟨.takeLock, false, t, u, n, v, en⟩) rfl).f0
  have fz0 := (S1.out.opB (o := ⟨.takeLock, false, t, u, n, v, en⟩) rfl).fz 0
  by_cases hz : rd C l 2 = 0
  · rw [if_pos hz] at S1
    go_wp2_with fail
    first | refine bodyPost_end (results_none rfl _ _ _) rfl ?_ | refine bodyPost_ret (results_none rfl _ _ _) rfl ?_
    exact ⟨rfl, (S1.out.set 0 _).fin rfl⟩
  · rw [if_neg hz] at S1
    go_wp2_with fail
    first | refine bodyPost_end (results_none rfl _ _ _) rfl ?_ | refine bodyPost_ret (results_none rfl _ _ _) rfl ?_
    exact ⟨rfl, S1.out.fin rfl⟩

set_option maxRecDepth 4000 in
theorem st_pushCount (hne : b ≠ d ∧ b ≠ p ∧ b ≠ q) (h : Dq w d p q C l s) (ho : OpB w b d ⟨.pushCount, false, t, u, n, v, en⟩) :
    Calls Try.prog 67 #[.pointer (some ⟨d, 0, none⟩), .pointer (some ⟨b, 0, none⟩)] w fun e w' => e = .returned (.tuple #[]) ∧ Dq w' d p q C l (wrap64 (s + 1)) ∧ OpB w' b d (if C.over ≤ stackedOf C (rd C l 3) then ⟨.free, false, t, u, (stackedOf C (rd C l 3)), v, 14⟩ else ⟨.pushCell, false, t, u, (stackedOf C (rd C l 3)), v, en⟩) ∧ Turned [p, q, b] w w' := by
  have S0 := hide (St.of h ho hne)
  have HL := hide (dload_any w d p q C l s 3 (by have := h.cap; omega) h)
  have hC := h.cap
  have hO := h.over
  have HS := hide (fun w' (g : Dq w' d p q C l (wrap64 (s + 1))) => stacked_any w' d p q C l (wrap64 (s + 1)) (rd C l 3) g)
  generalize stackedOf C (rd C l 3) = z at *
  generalize rd C l 3 = y at *
  clear ho h
  go_enter Try.func67, Try.ntmps67
  go_wp2_with fail
  refine HL.out.mono ?_
  rintro e w1 ⟨rfl, g1, t1⟩
  have S1 := hide (S0.out.acc g1 t1)
  clear g1 t1 HL S0
  go_wp2_with fail
  refine (HS.out _ S1.out.dq).mono ?_
  rintro e w2 ⟨rfl, rfl⟩
  clear HS
  have f0 := (S1.out.opB (o := ⟨.pushCount, false, t, u, n, v, en⟩) rfl).f0
  have fz0 := (S1.out.opB (o := ⟨.pushCount, false, t, u, n, v, en⟩) rfl).fz 0
  have f4 := (S1.out.opB (o := ⟨.pushCount, false, t, u, n, v, en⟩) rfl).f4
  have fz4 := (S1.out.opB (o := ⟨.pushCount, false, t, u, n, v, en⟩) rfl).fz 4
  go_wp2_with fail
  have S2 := hide ((S1.out.set 4 (.int .i64 z)).set 0 (.func (.func 78) #[.pointer (some ⟨d, 0, none⟩)] #[]))
  generalize ((w2.setCell ⟨b, 4, none⟩ (.int .i64 z)).setCell ⟨b, 0, none⟩ (.func (.func 78) #[.pointer (some ⟨d, 0, none⟩)] #[])) = w3 at S2 ⊢
  clear f0 fz0 f4 fz4 S1
  have S2' := hide (S2.out.opB (o := ⟨.pushCell, false, t, u, z, v, en⟩) rfl)
  have f0 := (S2'.out).f0
  have fz0 := (S2'.out).fz 0
  have f4 := (S2'.out).f4
  have fz4 := (S2'.out).fz 4
  have f6 := (S2'.out).f6
  have fz6 := (S2'.out).fz 6
  have c3 := S2.out.dq.c3
  go_quiet (fail)
  go_wp2_with fail
  · skip
    first | refine bodyPost_end (results_none rfl _ _ _) rfl ?_ | refine bodyPost_ret (results_none rfl _ _ _) rfl ?_
    exact ⟨rfl, (((S2.out.drewN _).set 6 _).set 0 _).fin rfl⟩
  · skip
    first | refine bodyPost_end (results_none rfl _ _ _) rfl ?_ | refine bodyPost_ret (results_none rfl _ _ _) rfl ?_
    exact ⟨rfl, (S2.out.drewN _).fin rfl⟩

set_option maxRecDepth 4000 in
theorem st_takeCount (hne : b ≠ d ∧ b ≠ p ∧ b ≠ q) (h : Dq w d p q C l s) (ho : OpB w b d ⟨.takeCount, false, t, u, n, v, en⟩) :
    Calls Try.prog 87 #[.pointer (some ⟨d, 0, none⟩), .pointer (some ⟨b, 0, none⟩)] w fun e w' => e = .returned (.tuple #[]) ∧ Dq w' d p q C l (wrap64 (s + 1)) ∧ OpB w' b d (if stackedOf C (rd C l 3) = 0 then ⟨.free, false, t, u, (stackedOf C (rd C l 3)), v, 15⟩ else ⟨.takeCell, false, t, u, (stackedOf C (rd C l 3)), v, en⟩) ∧ Turned [p, q, b] w w' := by
  have S0 := hide (St.of h ho hne)
  have HL := hide (dload_any w d p q C l s 3 (by have := h.cap; omega) h)
  have hC := h.cap
  have hO := h.over
  have HS := hide (fun w' (g : Dq w' d p q C l (wrap64 (s + 1))) => stacked_any w' d p q C l (wrap64 (s + 1)) (rd C l 3) g)
  generalize stackedOf C (rd C l 3) = z at *
  generalize rd C l 3 = y at *
  clear ho h
  go_enter Try.func87, Try.ntmps87
  go_wp2_with fail
  refine HL.out.mono ?_
  rintro e w1 ⟨rfl, g1, t1⟩
  have S1 := hide (S0.out.acc g1 t1)
  clear g1 t1 HL S0
  go_wp2_with fail
  refine (HS.out _ S1.out.dq).mono ?_
  rintro e w2 ⟨rfl, rfl⟩
  clear HS
  have f0 := (S1.out.opB (o := ⟨.takeCount, false, t, u, n, v, en⟩) rfl).f0
  have fz0 := (S1.out.opB (o := ⟨.takeCount, false, t, u, n, v, en⟩) rfl).fz 0
  have f4 := (S1.out.opB (o := ⟨.takeCount, false, t, u, n, v, en⟩) rfl).f4
  have fz4 := (S1.out.opB (o := ⟨.takeCount, false, t, u, n, v, en⟩) rfl).fz 4
  have f6 := (S1.out.opB (o := ⟨.takeCount, false, t, u, n, v, en⟩) rfl).f6
  have fz6 := (S1.out.opB (o := ⟨.takeCount, false, t, u, n, v, en⟩) rfl).fz 6
  by_cases hz : z = 0
  · subst hz
    go_wp2_with fail
    first | refine bodyPost_end (results_none rfl _ _ _) rfl ?_ | refine bodyPost_ret (results_none rfl _ _ _) rfl ?_
    exact ⟨rfl, ((((S1.out.set 4 _).set 0 _).set 6 _).set 0 _).fin rfl⟩
  · have hz' : ¬ ((z : Int) = 0) := by omega
    go_wp2_with fail
    first | refine bodyPost_end (results_none rfl _ _ _) rfl ?_ | refine bodyPost_ret (results_none rfl _ _ _) rfl ?_
    exact ⟨rfl, ((S1.out.set 4 _).set 0 _).fin rfl⟩

set_option maxRecDepth 4000 in
theorem st_popSlot (hne : b ≠ d ∧ b ≠ p ∧ b ≠ q) (h : Dq w d p q C l s) (ho : OpB w b d ⟨.popSlot, false, t, u, n, v, en⟩) :
    Calls Try.prog 84 #[.pointer (some ⟨d, 0, none⟩), .pointer (some ⟨b, 0, none⟩)] w fun e w' => e = .returned (.tuple #[]) ∧ Dq w' d p q C l (wrap64 (s + 1)) ∧ OpB w' b d ⟨.popSlot, true, t, u, n, (rd C l (slotOf C u)), 0⟩ ∧ Turned [p, q, b] w w' := by
  have S0 := hide (St.of h ho hne)
  have HS := hide (slot_any w d p q C l s u h)
  have hsl := slotOf_lt C u h.cap.1
  have HL := hide (dload_any w d p q C l s (slotOf C u) (by omega) h)
  have f3 := (ho).f3
  have fz3 := (ho).fz 3
  clear hsl
  generalize rd C l (slotOf C u) = y at *
  generalize slotOf C u = k at *
  clear ho h
  go_enter Try.func84, Try.ntmps84
  go_wp2_with fail
  refine HS.out.mono ?_
  rintro e w0 ⟨rfl, rfl⟩
  clear HS
  go_wp2_with fail
  refine HL.out.mono ?_
  rintro e w1 ⟨rfl, g1, t1⟩
  have S1 := hide (S0.out.acc g1 t1)
  clear g1 t1 HL S0
  clear f3 fz3
  have f5 := (S1.out.opB (o := ⟨.popSlot, false, t, u, n, v, en⟩) rfl).f5
  have fz5 := (S1.out.opB (o := ⟨.popSlot, false, t, u, n, v, en⟩) rfl).fz 5
  go_wp2_with fail
  have S2 := hide (S1.out.set 5 (.int .i64 y))
  generalize (w1.setCell ⟨b, 5, none⟩ (.int .i64 y)) = w2 at S2 ⊢
  clear f5 fz5 S1
  have HE := hide (end_any w2 d b _ 0 (S2.out.opB (o := ⟨.popSlot, false, t, u, n, y, en⟩) rfl))
  refine HE.out.mono ?_
  rintro e w3 ⟨rfl, g2, t2⟩
  have S3 := hide (S2.out.endd g2 t2)
  clear g2 t2 HE S2
  go_wp2_with fail
  first | refine bodyPost_end (results_none rfl _ _ _) rfl ?_ | refine bodyPost_ret (results_none rfl _ _ _) rfl ?_
  exact ⟨rfl, S3.out.fin rfl⟩

set_option maxRecDepth 4000 in
theorem st_popLast (hne : b ≠ d ∧ b ≠ p ∧ b ≠ q) (h : Dq w d p q C l s) (ho : OpB w b d ⟨.popLast, false, t, u, n, v, en⟩) :
    Calls Try.prog 85 #[.pointer (some ⟨d, 0, none⟩), .pointer (some ⟨b, 0, none⟩)] w fun e w' => e = .returned (.tuple #[]) ∧ Dq w' d p q C l (wrap64 (s + 1)) ∧ OpB w' b d ⟨.popSwap, false, t, u, n, (rd C l (slotOf C u)), en⟩ ∧ Turned [p, q, b] w w' := by
  have S0 := hide (St.of h ho hne)
  have HS := hide (slot_any w d p q C l s u h)
  have hsl := slotOf_lt C u h.cap.1
  have HL := hide (dload_any w d p q C l s (slotOf C u) (by omega) h)
  have f3 := (ho).f3
  have fz3 := (ho).fz 3
  clear hsl
  generalize rd C l (slotOf C u) = y at *
  generalize slotOf C u = k at *
  clear ho h
  go_enter Try.func85, Try.ntmps85
  go_wp2_with fail
  refine HS.out.mono ?_
  rintro e w0 ⟨rfl, rfl⟩
  clear HS
  go_wp2_with fail
  refine HL.out.mono ?_
  rintro e w1 ⟨rfl, g1, t1⟩
  have S1 := hide (S0.out.acc g1 t1)
  clear g1 t1 HL S0
  clear f3 fz3
  have f0 := (S1.out.opB (o := ⟨.popLast, false, t, u, n, v, en⟩) rfl).f0
  have fz0 := (S1.out.opB (o := ⟨.popLast, false, t, u, n, v, en⟩) rfl).fz 0
  have f5 := (S1.out.opB (o := ⟨.popLast, false, t, u, n, v, en⟩) rfl).f5
  have fz5 := (S1.out.opB (o := ⟨.popLast, false, t, u, n, v, en⟩) rfl).fz 5
  go_wp2_with fail
  first | refine bodyPost_end (results_none rfl _ _ _) rfl ?_ | refine bodyPost_ret (results_none rfl _ _ _) rfl ?_
  exact ⟨rfl, ((S1.out.set 5 _).set 0 _).fin rfl⟩

set_option maxRecDepth 4000 in
theorem st_stealSlot (hne : b ≠ d ∧ b ≠ p ∧ b ≠ q) (h : Dq w d p q C l s) (ho : OpB w b d ⟨.stealSlot, false, t, u, n, v, en⟩) :
    Calls Try.prog 75 #[.pointer (some ⟨d, 0, none⟩), .pointer (some ⟨b, 0, none⟩)] w fun e w' => e = .returned (.tuple #[]) ∧ Dq w' d p q C l (wrap64 (s + 1)) ∧ OpB w' b d ⟨.stealSwap, false, t, u, n, (rd C l (slotOf C t)), en⟩ ∧ Turned [p, q, b] w w' := by
  have S0 := hide (St.of h ho hne)
  have HS := hide (slot_any w d p q C l s t h)
  have hsl := slotOf_lt C t h.cap.1
  have HL := hide (dload_any w d p q C l s (slotOf C t) (by omega) h)
  have f2 := (ho).f2
  have fz2 := (ho).fz 2
  clear hsl
  generalize rd C l (slotOf C t) = y at *
  generalize slotOf C t = k at *
  clear ho h
  go_enter Try.func75, Try.ntmps75
  go_wp2_with fail
  refine HS.out.mono ?_
  rintro e w0 ⟨rfl, rfl⟩
  clear HS
  go_wp2_with fail
  refine HL.out.mono ?_
  rintro e w1 ⟨rfl, g1, t1⟩
  have S1 := hide (S0.out.acc g1 t1)
  clear g1 t1 HL S0
  clear f2 fz2
  have f0 := (S1.out.opB (o := ⟨.stealSlot, false, t, u, n, v, en⟩) rfl).f0
  have fz0 := (S1.out.opB (o := ⟨.stealSlot, false, t, u, n, v, en⟩) rfl).fz 0
  have f5 := (S1.out.opB (o := ⟨.stealSlot, false, t, u, n, v, en⟩) rfl).f5
  have fz5 := (S1.out.opB (o := ⟨.stealSlot, false, t, u, n, v, en⟩) rfl).fz 5
  go_wp2_with fail
  first | refine bodyPost_end (results_none rfl _ _ _) rfl ?_ | refine bodyPost_ret (results_none rfl _ _ _) rfl ?_
  exact ⟨rfl, ((S1.out.set 5 _).set 0 _).fin rfl⟩

set_option maxRecDepth 4000 in
theorem st_takeCell (hn : 0 < n ∧ n ≤ C.over) (hne : b ≠ d ∧ b ≠ p ∧ b ≠ q) (h : Dq w d p q C l s) (ho : OpB w b d ⟨.takeCell, false, t, u, n, v, en⟩) :
    Calls Try.prog 97 #[.pointer (some ⟨d, 0, none⟩), .pointer (some ⟨b, 0, none⟩)] w fun e w' => e = .returned (.tuple #[]) ∧ Dq w' d p q C l (wrap64 (s + 1)) ∧ OpB w' b d ⟨.takeCounted, false, t, u, n, (rd C l (4 + C.cap + (n - 1))), en⟩ ∧ Turned [p, q, b] w w' := by
  have S0 := hide (St.of h ho hne)
  have hO := h.over
  have hC := h.cap
  have HS : Hid (Calls Try.prog 38 #[.pointer (some ⟨d, 0, none⟩), .int .i64 ((n : Int) - 1)] w fun e w' => e = .returned (.int .i64 ((4 + C.cap + (n - 1) : Nat) : Int)) ∧ w' = w) := by
    rw [show ((n : Int) - 1) = ((n - 1 : Nat) : Int) by omega]
    exact cell_any w d p q C l s (n - 1) (by omega) h
  have HL := hide (dload_any w d p q C l s (4 + C.cap + (n - 1)) (by omega) h)
  have f4 := (ho).f4
  have fz4 := (ho).fz 4
  generalize rd C l (4 + C.cap + (n - 1)) = y at *
  generalize (4 + C.cap + (n - 1)) = k at *
  clear ho h
  go_enter Try.func97, Try.ntmps97
  go_wp2_with fail
  refine HS.out.mono ?_
  rintro e w0 ⟨rfl, rfl⟩
  clear HS
  go_wp2_with fail
  refine HL.out.mono ?_
  rintro e w1 ⟨rfl, g1, t1⟩
  have S1 := hide (S0.out.acc g1 t1)
  clear g1 t1 HL S0
  clear f4 fz4
  have f0 := (S1.out.opB (o := ⟨.takeCell, false, t, u, n, v, en⟩) rfl).f0
  have fz0 := (S1.out.opB (o := ⟨.takeCell, false, t, u, n, v, en⟩) rfl).fz 0
  have f5 := (S1.out.opB (o := ⟨.takeCell, false, t, u, n, v, en⟩) rfl).f5
  have fz5 := (S1.out.opB (o := ⟨.takeCell, false, t, u, n, v, en⟩) rfl).fz 5
  go_wp2_with fail
  first | refine bodyPost_end (results_none rfl _ _ _) rfl ?_ | refine bodyPost_ret (results_none rfl _ _ _) rfl ?_
  exact ⟨rfl, ((S1.out.set 5 _).set 0 _).fin rfl⟩

set_option maxRecDepth 4000 in
theorem st_stealReadBottom (hne : b ≠ d ∧ b ≠ p ∧ b ≠ q) (h : Dq w d p q C l s) (ho : OpB w b d ⟨.stealReadBottom, false, t, u, n, v, en⟩) :
    Calls Try.prog 64 #[.pointer (some ⟨d, 0, none⟩), .pointer (some ⟨b, 0, none⟩)] w fun e w' => e = .returned (.tuple #[]) ∧ Dq w' d p q C l (wrap64 (s + 1)) ∧ OpB w' b d ⟨if t < rd C l 1 then .stealSlot else .takeLock, false, t, (rd C l 1), n, v, en⟩ ∧ Turned [p, q, b] w w' := by
  have S0 := hide (St.of h ho hne)
  have HL := hide (dload_any w d p q C l s 1 (by have := h.cap; omega) h)
  generalize rd C l 1 = y at *
  clear ho h
  go_enter Try.func64, Try.ntmps64
  go_wp2_with fail
  refine HL.out.mono ?_
  rintro e w1 ⟨rfl, g1, t1⟩
  have S1 := hide (S0.out.acc g1 t1)
  clear g1 t1 HL S0
  have f0 := (S1.out.opB rfl).f0
  have fz0 := (S1.out.opB rfl).fz 0
  have f3 := (S1.out.opB rfl).f3
  have fz3 := (S1.out.opB rfl).fz 3
  go_wp2_with fail
  have S2 := hide ((S1.out.set 3 (.int .i64 y)).set 0 (.func (.func 74) #[.pointer (some ⟨d, 0, none⟩)] #[]))
  generalize ((w1.setCell ⟨b, 3, none⟩ (.int .i64 y)).setCell ⟨b, 0, none⟩ (.func (.func 74) #[.pointer (some ⟨d, 0, none⟩)] #[])) = w2 at S2 ⊢
  clear f0 fz0 f3 fz3 S1
  have S2' := hide (S2.out.opB (o := ⟨.takeLock, false, t, y, n, v, en⟩) rfl)
  have f0 := (S2'.out).f0
  have fz0 := (S2'.out).fz 0
  have f2 := (S2'.out).f2
  have fz2 := (S2'.out).fz 2
  have f3 := (S2'.out).f3
  have fz3 := (S2'.out).fz 3
  go_quiet (fail)
  go_wp2_with fail
  · skip
    first | refine bodyPost_end (results_none rfl _ _ _) rfl ?_ | refine bodyPost_ret (results_none rfl _ _ _) rfl ?_
    exact ⟨rfl, ((S2.out.drewN _).set 0 _).fin rfl⟩
  · skip
    first | refine bodyPost_end (results_none rfl _ _ _) rfl ?_ | refine bodyPost_ret (results_none rfl _ _ _) rfl ?_
    exact ⟨rfl, (S2.out.drewN _).fin rfl⟩

set_option maxRecDepth 4000 in
theorem st_popReadTop (hne : b ≠ d ∧ b ≠ p ∧ b ≠ q) (h : Dq w d p q C l s) (ho : OpB w b d ⟨.popReadTop, false, t, u, n, v, en⟩) :
    Calls Try.prog 73 #[.pointer (some ⟨d, 0, none⟩), .pointer (some ⟨b, 0, none⟩)] w fun e w' => e = .returned (.tuple #[]) ∧ Dq w' d p q C l (wrap64 (s + 1)) ∧ OpB w' b d ⟨if rd C l 0 < u then .popSlot else if rd C l 0 = u then .popLast else .popNothing, false, (rd C l 0), u, n, v, en⟩ ∧ Turned [p, q, b] w w' := by
  have S0 := hide (St.of h ho hne)
  have HL := hide (dload_any w d p q C l s 0 (by have := h.cap; omega) h)
  generalize rd C l 0 = y at *
  clear ho h
  go_enter Try.func73, Try.ntmps73
  go_wp2_with fail
  refine HL.out.mono ?_
  rintro e w1 ⟨rfl, g1, t1⟩
  have S1 := hide (S0.out.acc g1 t1)
  clear g1 t1 HL S0
  have f0 := (S1.out.opB rfl).f0
  have fz0 := (S1.out.opB rfl).fz 0
  have f2 := (S1.out.opB rfl).f2
  have fz2 := (S1.out.opB rfl).fz 2
  go_wp2_with fail
  have S2 := hide (S1.out.set 2 (.int .i64 y))
  generalize (w1.setCell ⟨b, 2, none⟩ (.int .i64 y)) = w2 at S2 ⊢
  clear f0 fz0 f2 fz2 S1
  have S2' := hide (S2.out.opB (o := ⟨.popReadTop, false, y, u, n, v, en⟩) rfl)
  have f0 := (S2'.out).f0
  have fz0 := (S2'.out).fz 0
  have f2 := (S2'.out).f2
  have fz2 := (S2'.out).fz 2
  have f3 := (S2'.out).f3
  have fz3 := (S2'.out).fz 3
  by_cases h1 : y < u
  · go_quiet (fail)
    go_wp2_with fail
    first | refine bodyPost_end (results_none rfl _ _ _) rfl ?_ | refine bodyPost_ret (results_none rfl _ _ _) rfl ?_
    exact ⟨rfl, ((S2.out.drewN _).set 0 _).fin rfl⟩
  · go_quiet (fail)
    go_wp2_with fail
    by_cases h2 : y = u
    · subst h2
      go_quiet (fail)
      go_wp2_with fail
      first | refine bodyPost_end (results_none rfl _ _ _) rfl ?_ | refine bodyPost_ret (results_none rfl _ _ _) rfl ?_
      exact ⟨rfl, ((S2.out.drewN _).set 0 _).fin rfl⟩
    · go_quiet (fail)
      go_wp2_with fail
      first | refine bodyPost_end (results_none rfl _ _ _) rfl ?_ | refine bodyPost_ret (results_none rfl _ _ _) rfl ?_
      exact ⟨rfl, ((S2.out.drewN _).set 0 _).fin rfl⟩

set_option maxRecDepth 4000 in
theorem st_pushSlot (hne : b ≠ d ∧ b ≠ p ∧ b ≠ q) (h : Dq w d p q C l s) (ho : OpB w b d ⟨.pushSlot, false, t, u, n, v, en⟩) :
    Calls Try.prog 59 #[.pointer (some ⟨d, 0, none⟩), .pointer (some ⟨b, 0, none⟩)] w fun e w' => e = .returned (.tuple #[]) ∧ Dq w' d p q C (wr C l (slotOf C u) v) (wrap64 (s + 1)) ∧ OpB w' b d ⟨.pushBottom, false, t, u, n, v, en⟩ ∧ Turned [p, q, b] w w' := by
  have S0 := hide (St.of h ho hne)
  have HS := hide (slot_any w.drew d p q C l s u h.drew)
  have hsl := slotOf_lt C u h.cap.1
  have HL := hide (dstore_any w.drew d p q C l s (slotOf C u) v (by omega) h.drew)
  have f3 := (ho).f3
  have fz3 := (ho).fz 3
  have f5 := (ho).f5
  have fz5 := (ho).fz 5
  clear hsl
  generalize wr C l (slotOf C u) v = l2 at *
  generalize slotOf C u = k at *
  clear ho h
  go_enter Try.func59, Try.ntmps59
  go_wp2_with fail
  go_region_held3 (fun w' => w'.cell? ⟨b, 3, none⟩ = some (.int .i64 u) ∧ w'.cell? ⟨b, 5, none⟩ = some (.int .i64 v)) (go_keep)
    (first
      | (go_at_call 37; refine HS.out.mono ?_; rintro e w0 ⟨rfl, rfl⟩; have k1 : w.drew.cell? ⟨b, 3, none⟩ = some (.int .i64 u) := f3; have k2 : w.drew.cell? ⟨b, 5, none⟩ = some (.int .i64 v) := f5)
      | (go_at_call 68; refine HL.out.mono ?_; rintro e w1 ⟨rfl, g1, t1⟩; have S1 := hide (S0.out.drew.acc g1 t1); have k3 := (S1.out.opB (o := ⟨.pushSlot, false, t, u, n, v, en⟩) rfl).f3; have k4 := (S1.out.opB (o := ⟨.pushSlot, false, t, u, n, v, en⟩) rfl).f5; clear g1 t1))
  clear HL HS S0
  have f0 := (S1.out.opB (o := ⟨.pushSlot, false, t, u, n, v, en⟩) rfl).f0
  have fz0 := (S1.out.opB (o := ⟨.pushSlot, false, t, u, n, v, en⟩) rfl).fz 0
  go_wp2_with fail
  first | refine bodyPost_end (results_none rfl _ _ _) rfl ?_ | refine bodyPost_ret (results_none rfl _ _ _) rfl ?_
  exact ⟨rfl, (S1.out.set 0 _).fin rfl⟩

set_option maxRecDepth 4000 in
theorem st_pushCell (hn : n < C.over) (hne : b ≠ d ∧ b ≠ p ∧ b ≠ q) (h : Dq w d p q C l s) (ho : OpB w b d ⟨.pushCell, false, t, u, n, v, en⟩) :
    Calls Try.prog 78 #[.pointer (some ⟨d, 0, none⟩), .pointer (some ⟨b, 0, none⟩)] w fun e w' => e = .returned (.tuple #[]) ∧ Dq w' d p q C (wr C l (4 + C.cap + n) v) (wrap64 (s + 1)) ∧ OpB w' b d ⟨.pushCounted, false, t, u, n, v, en⟩ ∧ Turned [p, q, b] w w' := by
  have S0 := hide (St.of h ho hne)
  have hO := h.over
  have HS := hide (cell_any w.drew d p q C l s n (by omega) h.drew)
  have HL := hide (dstore_any w.drew d p q C l s (4 + C.cap + n) v (by omega) h.drew)
  have f4 := (ho).f4
  have fz4 := (ho).fz 4
  have f5 := (ho).f5
  have fz5 := (ho).fz 5
  generalize wr C l (4 + C.cap + n) v = l2 at *
  generalize 4 + C.cap + n = k at *
  clear ho h
  go_enter Try.func78, Try.ntmps78
  go_wp2_with fail
  go_region_held3 (fun w' => w'.cell? ⟨b, 4, none⟩ = some (.int .i64 n) ∧ w'.cell? ⟨b, 5, none⟩ = some (.int .i64 v)) (go_keep)
    (first
      | (go_at_call 38; refine HS.out.mono ?_; rintro e w0 ⟨rfl, rfl⟩; have k1 : w.drew.cell? ⟨b, 4, none⟩ = some (.int .i64 n) := f4; have k2 : w.drew.cell? ⟨b, 5, none⟩ = some (.int .i64 v) := f5)
      | (go_at_call 68; refine HL.out.mono ?_; rintro e w1 ⟨rfl, g1, t1⟩; have S1 := hide (S0.out.drew.acc g1 t1); have k3 := (S1.out.opB (o := ⟨.pushCell, false, t, u, n, v, en⟩) rfl).f4; have k4 := (S1.out.opB (o := ⟨.pushCell, false, t, u, n, v, en⟩) rfl).f5; clear g1 t1))
  clear HL HS S0
  have f0 := (S1.out.opB (o := ⟨.pushCell, false, t, u, n, v, en⟩) rfl).f0
  have fz0 := (S1.out.opB (o := ⟨.pushCell, false, t, u, n, v, en⟩) rfl).fz 0
  go_wp2_with fail
  first | refine bodyPost_end (results_none rfl _ _ _) rfl ?_ | refine bodyPost_ret (results_none rfl _ _ _) rfl ?_
  exact ⟨rfl, (S1.out.set 0 _).fin rfl⟩

set_option maxRecDepth 4000 in
theorem st_stealSwap (ht : -4611686018427387904 ≤ t ∧ t ≤ 4611686018427387904) (hne : b ≠ d ∧ b ≠ p ∧ b ≠ q) (h : Dq w d p q C l s) (ho : OpB w b d ⟨.stealSwap, false, t, u, n, v, en⟩) :
    Calls Try.prog 88 #[.pointer (some ⟨d, 0, none⟩), .pointer (some ⟨b, 0, none⟩)] w fun e w' => e = .returned (.tuple #[]) ∧ Dq w' d p q C (if rd C l 0 = t then wr C l 0 (t + 1) else l) (wrap64 (s + 1)) ∧ OpB w' b d (if rd C l 0 = t then ⟨.stealSwap, true, t, u, n, v, 0⟩ else ⟨.stealSwap, true, t, u, n, v, 16⟩) ∧ Turned [p, q, b] w w' := by
  have S0 := hide (St.of h ho hne)
  have E1 := hide (show IntKind.i64.wrap (t + 1) = t + 1 by rw [IntKind.wrap_i64]; omega)
  have HL := hide (dswap_any w.drew d p q C l s 0 t (t + 1) (by have := h.cap; omega) h.drew)
  have f2 := (ho).f2
  have fz2 := (ho).fz 2
  clear ho h
  go_enter Try.func88, Try.ntmps88
  go_wp2_with fail
  go_region_held3 (fun w' => w'.cell? ⟨b, 2, none⟩ = some (.int .i64 t)) (go_keep)
    (first
      | (go_at_call 66; rw [E1.out]; refine HL.out.mono ?_; rintro e w1 ⟨rfl, g1, t1⟩; have S1 := hide (S0.out.drew.acc g1 t1); have k3 := (S1.out.opB (o := ⟨.stealSwap, false, t, u, n, v, en⟩) rfl).f2; clear g1 t1))
  clear HL S0 E1
  have HE := hide (fun en' => end_any w1 d b _ en' (S1.out.opB (o := ⟨.stealSwap, false, t, u, n, v, en⟩) rfl))
  by_cases hz : rd C l 0 = t
  · rw [if_pos hz] at S1
    go_wp2_with fail
    refine (HE.out 0).mono ?_
    rintro e w2 ⟨rfl, g2, t2⟩
    have S2 := hide (S1.out.endd g2 t2)
    clear g2 t2 HE S1
    go_wp2_with fail
    first | refine bodyPost_end (results_none rfl _ _ _) rfl ?_ | refine bodyPost_ret (results_none rfl _ _ _) rfl ?_
    exact ⟨rfl, S2.out.fin rfl⟩
  · rw [if_neg hz] at S1
    go_wp2_with fail
    refine (HE.out 16).mono ?_
    rintro e w2 ⟨rfl, g2, t2⟩
    have S2 := hide (S1.out.endd g2 t2)
    clear g2 t2 HE S1
    go_wp2_with fail
    first | refine bodyPost_end (results_none rfl _ _ _) rfl ?_ | refine bodyPost_ret (results_none rfl _ _ _) rfl ?_
    exact ⟨rfl, S2.out.fin rfl⟩

set_option maxRecDepth 4000 in
theorem st_popSwap (ht : -4611686018427387904 ≤ t ∧ t ≤ 4611686018427387904) (hne : b ≠ d ∧ b ≠ p ∧ b ≠ q) (h : Dq w d p q C l s) (ho : OpB w b d ⟨.popSwap, false, t, u, n, v, en⟩) :
    Calls Try.prog 96 #[.pointer (some ⟨d, 0, none⟩), .pointer (some ⟨b, 0, none⟩)] w fun e w' => e = .returned (.tuple #[]) ∧ Dq w' d p q C (if rd C l 0 = t then wr C l 0 (t + 1) else l) (wrap64 (s + 1)) ∧ OpB w' b d (if rd C l 0 = t then ⟨.popWon, false, (t + 1), u, n, v, en⟩ else ⟨.popNothing, false, (t + 1), u, n, v, en⟩) ∧ Turned [p, q, b] w w' := by
  have S0 := hide (St.of h ho hne)
  have E1 := hide (show IntKind.i64.wrap (t + 1) = t + 1 by rw [IntKind.wrap_i64]; omega)
  have f0 := (ho).f0
  have fz0 := (ho).fz 0
  have f2 := (ho).f2
  have fz2 := (ho).fz 2
  clear ho h
  go_enter Try.func96, Try.ntmps96
  go_wp2_with fail
  have Sa := hide (S0.out.set 0 (.func (.func 86) #[.pointer (some ⟨d, 0, none⟩)] #[]))
  generalize (w.setCell ⟨b, 0, none⟩ (.func (.func 86) #[.pointer (some ⟨d, 0, none⟩)] #[])) = wa at Sa ⊢
  clear f0 fz0 f2 fz2 S0
  have HL := hide (dswap_any wa.drew d p q C l s 0 t (t + 1) (by have := Sa.out.dq.cap; omega) Sa.out.dq.drew)
  have f2 := (Sa.out.opB (o := ⟨.popNothing, false, t, u, n, v, en⟩) rfl).f2
  have fz2 := (Sa.out.opB (o := ⟨.popNothing, false, t, u, n, v, en⟩) rfl).fz 2
  go_region_held3 (fun w' => w'.cell? ⟨b, 2, none⟩ = some (.int .i64 t)) (go_keep)
    (first
      | (go_at_call 66; rw [E1.out]; refine HL.out.mono ?_; rintro e w1 ⟨rfl, g1, t1⟩; have S1 := hide (Sa.out.drew.acc g1 t1); have k3 := (S1.out.opB (o := ⟨.popNothing, false, t, u, n, v, en⟩) rfl).f2; clear g1 t1))
  clear HL Sa E1 f2 fz2
  have f0 := (S1.out.opB (o := ⟨.popNothing, false, t, u, n, v, en⟩) rfl).f0
  have fz0 := (S1.out.opB (o := ⟨.popNothing, false, t, u, n, v, en⟩) rfl).fz 0
  have f2 := (S1.out.opB (o := ⟨.popNothing, false, t, u, n, v, en⟩) rfl).f2
  have fz2 := (S1.out.opB (o := ⟨.popNothing, false, t, u, n, v, en⟩) rfl).fz 2
  by_cases hz : rd C l 0 = t
  · rw [if_pos hz] at S1
    go_wp2_with fail
    first | refine bodyPost_end (results_none rfl _ _ _) rfl ?_ | refine bodyPost_ret (results_none rfl _ _ _) rfl ?_
    exact ⟨rfl, ((S1.out.set 0 _).set 2 _).fin rfl⟩
  · rw [if_neg hz] at S1
    go_wp2_with fail
    first | refine bodyPost_end (results_none rfl _ _ _) rfl ?_ | refine bodyPost_ret (results_none rfl _ _ _) rfl ?_
    exact ⟨rfl, (S1.out.set 2 _).fin rfl⟩

end
end Go.Proofs.Ytokabpgdklihlaa

