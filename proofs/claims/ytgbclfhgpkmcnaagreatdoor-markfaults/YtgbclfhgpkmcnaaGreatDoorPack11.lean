/-
  Texts of the proof, several in one: DequeSteps, DequeStep, QuietBase, QuietSteps.
-/
import Derived.Test.YtgbclfhgpkmcnaaGreatDoorPack10
import Derived.Laws.EntriesVeiled
import Derived.Test.YtgbclfhgpkmcnaaGreatDoorPack1
/-
  The steps of package deque's operations, each a method of the deque: what each does to the cells and to the operation. (Text by DequeSteps.gen.py.)
-/
namespace Go.Proofs.YtgbclfhgpkmcnaaGreatDoor
open Go.RowKit

/-- On the way through a step: the deque, the operation's cells as they stand, what was turned. -/
structure St (w0 w : World) (d p q b : Nat) (C : Cfg) (l : List Int) (s : Int) (c : Array Value) : Prop where
  ne : b ≠ d ∧ b ≠ p ∧ b ≠ q
  dq : Dq w d p q C l s
  op : OpR w b c
  tu : Turned [p, q, b] w0 w
  lt : b < w0.heap.size

section
variable {w0 w : World} {d p q b : Nat} {C : Cfg} {l : List Int} {s : Int} {c : Array Value} {o : OpS}
theorem St.of (h : Dq w d p q C l s) (ho : OpB w b d o) (hne : b ≠ d ∧ b ≠ p ∧ b ≠ q) : St w w d p q b C l s (opCells d o) := ⟨hne, h, ho, Turned.refl _ _, ho.lt⟩
theorem St.acc (h : St w0 w d p q b C l s c) {l' : List Int} {s' : Int} {w' : World} (m : Dq w' d p q C l' s') (t : Turned [p, q] w w') : St w0 w' d p q b C l' s' c :=
  ⟨h.ne, m, by have e := t.block b (lt_of_heap h.op) (by simp; exact h.ne.2); unfold OpR; rw [e]; exact h.op, h.tu.trans (t.mono (by intro k hk; simp at hk; rcases hk with rfl | rfl <;> simp)), h.lt⟩
theorem St.set (h : St w0 w d p q b C l s c) (i : Nat) (v : Value) : St w0 (w.setCell ⟨b, i, none⟩ v) d p q b C l s (c.setIfInBounds i v) :=
  ⟨h.ne, h.dq.turned (S := [b]) ((Turned.refl _ _).setCell (by simp) _) (by simp; exact Ne.symm h.ne.1) (by simp; exact Ne.symm h.ne.2.1) (by simp; exact Ne.symm h.ne.2.2), h.op.set i v, h.tu.setCell (by simp) _, h.lt⟩
theorem St.drewN (h : St w0 w d p q b C l s c) (m : Nat) : St w0 (w.drewN m) d p q b C l s c := ⟨h.ne, h.dq.drewN m, h.op, h.tu.drewN m, h.lt⟩
theorem St.drew (h : St w0 w d p q b C l s c) : St w0 w.drew d p q b C l s c := ⟨h.ne, h.dq.drew, h.op, h.tu.drew, h.lt⟩
theorem St.opB (h : St w0 w d p q b C l s c) (e : c = opCells d o) : OpB w b d o := h.op.mk e
theorem St.endd (h : St w0 w d p q b C l s c) {w' : World} {o' : OpS} (ho : OpB w' b d o') (t : Turned [b] w w') : St w0 w' d p q b C l s (opCells d o') :=
  ⟨h.ne, h.dq.turned t (by simp; exact Ne.symm h.ne.1) (by simp; exact Ne.symm h.ne.2.1) (by simp; exact Ne.symm h.ne.2.2), ho, h.tu.trans (t.mono (by simp)), h.lt⟩
theorem St.fin (h : St w0 w d p q b C l s c) (e : c = opCells d o) : Dq w d p q C l s ∧ OpB w b d o ∧ Turned [p, q, b] w0 w := ⟨h.dq, h.op.mk e, h.tu⟩
end

section
variable (w : World) (d p q b : Nat) (C : Cfg) (l : List Int) (s : Int) (t u : Int) (n : Nat) (v en : Int)

set_option maxRecDepth 4000 in
theorem st_pushReadBottom (hne : b ≠ d ∧ b ≠ p ∧ b ≠ q) (h : Dq w d p q C l s) (ho : OpB w b d ⟨.pushReadBottom, false, t, u, n, v, en⟩) :
    Calls Tryz.prog 103 #[.pointer (some ⟨d, 0, none⟩), .pointer (some ⟨b, 0, none⟩)] w fun e w' => e = .returned (.tuple #[]) ∧ Dq w' d p q C l (wrap64 (s + 1)) ∧ OpB w' b d ⟨.pushReadTop, false, t, (rd C l 1), n, v, en⟩ ∧ Turned [p, q, b] w w' := by
  have S0 := hide (St.of h ho hne)
  have HL := hide (dload_any w d p q C l s 1 (by have := h.cap; omega) h)
  have hC := h.cap
  generalize rd C l 1 = y at *
  clear ho h
  go_enter Tryz.func103, Tryz.ntmps103
  go_wp2_with fail
  refine HL.out.mono ?_
  rintro e w1 ⟨rfl, g1, t1⟩
  have S1 := hide (S0.out.acc g1 t1)
  have f0 := (S1.out.opB rfl).f0
  have fz0 := (S1.out.opB rfl).fz 0
  have f3 := (S1.out.opB rfl).f3
  have fz3 := (S1.out.opB rfl).fz 3
  clear g1 t1 HL S0
  go_wp2_with fail
  first | refine bodyPost_end (results_none rfl _ _ _) rfl ?_ | refine bodyPost_ret (results_none rfl _ _ _) rfl ?_
  exact ⟨rfl, ((S1.out.set 3 _).set 0 _).fin rfl⟩

set_option maxRecDepth 4000 in
theorem st_popReadBottom (hy : -4611686018427387904 ≤ rd C l 1 ∧ rd C l 1 ≤ 4611686018427387904) (hne : b ≠ d ∧ b ≠ p ∧ b ≠ q) (h : Dq w d p q C l s) (ho : OpB w b d ⟨.popReadBottom, false, t, u, n, v, en⟩) :
    Calls Tryz.prog 97 #[.pointer (some ⟨d, 0, none⟩), .pointer (some ⟨b, 0, none⟩)] w fun e w' => e = .returned (.tuple #[]) ∧ Dq w' d p q C l (wrap64 (s + 1)) ∧ OpB w' b d ⟨.popBottom, false, t, (rd C l 1 - 1), n, v, en⟩ ∧ Turned [p, q, b] w w' := by
  have S0 := hide (St.of h ho hne)
  have HL := hide (dload_any w d p q C l s 1 (by have := h.cap; omega) h)
  have hC := h.cap
  generalize rd C l 1 = y at *
  clear ho h
  go_enter Tryz.func97, Tryz.ntmps97
  go_wp2_with fail
  refine HL.out.mono ?_
  rintro e w1 ⟨rfl, g1, t1⟩
  have S1 := hide (S0.out.acc g1 t1)
  have f0 := (S1.out.opB rfl).f0
  have fz0 := (S1.out.opB rfl).fz 0
  have f3 := (S1.out.opB rfl).f3
  have fz3 := (S1.out.opB rfl).fz 3
  clear g1 t1 HL S0
  go_wp2_with fail
  first | refine bodyPost_end (results_none rfl _ _ _) rfl ?_ | refine bodyPost_ret (results_none rfl _ _ _) rfl ?_
  exact ⟨rfl, ((S1.out.set 3 _).set 0 _).fin rfl⟩

set_option maxRecDepth 4000 in
theorem st_stealReadTop (hne : b ≠ d ∧ b ≠ p ∧ b ≠ q) (h : Dq w d p q C l s) (ho : OpB w b d ⟨.stealReadTop, false, t, u, n, v, en⟩) :
    Calls Tryz.prog 98 #[.pointer (some ⟨d, 0, none⟩), .pointer (some ⟨b, 0, none⟩)] w fun e w' => e = .returned (.tuple #[]) ∧ Dq w' d p q C l (wrap64 (s + 1)) ∧ OpB w' b d ⟨.stealReadBottom, false, (rd C l 0), u, n, v, en⟩ ∧ Turned [p, q, b] w w' := by
  have S0 := hide (St.of h ho hne)
  have HL := hide (dload_any w d p q C l s 0 (by have := h.cap; omega) h)
  have hC := h.cap
  generalize rd C l 0 = y at *
  clear ho h
  go_enter Tryz.func98, Tryz.ntmps98
  go_wp2_with fail
  refine HL.out.mono ?_
  rintro e w1 ⟨rfl, g1, t1⟩
  have S1 := hide (S0.out.acc g1 t1)
  have f0 := (S1.out.opB rfl).f0
  have fz0 := (S1.out.opB rfl).fz 0
  have f2 := (S1.out.opB rfl).f2
  have fz2 := (S1.out.opB rfl).fz 2
  clear g1 t1 HL S0
  go_wp2_with fail
  first | refine bodyPost_end (results_none rfl _ _ _) rfl ?_ | refine bodyPost_ret (results_none rfl _ _ _) rfl ?_
  exact ⟨rfl, ((S1.out.set 2 _).set 0 _).fin rfl⟩

set_option maxRecDepth 4000 in
theorem st_pushReadTop (hy : -4611686018427387904 ≤ rd C l 0 ∧ rd C l 0 ≤ 4611686018427387904) (hu : -4611686018427387904 ≤ u ∧ u ≤ 4611686018427387904) (hne : b ≠ d ∧ b ≠ p ∧ b ≠ q) (h : Dq w d p q C l s) (ho : OpB w b d ⟨.pushReadTop, false, t, u, n, v, en⟩) :
    Calls Tryz.prog 113 #[.pointer (some ⟨d, 0, none⟩), .pointer (some ⟨b, 0, none⟩)] w fun e w' => e = .returned (.tuple #[]) ∧ Dq w' d p q C l (wrap64 (s + 1)) ∧ OpB w' b d ⟨if heldOf C (rd C l 0) u < C.cap then .pushSlot else .pushLock, false, (rd C l 0), u, n, v, en⟩ ∧ Turned [p, q, b] w w' := by
  have S0 := hide (St.of h ho hne)
  have HL := hide (dload_any w d p q C l s 0 (by have := h.cap; omega) h)
  have hC := h.cap
  have HV := hide (fun w' (g : Dq w' d p q C l (wrap64 (s + 1))) => held_any w' d p q C l (wrap64 (s + 1)) (rd C l 0) u hy hu g)
  generalize heldOf C (rd C l 0) u = z at *
  generalize rd C l 0 = y at *
  clear ho h
  go_enter Tryz.func113, Tryz.ntmps113
  go_wp2_with fail
  refine HL.out.mono ?_
  rintro e w1 ⟨rfl, g1, t1⟩
  have S1 := hide (S0.out.acc g1 t1)
  clear g1 t1 HL S0
  have f0 := (S1.out.opB rfl).f0
  have fz0 := (S1.out.opB rfl).fz 0
  have f2 := (S1.out.opB rfl).f2
  have fz2 := (S1.out.opB rfl).fz 2
  go_wp2_with fail
  have S2 := hide ((S1.out.set 2 (.int .i64 y)).set 0 (.func (.func 123) #[.pointer (some ⟨d, 0, none⟩)] #[]))
  generalize ((w1.setCell ⟨b, 2, none⟩ (.int .i64 y)).setCell ⟨b, 0, none⟩ (.func (.func 123) #[.pointer (some ⟨d, 0, none⟩)] #[])) = w2 at S2 ⊢
  clear f0 fz0 f2 fz2 S1
  have S2' := hide (S2.out.opB (o := ⟨.pushLock, false, y, u, n, v, en⟩) rfl)
  have f0 := (S2'.out).f0
  have fz0 := (S2'.out).fz 0
  have f2 := (S2'.out).f2
  have fz2 := (S2'.out).fz 2
  have f3 := (S2'.out).f3
  have fz3 := (S2'.out).fz 3
  have c2 := S2.out.dq.c2
  have HV2 := hide (fun m => HV.out (w2.drewN m) (S2.out.dq.drewN m))
  clear HV
  go_quiet ((go_at_call 124; exact Calls.quiet_of_same (HV2.out _)))
  go_wp2_with fail
  · skip
    first | refine bodyPost_end (results_none rfl _ _ _) rfl ?_ | refine bodyPost_ret (results_none rfl _ _ _) rfl ?_
    exact ⟨rfl, ((S2.out.drewN _).set 0 _).fin rfl⟩
  · skip
    first | refine bodyPost_end (results_none rfl _ _ _) rfl ?_ | refine bodyPost_ret (results_none rfl _ _ _) rfl ?_
    exact ⟨rfl, (S2.out.drewN _).fin rfl⟩

set_option maxRecDepth 4000 in
theorem st_pushBottom (hu : -4611686018427387904 ≤ u ∧ u ≤ 4611686018427387904) (hne : b ≠ d ∧ b ≠ p ∧ b ≠ q) (h : Dq w d p q C l s) (ho : OpB w b d ⟨.pushBottom, false, t, u, n, v, en⟩) :
    Calls Tryz.prog 140 #[.pointer (some ⟨d, 0, none⟩), .pointer (some ⟨b, 0, none⟩)] w fun e w' => e = .returned (.tuple #[]) ∧ Dq w' d p q C (wr C l 1 (u + 1)) (wrap64 (s + 1)) ∧ OpB w' b d ⟨.pushBottom, true, t, u, n, v, 0⟩ ∧ Turned [p, q, b] w w' := by
  have S0 := hide (St.of h ho hne)
  have HL := hide (dstore_any w d p q C l s 1 (u + 1) (by have := h.cap; omega) h)
  have hC := h.cap
  have hO := h.over
  have f3 := (ho).f3
  have fz3 := (ho).fz 3
  generalize wr C l 1 (u + 1) = l2 at *
  clear ho h
  go_enter Tryz.func140, Tryz.ntmps140
  go_wp2_with fail
  refine HL.out.mono ?_
  rintro e w1 ⟨rfl, g1, t1⟩
  have S1 := hide (S0.out.acc g1 t1)
  clear g1 t1 HL S0
  clear f3 fz3
  have HE := hide (end_any w1 d b _ 0 (S1.out.opB (o := ⟨.pushBottom, false, t, u, n, v, en⟩) rfl))
  have f6 := (S1.out.opB (o := ⟨.pushBottom, false, t, u, n, v, en⟩) rfl).f6
  have fz6 := (S1.out.opB (o := ⟨.pushBottom, false, t, u, n, v, en⟩) rfl).fz 6
  go_wp2_with fail
  refine HE.out.mono ?_
  rintro e w2 ⟨rfl, g2, t2⟩
  have S2 := hide (S1.out.endd g2 t2)
  clear g2 t2 HE f6 fz6 S1
  go_wp2_with fail
  first | refine bodyPost_end (results_none rfl _ _ _) rfl ?_ | refine bodyPost_ret (results_none rfl _ _ _) rfl ?_
  exact ⟨rfl, S2.out.fin rfl⟩

set_option maxRecDepth 4000 in
theorem st_popBottom (hne : b ≠ d ∧ b ≠ p ∧ b ≠ q) (h : Dq w d p q C l s) (ho : OpB w b d ⟨.popBottom, false, t, u, n, v, en⟩) :
    Calls Tryz.prog 109 #[.pointer (some ⟨d, 0, none⟩), .pointer (some ⟨b, 0, none⟩)] w fun e w' => e = .returned (.tuple #[]) ∧ Dq w' d p q C (wr C l 1 u) (wrap64 (s + 1)) ∧ OpB w' b d ⟨.popReadTop, false, t, u, n, v, en⟩ ∧ Turned [p, q, b] w w' := by
  have S0 := hide (St.of h ho hne)
  have HL := hide (dstore_any w d p q C l s 1 u (by have := h.cap; omega) h)
  have hC := h.cap
  have hO := h.over
  have f3 := (ho).f3
  have fz3 := (ho).fz 3
  generalize wr C l 1 u = l2 at *
  clear ho h
  go_enter Tryz.func109, Tryz.ntmps109
  go_wp2_with fail
  refine HL.out.mono ?_
  rintro e w1 ⟨rfl, g1, t1⟩
  have S1 := hide (S0.out.acc g1 t1)
  clear g1 t1 HL S0
  clear f3 fz3
  have f0 := (S1.out.opB rfl).f0
  have fz0 := (S1.out.opB rfl).fz 0
  go_wp2_with fail
  first | refine bodyPost_end (results_none rfl _ _ _) rfl ?_ | refine bodyPost_ret (results_none rfl _ _ _) rfl ?_
  exact ⟨rfl, (S1.out.set 0 _).fin rfl⟩

set_option maxRecDepth 4000 in
theorem st_popWon (hne : b ≠ d ∧ b ≠ p ∧ b ≠ q) (h : Dq w d p q C l s) (ho : OpB w b d ⟨.popWon, false, t, u, n, v, en⟩) :
    Calls Tryz.prog 157 #[.pointer (some ⟨d, 0, none⟩), .pointer (some ⟨b, 0, none⟩)] w fun e w' => e = .returned (.tuple #[]) ∧ Dq w' d p q C (wr C l 1 t) (wrap64 (s + 1)) ∧ OpB w' b d ⟨.popWon, true, t, u, n, v, 0⟩ ∧ Turned [p, q, b] w w' := by
  have S0 := hide (St.of h ho hne)
  have HL := hide (dstore_any w d p q C l s 1 t (by have := h.cap; omega) h)
  have hC := h.cap
  have hO := h.over
  have f2 := (ho).f2
  have fz2 := (ho).fz 2
  generalize wr C l 1 t = l2 at *
  clear ho h
  go_enter Tryz.func157, Tryz.ntmps157
  go_wp2_with fail
  refine HL.out.mono ?_
  rintro e w1 ⟨rfl, g1, t1⟩
  have S1 := hide (S0.out.acc g1 t1)
  clear g1 t1 HL S0
  clear f2 fz2
  have HE := hide (end_any w1 d b _ 0 (S1.out.opB (o := ⟨.popWon, false, t, u, n, v, en⟩) rfl))
  have f6 := (S1.out.opB (o := ⟨.popWon, false, t, u, n, v, en⟩) rfl).f6
  have fz6 := (S1.out.opB (o := ⟨.popWon, false, t, u, n, v, en⟩) rfl).fz 6
  go_wp2_with fail
  refine HE.out.mono ?_
  rintro e w2 ⟨rfl, g2, t2⟩
  have S2 := hide (S1.out.endd g2 t2)
  clear g2 t2 HE f6 fz6 S1
  go_wp2_with fail
  first | refine bodyPost_end (results_none rfl _ _ _) rfl ?_ | refine bodyPost_ret (results_none rfl _ _ _) rfl ?_
  exact ⟨rfl, S2.out.fin rfl⟩

set_option maxRecDepth 4000 in
theorem st_popNothing (hne : b ≠ d ∧ b ≠ p ∧ b ≠ q) (h : Dq w d p q C l s) (ho : OpB w b d ⟨.popNothing, false, t, u, n, v, en⟩) :
    Calls Tryz.prog 133 #[.pointer (some ⟨d, 0, none⟩), .pointer (some ⟨b, 0, none⟩)] w fun e w' => e = .returned (.tuple #[]) ∧ Dq w' d p q C (wr C l 1 t) (wrap64 (s + 1)) ∧ OpB w' b d ⟨.takeLock, false, t, u, n, v, en⟩ ∧ Turned [p, q, b] w w' := by
  have S0 := hide (St.of h ho hne)
  have HL := hide (dstore_any w d p q C l s 1 t (by have := h.cap; omega) h)
  have hC := h.cap
  have hO := h.over
  have f2 := (ho).f2
  have fz2 := (ho).fz 2
  generalize wr C l 1 t = l2 at *
  clear ho h
  go_enter Tryz.func133, Tryz.ntmps133
  go_wp2_with fail
  refine HL.out.mono ?_
  rintro e w1 ⟨rfl, g1, t1⟩
  have S1 := hide (S0.out.acc g1 t1)
  clear g1 t1 HL S0
  clear f2 fz2
  have f0 := (S1.out.opB rfl).f0
  have fz0 := (S1.out.opB rfl).fz 0
  go_wp2_with fail
  first | refine bodyPost_end (results_none rfl _ _ _) rfl ?_ | refine bodyPost_ret (results_none rfl _ _ _) rfl ?_
  exact ⟨rfl, (S1.out.set 0 _).fin rfl⟩

set_option maxRecDepth 4000 in
theorem st_pushCounted (hn : n < C.over) (hne : b ≠ d ∧ b ≠ p ∧ b ≠ q) (h : Dq w d p q C l s) (ho : OpB w b d ⟨.pushCounted, false, t, u, n, v, en⟩) :
    Calls Tryz.prog 161 #[.pointer (some ⟨d, 0, none⟩), .pointer (some ⟨b, 0, none⟩)] w fun e w' => e = .returned (.tuple #[]) ∧ Dq w' d p q C (wr C l 3 ((n : Int) + 1)) (wrap64 (s + 1)) ∧ OpB w' b d ⟨.free, false, t, u, n, v, en⟩ ∧ Turned [p, q, b] w w' := by
  have S0 := hide (St.of h ho hne)
  have HL := hide (dstore_any w d p q C l s 3 ((n : Int) + 1) (by have := h.cap; omega) h)
  have hC := h.cap
  have hO := h.over
  have f4 := (ho).f4
  have fz4 := (ho).fz 4
  generalize wr C l 3 ((n : Int) + 1) = l2 at *
  clear ho h
  go_enter Tryz.func161, Tryz.ntmps161
  go_wp2_with fail
  refine HL.out.mono ?_
  rintro e w1 ⟨rfl, g1, t1⟩
  have S1 := hide (S0.out.acc g1 t1)
  clear g1 t1 HL S0
  clear f4 fz4
  have f0 := (S1.out.opB rfl).f0
  have fz0 := (S1.out.opB rfl).fz 0
  go_wp2_with fail
  first | refine bodyPost_end (results_none rfl _ _ _) rfl ?_ | refine bodyPost_ret (results_none rfl _ _ _) rfl ?_
  exact ⟨rfl, (S1.out.set 0 _).fin rfl⟩

set_option maxRecDepth 4000 in
theorem st_takeCounted (hn : 0 < n ∧ n ≤ C.over) (hne : b ≠ d ∧ b ≠ p ∧ b ≠ q) (h : Dq w d p q C l s) (ho : OpB w b d ⟨.takeCounted, false, t, u, n, v, en⟩) :
    Calls Tryz.prog 160 #[.pointer (some ⟨d, 0, none⟩), .pointer (some ⟨b, 0, none⟩)] w fun e w' => e = .returned (.tuple #[]) ∧ Dq w' d p q C (wr C l 3 ((n : Int) - 1)) (wrap64 (s + 1)) ∧ OpB w' b d ⟨.free, false, t, u, n, v, en⟩ ∧ Turned [p, q, b] w w' := by
  have S0 := hide (St.of h ho hne)
  have HL := hide (dstore_any w d p q C l s 3 ((n : Int) - 1) (by have := h.cap; omega) h)
  have hC := h.cap
  have hO := h.over
  have f4 := (ho).f4
  have fz4 := (ho).fz 4
  generalize wr C l 3 ((n : Int) - 1) = l2 at *
  clear ho h
  go_enter Tryz.func160, Tryz.ntmps160
  go_wp2_with fail
  refine HL.out.mono ?_
  rintro e w1 ⟨rfl, g1, t1⟩
  have S1 := hide (S0.out.acc g1 t1)
  clear g1 t1 HL S0
  clear f4 fz4
  have f0 := (S1.out.opB rfl).f0
  have fz0 := (S1.out.opB rfl).fz 0
  go_wp2_with fail
  first | refine bodyPost_end (results_none rfl _ _ _) rfl ?_ | refine bodyPost_ret (results_none rfl _ _ _) rfl ?_
  exact ⟨rfl, (S1.out.set 0 _).fin rfl⟩

set_option maxRecDepth 4000 in
theorem st_free (hne : b ≠ d ∧ b ≠ p ∧ b ≠ q) (h : Dq w d p q C l s) (ho : OpB w b d ⟨.free, false, t, u, n, v, en⟩) :
    Calls Tryz.prog 149 #[.pointer (some ⟨d, 0, none⟩), .pointer (some ⟨b, 0, none⟩)] w fun e w' => e = .returned (.tuple #[]) ∧ Dq w' d p q C (wr C l 2 0) (wrap64 (s + 1)) ∧ OpB w' b d ⟨.free, true, t, u, n, v, en⟩ ∧ Turned [p, q, b] w w' := by
  have S0 := hide (St.of h ho hne)
  have HL := hide (dstore_any w d p q C l s 2 0 (by have := h.cap; omega) h)
  have hC := h.cap
  have hO := h.over
  generalize wr C l 2 0 = l2 at *
  clear ho h
  go_enter Tryz.func149, Tryz.ntmps149
  go_wp2_with fail
  refine HL.out.mono ?_
  rintro e w1 ⟨rfl, g1, t1⟩
  have S1 := hide (S0.out.acc g1 t1)
  clear g1 t1 HL S0
  have HE := hide (end_any w1 d b _ en (S1.out.opB (o := ⟨.free, false, t, u, n, v, en⟩) rfl))
  have f6 := (S1.out.opB (o := ⟨.free, false, t, u, n, v, en⟩) rfl).f6
  have fz6 := (S1.out.opB (o := ⟨.free, false, t, u, n, v, en⟩) rfl).fz 6
  go_wp2_with fail
  refine HE.out.mono ?_
  rintro e w2 ⟨rfl, g2, t2⟩
  have S2 := hide (S1.out.endd g2 t2)
  clear g2 t2 HE f6 fz6 S1
  go_wp2_with fail
  first | refine bodyPost_end (results_none rfl _ _ _) rfl ?_ | refine bodyPost_ret (results_none rfl _ _ _) rfl ?_
  exact ⟨rfl, S2.out.fin rfl⟩

set_option maxRecDepth 4000 in
theorem st_pushLock (hne : b ≠ d ∧ b ≠ p ∧ b ≠ q) (h : Dq w d p q C l s) (ho : OpB w b d ⟨.pushLock, false, t, u, n, v, en⟩) :
    Calls Tryz.prog 123 #[.pointer (some ⟨d, 0, none⟩), .pointer (some ⟨b, 0, none⟩)] w fun e w' => e = .returned (.tuple #[]) ∧ Dq w' d p q C (if rd C l 2 = 0 then wr C l 2 1 else l) (wrap64 (s + 1)) ∧ OpB w' b d (if rd C l 2 = 0 then ⟨.pushCount, false, t, u, n, v, en⟩ else ⟨.pushLock, false, t, u, n, v, en⟩) ∧ Turned [p, q, b] w w' := by
  have S0 := hide (St.of h ho hne)
  have HL := hide (dswap_any w d p q C l s 2 0 1 (by have := h.cap; omega) h)
  clear ho h
  go_enter Tryz.func123, Tryz.ntmps123
  go_wp2_with fail
  refine HL.out.mono ?_
  rintro e w1 ⟨rfl, g1, t1⟩
  have S1 := hide (S0.out.acc g1 t1)
  clear g1 t1 HL S0
  have f0 := (S1.out.opB (o := ⟨.pushLock, false, t, u, n, v, en⟩) rfl).f0
  have fz0 := (S1.out.opB (o := ⟨.pushLock, false, t, u, n, v, en⟩) rfl).fz 0
  by_cases hz : rd C l 2 = 0
  · rw [if_pos hz] at S1
    go_wp2_with fail
    first | refine bodyPost_end (results_none rfl _ _ _) rfl ?_ | refine bodyPost_ret (results_none rfl _ _ _) rfl ?_
    exact ⟨rfl, (S1.out.set 0 _).fin rfl⟩
  · rw [if_neg hz] at S1
    go_wp2_with fail
    first | refine bodyPost_end (results_none rfl _ _ _) rfl ?_ | refine bodyPost_ret (results_none rfl _ _ _) rfl ?_
    exact ⟨rfl, S1.out.fin rfl⟩

set_option maxRecDepth 4000 in
theorem st_takeLock (hne : b ≠ d ∧ b ≠ p ∧ b ≠ q) (h : Dq w d p q C l s) (ho : OpB w b d ⟨.takeLock, false, t, u, n, v, en⟩) :
    Calls Tryz.prog 120 #[.pointer (some ⟨d, 0, none⟩), .pointer (some ⟨b, 0, none⟩)] w fun e w' => e = .returned (.tuple #[]) ∧ Dq w' d p q C (if rd C l 2 = 0 then wr C l 2 1 else l) (wrap64 (s + 1)) ∧ OpB w' b d (if rd C l 2 = 0 then ⟨.takeCount, false, t, u, n, v, en⟩ else ⟨.takeLock, false, t, u, n, v, en⟩) ∧ Turned [p, q, b] w w' := by
  have S0 := hide (St.of h ho hne)
  have HL := hide (dswap_any w d p q C l s 2 0 1 (by have := h.cap; omega) h)
  clear ho h
  go_enter Tryz.func120, Tryz.ntmps120
  go_wp2_with fail
  refine HL.out.mono ?_
  rintro e w1 ⟨rfl, g1, t1⟩
  have S1 := hide (S0.out.acc g1 t1)
  clear g1 t1 HL S0
  have f0 := (S1.out.opB (o := ⟨.takeLock, false, t, u, n, v, en⟩) rfl).f0
  have fz0 := (S1.out.opB (o := ⟨.takeLock, false, t, u, n, v, en⟩) rfl).fz 0
  by_cases hz : rd C l 2 = 0
  · rw [if_pos hz] at S1
    go_wp2_with fail
    first | refine bodyPost_end (results_none rfl _ _ _) rfl ?_ | refine bodyPost_ret (results_none rfl _ _ _) rfl ?_
    exact ⟨rfl, (S1.out.set 0 _).fin rfl⟩
  · rw [if_neg hz] at S1
    go_wp2_with fail
    first | refine bodyPost_end (results_none rfl _ _ _) rfl ?_ | refine bodyPost_ret (results_none rfl _ _ _) rfl ?_
    exact ⟨rfl, S1.out.fin rfl⟩

set_option maxRecDepth 4000 in
theorem st_pushCount (hne : b ≠ d ∧ b ≠ p ∧ b ≠ q) (h : Dq w d p q C l s) (ho : OpB w b d ⟨.pushCount, false, t, u, n, v, en⟩) :
    Calls Tryz.prog 139 #[.pointer (some ⟨d, 0, none⟩), .pointer (some ⟨b, 0, none⟩)] w fun e w' => e = .returned (.tuple #[]) ∧ Dq w' d p q C l (wrap64 (s + 1)) ∧ OpB w' b d (if C.over ≤ stackedOf C (rd C l 3) then ⟨.free, false, t, u, (stackedOf C (rd C l 3)), v, 14⟩ else ⟨.pushCell, false, t, u, (stackedOf C (rd C l 3)), v, en⟩) ∧ Turned [p, q, b] w w' := by
  have S0 := hide (St.of h ho hne)
  have HL := hide (dload_any w d p q C l s 3 (by have := h.cap; omega) h)
  have hC := h.cap
  have hO := h.over
  have HS := hide (fun w' (g : Dq w' d p q C l (wrap64 (s + 1))) => stacked_any w' d p q C l (wrap64 (s + 1)) (rd C l 3) g)
  generalize stackedOf C (rd C l 3) = z at *
  generalize rd C l 3 = y at *
  clear ho h
  go_enter Tryz.func139, Tryz.ntmps139
  go_wp2_with fail
  refine HL.out.mono ?_
  rintro e w1 ⟨rfl, g1, t1⟩
  have S1 := hide (S0.out.acc g1 t1)
  clear g1 t1 HL S0
  go_wp2_with fail
  refine (HS.out _ S1.out.dq).mono ?_
  rintro e w2 ⟨rfl, rfl⟩
  clear HS
  have f0 := (S1.out.opB (o := ⟨.pushCount, false, t, u, n, v, en⟩) rfl).f0
  have fz0 := (S1.out.opB (o := ⟨.pushCount, false, t, u, n, v, en⟩) rfl).fz 0
  have f4 := (S1.out.opB (o := ⟨.pushCount, false, t, u, n, v, en⟩) rfl).f4
  have fz4 := (S1.out.opB (o := ⟨.pushCount, false, t, u, n, v, en⟩) rfl).fz 4
  go_wp2_with fail
  have S2 := hide ((S1.out.set 4 (.int .i64 z)).set 0 (.func (.func 151) #[.pointer (some ⟨d, 0, none⟩)] #[]))
  generalize ((w2.setCell ⟨b, 4, none⟩ (.int .i64 z)).setCell ⟨b, 0, none⟩ (.func (.func 151) #[.pointer (some ⟨d, 0, none⟩)] #[])) = w3 at S2 ⊢
  clear f0 fz0 f4 fz4 S1
  have S2' := hide (S2.out.opB (o := ⟨.pushCell, false, t, u, z, v, en⟩) rfl)
  have f0 := (S2'.out).f0
  have fz0 := (S2'.out).fz 0
  have f4 := (S2'.out).f4
  have fz4 := (S2'.out).fz 4
  have f6 := (S2'.out).f6
  have fz6 := (S2'.out).fz 6
  have c3 := S2.out.dq.c3
  go_quiet (fail)
  go_wp2_with fail
  · skip
    first | refine bodyPost_end (results_none rfl _ _ _) rfl ?_ | refine bodyPost_ret (results_none rfl _ _ _) rfl ?_
    exact ⟨rfl, (((S2.out.drewN _).set 6 _).set 0 _).fin rfl⟩
  · skip
    first | refine bodyPost_end (results_none rfl _ _ _) rfl ?_ | refine bodyPost_ret (results_none rfl _ _ _) rfl ?_
    exact ⟨rfl, (S2.out.drewN _).fin rfl⟩

set_option maxRecDepth 4000 in
theorem st_takeCount (hne : b ≠ d ∧ b ≠ p ∧ b ≠ q) (h : Dq w d p q C l s) (ho : OpB w b d ⟨.takeCount, false, t, u, n, v, en⟩) :
    Calls Tryz.prog 135 #[.pointer (some ⟨d, 0, none⟩), .pointer (some ⟨b, 0, none⟩)] w fun e w' => e = .returned (.tuple #[]) ∧ Dq w' d p q C l (wrap64 (s + 1)) ∧ OpB w' b d (if stackedOf C (rd C l 3) = 0 then ⟨.free, false, t, u, (stackedOf C (rd C l 3)), v, 15⟩ else ⟨.takeCell, false, t, u, (stackedOf C (rd C l 3)), v, en⟩) ∧ Turned [p, q, b] w w' := by
  have S0 := hide (St.of h ho hne)
  have HL := hide (dload_any w d p q C l s 3 (by have := h.cap; omega) h)
  have hC := h.cap
  have hO := h.over
  have HS := hide (fun w' (g : Dq w' d p q C l (wrap64 (s + 1))) => stacked_any w' d p q C l (wrap64 (s + 1)) (rd C l 3) g)
  generalize stackedOf C (rd C l 3) = z at *
  generalize rd C l 3 = y at *
  clear ho h
  go_enter Tryz.func135, Tryz.ntmps135
  go_wp2_with fail
  refine HL.out.mono ?_
  rintro e w1 ⟨rfl, g1, t1⟩
  have S1 := hide (S0.out.acc g1 t1)
  clear g1 t1 HL S0
  go_wp2_with fail
  refine (HS.out _ S1.out.dq).mono ?_
  rintro e w2 ⟨rfl, rfl⟩
  clear HS
  have f0 := (S1.out.opB (o := ⟨.takeCount, false, t, u, n, v, en⟩) rfl).f0
  have fz0 := (S1.out.opB (o := ⟨.takeCount, false, t, u, n, v, en⟩) rfl).fz 0
  have f4 := (S1.out.opB (o := ⟨.takeCount, false, t, u, n, v, en⟩) rfl).f4
  have fz4 := (S1.out.opB (o := ⟨.takeCount, false, t, u, n, v, en⟩) rfl).fz 4
  have f6 := (S1.out.opB (o := ⟨.takeCount, false, t, u, n, v, en⟩) rfl).f6
  have fz6 := (S1.out.opB (o := ⟨.takeCount, false, t, u, n, v, en⟩) rfl).fz 6
  by_cases hz : z = 0
  · subst hz
    go_wp2_with fail
    first | refine bodyPost_end (results_none rfl _ _ _) rfl ?_ | refine bodyPost_ret (results_none rfl _ _ _) rfl ?_
    exact ⟨rfl, ((((S1.out.set 4 _).set 0 _).set 6 _).set 0 _).fin rfl⟩
  · have hz' : ¬ ((z : Int) = 0) := by omega
    go_wp2_with fail
    first | refine bodyPost_end (results_none rfl _ _ _) rfl ?_ | refine bodyPost_ret (results_none rfl _ _ _) rfl ?_
    exact ⟨rfl, ((S1.out.set 4 _).set 0 _).fin rfl⟩

set_option maxRecDepth 4000 in
theorem st_popSlot (hne : b ≠ d ∧ b ≠ p ∧ b ≠ q) (h : Dq w d p q C l s) (ho : OpB w b d ⟨.popSlot, false, t, u, n, v, en⟩) :
    Calls Tryz.prog 131 #[.pointer (some ⟨d, 0, none⟩), .pointer (some ⟨b, 0, none⟩)] w fun e w' => e = .returned (.tuple #[]) ∧ Dq w' d p q C l (wrap64 (s + 1)) ∧ OpB w' b d ⟨.popSlot, true, t, u, n, (rd C l (slotOf C u)), 0⟩ ∧ Turned [p, q, b] w w' := by
  have S0 := hide (St.of h ho hne)
  have HS := hide (slot_any w d p q C l s u h)
  have hsl := slotOf_lt C u h.cap.1
  have HL := hide (dload_any w d p q C l s (slotOf C u) (by omega) h)
  have f3 := (ho).f3
  have fz3 := (ho).fz 3
  clear hsl
  generalize rd C l (slotOf C u) = y at *
  generalize slotOf C u = k at *
  clear ho h
  go_enter Tryz.func131, Tryz.ntmps131
  go_wp2_with fail
  refine HS.out.mono ?_
  rintro e w0 ⟨rfl, rfl⟩
  clear HS
  go_wp2_with fail
  refine HL.out.mono ?_
  rintro e w1 ⟨rfl, g1, t1⟩
  have S1 := hide (S0.out.acc g1 t1)
  clear g1 t1 HL S0
  clear f3 fz3
  have f5 := (S1.out.opB (o := ⟨.popSlot, false, t, u, n, v, en⟩) rfl).f5
  have fz5 := (S1.out.opB (o := ⟨.popSlot, false, t, u, n, v, en⟩) rfl).fz 5
  go_wp2_with fail
  have S2 := hide (S1.out.set 5 (.int .i64 y))
  generalize (w1.setCell ⟨b, 5, none⟩ (.int .i64 y)) = w2 at S2 ⊢
  clear f5 fz5 S1
  have HE := hide (end_any w2 d b _ 0 (S2.out.opB (o := ⟨.popSlot, false, t, u, n, y, en⟩) rfl))
  refine HE.out.mono ?_
  rintro e w3 ⟨rfl, g2, t2⟩
  have S3 := hide (S2.out.endd g2 t2)
  clear g2 t2 HE S2
  go_wp2_with fail
  first | refine bodyPost_end (results_none rfl _ _ _) rfl ?_ | refine bodyPost_ret (results_none rfl _ _ _) rfl ?_
  exact ⟨rfl, S3.out.fin rfl⟩

set_option maxRecDepth 4000 in
theorem st_popLast (hne : b ≠ d ∧ b ≠ p ∧ b ≠ q) (h : Dq w d p q C l s) (ho : OpB w b d ⟨.popLast, false, t, u, n, v, en⟩) :
    Calls Tryz.prog 132 #[.pointer (some ⟨d, 0, none⟩), .pointer (some ⟨b, 0, none⟩)] w fun e w' => e = .returned (.tuple #[]) ∧ Dq w' d p q C l (wrap64 (s + 1)) ∧ OpB w' b d ⟨.popSwap, false, t, u, n, (rd C l (slotOf C u)), en⟩ ∧ Turned [p, q, b] w w' := by
  have S0 := hide (St.of h ho hne)
  have HS := hide (slot_any w d p q C l s u h)
  have hsl := slotOf_lt C u h.cap.1
  have HL := hide (dload_any w d p q C l s (slotOf C u) (by omega) h)
  have f3 := (ho).f3
  have fz3 := (ho).fz 3
  clear hsl
  generalize rd C l (slotOf C u) = y at *
  generalize slotOf C u = k at *
  clear ho h
  go_enter Tryz.func132, Tryz.ntmps132
  go_wp2_with fail
  refine HS.out.mono ?_
  rintro e w0 ⟨rfl, rfl⟩
  clear HS
  go_wp2_with fail
  refine HL.out.mono ?_
  rintro e w1 ⟨rfl, g1, t1⟩
  have S1 := hide (S0.out.acc g1 t1)
  clear g1 t1 HL S0
  clear f3 fz3
  have f0 := (S1.out.opB (o := ⟨.popLast, false, t, u, n, v, en⟩) rfl).f0
  have fz0 := (S1.out.opB (o := ⟨.popLast, false, t, u, n, v, en⟩) rfl).fz 0
  have f5 := (S1.out.opB (o := ⟨.popLast, false, t, u, n, v, en⟩) rfl).f5
  have fz5 := (S1.out.opB (o := ⟨.popLast, false, t, u, n, v, en⟩) rfl).fz 5
  go_wp2_with fail
  first | refine bodyPost_end (results_none rfl _ _ _) rfl ?_ | refine bodyPost_ret (results_none rfl _ _ _) rfl ?_
  exact ⟨rfl, ((S1.out.set 5 _).set 0 _).fin rfl⟩

set_option maxRecDepth 4000 in
theorem st_stealSlot (hne : b ≠ d ∧ b ≠ p ∧ b ≠ q) (h : Dq w d p q C l s) (ho : OpB w b d ⟨.stealSlot, false, t, u, n, v, en⟩) :
    Calls Tryz.prog 121 #[.pointer (some ⟨d, 0, none⟩), .pointer (some ⟨b, 0, none⟩)] w fun e w' => e = .returned (.tuple #[]) ∧ Dq w' d p q C l (wrap64 (s + 1)) ∧ OpB w' b d ⟨.stealSwap, false, t, u, n, (rd C l (slotOf C t)), en⟩ ∧ Turned [p, q, b] w w' := by
  have S0 := hide (St.of h ho hne)
  have HS := hide (slot_any w d p q C l s t h)
  have hsl := slotOf_lt C t h.cap.1
  have HL := hide (dload_any w d p q C l s (slotOf C t) (by omega) h)
  have f2 := (ho).f2
  have fz2 := (ho).fz 2
  clear hsl
  generalize rd C l (slotOf C t) = y at *
  generalize slotOf C t = k at *
  clear ho h
  go_enter Tryz.func121, Tryz.ntmps121
  go_wp2_with fail
  refine HS.out.mono ?_
  rintro e w0 ⟨rfl, rfl⟩
  clear HS
  go_wp2_with fail
  refine HL.out.mono ?_
  rintro e w1 ⟨rfl, g1, t1⟩
  have S1 := hide (S0.out.acc g1 t1)
  clear g1 t1 HL S0
  clear f2 fz2
  have f0 := (S1.out.opB (o := ⟨.stealSlot, false, t, u, n, v, en⟩) rfl).f0
  have fz0 := (S1.out.opB (o := ⟨.stealSlot, false, t, u, n, v, en⟩) rfl).fz 0
  have f5 := (S1.out.opB (o := ⟨.stealSlot, false, t, u, n, v, en⟩) rfl).f5
  have fz5 := (S1.out.opB (o := ⟨.stealSlot, false, t, u, n, v, en⟩) rfl).fz 5
  go_wp2_with fail
  first | refine bodyPost_end (results_none rfl _ _ _) rfl ?_ | refine bodyPost_ret (results_none rfl _ _ _) rfl ?_
  exact ⟨rfl, ((S1.out.set 5 _).set 0 _).fin rfl⟩

set_option maxRecDepth 4000 in
theorem st_takeCell (hn : 0 < n ∧ n ≤ C.over) (hne : b ≠ d ∧ b ≠ p ∧ b ≠ q) (h : Dq w d p q C l s) (ho : OpB w b d ⟨.takeCell, false, t, u, n, v, en⟩) :
    Calls Tryz.prog 148 #[.pointer (some ⟨d, 0, none⟩), .pointer (some ⟨b, 0, none⟩)] w fun e w' => e = .returned (.tuple #[]) ∧ Dq w' d p q C l (wrap64 (s + 1)) ∧ OpB w' b d ⟨.takeCounted, false, t, u, n, (rd C l (4 + C.cap + (n - 1))), en⟩ ∧ Turned [p, q, b] w w' := by
  have S0 := hide (St.of h ho hne)
  have hO := h.over
  have hC := h.cap
  have HS : Hid (Calls Tryz.prog 159 #[.pointer (some ⟨d, 0, none⟩), .int .i64 ((n : Int) - 1)] w fun e w' => e = .returned (.int .i64 ((4 + C.cap + (n - 1) : Nat) : Int)) ∧ w' = w) := by
    rw [show ((n : Int) - 1) = ((n - 1 : Nat) : Int) by omega]
    exact cell_any w d p q C l s (n - 1) (by omega) h
  have HL := hide (dload_any w d p q C l s (4 + C.cap + (n - 1)) (by omega) h)
  have f4 := (ho).f4
  have fz4 := (ho).fz 4
  generalize rd C l (4 + C.cap + (n - 1)) = y at *
  generalize (4 + C.cap + (n - 1)) = k at *
  clear ho h
  go_enter Tryz.func148, Tryz.ntmps148
  go_wp2_with fail
  refine HS.out.mono ?_
  rintro e w0 ⟨rfl, rfl⟩
  clear HS
  go_wp2_with fail
  refine HL.out.mono ?_
  rintro e w1 ⟨rfl, g1, t1⟩
  have S1 := hide (S0.out.acc g1 t1)
  clear g1 t1 HL S0
  clear f4 fz4
  have f0 := (S1.out.opB (o := ⟨.takeCell, false, t, u, n, v, en⟩) rfl).f0
  have fz0 := (S1.out.opB (o := ⟨.takeCell, false, t, u, n, v, en⟩) rfl).fz 0
  have f5 := (S1.out.opB (o := ⟨.takeCell, false, t, u, n, v, en⟩) rfl).f5
  have fz5 := (S1.out.opB (o := ⟨.takeCell, false, t, u, n, v, en⟩) rfl).fz 5
  go_wp2_with fail
  first | refine bodyPost_end (results_none rfl _ _ _) rfl ?_ | refine bodyPost_ret (results_none rfl _ _ _) rfl ?_
  exact ⟨rfl, ((S1.out.set 5 _).set 0 _).fin rfl⟩

set_option maxRecDepth 4000 in
theorem st_stealReadBottom (hne : b ≠ d ∧ b ≠ p ∧ b ≠ q) (h : Dq w d p q C l s) (ho : OpB w b d ⟨.stealReadBottom, false, t, u, n, v, en⟩) :
    Calls Tryz.prog 110 #[.pointer (some ⟨d, 0, none⟩), .pointer (some ⟨b, 0, none⟩)] w fun e w' => e = .returned (.tuple #[]) ∧ Dq w' d p q C l (wrap64 (s + 1)) ∧ OpB w' b d ⟨if t < rd C l 1 then .stealSlot else .takeLock, false, t, (rd C l 1), n, v, en⟩ ∧ Turned [p, q, b] w w' := by
  have S0 := hide (St.of h ho hne)
  have HL := hide (dload_any w d p q C l s 1 (by have := h.cap; omega) h)
  generalize rd C l 1 = y at *
  clear ho h
  go_enter Tryz.func110, Tryz.ntmps110
  go_wp2_with fail
  refine HL.out.mono ?_
  rintro e w1 ⟨rfl, g1, t1⟩
  have S1 := hide (S0.out.acc g1 t1)
  clear g1 t1 HL S0
  have f0 := (S1.out.opB rfl).f0
  have fz0 := (S1.out.opB rfl).fz 0
  have f3 := (S1.out.opB rfl).f3
  have fz3 := (S1.out.opB rfl).fz 3
  go_wp2_with fail
  have S2 := hide ((S1.out.set 3 (.int .i64 y)).set 0 (.func (.func 120) #[.pointer (some ⟨d, 0, none⟩)] #[]))
  generalize ((w1.setCell ⟨b, 3, none⟩ (.int .i64 y)).setCell ⟨b, 0, none⟩ (.func (.func 120) #[.pointer (some ⟨d, 0, none⟩)] #[])) = w2 at S2 ⊢
  clear f0 fz0 f3 fz3 S1
  have S2' := hide (S2.out.opB (o := ⟨.takeLock, false, t, y, n, v, en⟩) rfl)
  have f0 := (S2'.out).f0
  have fz0 := (S2'.out).fz 0
  have f2 := (S2'.out).f2
  have fz2 := (S2'.out).fz 2
  have f3 := (S2'.out).f3
  have fz3 := (S2'.out).fz 3
  go_quiet (fail)
  go_wp2_with fail
  · skip
    first | refine bodyPost_end (results_none rfl _ _ _) rfl ?_ | refine bodyPost_ret (results_none rfl _ _ _) rfl ?_
    exact ⟨rfl, ((S2.out.drewN _).set 0 _).fin rfl⟩
  · skip
    first | refine bodyPost_end (results_none rfl _ _ _) rfl ?_ | refine bodyPost_ret (results_none rfl _ _ _) rfl ?_
    exact ⟨rfl, (S2.out.drewN _).fin rfl⟩

set_option maxRecDepth 4000 in
theorem st_popReadTop (hne : b ≠ d ∧ b ≠ p ∧ b ≠ q) (h : Dq w d p q C l s) (ho : OpB w b d ⟨.popReadTop, false, t, u, n, v, en⟩) :
    Calls Tryz.prog 119 #[.pointer (some ⟨d, 0, none⟩), .pointer (some ⟨b, 0, none⟩)] w fun e w' => e = .returned (.tuple #[]) ∧ Dq w' d p q C l (wrap64 (s + 1)) ∧ OpB w' b d ⟨if rd C l 0 < u then .popSlot else if rd C l 0 = u then .popLast else .popNothing, false, (rd C l 0), u, n, v, en⟩ ∧ Turned [p, q, b] w w' := by
  have S0 := hide (St.of h ho hne)
  have HL := hide (dload_any w d p q C l s 0 (by have := h.cap; omega) h)
  generalize rd C l 0 = y at *
  clear ho h
  go_enter Tryz.func119, Tryz.ntmps119
  go_wp2_with fail
  refine HL.out.mono ?_
  rintro e w1 ⟨rfl, g1, t1⟩
  have S1 := hide (S0.out.acc g1 t1)
  clear g1 t1 HL S0
  have f0 := (S1.out.opB rfl).f0
  have fz0 := (S1.out.opB rfl).fz 0
  have f2 := (S1.out.opB rfl).f2
  have fz2 := (S1.out.opB rfl).fz 2
  go_wp2_with fail
  have S2 := hide (S1.out.set 2 (.int .i64 y))
  generalize (w1.setCell ⟨b, 2, none⟩ (.int .i64 y)) = w2 at S2 ⊢
  clear f0 fz0 f2 fz2 S1
  have S2' := hide (S2.out.opB (o := ⟨.popReadTop, false, y, u, n, v, en⟩) rfl)
  have f0 := (S2'.out).f0
  have fz0 := (S2'.out).fz 0
  have f2 := (S2'.out).f2
  have fz2 := (S2'.out).fz 2
  have f3 := (S2'.out).f3
  have fz3 := (S2'.out).fz 3
  by_cases h1 : y < u
  · go_quiet (fail)
    go_wp2_with fail
    first | refine bodyPost_end (results_none rfl _ _ _) rfl ?_ | refine bodyPost_ret (results_none rfl _ _ _) rfl ?_
    exact ⟨rfl, ((S2.out.drewN _).set 0 _).fin rfl⟩
  · go_quiet (fail)
    go_wp2_with fail
    by_cases h2 : y = u
    · subst h2
      go_quiet (fail)
      go_wp2_with fail
      first | refine bodyPost_end (results_none rfl _ _ _) rfl ?_ | refine bodyPost_ret (results_none rfl _ _ _) rfl ?_
      exact ⟨rfl, ((S2.out.drewN _).set 0 _).fin rfl⟩
    · go_quiet (fail)
      go_wp2_with fail
      first | refine bodyPost_end (results_none rfl _ _ _) rfl ?_ | refine bodyPost_ret (results_none rfl _ _ _) rfl ?_
      exact ⟨rfl, ((S2.out.drewN _).set 0 _).fin rfl⟩

set_option maxRecDepth 4000 in
theorem st_pushSlot (hne : b ≠ d ∧ b ≠ p ∧ b ≠ q) (h : Dq w d p q C l s) (ho : OpB w b d ⟨.pushSlot, false, t, u, n, v, en⟩) :
    Calls Tryz.prog 125 #[.pointer (some ⟨d, 0, none⟩), .pointer (some ⟨b, 0, none⟩)] w fun e w' => e = .returned (.tuple #[]) ∧ Dq w' d p q C (wr C l (slotOf C u) v) (wrap64 (s + 1)) ∧ OpB w' b d ⟨.pushBottom, false, t, u, n, v, en⟩ ∧ Turned [p, q, b] w w' := by
  have S0 := hide (St.of h ho hne)
  have HS := hide (slot_any w.drew d p q C l s u h.drew)
  have hsl := slotOf_lt C u h.cap.1
  have HL := hide (dstore_any w.drew d p q C l s (slotOf C u) v (by omega) h.drew)
  have f3 := (ho).f3
  have fz3 := (ho).fz 3
  have f5 := (ho).f5
  have fz5 := (ho).fz 5
  clear hsl
  generalize wr C l (slotOf C u) v = l2 at *
  generalize slotOf C u = k at *
  clear ho h
  go_enter Tryz.func125, Tryz.ntmps125
  go_wp2_with fail
  go_region_held3 (fun w' => w'.cell? ⟨b, 3, none⟩ = some (.int .i64 u) ∧ w'.cell? ⟨b, 5, none⟩ = some (.int .i64 v)) (go_keep)
    (first
      | (go_at_call 136; refine HS.out.mono ?_; rintro e w0 ⟨rfl, rfl⟩; have k1 : w.drew.cell? ⟨b, 3, none⟩ = some (.int .i64 u) := f3; have k2 : w.drew.cell? ⟨b, 5, none⟩ = some (.int .i64 v) := f5)
      | (go_at_call 118; refine HL.out.mono ?_; rintro e w1 ⟨rfl, g1, t1⟩; have S1 := hide (S0.out.drew.acc g1 t1); have k3 := (S1.out.opB (o := ⟨.pushSlot, false, t, u, n, v, en⟩) rfl).f3; have k4 := (S1.out.opB (o := ⟨.pushSlot, false, t, u, n, v, en⟩) rfl).f5; clear g1 t1))
  clear HL HS S0
  have f0 := (S1.out.opB (o := ⟨.pushSlot, false, t, u, n, v, en⟩) rfl).f0
  have fz0 := (S1.out.opB (o := ⟨.pushSlot, false, t, u, n, v, en⟩) rfl).fz 0
  go_wp2_with fail
  first | refine bodyPost_end (results_none rfl _ _ _) rfl ?_ | refine bodyPost_ret (results_none rfl _ _ _) rfl ?_
  exact ⟨rfl, (S1.out.set 0 _).fin rfl⟩

set_option maxRecDepth 4000 in
theorem st_pushCell (hn : n < C.over) (hne : b ≠ d ∧ b ≠ p ∧ b ≠ q) (h : Dq w d p q C l s) (ho : OpB w b d ⟨.pushCell, false, t, u, n, v, en⟩) :
    Calls Tryz.prog 151 #[.pointer (some ⟨d, 0, none⟩), .pointer (some ⟨b, 0, none⟩)] w fun e w' => e = .returned (.tuple #[]) ∧ Dq w' d p q C (wr C l (4 + C.cap + n) v) (wrap64 (s + 1)) ∧ OpB w' b d ⟨.pushCounted, false, t, u, n, v, en⟩ ∧ Turned [p, q, b] w w' := by
  have S0 := hide (St.of h ho hne)
  have hO := h.over
  have HS := hide (cell_any w.drew d p q C l s n (by omega) h.drew)
  have HL := hide (dstore_any w.drew d p q C l s (4 + C.cap + n) v (by omega) h.drew)
  have f4 := (ho).f4
  have fz4 := (ho).fz 4
  have f5 := (ho).f5
  have fz5 := (ho).fz 5
  generalize wr C l (4 + C.cap + n) v = l2 at *
  generalize 4 + C.cap + n = k at *
  clear ho h
  go_enter Tryz.func151, Tryz.ntmps151
  go_wp2_with fail
  go_region_held3 (fun w' => w'.cell? ⟨b, 4, none⟩ = some (.int .i64 n) ∧ w'.cell? ⟨b, 5, none⟩ = some (.int .i64 v)) (go_keep)
    (first
      | (go_at_call 159; refine HS.out.mono ?_; rintro e w0 ⟨rfl, rfl⟩; have k1 : w.drew.cell? ⟨b, 4, none⟩ = some (.int .i64 n) := f4; have k2 : w.drew.cell? ⟨b, 5, none⟩ = some (.int .i64 v) := f5)
      | (go_at_call 118; refine HL.out.mono ?_; rintro e w1 ⟨rfl, g1, t1⟩; have S1 := hide (S0.out.drew.acc g1 t1); have k3 := (S1.out.opB (o := ⟨.pushCell, false, t, u, n, v, en⟩) rfl).f4; have k4 := (S1.out.opB (o := ⟨.pushCell, false, t, u, n, v, en⟩) rfl).f5; clear g1 t1))
  clear HL HS S0
  have f0 := (S1.out.opB (o := ⟨.pushCell, false, t, u, n, v, en⟩) rfl).f0
  have fz0 := (S1.out.opB (o := ⟨.pushCell, false, t, u, n, v, en⟩) rfl).fz 0
  go_wp2_with fail
  first | refine bodyPost_end (results_none rfl _ _ _) rfl ?_ | refine bodyPost_ret (results_none rfl _ _ _) rfl ?_
  exact ⟨rfl, (S1.out.set 0 _).fin rfl⟩

set_option maxRecDepth 4000 in
theorem st_stealSwap (ht : -4611686018427387904 ≤ t ∧ t ≤ 4611686018427387904) (hne : b ≠ d ∧ b ≠ p ∧ b ≠ q) (h : Dq w d p q C l s) (ho : OpB w b d ⟨.stealSwap, false, t, u, n, v, en⟩) :
    Calls Tryz.prog 137 #[.pointer (some ⟨d, 0, none⟩), .pointer (some ⟨b, 0, none⟩)] w fun e w' => e = .returned (.tuple #[]) ∧ Dq w' d p q C (if rd C l 0 = t then wr C l 0 (t + 1) else l) (wrap64 (s + 1)) ∧ OpB w' b d (if rd C l 0 = t then ⟨.stealSwap, true, t, u, n, v, 0⟩ else ⟨.stealSwap, true, t, u, n, v, 16⟩) ∧ Turned [p, q, b] w w' := by
  have S0 := hide (St.of h ho hne)
  have E1 := hide (show IntKind.i64.wrap (t + 1) = t + 1 by rw [IntKind.wrap_i64]; omega)
  have HL := hide (dswap_any w.drew d p q C l s 0 t (t + 1) (by have := h.cap; omega) h.drew)
  have f2 := (ho).f2
  have fz2 := (ho).fz 2
  clear ho h
  go_enter Tryz.func137, Tryz.ntmps137
  go_wp2_with fail
  go_region_held3 (fun w' => w'.cell? ⟨b, 2, none⟩ = some (.int .i64 t)) (go_keep)
    (first
      | (go_at_call 134; rw [E1.out]; refine HL.out.mono ?_; rintro e w1 ⟨rfl, g1, t1⟩; have S1 := hide (S0.out.drew.acc g1 t1); have k3 := (S1.out.opB (o := ⟨.stealSwap, false, t, u, n, v, en⟩) rfl).f2; clear g1 t1))
  clear HL S0 E1
  have HE := hide (fun en' => end_any w1 d b _ en' (S1.out.opB (o := ⟨.stealSwap, false, t, u, n, v, en⟩) rfl))
  by_cases hz : rd C l 0 = t
  · rw [if_pos hz] at S1
    go_wp2_with fail
    refine (HE.out 0).mono ?_
    rintro e w2 ⟨rfl, g2, t2⟩
    have S2 := hide (S1.out.endd g2 t2)
    clear g2 t2 HE S1
    go_wp2_with fail
    first | refine bodyPost_end (results_none rfl _ _ _) rfl ?_ | refine bodyPost_ret (results_none rfl _ _ _) rfl ?_
    exact ⟨rfl, S2.out.fin rfl⟩
  · rw [if_neg hz] at S1
    go_wp2_with fail
    refine (HE.out 16).mono ?_
    rintro e w2 ⟨rfl, g2, t2⟩
    have S2 := hide (S1.out.endd g2 t2)
    clear g2 t2 HE S1
    go_wp2_with fail
    first | refine bodyPost_end (results_none rfl _ _ _) rfl ?_ | refine bodyPost_ret (results_none rfl _ _ _) rfl ?_
    exact ⟨rfl, S2.out.fin rfl⟩

set_option maxRecDepth 4000 in
theorem st_popSwap (ht : -4611686018427387904 ≤ t ∧ t ≤ 4611686018427387904) (hne : b ≠ d ∧ b ≠ p ∧ b ≠ q) (h : Dq w d p q C l s) (ho : OpB w b d ⟨.popSwap, false, t, u, n, v, en⟩) :
    Calls Tryz.prog 145 #[.pointer (some ⟨d, 0, none⟩), .pointer (some ⟨b, 0, none⟩)] w fun e w' => e = .returned (.tuple #[]) ∧ Dq w' d p q C (if rd C l 0 = t then wr C l 0 (t + 1) else l) (wrap64 (s + 1)) ∧ OpB w' b d (if rd C l 0 = t then ⟨.popWon, false, (t + 1), u, n, v, en⟩ else ⟨.popNothing, false, (t + 1), u, n, v, en⟩) ∧ Turned [p, q, b] w w' := by
  have S0 := hide (St.of h ho hne)
  have E1 := hide (show IntKind.i64.wrap (t + 1) = t + 1 by rw [IntKind.wrap_i64]; omega)
  have f0 := (ho).f0
  have fz0 := (ho).fz 0
  have f2 := (ho).f2
  have fz2 := (ho).fz 2
  clear ho h
  go_enter Tryz.func145, Tryz.ntmps145
  go_wp2_with fail
  have Sa := hide (S0.out.set 0 (.func (.func 133) #[.pointer (some ⟨d, 0, none⟩)] #[]))
  generalize (w.setCell ⟨b, 0, none⟩ (.func (.func 133) #[.pointer (some ⟨d, 0, none⟩)] #[])) = wa at Sa ⊢
  clear f0 fz0 f2 fz2 S0
  have HL := hide (dswap_any wa.drew d p q C l s 0 t (t + 1) (by have := Sa.out.dq.cap; omega) Sa.out.dq.drew)
  have f2 := (Sa.out.opB (o := ⟨.popNothing, false, t, u, n, v, en⟩) rfl).f2
  have fz2 := (Sa.out.opB (o := ⟨.popNothing, false, t, u, n, v, en⟩) rfl).fz 2
  go_region_held3 (fun w' => w'.cell? ⟨b, 2, none⟩ = some (.int .i64 t)) (go_keep)
    (first
      | (go_at_call 134; rw [E1.out]; refine HL.out.mono ?_; rintro e w1 ⟨rfl, g1, t1⟩; have S1 := hide (Sa.out.drew.acc g1 t1); have k3 := (S1.out.opB (o := ⟨.popNothing, false, t, u, n, v, en⟩) rfl).f2; clear g1 t1))
  clear HL Sa E1 f2 fz2
  have f0 := (S1.out.opB (o := ⟨.popNothing, false, t, u, n, v, en⟩) rfl).f0
  have fz0 := (S1.out.opB (o := ⟨.popNothing, false, t, u, n, v, en⟩) rfl).fz 0
  have f2 := (S1.out.opB (o := ⟨.popNothing, false, t, u, n, v, en⟩) rfl).f2
  have fz2 := (S1.out.opB (o := ⟨.popNothing, false, t, u, n, v, en⟩) rfl).fz 2
  by_cases hz : rd C l 0 = t
  · rw [if_pos hz] at S1
    go_wp2_with fail
    first | refine bodyPost_end (results_none rfl _ _ _) rfl ?_ | refine bodyPost_ret (results_none rfl _ _ _) rfl ?_
    exact ⟨rfl, ((S1.out.set 0 _).set 2 _).fin rfl⟩
  · rw [if_neg hz] at S1
    go_wp2_with fail
    first | refine bodyPost_end (results_none rfl _ _ _) rfl ?_ | refine bodyPost_ret (results_none rfl _ _ _) rfl ?_
    exact ⟨rfl, (S1.out.set 2 _).fin rfl⟩

end
end Go.Proofs.YtgbclfhgpkmcnaaGreatDoor

/-
  Step, whatever the operation's next step is; the operations' beginnings; Top, Bottom, Stack. (Text by DequeStep.gen.py.)
-/
namespace Go.Proofs.YtgbclfhgpkmcnaaGreatDoor
open Go.RowKit

section
variable (w : World) (d p q b : Nat) (C : Cfg) (l : List Int) (s : Int)

theorem act_any (N : Int) (hN : N ≤ 4611686018427387904) (o : OpS) (fit : Fit C l o N) (hd : o.done = false) (hne : b ≠ d ∧ b ≠ p ∧ b ≠ q) (h : Dq w d p q C l s) (ho : OpB w b d o) :
    Calls Tryz.prog o.at_.fn #[.pointer (some ⟨d, 0, none⟩), .pointer (some ⟨b, 0, none⟩)] w fun e w' => e = .returned (.tuple #[]) ∧ Dq w' d p q C (stepOf C l o).1 (wrap64 (s + 1)) ∧ OpB w' b d (stepOf C l o).2 ∧ Turned [p, q, b] w w' := by
  obtain ⟨a, dn, t, u, n, v, en⟩ := o
  have hd' : dn = false := hd
  subst hd'
  cases a
  case pushReadBottom =>
    refine (st_pushReadBottom w d p q b C l s t u n v en hne h ho).mono ?_
    rintro e w' ⟨rfl, h1, h2, h3⟩
    exact ⟨rfl, h1, h2, h3⟩
  case pushReadTop =>
    refine (st_pushReadTop w d p q b C l s t u n v en (by have := fit.t; omega) (by have := fit.ob; simp at this; omega) hne h ho).mono ?_
    rintro e w' ⟨rfl, h1, h2, h3⟩
    exact ⟨rfl, h1, h2, h3⟩
  case pushSlot =>
    refine (st_pushSlot w d p q b C l s t u n v en hne h ho).mono ?_
    rintro e w' ⟨rfl, h1, h2, h3⟩
    exact ⟨rfl, h1, h2, h3⟩
  case pushBottom =>
    refine (st_pushBottom w d p q b C l s t u n v en (by have := fit.ob; simp at this; omega) hne h ho).mono ?_
    rintro e w' ⟨rfl, h1, h2, h3⟩
    exact ⟨rfl, h1, h2, h3⟩
  case pushLock =>
    refine (st_pushLock w d p q b C l s t u n v en hne h ho).mono ?_
    rintro e w' ⟨rfl, h1, h2, h3⟩
    by_cases hz : rd C l 2 = 0
    · simp only [hz, if_true] at h1 h2
      refine ⟨rfl, ?_, ?_, h3⟩
      · simpa [stepOf, hz] using h1
      · simpa [stepOf, hz] using h2
    · simp only [hz, if_false] at h1 h2
      refine ⟨rfl, ?_, ?_, h3⟩
      · simpa [stepOf, hz] using h1
      · simpa [stepOf, hz] using h2
  case pushCount =>
    refine (st_pushCount w d p q b C l s t u n v en hne h ho).mono ?_
    rintro e w' ⟨rfl, h1, h2, h3⟩
    by_cases hz : C.over ≤ stackedOf C (rd C l 3)
    · simp only [hz, if_true] at h1 h2
      refine ⟨rfl, ?_, ?_, h3⟩
      · simpa [stepOf, hz] using h1
      · simpa [stepOf, hz] using h2
    · simp only [hz, if_false] at h1 h2
      refine ⟨rfl, ?_, ?_, h3⟩
      · simpa [stepOf, hz] using h1
      · simpa [stepOf, hz] using h2
  case pushCell =>
    refine (st_pushCell w d p q b C l s t u n v en fit.cnt hne h ho).mono ?_
    rintro e w' ⟨rfl, h1, h2, h3⟩
    exact ⟨rfl, h1, h2, h3⟩
  case pushCounted =>
    refine (st_pushCounted w d p q b C l s t u n v en fit.cnt hne h ho).mono ?_
    rintro e w' ⟨rfl, h1, h2, h3⟩
    exact ⟨rfl, h1, h2, h3⟩
  case free =>
    refine (st_free w d p q b C l s t u n v en hne h ho).mono ?_
    rintro e w' ⟨rfl, h1, h2, h3⟩
    exact ⟨rfl, h1, h2, h3⟩
  case popReadBottom =>
    refine (st_popReadBottom w d p q b C l s t u n v en (by have := fit.b; omega) hne h ho).mono ?_
    rintro e w' ⟨rfl, h1, h2, h3⟩
    exact ⟨rfl, h1, h2, h3⟩
  case popBottom =>
    refine (st_popBottom w d p q b C l s t u n v en hne h ho).mono ?_
    rintro e w' ⟨rfl, h1, h2, h3⟩
    exact ⟨rfl, h1, h2, h3⟩
  case popReadTop =>
    refine (st_popReadTop w d p q b C l s t u n v en hne h ho).mono ?_
    rintro e w' ⟨rfl, h1, h2, h3⟩
    exact ⟨rfl, h1, h2, h3⟩
  case popSlot =>
    refine (st_popSlot w d p q b C l s t u n v en hne h ho).mono ?_
    rintro e w' ⟨rfl, h1, h2, h3⟩
    exact ⟨rfl, h1, h2, h3⟩
  case popLast =>
    refine (st_popLast w d p q b C l s t u n v en hne h ho).mono ?_
    rintro e w' ⟨rfl, h1, h2, h3⟩
    exact ⟨rfl, h1, h2, h3⟩
  case popSwap =>
    refine (st_popSwap w d p q b C l s t u n v en (by have := fit.ot; simp at this; omega) hne h ho).mono ?_
    rintro e w' ⟨rfl, h1, h2, h3⟩
    by_cases hz : rd C l 0 = t
    · simp only [hz, if_true] at h1 h2
      refine ⟨rfl, ?_, ?_, h3⟩
      · simpa [stepOf, hz] using h1
      · simpa [stepOf, hz] using h2
    · simp only [hz, if_false] at h1 h2
      refine ⟨rfl, ?_, ?_, h3⟩
      · simpa [stepOf, hz] using h1
      · simpa [stepOf, hz] using h2
  case popWon =>
    refine (st_popWon w d p q b C l s t u n v en hne h ho).mono ?_
    rintro e w' ⟨rfl, h1, h2, h3⟩
    exact ⟨rfl, h1, h2, h3⟩
  case popNothing =>
    refine (st_popNothing w d p q b C l s t u n v en hne h ho).mono ?_
    rintro e w' ⟨rfl, h1, h2, h3⟩
    exact ⟨rfl, h1, h2, h3⟩
  case stealReadTop =>
    refine (st_stealReadTop w d p q b C l s t u n v en hne h ho).mono ?_
    rintro e w' ⟨rfl, h1, h2, h3⟩
    exact ⟨rfl, h1, h2, h3⟩
  case stealReadBottom =>
    refine (st_stealReadBottom w d p q b C l s t u n v en hne h ho).mono ?_
    rintro e w' ⟨rfl, h1, h2, h3⟩
    exact ⟨rfl, h1, h2, h3⟩
  case stealSlot =>
    refine (st_stealSlot w d p q b C l s t u n v en hne h ho).mono ?_
    rintro e w' ⟨rfl, h1, h2, h3⟩
    exact ⟨rfl, h1, h2, h3⟩
  case stealSwap =>
    refine (st_stealSwap w d p q b C l s t u n v en (by have := fit.ot; simp at this; omega) hne h ho).mono ?_
    rintro e w' ⟨rfl, h1, h2, h3⟩
    by_cases hz : rd C l 0 = t
    · simp only [hz, if_true] at h1 h2
      refine ⟨rfl, ?_, ?_, h3⟩
      · simpa [stepOf, hz] using h1
      · simpa [stepOf, hz] using h2
    · simp only [hz, if_false] at h1 h2
      refine ⟨rfl, ?_, ?_, h3⟩
      · simpa [stepOf, hz] using h1
      · simpa [stepOf, hz] using h2
  case takeLock =>
    refine (st_takeLock w d p q b C l s t u n v en hne h ho).mono ?_
    rintro e w' ⟨rfl, h1, h2, h3⟩
    by_cases hz : rd C l 2 = 0
    · simp only [hz, if_true] at h1 h2
      refine ⟨rfl, ?_, ?_, h3⟩
      · simpa [stepOf, hz] using h1
      · simpa [stepOf, hz] using h2
    · simp only [hz, if_false] at h1 h2
      refine ⟨rfl, ?_, ?_, h3⟩
      · simpa [stepOf, hz] using h1
      · simpa [stepOf, hz] using h2
  case takeCount =>
    refine (st_takeCount w d p q b C l s t u n v en hne h ho).mono ?_
    rintro e w' ⟨rfl, h1, h2, h3⟩
    by_cases hz : stackedOf C (rd C l 3) = 0
    · simp only [hz, if_true] at h1 h2
      refine ⟨rfl, ?_, ?_, h3⟩
      · simpa [stepOf, hz] using h1
      · simpa [stepOf, hz] using h2
    · simp only [hz, if_false] at h1 h2
      refine ⟨rfl, ?_, ?_, h3⟩
      · simpa [stepOf, hz] using h1
      · simpa [stepOf, hz] using h2
  case takeCell =>
    refine (st_takeCell w d p q b C l s t u n v en fit.cnt hne h ho).mono ?_
    rintro e w' ⟨rfl, h1, h2, h3⟩
    exact ⟨rfl, h1, h2, h3⟩
  case takeCounted =>
    refine (st_takeCounted w d p q b C l s t u n v en fit.cnt hne h ho).mono ?_
    rintro e w' ⟨rfl, h1, h2, h3⟩
    exact ⟨rfl, h1, h2, h3⟩

theorem stepOf_done {o : OpS} (h : o.done = true) : stepOf C l o = (l, o) := by simp [stepOf, h]

theorem step_done (o : OpS) (hd : o.done = true) (ho : OpB w b d o) :
    Calls Tryz.prog 86 #[.pointer (some ⟨b, 0, none⟩)] w fun e w' => e = .returned (.bool true) ∧ w' = w := by
  have H := hide (done_any w d b o ho)
  rw [hd] at H
  clear ho hd
  go_enter Tryz.func86, Tryz.ntmps86
  go_wp2_with fail
  refine H.out.mono ?_
  rintro e w1 ⟨rfl, rfl⟩
  go_wp2_with fail
  refine H.out.mono ?_
  rintro e w1 ⟨rfl, rfl⟩
  go_wp2_with fail
  go_ret
  exact ⟨rfl, rfl⟩

theorem step_nil :
    Calls Tryz.prog 86 #[.pointer none] w fun e w' => e = .returned (.bool true) ∧ w' = w := by
  have H := hide (done_nil w)
  go_enter Tryz.func86, Tryz.ntmps86
  go_wp2_with fail
  refine H.out.mono ?_
  rintro e w1 ⟨rfl, rfl⟩
  go_wp2_with fail
  refine H.out.mono ?_
  rintro e w1 ⟨rfl, rfl⟩
  go_wp2_with fail
  go_ret
  exact ⟨rfl, rfl⟩

set_option maxHeartbeats 4000000 in
set_option maxRecDepth 4000 in
theorem step_open (N : Int) (hN : N ≤ 4611686018427387904) (o : OpS) (fit : Fit C l o N) (hd : o.done = false) (hne : b ≠ d ∧ b ≠ p ∧ b ≠ q) (h : Dq w d p q C l s) (ho : OpB w b d o) :
    Calls Tryz.prog 86 #[.pointer (some ⟨b, 0, none⟩)] w fun e w' => e = .returned (.bool (stepOf C l o).2.done) ∧ Dq w' d p q C (stepOf C l o).1 (wrap64 (s + 1)) ∧ OpB w' b d (stepOf C l o).2 ∧ Turned [p, q, b] w w' := by
  have HA := act_any w d p q b C l s N hN o fit hd hne h ho
  have f0 := ho.f0
  have H := hide (done_any w d b o ho)
  rw [hd] at H
  generalize stepOf C l o = R at *
  clear ho h fit hd
  generalize o.at_ = a at *
  cases a
  all_goals (
    simp only [Stp.fn] at HA f0
    have HB := hide HA
    clear HA
    go_enter Tryz.func86, Tryz.ntmps86
    go_wp2_with fail
    refine H.out.mono ?_
    rintro e w1 ⟨rfl, rfl⟩
    clear H
    go_wp2_with fail
    refine HB.out.mono ?_
    rintro e w2 ⟨rfl, h1, h2, h3⟩
    have H2 := hide (done_any w2 d b _ h2)
    have H3 := hide (And.intro h1 (And.intro h2 h3))
    clear HB h1 h2 h3 f0
    go_wp2_with fail
    refine H2.out.mono ?_
    rintro e w3 ⟨rfl, rfl⟩
    go_wp2_with fail
    go_ret
    exact ⟨rfl, H3.out⟩)

theorem step_any (N : Int) (hN : N ≤ 4611686018427387904) (o : OpS) (fit : Fit C l o N) (hne : b ≠ d ∧ b ≠ p ∧ b ≠ q) (h : Dq w d p q C l s) (ho : OpB w b d o) :
    Calls Tryz.prog 86 #[.pointer (some ⟨b, 0, none⟩)] w fun e w' => e = .returned (.bool (stepOf C l o).2.done) ∧ Dq w' d p q C (stepOf C l o).1 (if o.done then s else wrap64 (s + 1)) ∧ OpB w' b d (stepOf C l o).2 ∧ Turned [p, q, b] w w' := by
  by_cases hd : o.done = true
  · refine (step_done w d b o hd ho).mono ?_
    rintro e w' ⟨rfl, rfl⟩
    rw [stepOf_done C l hd, if_pos hd]
    exact ⟨by rw [hd], h, ho, Turned.refl _ _⟩
  · have hd' : o.done = false := by simpa using hd
    rw [if_neg hd]
    exact step_open w d p q b C l s N hN o fit hd' hne h ho

/-- An operation at its beginning. -/
def opNew (a : Stp) (v : Int) : OpS := ⟨a, false, 0, 0, 0, v, 0⟩

theorem begin_any (K : Nat) (v : Int) (h : Dq w d p q C l s) :
    Calls Tryz.prog 96 #[.pointer (some ⟨d, 0, none⟩), .func (.func K) #[.pointer (some ⟨d, 0, none⟩)] #[], .int .i64 v] w fun e w' => e = .returned (.pointer (some ⟨w.heap.size, 0, none⟩)) ∧ w' = w.alloc (.cells #[.func (.func K) #[.pointer (some ⟨d, 0, none⟩)] #[], .bool false, .int .i64 0, .int .i64 0, .int .i64 0, .int .i64 v, .int .i64 0] 170) := by
  have H := hide (dnone_any w d p q C l s h)
  clear h
  go_enter Tryz.func96, Tryz.ntmps96
  go_wp2_with fail
  refine H.out.mono ?_
  rintro e w1 ⟨rfl, rfl⟩
  clear H
  go_wp2_with fail
  go_ret
  exact ⟨rfl, rfl⟩

theorem tell_any (k : Nat) (hk : k < 4 + C.cap + C.over) (h : Dq w d p q C l s) :
    Calls Tryz.prog 152 #[.pointer (some ⟨d, 0, none⟩), .int .i64 k] w fun e w' => e = .returned (.int .i64 (rd C l k)) ∧ Dq w' d p q C l (wrap64 (s + 1)) ∧ Turned [p, q] w w' := by
  have H := hide (dnone_any w d p q C l s h)
  have HL := hide (dload_any w d p q C l s k hk h)
  generalize rd C l k = y at *
  clear h hk
  go_enter Tryz.func152, Tryz.ntmps152
  go_wp2_with fail
  refine H.out.mono ?_
  rintro e w1 ⟨rfl, rfl⟩
  clear H
  go_wp2_with fail
  refine HL.out.mono ?_
  rintro e w2 ⟨rfl, h1, h2⟩
  have H3 := hide (And.intro h1 h2)
  clear h1 h2 HL
  go_wp2_with fail
  go_ret
  exact ⟨rfl, H3.out⟩


theorem push_any (v : Int) (h : Dq w d p q C l s) :
    Calls Tryz.prog 90 #[.pointer (some ⟨d, 0, none⟩), .int .i64 v] w fun e w' => e = .returned (.pointer (some ⟨w.heap.size, 0, none⟩)) ∧ Dq w' d p q C l s ∧ OpB w' w.heap.size d (opNew .pushReadBottom v) ∧ Turned [] w w' ∧ w'.heap.size = w.heap.size + 1 := by
  have H := hide (begin_any w d p q C l s 103 v h)
  have HH := hide h
  clear h
  go_enter Tryz.func90, Tryz.ntmps90
  go_wp2_with fail
  refine H.out.mono ?_
  rintro e w1 ⟨rfl, rfl⟩
  clear H
  go_wp2_with fail
  go_ret
  have t1 : Turned [] w (w.alloc (.cells (opCells d (opNew .pushReadBottom v)) 170)) := (Turned.refl _ _).alloc _
  exact ⟨rfl, HH.out.turned t1 (by simp) (by simp) (by simp), heap_alloc_new _ _, t1, by simp⟩


theorem pop_any (h : Dq w d p q C l s) :
    Calls Tryz.prog 84 #[.pointer (some ⟨d, 0, none⟩)] w fun e w' => e = .returned (.pointer (some ⟨w.heap.size, 0, none⟩)) ∧ Dq w' d p q C l s ∧ OpB w' w.heap.size d (opNew .popReadBottom 0) ∧ Turned [] w w' ∧ w'.heap.size = w.heap.size + 1 := by
  have H := hide (begin_any w d p q C l s 97 0 h)
  have HH := hide h
  clear h
  go_enter Tryz.func84, Tryz.ntmps84
  go_wp2_with fail
  refine H.out.mono ?_
  rintro e w1 ⟨rfl, rfl⟩
  clear H
  go_wp2_with fail
  go_ret
  have t1 : Turned [] w (w.alloc (.cells (opCells d (opNew .popReadBottom 0)) 170)) := (Turned.refl _ _).alloc _
  exact ⟨rfl, HH.out.turned t1 (by simp) (by simp) (by simp), heap_alloc_new _ _, t1, by simp⟩


theorem steal_any (h : Dq w d p q C l s) :
    Calls Tryz.prog 85 #[.pointer (some ⟨d, 0, none⟩)] w fun e w' => e = .returned (.pointer (some ⟨w.heap.size, 0, none⟩)) ∧ Dq w' d p q C l s ∧ OpB w' w.heap.size d (opNew .stealReadTop 0) ∧ Turned [] w w' ∧ w'.heap.size = w.heap.size + 1 := by
  have H := hide (begin_any w d p q C l s 98 0 h)
  have HH := hide h
  clear h
  go_enter Tryz.func85, Tryz.ntmps85
  go_wp2_with fail
  refine H.out.mono ?_
  rintro e w1 ⟨rfl, rfl⟩
  clear H
  go_wp2_with fail
  go_ret
  have t1 : Turned [] w (w.alloc (.cells (opCells d (opNew .stealReadTop 0)) 170)) := (Turned.refl _ _).alloc _
  exact ⟨rfl, HH.out.turned t1 (by simp) (by simp) (by simp), heap_alloc_new _ _, t1, by simp⟩


theorem top_any (h : Dq w d p q C l s) :
    Calls Tryz.prog 141 #[.pointer (some ⟨d, 0, none⟩)] w fun e w' => e = .returned (.int .i64 (rd C l 0)) ∧ Dq w' d p q C l (wrap64 (s + 1)) ∧ Turned [p, q] w w' := by
  have HL := hide (tell_any w d p q C l s 0 (by have := h.cap; omega) h)
  generalize rd C l 0 = y at *
  clear h
  go_enter Tryz.func141, Tryz.ntmps141
  go_wp2_with fail
  refine HL.out.mono ?_
  rintro e w2 ⟨rfl, h1, h2⟩
  have H3 := hide (And.intro h1 h2)
  clear h1 h2 HL
  go_wp2_with fail
  go_ret
  exact ⟨rfl, H3.out⟩


theorem bottom_any (h : Dq w d p q C l s) :
    Calls Tryz.prog 154 #[.pointer (some ⟨d, 0, none⟩)] w fun e w' => e = .returned (.int .i64 (rd C l 1)) ∧ Dq w' d p q C l (wrap64 (s + 1)) ∧ Turned [p, q] w w' := by
  have HL := hide (tell_any w d p q C l s 1 (by have := h.cap; omega) h)
  generalize rd C l 1 = y at *
  clear h
  go_enter Tryz.func154, Tryz.ntmps154
  go_wp2_with fail
  refine HL.out.mono ?_
  rintro e w2 ⟨rfl, h1, h2⟩
  have H3 := hide (And.intro h1 h2)
  clear h1 h2 HL
  go_wp2_with fail
  go_ret
  exact ⟨rfl, H3.out⟩


theorem stack_any (h : Dq w d p q C l s) :
    Calls Tryz.prog 162 #[.pointer (some ⟨d, 0, none⟩)] w fun e w' => e = .returned (.int .i64 (rd C l 3)) ∧ Dq w' d p q C l (wrap64 (s + 1)) ∧ Turned [p, q] w w' := by
  have HL := hide (tell_any w d p q C l s 3 (by have := h.cap; omega) h)
  generalize rd C l 3 = y at *
  clear h
  go_enter Tryz.func162, Tryz.ntmps162
  go_wp2_with fail
  refine HL.out.mono ?_
  rintro e w2 ⟨rfl, h1, h2⟩
  have H3 := hide (And.intro h1 h2)
  clear h1 h2 HL
  go_wp2_with fail
  go_ret
  exact ⟨rfl, H3.out⟩


end
end Go.Proofs.YtgbclfhgpkmcnaaGreatDoor

/-
  The count of package quiet and the deques that offers look into, in the model's heap ('Sh'), an offer ('OfB', what it holds: 'OfS'), and the document's steps as a pure function ('stepQ'). No Go is walked here.
-/
namespace Go.Proofs.YtgbclfhgpkmcnaaGreatDoor
open Go.RowKit

/-- A step of an offer. -/
inductive QStp
  | countIn | readCount | readTop | readBottom | readStack | countOut
deriving DecidableEq

def QStp.fn : QStp → Nat
  | .countIn => 93
  | .readCount => 105
  | .readTop => 129
  | .readBottom => 142
  | .readStack => 153
  | .countOut => 155

/-- What an offer holds. -/
structure OfS where
  at_ : QStp
  state : Int
  k : Nat
  top : Int

/-- The count's cell, the workers, where the deques lie. -/
structure QC where
  at_ : Nat
  n : Nat
  cs : List Cfg

def cOf (Q : QC) (k : Nat) : Cfg := Q.cs.getD k ⟨0, 0, 0⟩
def cnt (Q : QC) (l : List Int) : Int := l.getD Q.at_ 0
def lookQ (Q : QC) (o : OfS) (k : Nat) : OfS := { o with k := k, at_ := if k = Q.cs.length then .readCount else .readTop }

/-- The document's step: the cells, and what the offer holds then. -/
def stepQ (Q : QC) (l : List Int) (o : OfS) : List Int × OfS :=
  if o.state = 0 then
    match o.at_ with
    | .countIn => (l.set Q.at_ (cnt Q l + 1), { o with at_ := .readCount })
    | .readCount => if cnt Q l = Q.n then (l, { o with state := 2 }) else (l, lookQ Q o 0)
    | .readTop => (l, { o with top := rd (cOf Q o.k) l 0, at_ := .readBottom })
    | .readBottom => (l, { o with at_ := if o.top < rd (cOf Q o.k) l 1 then .countOut else .readStack })
    | .readStack => if 0 < rd (cOf Q o.k) l 3 then (l, { o with at_ := .countOut }) else (l, lookQ Q o (o.k + 1))
    | .countOut => (l.set Q.at_ (cnt Q l - 1), { o with state := 1 })
  else (l, o)

/-- The deque that an offer looks into is one of them. -/
def QOk (Q : QC) (o : OfS) : Prop :=
  match o.at_ with
  | .readTop => o.k < Q.cs.length
  | .readBottom => o.k < Q.cs.length
  | .readStack => o.k < Q.cs.length
  | _ => True


/-- The count (block a), its memory, and the deques. -/
structure Sh (w : World) (a p q : Nat) (ds : List Nat) (Q : QC) (l : List Int) (s : Int) : Prop where
  head : w.heap[a]? = some (.cells #[.pointer (some ⟨p, 0, none⟩), .int .i64 Q.at_, .int .i64 Q.n] 136)
  cell : Q.at_ < l.length
  most : l.length ≤ 65536
  n : 1 ≤ Q.n ∧ Q.n ≤ 64
  len : ds.length = Q.cs.length ∧ ds.length ≤ 64
  mem : Mem w p q l s
  dq : ∀ i d, ds[i]? = some d → Dq w d p q (cOf Q i) l s

def ofCells (a g m cap : Nat) (o : OfS) : Array Value :=
  #[.func (.func o.at_.fn) #[.pointer (some ⟨a, 0, none⟩)] #[], .int .i64 o.state, .slice (some ⟨g, 0, none⟩) m cap, .int .i64 o.k, .int .i64 o.top]

/-- An offer's cells, whatever they hold, and its row of deques. -/
structure OfG (w : World) (b g : Nat) (ds : List Nat) (c : Array Value) : Prop where
  op : w.heap[b]? = some (.cells c 166)
  row : ∃ cc fr, w.heap[g]? = some (.cells cc 120 fr)
  at_ : ∀ i d, ds[i]? = some d → w.cell? ⟨g, i, none⟩ = some (.pointer (some ⟨d, 0, none⟩))

/-- An offer. -/
def OfB (w : World) (b a : Nat) (ds : List Nat) (o : OfS) : Prop := ∃ g cap, OfG w b g ds (ofCells a g ds.length cap o)

section
variable {w : World} {a p q b g : Nat} {ds : List Nat} {Q : QC} {l : List Int} {s : Int} {c : Array Value}
theorem Sh.c0 (h : Sh w a p q ds Q l s) : w.cell? ⟨a, 0, none⟩ = some (.pointer (some ⟨p, 0, none⟩)) := by rw [cell_of_heap h.head]; rfl
theorem Sh.c1 (h : Sh w a p q ds Q l s) : w.cell? ⟨a, 1, none⟩ = some (.int .i64 Q.at_) := by rw [cell_of_heap h.head]; rfl
theorem Sh.c2 (h : Sh w a p q ds Q l s) : w.cell? ⟨a, 2, none⟩ = some (.int .i64 Q.n) := by rw [cell_of_heap h.head]; rfl
theorem Sh.lta (h : Sh w a p q ds Q l s) : a < w.heap.size := lt_of_heap h.head
theorem Sh.nep (h : Sh w a p q ds Q l s) : a ≠ p := ne_of_type h.head h.mem.head (by decide)
theorem Sh.neq (h : Sh w a p q ds Q l s) : a ≠ q := ne_of_type h.head h.mem.row (by decide)
theorem Sh.at (h : Sh w a p q ds Q l s) : l[Q.at_]? = some (cnt Q l) := by
  simp [cnt, List.getD, h.cell]
theorem Sh.turned (h : Sh w a p q ds Q l s) {S : List Nat} {w' : World} (t : Turned S w w') (ha : a ∉ S) (hp : p ∉ S) (hq : q ∉ S) (hd : ∀ d, d ∈ ds → d ∉ S) : Sh w' a p q ds Q l s :=
  ⟨by rw [t.block a h.lta ha]; exact h.head, h.cell, h.most, h.n, h.len, h.mem.turned t hp hq, fun i d hi => (h.dq i d hi).turned t (hd d (List.mem_of_getElem? hi)) hp hq⟩
theorem Sh.drew (h : Sh w a p q ds Q l s) : Sh w.drew a p q ds Q l s := h.turned (Turned.refl [] w).drew (by simp) (by simp) (by simp) (by simp)
theorem Sh.drewN (h : Sh w a p q ds Q l s) (m : Nat) : Sh (w.drewN m) a p q ds Q l s := h.turned ((Turned.refl [] w).drewN m) (by simp) (by simp) (by simp) (by simp)
/-- Behind an access. -/
theorem Sh.acc (h : Sh w a p q ds Q l s) {l' : List Int} {s' : Int} {w' : World} (m : Mem w' p q l' s') (hl : l'.length = l.length) (t : Turned [p, q] w w') : Sh w' a p q ds Q l' s' :=
  ⟨by rw [t.block a h.lta (by simp; exact ⟨h.nep, h.neq⟩)]; exact h.head, by rw [hl]; exact h.cell, by rw [hl]; exact h.most, h.n, h.len, m, fun i d hi => (h.dq i d hi).acc m hl t⟩
theorem Sh.ned (h : Sh w a p q ds Q l s) {d : Nat} (hd : d ∈ ds) : d ≠ a ∧ d ≠ p ∧ d ≠ q := by
  obtain ⟨i, hi⟩ := List.getElem?_of_mem hd
  have h1 := h.dq i d hi
  exact ⟨ne_of_type h1.head h.head (by decide), h1.ne.1, h1.ne.2⟩

theorem OfG.f (h : OfG w b g ds c) (i : Nat) : w.cell? ⟨b, i, none⟩ = c[i]? := cell_of_heap h.op i
theorem OfG.fz (h : OfG w b g ds c) (i : Nat) : w.frozen? ⟨b, i, none⟩ = false := by simp [World.frozen?, h.op]
theorem OfG.lt (h : OfG w b g ds c) : b < w.heap.size := lt_of_heap h.op
theorem OfG.neg (h : OfG w b g ds c) : b ≠ g := by
  obtain ⟨cc, fr, hr⟩ := h.row
  exact ne_of_type h.op hr (by decide)
theorem OfG.ltg (h : OfG w b g ds c) : g < w.heap.size := by
  obtain ⟨cc, fr, hr⟩ := h.row
  exact lt_of_heap hr
theorem OfG.turned (h : OfG w b g ds c) {S : List Nat} {w' : World} (t : Turned S w w') (hb : b ∉ S) (hg : g ∉ S) : OfG w' b g ds c := by
  obtain ⟨cc, fr, hr⟩ := h.row
  exact ⟨by rw [t.block b h.lt hb]; exact h.op, ⟨cc, fr, by rw [t.block g (lt_of_heap hr) hg]; exact hr⟩, fun i d hi => by rw [t.cell (p := ⟨g, i, none⟩) (lt_of_heap hr) hg]; exact h.at_ i d hi⟩
theorem OfG.set (h : OfG w b g ds c) (i : Nat) (v : Value) : OfG (w.setCell ⟨b, i, none⟩ v) b g ds (c.setIfInBounds i v) := by
  obtain ⟨cc, fr, hr⟩ := h.row
  have t : Turned [b] w (w.setCell ⟨b, i, none⟩ v) := (Turned.refl _ _).setCell (by simp) _
  have hg : g ∉ [b] := by simp; exact Ne.symm h.neg
  exact ⟨heap_setCell_at _ _ _ _ _ _ h.op v, ⟨cc, fr, by rw [t.block g (lt_of_heap hr) hg]; exact hr⟩, fun j d hj => by rw [t.cell (p := ⟨g, j, none⟩) (lt_of_heap hr) hg]; exact h.at_ j d hj⟩
theorem OfG.ofB (h : OfG w b g ds c) {cap : Nat} {o : OfS} (e : c = ofCells a g ds.length cap o) : OfB w b a ds o := ⟨g, cap, by subst e; exact h⟩

/-- No row of deques lies there. -/
def NoRow (w : World) (k : Nat) : Prop := ∀ c fr, w.heap[k]? ≠ some (.cells c 120 fr)
theorem noRow {w : World} {k : Nat} {c : Array Value} {e : TypeId} {fr : Nat × Nat} (h : w.heap[k]? = some (.cells c e fr)) (he : e ≠ 120) : NoRow w k := by
  intro c' fr' h'
  rw [h] at h'
  cases h'
  exact he rfl
theorem OfB.turned {o : OfS} (h : OfB w b a ds o) {S : List Nat} {w' : World} (t : Turned S w w') (hb : b ∉ S) (hS : ∀ k, k ∈ S → NoRow w k) : OfB w' b a ds o := by
  obtain ⟨g, cap, h⟩ := h
  obtain ⟨cc, fr, hr⟩ := h.row
  exact ⟨g, cap, h.turned t hb (fun hg => hS g hg cc fr hr)⟩
theorem OfB.lt {o : OfS} (h : OfB w b a ds o) : b < w.heap.size := by obtain ⟨g, cap, h⟩ := h; exact h.lt
theorem OfB.type {o : OfS} (h : OfB w b a ds o) : ∃ c, w.heap[b]? = some (.cells c 166) := by obtain ⟨g, cap, h⟩ := h; exact ⟨_, h.op⟩
theorem OfB.f1 {o : OfS} (h : OfB w b a ds o) : w.cell? ⟨b, 1, none⟩ = some (.int .i64 o.state) := by obtain ⟨g, cap, h⟩ := h; rw [h.f]; rfl
theorem OfB.f0 {o : OfS} (h : OfB w b a ds o) : w.cell? ⟨b, 0, none⟩ = some (.func (.func o.at_.fn) #[.pointer (some ⟨a, 0, none⟩)] #[]) := by obtain ⟨g, cap, h⟩ := h; rw [h.f]; rfl
end

/-- On the way through a step: the count and the deques, the offer's cells as they stand, what was turned. -/
structure Qs (w0 w : World) (a p q b g : Nat) (ds : List Nat) (Q : QC) (l : List Int) (s : Int) (c : Array Value) : Prop where
  sh : Sh w a p q ds Q l s
  of_ : OfG w b g ds c
  tu : Turned [p, q, b] w0 w

section
variable {w0 w : World} {a p q b g : Nat} {ds : List Nat} {Q : QC} {l : List Int} {s : Int} {c : Array Value}
theorem Qs.nb (h : Qs w0 w a p q b g ds Q l s c) : b ≠ a ∧ b ≠ p ∧ b ≠ q ∧ b ∉ ds := by
  refine ⟨ne_of_type h.of_.op h.sh.head (by decide), ne_of_type h.of_.op h.sh.mem.head (by decide), ne_of_type h.of_.op h.sh.mem.row (by decide), fun hd => ?_⟩
  obtain ⟨i, hi⟩ := List.getElem?_of_mem hd
  exact ne_of_type h.of_.op (h.sh.dq i b hi).head (by decide) rfl
theorem Qs.acc (h : Qs w0 w a p q b g ds Q l s c) {l' : List Int} {s' : Int} {w' : World} (m : Mem w' p q l' s') (hl : l'.length = l.length) (t : Turned [p, q] w w') : Qs w0 w' a p q b g ds Q l' s' c := by
  obtain ⟨cc, fr, hr⟩ := h.of_.row
  have h1 := h.nb
  exact ⟨h.sh.acc m hl t, h.of_.turned t (by simp; exact ⟨h1.2.1, h1.2.2.1⟩) (by simp; exact ⟨ne_of_type hr h.sh.mem.head (by decide), ne_of_type hr h.sh.mem.row (by decide)⟩), h.tu.trans (t.mono (by intro k hk; simp at hk; rcases hk with rfl | rfl <;> simp))⟩
theorem Qs.set (h : Qs w0 w a p q b g ds Q l s c) (i : Nat) (v : Value) : Qs w0 (w.setCell ⟨b, i, none⟩ v) a p q b g ds Q l s (c.setIfInBounds i v) := by
  have h1 := h.nb
  exact ⟨h.sh.turned (S := [b]) ((Turned.refl _ _).setCell (by simp) _) (by simp; exact Ne.symm h1.1) (by simp; exact Ne.symm h1.2.1) (by simp; exact Ne.symm h1.2.2.1) (fun d hd => by simp; rintro rfl; exact h1.2.2.2 hd), h.of_.set i v, h.tu.setCell (by simp) _⟩
theorem Qs.drew (h : Qs w0 w a p q b g ds Q l s c) : Qs w0 w.drew a p q b g ds Q l s c := ⟨h.sh.drew, h.of_.turned (Turned.refl [] w).drew (by simp) (by simp), h.tu.drew⟩
theorem Qs.drewN (h : Qs w0 w a p q b g ds Q l s c) (m : Nat) : Qs w0 (w.drewN m) a p q b g ds Q l s c := ⟨h.sh.drewN m, h.of_.turned ((Turned.refl [] w).drewN m) (by simp) (by simp), h.tu.drewN m⟩
theorem Qs.fin (h : Qs w0 w a p q b g ds Q l s c) {cap : Nat} {o : OfS} (e : c = ofCells a g ds.length cap o) : Sh w a p q ds Q l s ∧ OfB w b a ds o ∧ Turned [p, q, b] w0 w := ⟨h.sh, h.of_.ofB e, h.tu⟩
end
end Go.Proofs.YtgbclfhgpkmcnaaGreatDoor

/-
  The steps of package quiet's offers, each a method of the count: what each does to the cells and to the offer; State and Step.
-/
namespace Go.Proofs.YtgbclfhgpkmcnaaGreatDoor
open Go.RowKit

theorem eql_funcq (fn : Fn) (first caps : Array Value) (w : World) : (binOp .eql 163 (.func fn first caps) .nilFunc).run Tryz.prog w = .ok (.bool false) w := by kernel_rfl

section
variable (w : World) (a p q b g : Nat) (ds : List Nat) (Q : QC) (l : List Int) (s : Int)

/-- Add to the count. -/
theorem qadd (v : Int) (hb : -1000000 ≤ cnt Q l ∧ cnt Q l ≤ 1000000) (hv : -1 ≤ v ∧ v ≤ 1) (h : Sh w a p q ds Q l s) :
    Calls Tryz.prog 104 #[.pointer (some ⟨p, 0, none⟩), .int .i64 Q.at_, .int .i64 v] w fun e w' => (∃ u, e = .returned u) ∧ Mem w' p q (l.set Q.at_ (cnt Q l + v)) (wrap64 (s + 1)) ∧ Turned [p, q] w w' := by
  refine (add_in p q l s w Q.at_ (cnt Q l) v h.at h.mem).mono ?_
  rintro e w' ⟨rfl, h1, h2⟩
  rw [w64 (cnt Q l + v) (by omega)] at h1
  exact ⟨⟨_, rfl⟩, h1, h2⟩

set_option maxRecDepth 4000 in
theorem qs_countIn (cap : Nat) (st : Int) (k : Nat) (t : Int) (hb : -1000000 ≤ cnt Q l ∧ cnt Q l ≤ 1000000) (h : Qs w w a p q b g ds Q l s (ofCells a g ds.length cap ⟨.countIn, st, k, t⟩)) :
    Calls Tryz.prog 93 #[.pointer (some ⟨a, 0, none⟩), .pointer (some ⟨b, 0, none⟩)] w fun e w' => e = .returned (.tuple #[]) ∧ Sh w' a p q ds Q (l.set Q.at_ (cnt Q l + 1)) (wrap64 (s + 1)) ∧ OfB w' b a ds ⟨.readCount, st, k, t⟩ ∧ Turned [p, q, b] w w' := by
  have HA := hide (fun w' (h' : Sh w' a p q ds Q l s) => qadd w' a p q ds Q l s 1 hb (by omega) h')
  have H0 := hide h
  have c0 := h.sh.c0
  have c1 := h.sh.c1
  generalize hn : l.set Q.at_ (cnt Q l + 1) = l2 at *
  have HN := hide (show l2.length = l.length by rw [← hn]; simp)
  clear h hn
  go_enter Tryz.func93, Tryz.ntmps93
  go_wp2_with fail
  go_region_held3 (fun w' => w'.cell? ⟨a, 0, none⟩ = some (.pointer (some ⟨p, 0, none⟩)) ∧ w'.cell? ⟨a, 1, none⟩ = some (.int .i64 Q.at_)) (go_keep)
    (first
      | (go_at_call 104; refine (HA.out _ H0.out.sh.drew).mono ?_; rintro e w1 ⟨⟨u, rfl⟩, m1, t1⟩; have g1 := H0.out.drew.acc m1 HN.out t1; have g2 := g1.sh.c0; have g3 := g1.sh.c1; have H1 := hide g1; clear HA m1 t1 g1))
  have f0 := H1.out.of_.f 0
  have fz0 := H1.out.of_.fz 0
  simp only [ofCells, QStp.fn] at f0
  clear g2 g3 HN c0 c1 hb
  go_wp2_with fail
  first | refine bodyPost_end (results_none rfl _ _ _) rfl ?_ | refine bodyPost_ret (results_none rfl _ _ _) rfl ?_
  exact ⟨rfl, (H1.out.set 0 _).fin rfl⟩

set_option maxRecDepth 4000 in
theorem qs_countOut (cap : Nat) (st : Int) (k : Nat) (t : Int) (hb : -1000000 ≤ cnt Q l ∧ cnt Q l ≤ 1000000) (h : Qs w w a p q b g ds Q l s (ofCells a g ds.length cap ⟨.countOut, st, k, t⟩)) :
    Calls Tryz.prog 155 #[.pointer (some ⟨a, 0, none⟩), .pointer (some ⟨b, 0, none⟩)] w fun e w' => e = .returned (.tuple #[]) ∧ Sh w' a p q ds Q (l.set Q.at_ (cnt Q l - 1)) (wrap64 (s + 1)) ∧ OfB w' b a ds ⟨.countOut, 1, k, t⟩ ∧ Turned [p, q, b] w w' := by
  have HA := hide (fun w' (h' : Sh w' a p q ds Q l s) => qadd w' a p q ds Q l s (-1) hb (by omega) h')
  have H0 := hide h
  have c0 := h.sh.c0
  have c1 := h.sh.c1
  rw [show cnt Q l + -1 = cnt Q l - 1 by omega] at HA
  generalize hn : l.set Q.at_ (cnt Q l - 1) = l2 at *
  have HN := hide (show l2.length = l.length by rw [← hn]; simp)
  clear h hn
  go_enter Tryz.func155, Tryz.ntmps155
  go_wp2_with fail
  go_region_held3 (fun w' => w'.cell? ⟨a, 0, none⟩ = some (.pointer (some ⟨p, 0, none⟩)) ∧ w'.cell? ⟨a, 1, none⟩ = some (.int .i64 Q.at_)) (go_keep)
    (first
      | (go_at_call 104; refine (HA.out _ H0.out.sh.drew).mono ?_; rintro e w1 ⟨⟨u, rfl⟩, m1, t1⟩; have g1 := H0.out.drew.acc m1 HN.out t1; have g2 := g1.sh.c0; have g3 := g1.sh.c1; have H1 := hide g1; clear HA m1 t1 g1))
  have f1 := H1.out.of_.f 1
  have fz1 := H1.out.of_.fz 1
  simp only [ofCells, QStp.fn] at f1
  clear g2 g3 HN c0 c1 hb
  go_wp2_with fail
  first | refine bodyPost_end (results_none rfl _ _ _) rfl ?_ | refine bodyPost_ret (results_none rfl _ _ _) rfl ?_
  exact ⟨rfl, (H1.out.set 1 _).fin rfl⟩

set_option maxRecDepth 4000 in
theorem qs_look (w0 : World) (cap : Nat) (at_ : QStp) (st : Int) (j : Nat) (t : Int) (k : Nat) (h : Qs w0 w a p q b g ds Q l s (ofCells a g ds.length cap ⟨at_, st, j, t⟩)) :
    Calls Tryz.prog 117 #[.pointer (some ⟨a, 0, none⟩), .pointer (some ⟨b, 0, none⟩), .int .i64 k] w fun e w' => e = .returned (.tuple #[]) ∧ Sh w' a p q ds Q l s ∧ OfB w' b a ds (lookQ Q ⟨at_, st, j, t⟩ k) ∧ Turned [p, q, b] w0 w' := by
  have H0 := hide h
  have f0 := h.of_.f 0
  have f2 := h.of_.f 2
  have f3 := h.of_.f 3
  have z0 := h.of_.fz 0
  have z3 := h.of_.fz 3
  simp only [ofCells] at f0 f2 f3
  have hlen := h.sh.len
  generalize hm : ds.length = m at f2
  have HM := hide hm
  have hm64 : m ≤ 64 := by omega
  clear h
  by_cases hkm : k = m
  · subst hkm
    go_enter Tryz.func117, Tryz.ntmps117
    go_wp2_with fail
    first | refine bodyPost_end (results_none rfl _ _ _) rfl ?_ | refine bodyPost_ret (results_none rfl _ _ _) rfl ?_
    have e : lookQ Q ⟨at_, st, j, t⟩ k = ⟨.readCount, st, k, t⟩ := by unfold lookQ; rw [if_pos (by have := HM.out; omega)]
    rw [e]
    exact ⟨rfl, (((H0.out.set 3 _).set 0 _).set 0 _).fin rfl⟩
  · have hkm' : ¬ ((k : Int) = (m : Int)) := by omega
    go_enter Tryz.func117, Tryz.ntmps117
    go_wp2_with fail
    first | refine bodyPost_end (results_none rfl _ _ _) rfl ?_ | refine bodyPost_ret (results_none rfl _ _ _) rfl ?_
    have e : lookQ Q ⟨at_, st, j, t⟩ k = ⟨.readTop, st, k, t⟩ := by unfold lookQ; rw [if_neg (by have := HM.out; omega)]
    rw [e]
    exact ⟨rfl, ((H0.out.set 3 _).set 0 _).fin rfl⟩

set_option maxRecDepth 4000 in
theorem qs_readCount (cap : Nat) (k : Nat) (t : Int) (h : Qs w w a p q b g ds Q l s (ofCells a g ds.length cap ⟨.readCount, 0, k, t⟩)) :
    Calls Tryz.prog 105 #[.pointer (some ⟨a, 0, none⟩), .pointer (some ⟨b, 0, none⟩)] w fun e w' => e = .returned (.tuple #[]) ∧ Sh w' a p q ds Q l (wrap64 (s + 1)) ∧ OfB w' b a ds (if cnt Q l = Q.n then ⟨.readCount, 2, k, t⟩ else lookQ Q ⟨.readCount, 0, k, t⟩ 0) ∧ Turned [p, q, b] w w' := by
  have HA := hide (fun w' (h' : Sh w' a p q ds Q l s) => load_in p q l s w' Q.at_ (cnt Q l) h'.at h'.mem)
  have H0 := hide h
  have c0 := h.sh.c0
  have c1 := h.sh.c1
  have c2 := h.sh.c2
  clear h
  generalize cnt Q l = y at *
  go_enter Tryz.func105, Tryz.ntmps105
  go_wp2_with fail
  go_region_held3 (fun w' => w'.cell? ⟨a, 0, none⟩ = some (.pointer (some ⟨p, 0, none⟩)) ∧ w'.cell? ⟨a, 1, none⟩ = some (.int .i64 Q.at_)) (go_keep)
    (first
      | (go_at_call 116; refine (HA.out _ H0.out.sh.drew).mono ?_; rintro e w1 ⟨rfl, m1, t1⟩; have g1 := H0.out.drew.acc m1 rfl t1; have g2 := g1.sh.c0; have g3 := g1.sh.c1; have H1 := hide g1; clear HA m1 t1 g1))
  have f1 := H1.out.of_.f 1
  have fz1 := H1.out.of_.fz 1
  have d2 := H1.out.sh.c2
  simp only [ofCells, QStp.fn] at f1
  have HL := hide (qs_look w1 a p q b g ds Q l (wrap64 (s + 1)) w cap .readCount 0 k t 0 H1.out)
  clear g2 g3 c0 c1 c2
  by_cases hy : y = (Q.n : Int)
  · subst hy
    go_wp2_with fail
    first | refine bodyPost_end (results_none rfl _ _ _) rfl ?_ | refine bodyPost_ret (results_none rfl _ _ _) rfl ?_
    exact ⟨rfl, (H1.out.set 1 _).fin rfl⟩
  · go_wp2_with fail
    refine HL.out.mono ?_
    rintro e w2 ⟨rfl, h2⟩
    have H2 := hide h2
    clear h2 HL
    go_wp2_with fail
    first | refine bodyPost_end (results_none rfl _ _ _) rfl ?_ | refine bodyPost_ret (results_none rfl _ _ _) rfl ?_
    exact ⟨rfl, H2.out⟩

theorem Qs.held {w0 w : World} {a p q b g : Nat} {ds : List Nat} {Q : QC} {l : List Int} {s : Int} {c : Array Value} (h : Qs w0 w a p q b g ds Q l s c) {m cap k d : Nat} {o : OfS} (e : c = ofCells a g m cap o) (hk : o.k = k) (hd : ds[k]? = some d) :
    w.cell? ⟨b, 2, none⟩ = some (.slice (some ⟨g, 0, none⟩) m cap) ∧ w.cell? ⟨b, 3, none⟩ = some (.int .i64 k) ∧ w.cell? ⟨g, k, none⟩ = some (.pointer (some ⟨d, 0, none⟩)) := by
  subst e
  subst hk
  exact ⟨by rw [h.of_.f]; rfl, by rw [h.of_.f]; rfl, h.of_.at_ _ d hd⟩

set_option maxRecDepth 4000 in
theorem qs_readTop (cap : Nat) (st : Int) (k : Nat) (t : Int) (hk : k < Q.cs.length) (h : Qs w w a p q b g ds Q l s (ofCells a g ds.length cap ⟨.readTop, st, k, t⟩)) :
    Calls Tryz.prog 129 #[.pointer (some ⟨a, 0, none⟩), .pointer (some ⟨b, 0, none⟩)] w fun e w' => e = .returned (.tuple #[]) ∧ Sh w' a p q ds Q l (wrap64 (s + 1)) ∧ OfB w' b a ds ⟨.readBottom, st, k, rd (cOf Q k) l 0⟩ ∧ Turned [p, q, b] w w' := by
  obtain ⟨d, hd⟩ : ∃ d, ds[k]? = some d := ⟨ds[k]'(by have := h.sh.len; omega), by simp⟩
  have hlt : k < ds.length := (List.getElem?_eq_some_iff.1 hd).1
  have HA := hide (fun w' (h' : Sh w' a p q ds Q l s) => top_any w' d p q (cOf Q k) l s (h'.dq k d hd))
  have H0 := hide h
  have f2 := h.of_.f 2
  have f3 := h.of_.f 3
  have f4 := h.of_.f 4
  have z4 := h.of_.fz 4
  have r := h.of_.at_ k d hd
  simp only [ofCells] at f2 f3 f4
  have hlen := h.sh.len.2
  generalize hm : ds.length = m at f2 hlt hlen
  have HM := hide hm
  clear h hk hm
  generalize rd (cOf Q k) l 0 = y at *
  have hgb := hide (H0.out.of_.neg)
  go_enter Tryz.func129, Tryz.ntmps129
  go_wp2_with fail
  go_region_held3 (fun w' => w'.cell? ⟨b, 2, none⟩ = some (.slice (some ⟨g, 0, none⟩) m cap) ∧ w'.cell? ⟨b, 3, none⟩ = some (.int .i64 k) ∧ w'.cell? ⟨g, k, none⟩ = some (.pointer (some ⟨d, 0, none⟩))) (first | go_keep | exact Qs.held (H1.out.set 4 (.int .i64 y)) (o := ⟨.readTop, st, k, y⟩) (by rw [HM.out]; rfl) rfl hd)
    (first
      | (go_at_call 141; refine (HA.out _ H0.out.sh.drew).mono ?_; rintro e w1 ⟨rfl, m1, t1⟩; have g1 := H0.out.drew.acc m1.mem rfl t1; have g2 := g1.of_.f 2; have g3 := g1.of_.f 3; have g4 := g1.of_.at_ k d hd; have g5 := g1.of_.f 4; have g6 := g1.of_.fz 4; simp only [ofCells, HM.out] at g2 g3 g5; have H1 := hide g1; clear HA m1 t1 g1))
  have H2 := hide (H1.out.set 4 (.int .i64 y))
  generalize w1.setCell ⟨b, 4, none⟩ (.int .i64 y) = w2 at *
  have k0 := H2.out.of_.f 0
  have k1 := H2.out.of_.fz 0
  simp only [ofCells] at k0
  clear g2 g3 g4 g5 g6 H1 f2 f3 f4 z4 r HM
  go_wp2_with fail
  first | refine bodyPost_end (results_none rfl _ _ _) rfl ?_ | refine bodyPost_ret (results_none rfl _ _ _) rfl ?_
  exact ⟨rfl, (H2.out.set 0 _).fin rfl⟩

set_option maxRecDepth 4000 in
theorem qs_readBottom (cap : Nat) (st : Int) (k : Nat) (t : Int) (hk : k < Q.cs.length) (h : Qs w w a p q b g ds Q l s (ofCells a g ds.length cap ⟨.readBottom, st, k, t⟩)) :
    Calls Tryz.prog 142 #[.pointer (some ⟨a, 0, none⟩), .pointer (some ⟨b, 0, none⟩)] w fun e w' => e = .returned (.tuple #[]) ∧ Sh w' a p q ds Q l (wrap64 (s + 1)) ∧ OfB w' b a ds ⟨if t < rd (cOf Q k) l 1 then .countOut else .readStack, st, k, t⟩ ∧ Turned [p, q, b] w w' := by
  obtain ⟨d, hd⟩ : ∃ d, ds[k]? = some d := ⟨ds[k]'(by have := h.sh.len; omega), by simp⟩
  have hlt : k < ds.length := (List.getElem?_eq_some_iff.1 hd).1
  have HA := hide (fun w' (h' : Sh w' a p q ds Q l s) => bottom_any w' d p q (cOf Q k) l s (h'.dq k d hd))
  have H0 := hide h
  have f0 := h.of_.f 0
  have z0 := h.of_.fz 0
  simp only [ofCells] at f0
  have hlen := h.sh.len.2
  have hll := hide hlt
  clear h hk hlt
  generalize rd (cOf Q k) l 1 = y at *
  go_enter Tryz.func142, Tryz.ntmps142
  go_wp2_with fail
  have H2 := hide (H0.out.set 0 (.func (.func 153) #[.pointer (some ⟨a, 0, none⟩)] #[]))
  generalize hw2 : w.setCell ⟨b, 0, none⟩ (.func (.func 153) #[.pointer (some ⟨a, 0, none⟩)] #[]) = w2 at *
  clear hw2 f0 z0 H0
  have H3 := hide (show Qs w w2 a p q b g ds Q l s (ofCells a g ds.length cap ⟨.readStack, st, k, t⟩) from H2.out)
  clear H2
  have k2 := H3.out.of_.f 2
  have k3 := H3.out.of_.f 3
  have k4 := H3.out.of_.f 4
  have kr := H3.out.of_.at_ k d hd
  simp only [ofCells] at k2 k3 k4
  generalize hm : ds.length = m at k2 hlen
  have hlt : k < m := by have := hll.out; omega
  have HM := hide hm
  clear hm hll
  go_region_held3 (fun w' => w'.cell? ⟨b, 2, none⟩ = some (.slice (some ⟨g, 0, none⟩) m cap) ∧ w'.cell? ⟨b, 3, none⟩ = some (.int .i64 k) ∧ w'.cell? ⟨g, k, none⟩ = some (.pointer (some ⟨d, 0, none⟩)) ∧ w'.cell? ⟨b, 4, none⟩ = some (.int .i64 t)) (go_keep)
    (first
      | (go_at_call 154; refine (HA.out _ H3.out.sh.drew).mono ?_; rintro e w3 ⟨rfl, m1, t1⟩; have g1 := H3.out.drew.acc m1.mem rfl t1; have g2 := Qs.held g1 (by rw [HM.out]) rfl hd; have g5 := g1.of_.f 4; simp only [ofCells] at g5; have H4 := hide g1; clear HA m1 t1 g1))
  have f0 := H4.out.of_.f 0
  have z0 := H4.out.of_.fz 0
  simp only [ofCells] at f0
  clear g2 g5 k2 k3 k4 kr HM H3
  by_cases hy : t < y
  · go_wp2_with fail
    first | refine bodyPost_end (results_none rfl _ _ _) rfl ?_ | refine bodyPost_ret (results_none rfl _ _ _) rfl ?_
    exact ⟨rfl, (H4.out.set 0 _).fin rfl⟩
  · go_wp2_with fail
    first | refine bodyPost_end (results_none rfl _ _ _) rfl ?_ | refine bodyPost_ret (results_none rfl _ _ _) rfl ?_
    exact ⟨rfl, H4.out.fin rfl⟩

set_option maxRecDepth 4000 in
theorem qs_readStack (cap : Nat) (st : Int) (k : Nat) (t : Int) (hk : k < Q.cs.length) (h : Qs w w a p q b g ds Q l s (ofCells a g ds.length cap ⟨.readStack, st, k, t⟩)) :
    Calls Tryz.prog 153 #[.pointer (some ⟨a, 0, none⟩), .pointer (some ⟨b, 0, none⟩)] w fun e w' => e = .returned (.tuple #[]) ∧ Sh w' a p q ds Q l (wrap64 (s + 1)) ∧ OfB w' b a ds (if 0 < rd (cOf Q k) l 3 then ⟨.countOut, st, k, t⟩ else lookQ Q ⟨.readStack, st, k, t⟩ (k + 1)) ∧ Turned [p, q, b] w w' := by
  obtain ⟨d, hd⟩ : ∃ d, ds[k]? = some d := ⟨ds[k]'(by have := h.sh.len; omega), by simp⟩
  have hlt : k < ds.length := (List.getElem?_eq_some_iff.1 hd).1
  have HA := hide (fun w' (h' : Sh w' a p q ds Q l s) => stack_any w' d p q (cOf Q k) l s (h'.dq k d hd))
  have H0 := hide h
  have k2 := h.of_.f 2
  have k3 := h.of_.f 3
  have kr := h.of_.at_ k d hd
  simp only [ofCells] at k2 k3
  have hlen := h.sh.len.2
  generalize hm : ds.length = m at k2 hlen hlt
  have HM := hide hm
  clear h hk hm
  generalize rd (cOf Q k) l 3 = y at *
  go_enter Tryz.func153, Tryz.ntmps153
  go_wp2_with fail
  go_region_held3 (fun w' => w'.cell? ⟨b, 2, none⟩ = some (.slice (some ⟨g, 0, none⟩) m cap) ∧ w'.cell? ⟨b, 3, none⟩ = some (.int .i64 k) ∧ w'.cell? ⟨g, k, none⟩ = some (.pointer (some ⟨d, 0, none⟩))) (go_keep)
    (first
      | (go_at_call 162; refine (HA.out _ H0.out.sh.drew).mono ?_; rintro e w3 ⟨rfl, m1, t1⟩; have g1 := H0.out.drew.acc m1.mem rfl t1; have g2 := Qs.held g1 (by rw [HM.out]) rfl hd; have H4 := hide g1; clear HA m1 t1 g1))
  have f0 := H4.out.of_.f 0
  have z0 := H4.out.of_.fz 0
  have f3 := H4.out.of_.f 3
  simp only [ofCells] at f0 f3
  have HL := hide (qs_look w3 a p q b g ds Q l (wrap64 (s + 1)) w cap .readStack st k t (k + 1) H4.out)
  clear g2 k2 k3 kr HM H0
  by_cases hy : 0 < y
  · go_wp2_with fail
    first | refine bodyPost_end (results_none rfl _ _ _) rfl ?_ | refine bodyPost_ret (results_none rfl _ _ _) rfl ?_
    exact ⟨rfl, (H4.out.set 0 _).fin rfl⟩
  · go_wp2_with fail
    refine HL.out.mono ?_
    rintro e w2 ⟨rfl, h2⟩
    have H2 := hide h2
    clear h2 HL
    go_wp2_with fail
    first | refine bodyPost_end (results_none rfl _ _ _) rfl ?_ | refine bodyPost_ret (results_none rfl _ _ _) rfl ?_
    exact ⟨rfl, H2.out⟩
end

section
variable (w : World) (a p q b : Nat) (ds : List Nat) (Q : QC) (l : List Int) (s : Int)

theorem Qs.of {w : World} {a p q b : Nat} {ds : List Nat} {Q : QC} {l : List Int} {s : Int} {o : OfS} (h : Sh w a p q ds Q l s) (ho : OfB w b a ds o) : ∃ g cap, Qs w w a p q b g ds Q l s (ofCells a g ds.length cap o) := by
  obtain ⟨g, cap, ho⟩ := ho
  exact ⟨g, cap, h, ho, Turned.refl _ _⟩

theorem qact_any (o : OfS) (hb : -1000000 ≤ cnt Q l ∧ cnt Q l ≤ 1000000) (hk : QOk Q o) (hst : o.state = 0) (h : Sh w a p q ds Q l s) (ho : OfB w b a ds o) :
    Calls Tryz.prog o.at_.fn #[.pointer (some ⟨a, 0, none⟩), .pointer (some ⟨b, 0, none⟩)] w fun e w' => e = .returned (.tuple #[]) ∧ Sh w' a p q ds Q (stepQ Q l o).1 (wrap64 (s + 1)) ∧ OfB w' b a ds (stepQ Q l o).2 ∧ Turned [p, q, b] w w' := by
  obtain ⟨g, cap, H⟩ := Qs.of h ho
  obtain ⟨at_, st, k, t⟩ := o
  have hst' : st = 0 := hst
  subst hst'
  cases at_
  case countIn => exact qs_countIn w a p q b g ds Q l s cap 0 k t hb H
  case countOut => exact qs_countOut w a p q b g ds Q l s cap 0 k t hb H
  case readCount =>
    refine (qs_readCount w a p q b g ds Q l s cap k t H).mono ?_
    rintro e w' ⟨rfl, h1, h2, h3⟩
    by_cases hy : cnt Q l = Q.n
    · simp only [hy, if_true] at h2
      exact ⟨rfl, by simpa [stepQ, hy] using h1, by simpa [stepQ, hy] using h2, h3⟩
    · simp only [hy, if_false] at h2
      exact ⟨rfl, by simpa [stepQ, hy] using h1, by simpa [stepQ, hy] using h2, h3⟩
  case readTop => exact qs_readTop w a p q b g ds Q l s cap 0 k t hk H
  case readBottom => exact qs_readBottom w a p q b g ds Q l s cap 0 k t hk H
  case readStack =>
    refine (qs_readStack w a p q b g ds Q l s cap 0 k t hk H).mono ?_
    rintro e w' ⟨rfl, h1, h2, h3⟩
    by_cases hy : 0 < rd (cOf Q k) l 3
    · simp only [hy, if_true] at h2
      exact ⟨rfl, by simpa [stepQ, hy] using h1, by simpa [stepQ, hy] using h2, h3⟩
    · simp only [hy, if_false] at h2
      exact ⟨rfl, by simpa [stepQ, hy] using h1, by simpa [stepQ, hy] using h2, h3⟩

theorem state_any (o : OfS) (ho : OfB w b a ds o) :
    Calls Tryz.prog 106 #[.pointer (some ⟨b, 0, none⟩)] w fun e w' => e = .returned (.int .i64 o.state) ∧ w' = w := by
  have f0 := ho.f0
  have f1 := ho.f1
  have heq := eql_funcq (.func o.at_.fn) #[.pointer (some ⟨a, 0, none⟩)] #[]
  generalize o.at_.fn = K at *
  generalize o.state = y at *
  clear ho
  go_enter Tryz.func106, Tryz.ntmps106
  go_wp2_with fail
  all_goals (go_ret; exact ⟨rfl, rfl⟩)

theorem state_nil :
    Calls Tryz.prog 106 #[.pointer none] w fun e w' => e = .returned (.int .i64 2) ∧ w' = w := by
  go_enter Tryz.func106, Tryz.ntmps106
  go_wp2_with fail
  all_goals (go_ret; exact ⟨rfl, rfl⟩)

theorem stepQ_over {Q : QC} {l : List Int} {o : OfS} (h : o.state ≠ 0) : stepQ Q l o = (l, o) := by simp [stepQ, h]

set_option maxHeartbeats 4000000 in
set_option maxRecDepth 4000 in
theorem qstep_open (o : OfS) (hb : -1000000 ≤ cnt Q l ∧ cnt Q l ≤ 1000000) (hk : QOk Q o) (hst : o.state = 0) (h : Sh w a p q ds Q l s) (ho : OfB w b a ds o) :
    Calls Tryz.prog 95 #[.pointer (some ⟨b, 0, none⟩)] w fun e w' => e = .returned (.int .i64 (stepQ Q l o).2.state) ∧ (∃ s', Sh w' a p q ds Q (stepQ Q l o).1 s') ∧ OfB w' b a ds (stepQ Q l o).2 ∧ Turned [p, q, b] w w' := by
  have HA := qact_any w a p q b ds Q l s o hb hk hst h ho
  have f0 := ho.f0
  have H := hide (state_any w a b ds o ho)
  rw [hst] at H
  generalize stepQ Q l o = R at *
  clear ho h hk hst hb
  generalize o.at_ = at_ at *
  cases at_
  all_goals (
    simp only [QStp.fn] at HA f0
    have HB := hide HA
    clear HA
    go_enter Tryz.func95, Tryz.ntmps95
    go_wp2_with fail
    refine H.out.mono ?_
    rintro e w1 ⟨rfl, rfl⟩
    clear H
    go_wp2_with fail
    refine HB.out.mono ?_
    rintro e w2 ⟨rfl, h1, h2, h3⟩
    have H2 := hide (state_any w2 a b ds _ h2)
    have H3 := hide (And.intro (Exists.intro _ h1) (And.intro h2 h3))
    clear HB h1 h2 h3 f0
    go_wp2_with fail
    refine H2.out.mono ?_
    rintro e w3 ⟨rfl, rfl⟩
    go_wp2_with fail
    go_ret
    exact ⟨rfl, H3.out⟩)

theorem qstep_over (o : OfS) (hst : o.state ≠ 0) (ho : OfB w b a ds o) :
    Calls Tryz.prog 95 #[.pointer (some ⟨b, 0, none⟩)] w fun e w' => e = .returned (.int .i64 o.state) ∧ w' = w := by
  have H := hide (state_any w a b ds o ho)
  generalize o.state = y at *
  clear ho
  go_enter Tryz.func95, Tryz.ntmps95
  go_wp2_with fail
  refine H.out.mono ?_
  rintro e w1 ⟨rfl, rfl⟩
  go_wp2_with fail
  refine H.out.mono ?_
  rintro e w1 ⟨rfl, rfl⟩
  go_wp2_with fail
  go_ret
  exact ⟨rfl, rfl⟩

theorem qstep_any (o : OfS) (hb : -1000000 ≤ cnt Q l ∧ cnt Q l ≤ 1000000) (hk : QOk Q o) (h : Sh w a p q ds Q l s) (ho : OfB w b a ds o) :
    Calls Tryz.prog 95 #[.pointer (some ⟨b, 0, none⟩)] w fun e w' => e = .returned (.int .i64 (stepQ Q l o).2.state) ∧ (∃ s', Sh w' a p q ds Q (stepQ Q l o).1 s') ∧ OfB w' b a ds (stepQ Q l o).2 ∧ Turned [p, q, b] w w' := by
  by_cases hst : o.state = 0
  · exact qstep_open w a p q b ds Q l s o hb hk hst h ho
  · refine (qstep_over w a b ds o hst ho).mono ?_
    rintro e w' ⟨rfl, rfl⟩
    rw [stepQ_over hst]
    exact ⟨rfl, ⟨s, h⟩, ho, Turned.refl _ _⟩
end
end Go.Proofs.YtgbclfhgpkmcnaaGreatDoor
