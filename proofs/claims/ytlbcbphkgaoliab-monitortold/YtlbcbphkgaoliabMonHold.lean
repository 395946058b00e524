/-
  holding: what the holder of an object's monitor alone may do.
-/
import Derived.Test.YtlbcbphkgaoliabMonEnter
namespace Go.Proofs.Ytlbcbphkgaoliab
open Go.RowKit
set_option linter.unusedVariables false
set_option linter.unusedSimpArgs false
/-- holding, without memory: what is told, the monitors, and who stands. -/
def holdT (g : Int → Option Mon) (S : Int → Bool) (x y : Int) (r : Mon → Int) (mt : Mon → Mon) (st : Mon → (Int → Bool) → Int → Bool) : (Int × Int) × (Int → Option Mon) × (Int → Bool) :=
  if x ≤ 0 ∨ y = 0 then ((0, 1), g, S)
  else if S x = true then ((0, 16), g, S)
  else
    let m := (g y).getD Mon.zero
    if m.h = x then ((r m, 0), putM g y (mt m), st m S) else ((0, 16), putM g y m, S)
/-- What a call leaves. -/
def LeftI (B p n : Nat) (w : World) (o : (Int × Int) × (Int → Option Mon) × (Int → Bool)) (e : Ending) (w' : World) : Prop := e = .returned (.tuple #[.int .i64 o.1.1, .int .i64 o.1.2]) ∧ Tb B w' p (n + 3) o.2.1 o.2.2 ∧ Bel B w w'
/-- What a closure at a monitor leaves. -/
def DoneI (B p n : Nat) (y : Int) (b : Nat) (g : Int → Option Mon) (r : Int) (m' : Mon) (S' : Int → Bool) (w : World) (e : Ending) (w' : World) : Prop := e = .returned (.int .i64 r) ∧ Foc B w' p y b m' (n + 2) g S' ∧ Bel B w w'
section
variable {B : Nat} {w w' : World} {b p n : Nat} {x y : Int} {m m' : Mon} {g : Int → Option Mon} {S S' : Int → Bool} {r : Int}
theorem LeftI.from {o : (Int × Int) × (Int → Option Mon) × (Int → Bool)} {w1 : World} {e : Ending} (h : LeftI B p n w1 o e w') (t : Bel B w w1) : LeftI B p n w o e w' := ⟨h.1, h.2.1, t.trans h.2.2⟩
theorem Foc.mono (h : Foc B w p x b m n g S) {k : Nat} (hk : n ≤ k) : Foc B w p x b m k g S := by
  obtain ⟨mo, so, f, N, q1, q2, q3, q4, q5⟩ := h.ex
  exact ⟨mo, so, f, N, ⟨q1.row, q1.mm.mono hk, q1.nm.mono hk, q1.ne⟩, q2, q3, q4, q5⟩
theorem Foc.lo (h : Foc B w p x b m n g S) : B ≤ w.heap.size := by
  obtain ⟨mo, so, f, N, q1, q2, q3, q4, q5⟩ := h.ex
  have := lt_of_heap q1.row
  have := q4.1
  omega

set_option maxRecDepth 100000 in
theorem hold1_exit (c : Value) (u1 u3 : Nat) (h : Foc B w p y b m n g S) (hb1 : w.heap[u1]? = some (.cells #[.int .i64 x] 3)) (hb3 : w.heap[u3]? = some (.cells #[.func (.func 27) #[] #[c]] 55)) (hdo : ∀ k, m.h = x → Calls Try.prog 27 #[.pointer (some ⟨b, 0, none⟩), c] (w.drewN k) (DoneI B p n y b g r m' S' (w.drewN k))) :
    Calls Try.prog 33 #[.pointer (some ⟨b, 0, none⟩), .pointer (some ⟨u1, 0, none⟩), .pointer (some ⟨u3, 0, none⟩)] w fun e w' => e = .returned (.tuple #[.int .i64 (if m.h = x then r else 0), .int .i64 (if m.h = x then 0 else 16)]) ∧ Foc B w' p y b (if m.h = x then m' else m) (n + 2) g (if m.h = x then S' else S) ∧ Bel B w w' := by
  obtain ⟨M, hM⟩ := h.mo
  have c0 : w.cell? ⟨b, 0, none⟩ = some (.int .i64 m.h) := by rw [hM.c]; show some (Value.int .i64 M.h) = _; rw [hM.rp.h]
  have c1 : w.cell? ⟨u1, 0, none⟩ = some (.int .i64 x) := by rw [cell_of_heap hb1]; rfl
  have c3 : ∀ k, (w.drewN k).cell? ⟨u3, 0, none⟩ = some (.func (.func 27) #[] #[c]) := fun k => by
    show w.cell? _ = _
    rw [cell_of_heap hb3]; rfl
  have hB := h.lo
  have HF := hide h
  by_cases hx : m.h = x
  · rw [if_pos hx, if_pos hx, if_pos hx, if_pos hx]
    have HD := hide (fun k => hdo k hx)
    rw [hx] at c0
    clear h hM hb1 hb3 hdo
    go_enter Try.func33, Try.ntmps33
    go_wp2_with fail
    go_quiet (fail)
    have d3 := c3 nq
    have HD2 := hide (HD.out nq)
    clear c3 HD c0 c1
    go_wp2_with fail
    refine (HD2.out).mono ?_
    rintro e w2 ⟨rfl, h4, h5⟩
    have HR := hide h4
    have HBl := hide (((Bel.refl B w).trans (((Turned.refl [] w).drewN nq).bel hB (fun k hk => by cases hk))).trans h5)
    clear h4 h5 HD2 d3
    go_wp2_with fail
    go_ret2
    exact ⟨rfl, HR.out, HBl.out⟩
  · rw [if_neg hx, if_neg hx, if_neg hx, if_neg hx]
    clear h hM hb1 hb3 hdo
    generalize m.h = mh at *
    go_enter Try.func33, Try.ntmps33
    go_wp2_with fail
    go_quiet (fail)
    have HR := hide ((HF.out.turned ((Turned.refl [] w).drewN nq)).mono (k := n + 2) (by omega))
    have HBl := hide (((Turned.refl [] w).drewN nq).bel hB (fun k hk => by cases hk))
    clear c0 c1 c3
    go_wp2_with fail
    go_ret2
    exact ⟨rfl, HR.out, HBl.out⟩

set_option maxRecDepth 100000 in
theorem hold1_notify (c : Value) (u1 u3 : Nat) (h : Foc B w p y b m n g S) (hb1 : w.heap[u1]? = some (.cells #[.int .i64 x] 3)) (hb3 : w.heap[u3]? = some (.cells #[.func (.func 23) #[] #[c]] 55)) (hdo : ∀ k, m.h = x → Calls Try.prog 23 #[.pointer (some ⟨b, 0, none⟩), c] (w.drewN k) (DoneI B p n y b g r m' S' (w.drewN k))) :
    Calls Try.prog 33 #[.pointer (some ⟨b, 0, none⟩), .pointer (some ⟨u1, 0, none⟩), .pointer (some ⟨u3, 0, none⟩)] w fun e w' => e = .returned (.tuple #[.int .i64 (if m.h = x then r else 0), .int .i64 (if m.h = x then 0 else 16)]) ∧ Foc B w' p y b (if m.h = x then m' else m) (n + 2) g (if m.h = x then S' else S) ∧ Bel B w w' := by
  obtain ⟨M, hM⟩ := h.mo
  have c0 : w.cell? ⟨b, 0, none⟩ = some (.int .i64 m.h) := by rw [hM.c]; show some (Value.int .i64 M.h) = _; rw [hM.rp.h]
  have c1 : w.cell? ⟨u1, 0, none⟩ = some (.int .i64 x) := by rw [cell_of_heap hb1]; rfl
  have c3 : ∀ k, (w.drewN k).cell? ⟨u3, 0, none⟩ = some (.func (.func 23) #[] #[c]) := fun k => by
    show w.cell? _ = _
    rw [cell_of_heap hb3]; rfl
  have hB := h.lo
  have HF := hide h
  by_cases hx : m.h = x
  · rw [if_pos hx, if_pos hx, if_pos hx, if_pos hx]
    have HD := hide (fun k => hdo k hx)
    rw [hx] at c0
    clear h hM hb1 hb3 hdo
    go_enter Try.func33, Try.ntmps33
    go_wp2_with fail
    go_quiet (fail)
    have d3 := c3 nq
    have HD2 := hide (HD.out nq)
    clear c3 HD c0 c1
    go_wp2_with fail
    refine (HD2.out).mono ?_
    rintro e w2 ⟨rfl, h4, h5⟩
    have HR := hide h4
    have HBl := hide (((Bel.refl B w).trans (((Turned.refl [] w).drewN nq).bel hB (fun k hk => by cases hk))).trans h5)
    clear h4 h5 HD2 d3
    go_wp2_with fail
    go_ret2
    exact ⟨rfl, HR.out, HBl.out⟩
  · rw [if_neg hx, if_neg hx, if_neg hx, if_neg hx]
    clear h hM hb1 hb3 hdo
    generalize m.h = mh at *
    go_enter Try.func33, Try.ntmps33
    go_wp2_with fail
    go_quiet (fail)
    have HR := hide ((HF.out.turned ((Turned.refl [] w).drewN nq)).mono (k := n + 2) (by omega))
    have HBl := hide (((Turned.refl [] w).drewN nq).bel hB (fun k hk => by cases hk))
    clear c0 c1 c3
    go_wp2_with fail
    go_ret2
    exact ⟨rfl, HR.out, HBl.out⟩

set_option maxRecDepth 100000 in
theorem hold1_wait (c d : Value) (u1 u3 : Nat) (h : Foc B w p y b m n g S) (hb1 : w.heap[u1]? = some (.cells #[.int .i64 x] 3)) (hb3 : w.heap[u3]? = some (.cells #[.func (.func 20) #[] #[c, d]] 55)) (hdo : ∀ k, m.h = x → Calls Try.prog 20 #[.pointer (some ⟨b, 0, none⟩), c, d] (w.drewN k) (DoneI B p n y b g r m' S' (w.drewN k))) :
    Calls Try.prog 33 #[.pointer (some ⟨b, 0, none⟩), .pointer (some ⟨u1, 0, none⟩), .pointer (some ⟨u3, 0, none⟩)] w fun e w' => e = .returned (.tuple #[.int .i64 (if m.h = x then r else 0), .int .i64 (if m.h = x then 0 else 16)]) ∧ Foc B w' p y b (if m.h = x then m' else m) (n + 2) g (if m.h = x then S' else S) ∧ Bel B w w' := by
  obtain ⟨M, hM⟩ := h.mo
  have c0 : w.cell? ⟨b, 0, none⟩ = some (.int .i64 m.h) := by rw [hM.c]; show some (Value.int .i64 M.h) = _; rw [hM.rp.h]
  have c1 : w.cell? ⟨u1, 0, none⟩ = some (.int .i64 x) := by rw [cell_of_heap hb1]; rfl
  have c3 : ∀ k, (w.drewN k).cell? ⟨u3, 0, none⟩ = some (.func (.func 20) #[] #[c, d]) := fun k => by
    show w.cell? _ = _
    rw [cell_of_heap hb3]; rfl
  have hB := h.lo
  have HF := hide h
  by_cases hx : m.h = x
  · rw [if_pos hx, if_pos hx, if_pos hx, if_pos hx]
    have HD := hide (fun k => hdo k hx)
    rw [hx] at c0
    clear h hM hb1 hb3 hdo
    go_enter Try.func33, Try.ntmps33
    go_wp2_with fail
    go_quiet (fail)
    have d3 := c3 nq
    have HD2 := hide (HD.out nq)
    clear c3 HD c0 c1
    go_wp2_with fail
    refine (HD2.out).mono ?_
    rintro e w2 ⟨rfl, h4, h5⟩
    have HR := hide h4
    have HBl := hide (((Bel.refl B w).trans (((Turned.refl [] w).drewN nq).bel hB (fun k hk => by cases hk))).trans h5)
    clear h4 h5 HD2 d3
    go_wp2_with fail
    go_ret2
    exact ⟨rfl, HR.out, HBl.out⟩
  · rw [if_neg hx, if_neg hx, if_neg hx, if_neg hx]
    clear h hM hb1 hb3 hdo
    generalize m.h = mh at *
    go_enter Try.func33, Try.ntmps33
    go_wp2_with fail
    go_quiet (fail)
    have HR := hide ((HF.out.turned ((Turned.refl [] w).drewN nq)).mono (k := n + 2) (by omega))
    have HBl := hide (((Turned.refl [] w).drewN nq).bel hB (fun k hk => by cases hk))
    clear c0 c1 c3
    go_wp2_with fail
    go_ret2
    exact ⟨rfl, HR.out, HBl.out⟩

set_option maxRecDepth 100000 in
theorem at_exit (c : Value) (u1 u3 : Nat) (rr : Mon → Int) (mt : Mon → Mon) (st : Mon → (Int → Bool) → Int → Bool) (hx : I64 x) (hy : I64 y) (hn : n ≤ 900000) (h : Tb B w p n g S) (hb1 : w.heap[u1]? = some (.cells #[.int .i64 x] 3)) (hb3 : w.heap[u3]? = some (.cells #[.func (.func 27) #[] #[c]] 55))
    (hdo : ∀ b w1, Turned [] w w1 → Foc B w1 p y b ((g y).getD Mon.zero) n g S → ((g y).getD Mon.zero).h = x → Calls Try.prog 27 #[.pointer (some ⟨b, 0, none⟩), c] w1 (DoneI B p n y b g (rr ((g y).getD Mon.zero)) (mt ((g y).getD Mon.zero)) (st ((g y).getD Mon.zero) S) w1)) :
    Calls Try.prog 32 #[.pointer (some ⟨p, 0, none⟩), .int .i64 x, .int .i64 y, .func (.func 33) #[] #[.pointer (some ⟨u1, 0, none⟩), .pointer (some ⟨u3, 0, none⟩)]] w (LeftI B p n w (holdT g S x y rr mt st)) := by
  obtain ⟨o, ho⟩ : ∃ o, o = holdT g S x y rr mt st := ⟨_, rfl⟩
  rw [← ho]
  unfold holdT at ho
  by_cases h0 : x ≤ 0
  · rw [if_pos (.inl h0)] at ho
    have HL : Hid (LeftI B p n w o (.returned (.tuple #[.int .i64 0, .int .i64 1])) w) := hide ⟨by rw [ho], by rw [ho]; exact h.mono (by omega), Bel.refl _ _⟩
    clear h hb1 hb3 ho hdo
    go_enter_defers Try.func32, Try.ntmps32
    go_wp2_with fail
    refine ⟨_, results_tmp2 rfl _ _ _, ?_⟩
    exact HL.out
  by_cases h1 : y = 0
  · subst h1
    rw [if_pos (.inr rfl)] at ho
    have HL : Hid (LeftI B p n w o (.returned (.tuple #[.int .i64 0, .int .i64 1])) w) := hide ⟨by rw [ho], by rw [ho]; exact h.mono (by omega), Bel.refl _ _⟩
    clear h hb1 hb3 ho hdo
    go_enter_defers Try.func32, Try.ntmps32
    go_wp2_with fail
    refine ⟨_, results_tmp2 rfl _ _ _, ?_⟩
    exact HL.out
  rw [if_neg (fun q => q.elim h0 h1)] at ho
  have HH := hide (held_any x hx h)
  have HT := hide h
  have hBs := h.lo
  by_cases h2 : S x = true
  · rw [if_pos h2] at ho
    rw [h2] at HH
    have HL : Hid (∀ w1, Turned [] w w1 → LeftI B p n w o (.returned (.tuple #[.int .i64 0, .int .i64 16])) w1) := hide (fun w1 t => ⟨by rw [ho], by rw [ho]; exact (HT.out.turned t).mono (by omega), t.bel hBs (fun k hk => by cases hk)⟩)
    clear h hb1 hb3 ho h2 hdo
    go_enter_defers Try.func32, Try.ntmps32
    go_wp2_with fail
    refine (HH.out).mono ?_
    rintro e w1 ⟨rfl, t1⟩
    have HL1 := hide (HL.out w1 t1)
    clear HL t1 HH
    go_wp2_with fail
    refine ⟨_, results_tmp2 rfl _ _ _, ?_⟩
    exact HL1.out
  · rw [if_neg h2] at ho
    rw [show S x = false by simpa using h2] at HH
    have HB1 := hide hb1
    have HB3 := hide hb3
    have HY := hide hy
    have HO := hide ho
    have HDo := hide hdo
    clear h hb1 hb3 ho h2 hx hy hdo
    go_enter_defers Try.func32, Try.ntmps32
    go_wp2_with fail
    refine (HH.out).mono ?_
    rintro e w1 ⟨rfl, t1⟩
    obtain ⟨mo, M, c0, hlk, hB1, hfoc⟩ := tb_foc (HT.out.turned t1) HY.out
    have HT1 := hide t1
    have HFc := hide hfoc
    have hlk' : (Instr.lookup 39 (.map mo) (.int .i64 y) false).run Try.prog w1 = .ok (.agg #[.int .i64 M.h, .int .i64 M.t, .slice M.q.addr M.q.len M.q.cap, .slice M.a.addr M.a.len M.a.cap]) w1 := hlk
    clear t1 HH hfoc hlk
    go_upto_region 6 with fail
    obtain ⟨b, hb⟩ : ∃ b, b = w1.heap.size := ⟨_, rfl⟩
    obtain ⟨w2, hw2⟩ : ∃ w2, w2 = w1.alloc (.cells #[.int .i64 M.h, .int .i64 M.t, .slice M.q.addr M.q.len M.q.cap, .slice M.a.addr M.a.len M.a.cap] 54) := ⟨_, rfl⟩
    have t2 : Turned [] w1 w2 := by rw [hw2]; exact (Turned.refl _ _).alloc _
    have HF2 := hide (HFc.out b w2 t2 (by rw [hw2, hb]; exact heap_alloc_new _ _) (by rw [hb]; exact hB1))
    have HT2 := hide (HT1.out.trans t2)
    have HE := hide (hold1_exit (r := rr ((g y).getD Mon.zero)) (m' := mt ((g y).getD Mon.zero)) (S' := st ((g y).getD Mon.zero) S) c u1 u3 HF2.out (HT2.out.at HB1.out (by simp)) (HT2.out.at HB3.out (by simp)) (fun k hk => HDo.out b (w2.drewN k) (HT2.out.drewN k) (HF2.out.turned ((Turned.refl [] w2).drewN k)) hk))
    rw [← hb, ← hw2]
    clear hb hw2 t2 HFc HF2 HB1 HB3 HT1 hlk' c0 hB1 HDo
    obtain ⟨m, hm⟩ : ∃ m, m = (g y).getD Mon.zero := ⟨_, rfl⟩
    rw [← hm] at HE HO
    obtain ⟨ri, hri⟩ : ∃ ri, ri = (if m.h = x then rr m else 0) := ⟨_, rfl⟩
    obtain ⟨ei, hei⟩ : ∃ ei : Int, ei = (if m.h = x then 0 else 16) := ⟨_, rfl⟩
    have HO2 : Hid (o = ((ri, ei), putM g y (if m.h = x then mt m else m), if m.h = x then st m S else S)) := hide (by
      rw [HO.out, hri, hei]
      by_cases q : m.h = x
      · simp only [if_pos q]
      · simp only [if_neg q])
    rw [← hri, ← hei] at HE
    clear hm hri hei HO HT
    go_wp2_with fail
    refine (HE.out).mono ?_
    rintro e w3 ⟨rfl, h3, hbel⟩
    have HF3 := hide h3
    have HBl := hide hbel
    clear h3 hbel HE
    go_wp2_with fail
    refine leaves_cons (f := 31) (args := #[.pointer (some ⟨p, 0, none⟩), .int .i64 y, .pointer (some ⟨b, 0, none⟩)]) (by simp) (by simp [go_sem]) ?_
    refine (keep_d .returning HY.out (by omega) HF3.out).mono ?_
    rintro e u' w4 ⟨rfl, rfl, h4, h5⟩
    refine ⟨_, results_tmp2 rfl _ _ _, ?_⟩
    refine ⟨?_, ?_, ((HT2.out.bel hBs (fun k hk => by cases hk)).trans HBl.out).trans h5⟩
    · rw [HO2.out]
      rfl
    · rw [HO2.out]
      exact h4
set_option maxRecDepth 100000 in
theorem holding_exit (c : Value) (rr : Mon → Int) (mt : Mon → Mon) (st : Mon → (Int → Bool) → Int → Bool) (hx : I64 x) (hy : I64 y) (hn : n ≤ 900000) (h : Tb B w p n g S)
    (hdo : ∀ b w1, Turned [] w w1 → Foc B w1 p y b ((g y).getD Mon.zero) n g S → ((g y).getD Mon.zero).h = x → Calls Try.prog 27 #[.pointer (some ⟨b, 0, none⟩), c] w1 (DoneI B p n y b g (rr ((g y).getD Mon.zero)) (mt ((g y).getD Mon.zero)) (st ((g y).getD Mon.zero) S) w1)) :
    Calls Try.prog 19 #[.pointer (some ⟨p, 0, none⟩), .int .i64 x, .int .i64 y, .func (.func 27) #[] #[c]] w (LeftI B p n w (holdT g S x y rr mt st)) := by
  have hB := h.lo
  obtain ⟨u1, hu1⟩ : ∃ u1, u1 = w.heap.size := ⟨_, rfl⟩
  obtain ⟨u3, hu3⟩ : ∃ u3, u3 = u1 + 1 := ⟨_, rfl⟩
  obtain ⟨w1, hw1⟩ : ∃ w1, w1 = (w.alloc (.cells #[.int .i64 x] 3)).alloc (.cells #[.func (.func 27) #[] #[c]] 55) := ⟨_, rfl⟩
  have t1 : Turned [] w w1 := by rw [hw1]; exact ((Turned.refl _ _).alloc _).alloc _
  have r1 : w1.heap[u1]? = some (.cells #[.int .i64 x] 3) := by
    rw [hw1, hu1, Below.heap_alloc _ _ _ (by simp)]
    exact heap_alloc_new _ _
  have r3 : w1.heap[u3]? = some (.cells #[.func (.func 27) #[] #[c]] 55) := by
    have := heap_alloc_new (w.alloc (.cells #[.int .i64 x] 3)) (.cells #[.func (.func 27) #[] #[c]] 55)
    rw [show (w.alloc (.cells #[.int .i64 x] 3)).heap.size = w.heap.size + 1 by simp] at this
    rw [hw1, hu3, hu1]
    exact this
  have HA := hide (at_exit c u1 u3 rr mt st hx hy hn (h.turned t1) r1 r3 (fun b w2 t hF hm => hdo b w2 (t1.trans t) hF hm))
  have c1 : w1.cell? ⟨u1, 0, none⟩ = some (.int .i64 x) := by rw [cell_of_heap r1]; rfl
  have HB := hide (t1.bel hB (fun k hk => by cases hk))
  have hmf : ∀ (fn : Fn) (first cap : Array Value) (w : World), (Instr.makeFunc fn first cap).run Try.prog w = .ok (.func fn first cap) w := fun _ _ _ _ => rfl
  obtain ⟨o, ho⟩ : ∃ o, o = holdT g S x y rr mt st := ⟨_, rfl⟩
  rw [← ho] at HA ⊢
  clear h t1 r1 r3 ho hx hy hdo
  go_enter Try.func19, Try.ntmps19
  go_upto_region 1 with fail
  rw [← hu1, ← hu3, ← hw1]
  clear hu1 hu3 hw1
  go_wp2_with fail
  refine (HA.out).mono ?_
  rintro e w2 hl
  obtain ⟨⟨o1, o2⟩, o3⟩ := o
  have HL := hide (hl.from HB.out)
  obtain ⟨rfl, -, -⟩ := hl
  clear HA HB
  go_wp2_with fail
  go_ret2
  exact HL.out

set_option maxRecDepth 100000 in
theorem at_notify (c : Value) (u1 u3 : Nat) (rr : Mon → Int) (mt : Mon → Mon) (st : Mon → (Int → Bool) → Int → Bool) (hx : I64 x) (hy : I64 y) (hn : n ≤ 900000) (h : Tb B w p n g S) (hb1 : w.heap[u1]? = some (.cells #[.int .i64 x] 3)) (hb3 : w.heap[u3]? = some (.cells #[.func (.func 23) #[] #[c]] 55))
    (hdo : ∀ b w1, Turned [] w w1 → Foc B w1 p y b ((g y).getD Mon.zero) n g S → ((g y).getD Mon.zero).h = x → Calls Try.prog 23 #[.pointer (some ⟨b, 0, none⟩), c] w1 (DoneI B p n y b g (rr ((g y).getD Mon.zero)) (mt ((g y).getD Mon.zero)) (st ((g y).getD Mon.zero) S) w1)) :
    Calls Try.prog 32 #[.pointer (some ⟨p, 0, none⟩), .int .i64 x, .int .i64 y, .func (.func 33) #[] #[.pointer (some ⟨u1, 0, none⟩), .pointer (some ⟨u3, 0, none⟩)]] w (LeftI B p n w (holdT g S x y rr mt st)) := by
  obtain ⟨o, ho⟩ : ∃ o, o = holdT g S x y rr mt st := ⟨_, rfl⟩
  rw [← ho]
  unfold holdT at ho
  by_cases h0 : x ≤ 0
  · rw [if_pos (.inl h0)] at ho
    have HL : Hid (LeftI B p n w o (.returned (.tuple #[.int .i64 0, .int .i64 1])) w) := hide ⟨by rw [ho], by rw [ho]; exact h.mono (by omega), Bel.refl _ _⟩
    clear h hb1 hb3 ho hdo
    go_enter_defers Try.func32, Try.ntmps32
    go_wp2_with fail
    refine ⟨_, results_tmp2 rfl _ _ _, ?_⟩
    exact HL.out
  by_cases h1 : y = 0
  · subst h1
    rw [if_pos (.inr rfl)] at ho
    have HL : Hid (LeftI B p n w o (.returned (.tuple #[.int .i64 0, .int .i64 1])) w) := hide ⟨by rw [ho], by rw [ho]; exact h.mono (by omega), Bel.refl _ _⟩
    clear h hb1 hb3 ho hdo
    go_enter_defers Try.func32, Try.ntmps32
    go_wp2_with fail
    refine ⟨_, results_tmp2 rfl _ _ _, ?_⟩
    exact HL.out
  rw [if_neg (fun q => q.elim h0 h1)] at ho
  have HH := hide (held_any x hx h)
  have HT := hide h
  have hBs := h.lo
  by_cases h2 : S x = true
  · rw [if_pos h2] at ho
    rw [h2] at HH
    have HL : Hid (∀ w1, Turned [] w w1 → LeftI B p n w o (.returned (.tuple #[.int .i64 0, .int .i64 16])) w1) := hide (fun w1 t => ⟨by rw [ho], by rw [ho]; exact (HT.out.turned t).mono (by omega), t.bel hBs (fun k hk => by cases hk)⟩)
    clear h hb1 hb3 ho h2 hdo
    go_enter_defers Try.func32, Try.ntmps32
    go_wp2_with fail
    refine (HH.out).mono ?_
    rintro e w1 ⟨rfl, t1⟩
    have HL1 := hide (HL.out w1 t1)
    clear HL t1 HH
    go_wp2_with fail
    refine ⟨_, results_tmp2 rfl _ _ _, ?_⟩
    exact HL1.out
  · rw [if_neg h2] at ho
    rw [show S x = false by simpa using h2] at HH
    have HB1 := hide hb1
    have HB3 := hide hb3
    have HY := hide hy
    have HO := hide ho
    have HDo := hide hdo
    clear h hb1 hb3 ho h2 hx hy hdo
    go_enter_defers Try.func32, Try.ntmps32
    go_wp2_with fail
    refine (HH.out).mono ?_
    rintro e w1 ⟨rfl, t1⟩
    obtain ⟨mo, M, c0, hlk, hB1, hfoc⟩ := tb_foc (HT.out.turned t1) HY.out
    have HT1 := hide t1
    have HFc := hide hfoc
    have hlk' : (Instr.lookup 39 (.map mo) (.int .i64 y) false).run Try.prog w1 = .ok (.agg #[.int .i64 M.h, .int .i64 M.t, .slice M.q.addr M.q.len M.q.cap, .slice M.a.addr M.a.len M.a.cap]) w1 := hlk
    clear t1 HH hfoc hlk
    go_upto_region 6 with fail
    obtain ⟨b, hb⟩ : ∃ b, b = w1.heap.size := ⟨_, rfl⟩
    obtain ⟨w2, hw2⟩ : ∃ w2, w2 = w1.alloc (.cells #[.int .i64 M.h, .int .i64 M.t, .slice M.q.addr M.q.len M.q.cap, .slice M.a.addr M.a.len M.a.cap] 54) := ⟨_, rfl⟩
    have t2 : Turned [] w1 w2 := by rw [hw2]; exact (Turned.refl _ _).alloc _
    have HF2 := hide (HFc.out b w2 t2 (by rw [hw2, hb]; exact heap_alloc_new _ _) (by rw [hb]; exact hB1))
    have HT2 := hide (HT1.out.trans t2)
    have HE := hide (hold1_notify (r := rr ((g y).getD Mon.zero)) (m' := mt ((g y).getD Mon.zero)) (S' := st ((g y).getD Mon.zero) S) c u1 u3 HF2.out (HT2.out.at HB1.out (by simp)) (HT2.out.at HB3.out (by simp)) (fun k hk => HDo.out b (w2.drewN k) (HT2.out.drewN k) (HF2.out.turned ((Turned.refl [] w2).drewN k)) hk))
    rw [← hb, ← hw2]
    clear hb hw2 t2 HFc HF2 HB1 HB3 HT1 hlk' c0 hB1 HDo
    obtain ⟨m, hm⟩ : ∃ m, m = (g y).getD Mon.zero := ⟨_, rfl⟩
    rw [← hm] at HE HO
    obtain ⟨ri, hri⟩ : ∃ ri, ri = (if m.h = x then rr m else 0) := ⟨_, rfl⟩
    obtain ⟨ei, hei⟩ : ∃ ei : Int, ei = (if m.h = x then 0 else 16) := ⟨_, rfl⟩
    have HO2 : Hid (o = ((ri, ei), putM g y (if m.h = x then mt m else m), if m.h = x then st m S else S)) := hide (by
      rw [HO.out, hri, hei]
      by_cases q : m.h = x
      · simp only [if_pos q]
      · simp only [if_neg q])
    rw [← hri, ← hei] at HE
    clear hm hri hei HO HT
    go_wp2_with fail
    refine (HE.out).mono ?_
    rintro e w3 ⟨rfl, h3, hbel⟩
    have HF3 := hide h3
    have HBl := hide hbel
    clear h3 hbel HE
    go_wp2_with fail
    refine leaves_cons (f := 31) (args := #[.pointer (some ⟨p, 0, none⟩), .int .i64 y, .pointer (some ⟨b, 0, none⟩)]) (by simp) (by simp [go_sem]) ?_
    refine (keep_d .returning HY.out (by omega) HF3.out).mono ?_
    rintro e u' w4 ⟨rfl, rfl, h4, h5⟩
    refine ⟨_, results_tmp2 rfl _ _ _, ?_⟩
    refine ⟨?_, ?_, ((HT2.out.bel hBs (fun k hk => by cases hk)).trans HBl.out).trans h5⟩
    · rw [HO2.out]
      rfl
    · rw [HO2.out]
      exact h4
set_option maxRecDepth 100000 in
theorem holding_notify (c : Value) (rr : Mon → Int) (mt : Mon → Mon) (st : Mon → (Int → Bool) → Int → Bool) (hx : I64 x) (hy : I64 y) (hn : n ≤ 900000) (h : Tb B w p n g S)
    (hdo : ∀ b w1, Turned [] w w1 → Foc B w1 p y b ((g y).getD Mon.zero) n g S → ((g y).getD Mon.zero).h = x → Calls Try.prog 23 #[.pointer (some ⟨b, 0, none⟩), c] w1 (DoneI B p n y b g (rr ((g y).getD Mon.zero)) (mt ((g y).getD Mon.zero)) (st ((g y).getD Mon.zero) S) w1)) :
    Calls Try.prog 19 #[.pointer (some ⟨p, 0, none⟩), .int .i64 x, .int .i64 y, .func (.func 23) #[] #[c]] w (LeftI B p n w (holdT g S x y rr mt st)) := by
  have hB := h.lo
  obtain ⟨u1, hu1⟩ : ∃ u1, u1 = w.heap.size := ⟨_, rfl⟩
  obtain ⟨u3, hu3⟩ : ∃ u3, u3 = u1 + 1 := ⟨_, rfl⟩
  obtain ⟨w1, hw1⟩ : ∃ w1, w1 = (w.alloc (.cells #[.int .i64 x] 3)).alloc (.cells #[.func (.func 23) #[] #[c]] 55) := ⟨_, rfl⟩
  have t1 : Turned [] w w1 := by rw [hw1]; exact ((Turned.refl _ _).alloc _).alloc _
  have r1 : w1.heap[u1]? = some (.cells #[.int .i64 x] 3) := by
    rw [hw1, hu1, Below.heap_alloc _ _ _ (by simp)]
    exact heap_alloc_new _ _
  have r3 : w1.heap[u3]? = some (.cells #[.func (.func 23) #[] #[c]] 55) := by
    have := heap_alloc_new (w.alloc (.cells #[.int .i64 x] 3)) (.cells #[.func (.func 23) #[] #[c]] 55)
    rw [show (w.alloc (.cells #[.int .i64 x] 3)).heap.size = w.heap.size + 1 by simp] at this
    rw [hw1, hu3, hu1]
    exact this
  have HA := hide (at_notify c u1 u3 rr mt st hx hy hn (h.turned t1) r1 r3 (fun b w2 t hF hm => hdo b w2 (t1.trans t) hF hm))
  have c1 : w1.cell? ⟨u1, 0, none⟩ = some (.int .i64 x) := by rw [cell_of_heap r1]; rfl
  have HB := hide (t1.bel hB (fun k hk => by cases hk))
  have hmf : ∀ (fn : Fn) (first cap : Array Value) (w : World), (Instr.makeFunc fn first cap).run Try.prog w = .ok (.func fn first cap) w := fun _ _ _ _ => rfl
  obtain ⟨o, ho⟩ : ∃ o, o = holdT g S x y rr mt st := ⟨_, rfl⟩
  rw [← ho] at HA ⊢
  clear h t1 r1 r3 ho hx hy hdo
  go_enter Try.func19, Try.ntmps19
  go_upto_region 1 with fail
  rw [← hu1, ← hu3, ← hw1]
  clear hu1 hu3 hw1
  go_wp2_with fail
  refine (HA.out).mono ?_
  rintro e w2 hl
  obtain ⟨⟨o1, o2⟩, o3⟩ := o
  have HL := hide (hl.from HB.out)
  obtain ⟨rfl, -, -⟩ := hl
  clear HA HB
  go_wp2_with fail
  go_ret2
  exact HL.out

set_option maxRecDepth 100000 in
theorem at_wait (c d : Value) (u1 u3 : Nat) (rr : Mon → Int) (mt : Mon → Mon) (st : Mon → (Int → Bool) → Int → Bool) (hx : I64 x) (hy : I64 y) (hn : n ≤ 900000) (h : Tb B w p n g S) (hb1 : w.heap[u1]? = some (.cells #[.int .i64 x] 3)) (hb3 : w.heap[u3]? = some (.cells #[.func (.func 20) #[] #[c, d]] 55))
    (hdo : ∀ b w1, Turned [] w w1 → Foc B w1 p y b ((g y).getD Mon.zero) n g S → ((g y).getD Mon.zero).h = x → Calls Try.prog 20 #[.pointer (some ⟨b, 0, none⟩), c, d] w1 (DoneI B p n y b g (rr ((g y).getD Mon.zero)) (mt ((g y).getD Mon.zero)) (st ((g y).getD Mon.zero) S) w1)) :
    Calls Try.prog 32 #[.pointer (some ⟨p, 0, none⟩), .int .i64 x, .int .i64 y, .func (.func 33) #[] #[.pointer (some ⟨u1, 0, none⟩), .pointer (some ⟨u3, 0, none⟩)]] w (LeftI B p n w (holdT g S x y rr mt st)) := by
  obtain ⟨o, ho⟩ : ∃ o, o = holdT g S x y rr mt st := ⟨_, rfl⟩
  rw [← ho]
  unfold holdT at ho
  by_cases h0 : x ≤ 0
  · rw [if_pos (.inl h0)] at ho
    have HL : Hid (LeftI B p n w o (.returned (.tuple #[.int .i64 0, .int .i64 1])) w) := hide ⟨by rw [ho], by rw [ho]; exact h.mono (by omega), Bel.refl _ _⟩
    clear h hb1 hb3 ho hdo
    go_enter_defers Try.func32, Try.ntmps32
    go_wp2_with fail
    refine ⟨_, results_tmp2 rfl _ _ _, ?_⟩
    exact HL.out
  by_cases h1 : y = 0
  · subst h1
    rw [if_pos (.inr rfl)] at ho
    have HL : Hid (LeftI B p n w o (.returned (.tuple #[.int .i64 0, .int .i64 1])) w) := hide ⟨by rw [ho], by rw [ho]; exact h.mono (by omega), Bel.refl _ _⟩
    clear h hb1 hb3 ho hdo
    go_enter_defers Try.func32, Try.ntmps32
    go_wp2_with fail
    refine ⟨_, results_tmp2 rfl _ _ _, ?_⟩
    exact HL.out
  rw [if_neg (fun q => q.elim h0 h1)] at ho
  have HH := hide (held_any x hx h)
  have HT := hide h
  have hBs := h.lo
  by_cases h2 : S x = true
  · rw [if_pos h2] at ho
    rw [h2] at HH
    have HL : Hid (∀ w1, Turned [] w w1 → LeftI B p n w o (.returned (.tuple #[.int .i64 0, .int .i64 16])) w1) := hide (fun w1 t => ⟨by rw [ho], by rw [ho]; exact (HT.out.turned t).mono (by omega), t.bel hBs (fun k hk => by cases hk)⟩)
    clear h hb1 hb3 ho h2 hdo
    go_enter_defers Try.func32, Try.ntmps32
    go_wp2_with fail
    refine (HH.out).mono ?_
    rintro e w1 ⟨rfl, t1⟩
    have HL1 := hide (HL.out w1 t1)
    clear HL t1 HH
    go_wp2_with fail
    refine ⟨_, results_tmp2 rfl _ _ _, ?_⟩
    exact HL1.out
  · rw [if_neg h2] at ho
    rw [show S x = false by simpa using h2] at HH
    have HB1 := hide hb1
    have HB3 := hide hb3
    have HY := hide hy
    have HO := hide ho
    have HDo := hide hdo
    clear h hb1 hb3 ho h2 hx hy hdo
    go_enter_defers Try.func32, Try.ntmps32
    go_wp2_with fail
    refine (HH.out).mono ?_
    rintro e w1 ⟨rfl, t1⟩
    obtain ⟨mo, M, c0, hlk, hB1, hfoc⟩ := tb_foc (HT.out.turned t1) HY.out
    have HT1 := hide t1
    have HFc := hide hfoc
    have hlk' : (Instr.lookup 39 (.map mo) (.int .i64 y) false).run Try.prog w1 = .ok (.agg #[.int .i64 M.h, .int .i64 M.t, .slice M.q.addr M.q.len M.q.cap, .slice M.a.addr M.a.len M.a.cap]) w1 := hlk
    clear t1 HH hfoc hlk
    go_upto_region 6 with fail
    obtain ⟨b, hb⟩ : ∃ b, b = w1.heap.size := ⟨_, rfl⟩
    obtain ⟨w2, hw2⟩ : ∃ w2, w2 = w1.alloc (.cells #[.int .i64 M.h, .int .i64 M.t, .slice M.q.addr M.q.len M.q.cap, .slice M.a.addr M.a.len M.a.cap] 54) := ⟨_, rfl⟩
    have t2 : Turned [] w1 w2 := by rw [hw2]; exact (Turned.refl _ _).alloc _
    have HF2 := hide (HFc.out b w2 t2 (by rw [hw2, hb]; exact heap_alloc_new _ _) (by rw [hb]; exact hB1))
    have HT2 := hide (HT1.out.trans t2)
    have HE := hide (hold1_wait (r := rr ((g y).getD Mon.zero)) (m' := mt ((g y).getD Mon.zero)) (S' := st ((g y).getD Mon.zero) S) c d u1 u3 HF2.out (HT2.out.at HB1.out (by simp)) (HT2.out.at HB3.out (by simp)) (fun k hk => HDo.out b (w2.drewN k) (HT2.out.drewN k) (HF2.out.turned ((Turned.refl [] w2).drewN k)) hk))
    rw [← hb, ← hw2]
    clear hb hw2 t2 HFc HF2 HB1 HB3 HT1 hlk' c0 hB1 HDo
    obtain ⟨m, hm⟩ : ∃ m, m = (g y).getD Mon.zero := ⟨_, rfl⟩
    rw [← hm] at HE HO
    obtain ⟨ri, hri⟩ : ∃ ri, ri = (if m.h = x then rr m else 0) := ⟨_, rfl⟩
    obtain ⟨ei, hei⟩ : ∃ ei : Int, ei = (if m.h = x then 0 else 16) := ⟨_, rfl⟩
    have HO2 : Hid (o = ((ri, ei), putM g y (if m.h = x then mt m else m), if m.h = x then st m S else S)) := hide (by
      rw [HO.out, hri, hei]
      by_cases q : m.h = x
      · simp only [if_pos q]
      · simp only [if_neg q])
    rw [← hri, ← hei] at HE
    clear hm hri hei HO HT
    go_wp2_with fail
    refine (HE.out).mono ?_
    rintro e w3 ⟨rfl, h3, hbel⟩
    have HF3 := hide h3
    have HBl := hide hbel
    clear h3 hbel HE
    go_wp2_with fail
    refine leaves_cons (f := 31) (args := #[.pointer (some ⟨p, 0, none⟩), .int .i64 y, .pointer (some ⟨b, 0, none⟩)]) (by simp) (by simp [go_sem]) ?_
    refine (keep_d .returning HY.out (by omega) HF3.out).mono ?_
    rintro e u' w4 ⟨rfl, rfl, h4, h5⟩
    refine ⟨_, results_tmp2 rfl _ _ _, ?_⟩
    refine ⟨?_, ?_, ((HT2.out.bel hBs (fun k hk => by cases hk)).trans HBl.out).trans h5⟩
    · rw [HO2.out]
      rfl
    · rw [HO2.out]
      exact h4
set_option maxRecDepth 100000 in
theorem holding_wait (c d : Value) (rr : Mon → Int) (mt : Mon → Mon) (st : Mon → (Int → Bool) → Int → Bool) (hx : I64 x) (hy : I64 y) (hn : n ≤ 900000) (h : Tb B w p n g S)
    (hdo : ∀ b w1, Turned [] w w1 → Foc B w1 p y b ((g y).getD Mon.zero) n g S → ((g y).getD Mon.zero).h = x → Calls Try.prog 20 #[.pointer (some ⟨b, 0, none⟩), c, d] w1 (DoneI B p n y b g (rr ((g y).getD Mon.zero)) (mt ((g y).getD Mon.zero)) (st ((g y).getD Mon.zero) S) w1)) :
    Calls Try.prog 19 #[.pointer (some ⟨p, 0, none⟩), .int .i64 x, .int .i64 y, .func (.func 20) #[] #[c, d]] w (LeftI B p n w (holdT g S x y rr mt st)) := by
  have hB := h.lo
  obtain ⟨u1, hu1⟩ : ∃ u1, u1 = w.heap.size := ⟨_, rfl⟩
  obtain ⟨u3, hu3⟩ : ∃ u3, u3 = u1 + 1 := ⟨_, rfl⟩
  obtain ⟨w1, hw1⟩ : ∃ w1, w1 = (w.alloc (.cells #[.int .i64 x] 3)).alloc (.cells #[.func (.func 20) #[] #[c, d]] 55) := ⟨_, rfl⟩
  have t1 : Turned [] w w1 := by rw [hw1]; exact ((Turned.refl _ _).alloc _).alloc _
  have r1 : w1.heap[u1]? = some (.cells #[.int .i64 x] 3) := by
    rw [hw1, hu1, Below.heap_alloc _ _ _ (by simp)]
    exact heap_alloc_new _ _
  have r3 : w1.heap[u3]? = some (.cells #[.func (.func 20) #[] #[c, d]] 55) := by
    have := heap_alloc_new (w.alloc (.cells #[.int .i64 x] 3)) (.cells #[.func (.func 20) #[] #[c, d]] 55)
    rw [show (w.alloc (.cells #[.int .i64 x] 3)).heap.size = w.heap.size + 1 by simp] at this
    rw [hw1, hu3, hu1]
    exact this
  have HA := hide (at_wait c d u1 u3 rr mt st hx hy hn (h.turned t1) r1 r3 (fun b w2 t hF hm => hdo b w2 (t1.trans t) hF hm))
  have c1 : w1.cell? ⟨u1, 0, none⟩ = some (.int .i64 x) := by rw [cell_of_heap r1]; rfl
  have HB := hide (t1.bel hB (fun k hk => by cases hk))
  have hmf : ∀ (fn : Fn) (first cap : Array Value) (w : World), (Instr.makeFunc fn first cap).run Try.prog w = .ok (.func fn first cap) w := fun _ _ _ _ => rfl
  obtain ⟨o, ho⟩ : ∃ o, o = holdT g S x y rr mt st := ⟨_, rfl⟩
  rw [← ho] at HA ⊢
  clear h t1 r1 r3 ho hx hy hdo
  go_enter Try.func19, Try.ntmps19
  go_upto_region 1 with fail
  rw [← hu1, ← hu3, ← hw1]
  clear hu1 hu3 hw1
  go_wp2_with fail
  refine (HA.out).mono ?_
  rintro e w2 hl
  obtain ⟨⟨o1, o2⟩, o3⟩ := o
  have HL := hide (hl.from HB.out)
  obtain ⟨rfl, -, -⟩ := hl
  clear HA HB
  go_wp2_with fail
  go_ret2
  exact HL.out

end
end Go.Proofs.Ytlbcbphkgaoliab
