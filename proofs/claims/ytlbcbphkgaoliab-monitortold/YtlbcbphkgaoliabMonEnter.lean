/-
  Enter.
-/
import Derived.Test.YtlbcbphkgaoliabMonKeepD
namespace Go.Proofs.Ytlbcbphkgaoliab
open Go.RowKit
set_option linter.unusedVariables false
set_option linter.unusedSimpArgs false
/-- One comes to stand somewhere; one stands nowhere any more. -/
def addS (S : Int → Bool) (x : Int) : Int → Bool := fun z => if z = x then true else S z
def subS (S : Int → Bool) (x : Int) : Int → Bool := fun z => if z = x then false else S z
section
variable {B : Nat} {w w' : World} {b p n : Nat} {x y : Int} {m m' : Mon} {g : Int → Option Mon} {S : Int → Bool}
theorem Did.still {M : MV} (hM : Mo w b M m) (hd : Did w b M m' w') : Still b w w' := by
  obtain ⟨M', k1, k2, k3⟩ := hd
  exact k2.still hM.rp
theorem Still.cell {c : Array Value} {e : TypeId} {k : Nat} (t : Still b w w') (h : w.heap[k]? = some (.cells c e)) (hb : k ≠ b) (he : e ≠ 52) : w'.heap[k]? = some (.cells c e) :=
  t k _ h hb (fun c2 fr q => by injection q with _ q2; exact he q2)
theorem Foc.ne (h : Foc B w p x b m n g S) {c : Array Value} {e : TypeId} {k : Nat} (hk : w.heap[k]? = some (.cells c e)) (he : e ≠ 54) : k ≠ b := fun q => by
  obtain ⟨M, hM⟩ := h.mo
  rw [q, hM.row] at hk
  injection hk with hk
  injection hk with _ z
  exact he z.symm
set_option maxRecDepth 100000 in
theorem enter1_any (u1 u2 : Nat) (hx : I64 x) (hn : n ≤ 1000000) (h : Foc B w p y b m n g S) (hb1 : w.heap[u1]? = some (.cells #[.int .i64 x] 3)) (hb2 : w.heap[u2]? = some (.cells #[.pointer (some ⟨p, 0, none⟩)] 23)) (ht : -1 ≤ m.t ∧ m.t ≤ 1000000) (hl : m.q.length ≤ 900) :
    Calls Try.prog 16 #[.pointer (some ⟨b, 0, none⟩), .pointer (some ⟨u1, 0, none⟩), .pointer (some ⟨u2, 0, none⟩)] w fun e w' => e = .returned (.tuple #[.bool (decide (m.h = 0) || decide (m.h = x)), .int .i64 0]) ∧ Foc B w' p y b (enterM m x) (n + 1) g (if (decide (m.h = 0) || decide (m.h = x)) = true then S else addS S x) ∧ Bel B w w' := by
  obtain ⟨M, hM⟩ := h.mo
  have HE := hide (enter_any x hM ht hl)
  have HD := hide (fun w1 (hd : Did w b M (enterM m x) w1) => And.intro (h.did1 hM hd) (Did.still hM hd))
  have c1 : w.cell? ⟨u1, 0, none⟩ = some (.int .i64 x) := by rw [cell_of_heap hb1]; rfl
  have HB1 := hide hb1
  have HB2 := hide hb2
  have HN1 := hide (h.ne hb1 (by decide))
  have HN2 := hide (h.ne hb2 (by decide))
  have HX := hide hx
  generalize enterM m x = k at *
  generalize (decide (m.h = 0) || decide (m.h = x)) = r at *
  clear h hM hb1 hb2 ht hl hx
  go_enter Try.func16, Try.ntmps16
  go_wp2_with fail
  refine (HE.out).mono ?_
  rintro e w1 ⟨rfl, hd⟩
  obtain ⟨⟨h1, h2⟩, h3⟩ := HD.out w1 hd
  have d1 : w1.cell? ⟨u1, 0, none⟩ = some (.int .i64 x) := by rw [cell_of_heap (h3.cell HB1.out HN1.out (by decide))]; rfl
  have d2 : w1.cell? ⟨u2, 0, none⟩ = some (.pointer (some ⟨p, 0, none⟩)) := by rw [cell_of_heap (h3.cell HB2.out HN2.out (by decide))]; rfl
  have HF := hide h1
  have HBl := hide h2
  clear h1 h2 h3 hd HD HE c1 HB1 HB2 HN1 HN2
  cases r
  · have HSt := hide (stand_any x HX.out hn HF.out)
    go_wp2_with fail
    refine (HSt.out).mono ?_
    rintro e w2 ⟨rfl, h4, h5⟩
    have HR : Hid (Foc B w2 p y b k (n + 1) g (addS S x)) := hide h4
    have HR2 := hide (HBl.out.trans h5.1)
    clear h4 h5 HSt
    go_wp2_with fail
    go_ret2
    exact ⟨rfl, HR.out, HR2.out⟩
  · have HR : Hid (Foc B w1 p y b k (n + 1) g S) := hide (by
      obtain ⟨mo, so, f, N, q1, q2, q3, q4, q5⟩ := HF.out.ex
      exact ⟨mo, so, f, N, ⟨q1.row, q1.mm.mono (by omega), q1.nm.mono (by omega), q1.ne⟩, q2, q3, q4, q5⟩)
    go_wp2_with fail
    go_ret2
    exact ⟨rfl, HR.out, HBl.out⟩
theorem rp_zero (w : World) : Rp w MV.zero Mon.zero := ⟨rfl, rfl, qv_none w, qv_none w, fun b i h => by obtain ⟨off, h1, _⟩ := h; cases h1⟩
theorem inM_zero {k i : Nat} (h : InM MV.zero k i) : False := by
  rcases h with ⟨off, h1, _⟩ | ⟨off, h1, _⟩ <;> cases h1
/-- An object's monitor is taken into a variable. -/
theorem tb_foc (h : Tb B w p n g S) (hy : I64 y) : ∃ (mo : Option Nat) (M : MV), w.cell? ⟨p, 0, none⟩ = some (.map mo) ∧ (Instr.lookup 39 (.map mo) (.int .i64 y) false).run Try.prog w = .ok M.val w ∧ B ≤ w.heap.size ∧ ∀ b w', Turned [] w w' → w'.heap[b]? = some (.cells M.cells 54) → B ≤ b → Foc B w' p y b ((g y).getD Mon.zero) n g S := by
  obtain ⟨mo, so, f, h1, h2, h3, h4, h5⟩ := h.ex
  refine ⟨mo, (f y).getD MV.zero, by rw [cell_of_heap h1.row]; rfl, ?_, by have := lt_of_heap h1.row; omega, fun b w' t hr hb => ?_⟩
  · cases hmo : mo with
    | none =>
      subst hmo
      rw [show f y = none from h1.mm y]
      exact mm_look_nil w hy
    | some k =>
      subst hmo
      exact MM.look h1.mm hy
  · have nk : ∀ {N : MV} {k : Mon}, Rp w N k → Rp w' N k := fun hr => hr.keep (F := fun _ _ => False) (St.of t) (fun _ _ _ h => h)
    have hg := h2 y
    refine ⟨mo, so, f, (f y).getD MV.zero, h1.turned t, ⟨hr, ?_⟩, ⟨fun z hz => h2 z, fun z N k hz e1 e2 => nk (h3 z N k e1 e2), fun z u N K hz hu hzu e1 e2 => h4 z u N K hzu e1 e2, fun z N hz e1 k i g1 g2 => ?_⟩, ⟨h5.1, h5.2.1, h5.2.2.1, fun z N k i hz e1 hi => h5.2.2.2 z N k i e1 hi⟩, hb, fun k i hi => ?_⟩
    · cases hf : f y with
      | none =>
        rw [hf] at hg
        have : g y = none := by cases q : g y with
          | none => rfl
          | some v => rw [q] at hg; cases hg
        rw [this]
        exact rp_zero w'
      | some N =>
        rw [hf] at hg
        obtain ⟨k, hk⟩ := Option.isSome_iff_exists.1 hg.symm
        rw [hk]
        exact nk (h3 y N k hf hk)
    · cases hf : f y with
      | none => rw [hf] at g1; exact inM_zero g1
      | some K => rw [hf] at g1; exact h4 y z K N (fun e => hz e.symm) hf e1 k i g1 g2
    · cases hf : f y with
      | none => rw [hf] at hi; exact (inM_zero hi).elim
      | some K => rw [hf] at hi; exact h5.2.2.2 y K k i hf hi
theorem Tb.mono (h : Tb B w p n g S) {k : Nat} (hk : n ≤ k) : Tb B w p k g S := by
  obtain ⟨mo, so, f, h1, h2⟩ := h.ex
  exact ⟨mo, so, f, ⟨h1.row, h1.mm.mono hk, h1.nm.mono hk, h1.ne⟩, h2⟩
/-- What an object's monitor may be, that a call can be made at it. -/
def Fine (m : Mon) : Prop := (-1 ≤ m.t ∧ m.t ≤ 1000000) ∧ m.q.length + m.a.length ≤ 900
/-- Enter, without memory: what is told, the monitors, and who stands. -/
def enterT (g : Int → Option Mon) (S : Int → Bool) (x y : Int) : (Bool × Int) × (Int → Option Mon) × (Int → Bool) :=
  if x ≤ 0 ∨ y = 0 then ((false, 1), g, S)
  else if S x = true then ((false, 16), g, S)
  else
    let m := (g y).getD Mon.zero
    let r := decide (m.h = 0) || decide (m.h = x)
    ((r, 0), putM g y (enterM m x), if r = true then S else addS S x)
/-- What a call leaves. -/
def Left (B p n : Nat) (w : World) (o : (Bool × Int) × (Int → Option Mon) × (Int → Bool)) (e : Ending) (w' : World) : Prop := e = .returned (.tuple #[.bool o.1.1, .int .i64 o.1.2]) ∧ Tb B w' p (n + 2) o.2.1 o.2.2 ∧ Bel B w w'
set_option maxRecDepth 100000 in
theorem at_enter (u1 u2 : Nat) (hx : I64 x) (hy : I64 y) (hn : n ≤ 900000) (h : Tb B w p n g S) (hb1 : w.heap[u1]? = some (.cells #[.int .i64 x] 3)) (hb2 : w.heap[u2]? = some (.cells #[.pointer (some ⟨p, 0, none⟩)] 23)) (hf : Fine ((g y).getD Mon.zero)) :
    Calls Try.prog 15 #[.pointer (some ⟨p, 0, none⟩), .int .i64 x, .int .i64 y, .func (.func 16) #[] #[.pointer (some ⟨u1, 0, none⟩), .pointer (some ⟨u2, 0, none⟩)]] w (Left B p n w (enterT g S x y)) := by
  obtain ⟨o, ho⟩ : ∃ o, o = enterT g S x y := ⟨_, rfl⟩
  rw [← ho]
  unfold enterT at ho
  by_cases h0 : x ≤ 0
  · rw [if_pos (.inl h0)] at ho
    have HL : Hid (Left B p n w o (.returned (.tuple #[.bool false, .int .i64 1])) w) := hide ⟨by rw [ho], by rw [ho]; exact h.mono (by omega), Bel.refl _ _⟩
    clear h hb1 hb2 hf ho
    go_enter_defers Try.func15, Try.ntmps15
    go_wp2_with fail
    refine ⟨_, results_tmp2 rfl _ _ _, ?_⟩
    exact HL.out
  by_cases h1 : y = 0
  · subst h1
    rw [if_pos (.inr rfl)] at ho
    have HL : Hid (Left B p n w o (.returned (.tuple #[.bool false, .int .i64 1])) w) := hide ⟨by rw [ho], by rw [ho]; exact h.mono (by omega), Bel.refl _ _⟩
    clear h hb1 hb2 hf ho
    go_enter_defers Try.func15, Try.ntmps15
    go_wp2_with fail
    refine ⟨_, results_tmp2 rfl _ _ _, ?_⟩
    exact HL.out
  rw [if_neg (fun q => q.elim h0 h1)] at ho
  have HH := hide (held_any x hx h)
  have HT := hide h
  have hBs : B ≤ w.heap.size := by obtain ⟨mo, so, f, q1, _, _, _, q2, _⟩ := h.ex; have := lt_of_heap q1.row; omega
  by_cases h2 : S x = true
  · rw [if_pos h2] at ho
    rw [h2] at HH
    have HL : Hid (∀ w1, Turned [] w w1 → Left B p n w o (.returned (.tuple #[.bool false, .int .i64 16])) w1) := hide (fun w1 t => ⟨by rw [ho], by rw [ho]; exact (HT.out.turned t).mono (by omega), t.bel hBs (fun k hk => by cases hk)⟩)
    clear h hb1 hb2 hf ho h2
    go_enter_defers Try.func15, Try.ntmps15
    go_wp2_with fail
    refine (HH.out).mono ?_
    rintro e w1 ⟨rfl, t1⟩
    have HL1 := hide (HL.out w1 t1)
    clear HL t1 HH
    go_wp2_with fail
    refine ⟨_, results_tmp2 rfl _ _ _, ?_⟩
    exact HL1.out
  · rw [if_neg h2] at ho
    rw [show S x = false by simpa using h2] at HH
    have HB1 := hide hb1
    have HB2 := hide hb2
    have HY := hide hy
    have HX := hide hx
    have HFi := hide hf
    have HO := hide ho
    clear h hb1 hb2 hf ho h2 hx hy
    go_enter_defers Try.func15, Try.ntmps15
    go_wp2_with fail
    refine (HH.out).mono ?_
    rintro e w1 ⟨rfl, t1⟩
    obtain ⟨mo, M, c0, hlk, hB1, hfoc⟩ := tb_foc (HT.out.turned t1) HY.out
    have HT1 := hide t1
    have HFc := hide hfoc
    have hlk' : (Instr.lookup 39 (.map mo) (.int .i64 y) false).run Try.prog w1 = .ok (.agg #[.int .i64 M.h, .int .i64 M.t, .slice M.q.addr M.q.len M.q.cap, .slice M.a.addr M.a.len M.a.cap]) w1 := hlk
    clear t1 HH hfoc hlk
    go_upto_region 6 with fail
    obtain ⟨b, hb⟩ : ∃ b, b = w1.heap.size := ⟨_, rfl⟩
    obtain ⟨w2, hw2⟩ : ∃ w2, w2 = w1.alloc (.cells #[.int .i64 M.h, .int .i64 M.t, .slice M.q.addr M.q.len M.q.cap, .slice M.a.addr M.a.len M.a.cap] 54) := ⟨_, rfl⟩
    have t2 : Turned [] w1 w2 := by rw [hw2]; exact (Turned.refl _ _).alloc _
    have HF2 := hide (HFc.out b w2 t2 (by rw [hw2, hb]; exact heap_alloc_new _ _) (by rw [hb]; exact hB1))
    have HT2 := hide (HT1.out.trans t2)
    have HE := hide (enter1_any u1 u2 HX.out (by omega) HF2.out (HT2.out.at HB1.out (by simp)) (HT2.out.at HB2.out (by simp)) HFi.out.1 (by have := HFi.out.2; omega))
    rw [← hb, ← hw2]
    clear hb hw2 t2 HFc HF2 HB1 HB2 HT1 hlk' c0 hB1
    obtain ⟨m, hm⟩ : ∃ m, m = (g y).getD Mon.zero := ⟨_, rfl⟩
    rw [← hm] at HE HO
    obtain ⟨r, hr⟩ : ∃ r, r = (decide (m.h = 0) || decide (m.h = x)) := ⟨_, rfl⟩
    have HO2 : Hid (o = ((r, 0), putM g y (enterM m x), if r = true then S else addS S x)) := hide (by rw [hr]; exact HO.out)
    rw [← hr] at HE
    clear hm hr HO HFi HT
    go_wp2_with fail
    refine (HE.out).mono ?_
    rintro e w3 ⟨rfl, h3, hbel⟩
    have HF3 := hide h3
    have HBl := hide hbel
    clear h3 hbel HE
    go_wp2_with fail
    refine leaves_cons (f := 31) (args := #[.pointer (some ⟨p, 0, none⟩), .int .i64 y, .pointer (some ⟨b, 0, none⟩)]) (by simp) (by simp [go_sem]) ?_
    refine (keep_d .returning HY.out (by omega) HF3.out).mono ?_
    rintro e u' w4 ⟨rfl, rfl, h4, h5⟩
    refine ⟨_, results_tmp2 rfl _ _ _, ?_⟩
    refine ⟨?_, ?_, ((HT2.out.bel hBs (fun k hk => by cases hk)).trans HBl.out).trans h5⟩
    · rw [HO2.out]
      rfl
    · rw [HO2.out]
      exact h4
theorem Left.from {o : (Bool × Int) × (Int → Option Mon) × (Int → Bool)} {w1 : World} {e : Ending} (h : Left B p n w1 o e w') (t : Bel B w w1) : Left B p n w o e w' := ⟨h.1, h.2.1, t.trans h.2.2⟩
theorem Tb.lo (h : Tb B w p n g S) : B ≤ w.heap.size := by obtain ⟨mo, so, f, q1, _, _, _, q2, _⟩ := h.ex; have := lt_of_heap q1.row; omega
set_option maxRecDepth 100000 in
/-- Enter. -/
theorem enter_call (hx : I64 x) (hy : I64 y) (hn : n ≤ 900000) (h : Tb B w p n g S) (hf : Fine ((g y).getD Mon.zero)) :
    Calls Try.prog 7 #[.pointer (some ⟨p, 0, none⟩), .int .i64 x, .int .i64 y] w (Left B p n w (enterT g S x y)) := by
  have hB := h.lo
  obtain ⟨u2, hu2⟩ : ∃ u2, u2 = w.heap.size := ⟨_, rfl⟩
  obtain ⟨u1, hu1⟩ : ∃ u1, u1 = u2 + 1 := ⟨_, rfl⟩
  obtain ⟨w1, hw1⟩ : ∃ w1, w1 = (w.alloc (.cells #[.pointer (some ⟨p, 0, none⟩)] 23)).alloc (.cells #[.int .i64 x] 3) := ⟨_, rfl⟩
  have t1 : Turned [] w w1 := by rw [hw1]; exact ((Turned.refl _ _).alloc _).alloc _
  have r2 : w1.heap[u2]? = some (.cells #[.pointer (some ⟨p, 0, none⟩)] 23) := by
    rw [hw1, hu2, Below.heap_alloc _ _ _ (by simp)]
    exact heap_alloc_new _ _
  have r1 : w1.heap[u1]? = some (.cells #[.int .i64 x] 3) := by
    have := heap_alloc_new (w.alloc (.cells #[.pointer (some ⟨p, 0, none⟩)] 23)) (.cells #[.int .i64 x] 3)
    rw [show (w.alloc (.cells #[.pointer (some ⟨p, 0, none⟩)] 23)).heap.size = w.heap.size + 1 by simp] at this
    rw [hw1, hu1, hu2]
    exact this
  have HA := hide (at_enter u1 u2 hx hy hn (h.turned t1) r1 r2 hf)
  have c2 : w1.cell? ⟨u2, 0, none⟩ = some (.pointer (some ⟨p, 0, none⟩)) := by rw [cell_of_heap r2]; rfl
  have c1 : w1.cell? ⟨u1, 0, none⟩ = some (.int .i64 x) := by rw [cell_of_heap r1]; rfl
  have HB := hide (t1.bel hB (fun k hk => by cases hk))
  have hmf : ∀ (fn : Fn) (first cap : Array Value) (w : World), (Instr.makeFunc fn first cap).run Try.prog w = .ok (.func fn first cap) w := fun _ _ _ _ => rfl
  obtain ⟨o, ho⟩ : ∃ o, o = enterT g S x y := ⟨_, rfl⟩
  rw [← ho] at HA ⊢
  clear h hf t1 r1 r2 ho hx hy
  go_enter Try.func7, Try.ntmps7
  go_upto_region 1 with fail
  rw [← hu2, ← hu1, ← hw1]
  clear hu1 hu2 hw1
  go_wp2_with fail
  refine (HA.out).mono ?_
  rintro e w2 hl
  obtain ⟨⟨o1, o2⟩, o3⟩ := o
  have HL := hide (hl.from HB.out)
  obtain ⟨rfl, -, -⟩ := hl
  clear HA HB
  go_wp2_with fail
  go_ret2
  exact HL.out
end
end Go.Proofs.Ytlbcbphkgaoliab
