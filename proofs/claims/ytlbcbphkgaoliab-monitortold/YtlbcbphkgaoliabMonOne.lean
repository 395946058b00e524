/-
  One monitor in a variable ('Mo'): forsaken, enter, next, tell.
-/
import Derived.Test.YtlbcbphkgaoliabMonRow
namespace Go.Proofs.Ytlbcbphkgaoliab
open Go.RowKit
set_option linter.unusedVariables false
set_option linter.unusedSimpArgs false

/-- A monitor without memory. -/
structure Mon where
  h : Int
  t : Int
  q : List (Int × Int)
  a : List (Int × Int)
def Mon.zero : Mon := ⟨0, 0, [], []⟩
def Mon.gone (m : Mon) : Bool := decide (m.h = 0) && m.q.isEmpty && m.a.isEmpty
def enterM (m : Mon) (x : Int) : Mon := if m.h = 0 then { m with h := x, t := 1 } else if m.h = x then { m with t := m.t + 1 } else { m with q := m.q ++ [(x, 1)] }
def nextM (m : Mon) : Mon := match m.q with
  | [] => { m with h := 0, t := 0 }
  | p :: q => { m with h := p.1, t := p.2, q := q }
def tellM (m : Mon) (n : Nat) : Mon := { m with q := m.q ++ m.a.take n, a := m.a.drop n }
/-- A monitor's value says what it is. -/
structure Rp (w : World) (M : MV) (m : Mon) : Prop where
  h : M.h = m.h
  t : M.t = m.t
  q : Qv w M.q m.q
  a : Qv w M.a m.a
  sep : Sep M.q M.a
/-- A monitor in block b. -/
structure Mo (w : World) (b : Nat) (M : MV) (m : Mon) : Prop where
  row : w.heap[b]? = some (.cells M.cells 54)
  rp : Rp w M m
/-- What is a monitor's own. -/
def InM (M : MV) (b i : Nat) : Prop := InR M.q b i ∨ InR M.a b i
def FM (b : Nat) (M : MV) (k i : Nat) : Prop := k = b ∨ InM M k i
/-- What a call at a monitor leaves. -/
def Did (w : World) (b : Nat) (M : MV) (m' : Mon) (w' : World) : Prop := ∃ M', Mo w' b M' m' ∧ St (FM b M) w w' ∧ ∀ k i, InM M' k i → InM M k i ∨ w.heap.size ≤ k
section
variable {w w' : World} {b : Nat} {M : MV} {m : Mon}
theorem Mo.c (h : Mo w b M m) (i : Nat) : w.cell? ⟨b, i, none⟩ = M.cells[i]? := cell_of_heap h.row i
theorem Mo.fz (h : Mo w b M m) (i : Nat) : w.frozen? ⟨b, i, none⟩ = false := by simp [World.frozen?, h.row]
theorem Mo.notIn (h : Mo w b M m) (i : Nat) : ¬ InM M b i := fun g => by
  have hr := h.row
  rcases g with ⟨off, h1, h2, h3⟩ | ⟨off, h1, h2, h3⟩
  · obtain ⟨c, k1, _⟩ := h.rp.q.row b off h1 (by omega)
    rw [hr] at k1
    injection k1 with k1
    injection k1 with _ k2
    exact absurd k2 (by decide)
  · obtain ⟨c, k1, _⟩ := h.rp.a.row b off h1 (by omega)
    rw [hr] at k1
    injection k1 with k1
    injection k1 with _ k2
    exact absurd k2 (by decide)
theorem Rp.keep {F : Nat → Nat → Prop} (h : Rp w M m) (t : St F w w') (hn : ∀ k i, InM M k i → ¬ F k i) : Rp w' M m :=
  ⟨h.h, h.t, h.q.keep t (fun k i g => hn k i (.inl g)), h.a.keep t (fun k i g => hn k i (.inr g)), h.sep⟩
theorem Mo.turned (h : Mo w b M m) (t : Turned [] w w') : Mo w' b M m := ⟨t.at h.row (by simp), h.rp.keep (F := fun _ _ => False) (St.of t) (fun _ _ _ h => h)⟩
theorem Did.refl (h : Mo w b M m) : Did w b M m w := ⟨M, h, St.of (Turned.refl _ _), fun k i g => .inl g⟩
/-- A store into the monitor's variable. -/
theorem st_cell {c : Array Value} (h : w.heap[b]? = some (.cells c 54)) (i : Nat) (v : Value) : St (fun k _ => k = b) w (w.setCell ⟨b, i, none⟩ v) := by
  have t : Turned [b] w (w.setCell ⟨b, i, none⟩ v) := (Turned.refl _ _).setCell (by simp) v
  refine ⟨t.os, t.tape, t.output, t.size, fun k hk hn => t.block k hk (by simp; intro e; exact hn 0 e), fun k c2 hc => ⟨c2, t.at hc (by
    simp
    rintro rfl
    rw [h] at hc
    injection hc with hc
    injection hc with _ k2
    exact absurd k2 (by decide)), rfl, fun _ _ => rfl⟩⟩
theorem Mo.ne (h : Mo w b M m) {k i : Nat} (g : InM M k i) : ¬ k = b := fun e => h.notIn i (e ▸ g)
/-- Its holder, and how many times. -/
theorem did_ht (h : Mo w b M m) (x t : Int) : Did w b M { m with h := x, t := t } ((w.setCell ⟨b, 0, none⟩ (.int .i64 x)).setCell ⟨b, 1, none⟩ (.int .i64 t)) := by
  have r1 := heap_setCell_at _ _ 0 _ _ _ h.row (.int .i64 x)
  have t2 := (st_cell h.row 0 (.int .i64 x)).trans (st_cell r1 1 (.int .i64 t))
  exact ⟨⟨x, t, M.q, M.a⟩, ⟨heap_setCell_at _ _ 1 _ _ _ r1 (.int .i64 t), rfl, rfl, (h.rp.keep t2 (fun k i g => h.ne g)).q, (h.rp.keep t2 (fun k i g => h.ne g)).a, h.rp.sep⟩, t2.mono (fun k i g => .inl g), fun k i g => .inl g⟩
theorem did_t (h : Mo w b M m) (t : Int) : Did w b M { m with t := t } (w.setCell ⟨b, 1, none⟩ (.int .i64 t)) := by
  have t2 := st_cell h.row 1 (.int .i64 t)
  exact ⟨⟨M.h, t, M.q, M.a⟩, ⟨heap_setCell_at _ _ 1 _ _ _ h.row (.int .i64 t), h.rp.h, rfl, (h.rp.keep t2 (fun k i g => h.ne g)).q, (h.rp.keep t2 (fun k i g => h.ne g)).a, h.rp.sep⟩, t2.mono (fun k i g => .inl g), fun k i g => .inl g⟩
/-- Parties come to stand in its queue. -/
theorem did_q (h : Mo w b M m) {w1 w2 : World} (t1 : Turned [] w w1) {u : Sv} {l : List (Int × Int)} {v : Value} (hu : ∀ k i, InR u k i → w.heap.size ≤ k) (hj : Joined w1 M.q u m.q l v w2) : Did w b M { m with q := m.q ++ l } (w2.setCell ⟨b, 2, none⟩ v) := by
  obtain ⟨r, rfl, h1, h2, h3⟩ := hj
  have hw := t1.size
  have hb : w2.heap[b]? = some (.cells M.cells 54) := h2.at (t1.at h.row (by simp)) (fun i g => h.notIn i (.inl g))
  have ts := st_cell hb 2 r.val
  have hlt := lt_of_heap h.row
  have hr : ∀ k i, InR r k i → InR M.q k i ∨ w.heap.size ≤ k := fun k i g => by
    rcases h3 k i g with g | g | g
    · exact .inl g
    · exact .inr (hu k i g)
    · right; omega
  have hne : ∀ k i, InR r k i → ¬ k = b := fun k i g => by
    rcases hr k i g with g | g
    · exact h.ne (.inl g)
    · omega
  refine ⟨⟨M.h, M.t, r, M.a⟩, ⟨heap_setCell_at _ _ 2 _ _ _ hb r.val, h.rp.h, h.rp.t, h1.keep ts hne, ?_, fun k i g1 g2 => ?_⟩, ?_, fun k i g => ?_⟩
  · exact ((h.rp.a.turned t1).keep h2 (fun k i g1 g2 => h.rp.sep k i g2 g1)).keep ts (fun k i g => h.ne (.inr g))
  · rcases hr k i g1 with g | g
    · exact h.rp.sep k i g g2
    · have := h.rp.a.lt g2; omega
  · exact ((St.of t1).trans (h2.mono (fun k i g => .inr (.inl g)))).trans (ts.mono (fun k i g => .inl g))
  · rcases g with g | g
    · rcases hr k i g with g | g
      · exact .inl (.inl g)
      · exact .inr g
    · exact .inl (.inr g)
theorem forsaken_any (h : Mo w b M m) : Calls Try.prog 39 #[.pointer (some ⟨b, 0, none⟩)] w fun e w' => e = .returned (.bool m.gone) ∧ w' = w := by
  have c0 : w.cell? ⟨b, 0, none⟩ = some (.int .i64 m.h) := by rw [h.c]; show some (Value.int .i64 M.h) = _; rw [h.rp.h]
  rcases hq : M.q with ⟨qa, ql, qc⟩
  rcases ha : M.a with ⟨aa, al, ac⟩
  have c2 : w.cell? ⟨b, 2, none⟩ = some (.slice (Sv.addr ⟨qa, ql, qc⟩) ql qc) := by rw [h.c]; show some M.q.val = _; rw [hq]; rfl
  have c3 : w.cell? ⟨b, 3, none⟩ = some (.slice (Sv.addr ⟨aa, al, ac⟩) al ac) := by rw [h.c]; show some M.a.val = _; rw [ha]; rfl
  have e1 : m.q.length = ql := by have := h.rp.q.len; rw [hq] at this; exact this
  have e2 : m.a.length = al := by have := h.rp.a.len; rw [ha] at this; exact this
  have hg : m.gone = (decide (m.h = 0) && decide (ql = 0) && decide (al = 0)) := by
    unfold Mon.gone
    rw [← e1, ← e2]
    cases m.q <;> cases m.a <;> simp
  rw [hg]
  generalize Sv.addr ⟨qa, ql, qc⟩ = va at *
  generalize Sv.addr ⟨aa, al, ac⟩ = vb at *
  generalize m.h = mh at *
  clear h hg e1 e2 hq ha
  by_cases h0 : mh = 0
  · subst h0
    by_cases h1 : ql = 0
    · subst h1
      by_cases h2 : al = 0
      · subst h2
        go_enter Try.func39, Try.ntmps39
        go_wp2_with fail
        go_ret
        exact ⟨rfl, rfl⟩
      · have h2i : ¬ (al : Int) = 0 := by omega
        go_enter Try.func39, Try.ntmps39
        go_wp2_with fail
        go_ret
        exact ⟨by simp [h2], rfl⟩
    · have h1i : ¬ (ql : Int) = 0 := by omega
      go_enter Try.func39, Try.ntmps39
      go_wp2_with fail
      go_ret
      exact ⟨by simp [h1], rfl⟩
  · go_enter Try.func39, Try.ntmps39
    go_wp2_with fail
    go_ret
    exact ⟨by simp [h0], rfl⟩
theorem enter_any (x : Int) (h : Mo w b M m) (ht : -1 ≤ m.t ∧ m.t ≤ 1000000) (hl : m.q.length ≤ 900) :
    Calls Try.prog 17 #[.pointer (some ⟨b, 0, none⟩), .int .i64 x] w fun e w' => e = .returned (.bool (decide (m.h = 0) || decide (m.h = x))) ∧ Did w b M (enterM m x) w' := by
  have c0 : w.cell? ⟨b, 0, none⟩ = some (.int .i64 m.h) := by rw [h.c]; show some (Value.int .i64 M.h) = _; rw [h.rp.h]
  have c1 : w.cell? ⟨b, 1, none⟩ = some (.int .i64 m.t) := by rw [h.c]; show some (Value.int .i64 M.t) = _; rw [h.rp.t]
  have c2 : w.cell? ⟨b, 2, none⟩ = some M.q.val := by rw [h.c]; rfl
  have f0 := h.fz 0
  have f1 := h.fz 1
  have f2 := h.fz 2
  have HM := hide h
  by_cases h0 : m.h = 0
  · have e0 : enterM m x = { m with h := x, t := 1 } := by unfold enterM; rw [if_pos h0]
    rw [e0]
    rw [h0] at c0 ⊢
    clear h
    go_enter Try.func17, Try.ntmps17
    go_wp2_with fail
    go_ret
    exact ⟨by simp, did_ht HM.out x 1⟩
  · by_cases h1 : m.h = x
    · have e0 : enterM m x = { m with t := m.t + 1 } := by unfold enterM; rw [if_neg h0, if_pos h1]
      rw [e0]
      have HD := hide (did_t HM.out (m.t + 1))
      rw [h1] at c0 h0 HD ⊢
      generalize m.t = mt at *
      clear h h1 e0
      go_enter Try.func17, Try.ntmps17
      go_wp2_with fail
      go_ret
      exact ⟨by simp, HD.out⟩
    · have e0 : enterM m x = { m with q := m.q ++ [(x, 1)] } := by unfold enterM; rw [if_neg h0, if_neg h1]
      rw [e0]
      obtain ⟨w1, hw1⟩ : ∃ w1, w1 = w.alloc (.cells #[.int .i64 x, .int .i64 1] 52) := ⟨_, rfl⟩
      obtain ⟨u, hu⟩ : ∃ u, u = w.heap.size := ⟨_, rfl⟩
      have t1 : Turned [] w w1 := by rw [hw1]; exact (Turned.refl _ _).alloc _
      have hQ : Qv w1 ⟨some (u, 0), 1, 1⟩ [(x, 1)] := by
        refine ⟨rfl, Nat.le_refl _, (fun e => by cases e), fun b' off hb hc => ?_⟩
        cases hb
        refine ⟨_, by rw [hw1, hu]; exact heap_alloc_new _ _, Nat.le_refl _, fun j v hj => ?_⟩
        rw [Nat.zero_add]
        match j, hj with
        | 0, hj => simpa [pcells] using hj
        | 1, hj => simpa [pcells] using hj
      have HJ := hide (join_any M.q ⟨some (u, 0), 1, 1⟩ m.q [(x, 1)] w1 (HM.out.rp.q.turned t1) hQ (by simp) (by simp; omega))
      have HD : Hid (∀ v w2, Joined w1 M.q ⟨some (u, 0), 1, 1⟩ m.q [(x, 1)] v w2 → Did w b M { m with q := m.q ++ [(x, 1)] } (w2.setCell ⟨b, 2, none⟩ v) ∧ w2.frozen? ⟨b, 2, none⟩ = false ∧ (∃ v0, w2.cell? ⟨b, 2, none⟩ = some v0) ∧ ∃ (ra : Option Addr) (rl rc : Nat), v = .slice ra rl rc) := hide (fun v w2 hj => by
        have h5 := did_q HM.out t1 (fun k i g => by obtain ⟨off, g1, _⟩ := g; cases g1; omega) hj
        obtain ⟨r, hrv, _, k2, _⟩ := hj
        have hb : w2.heap[b]? = some (.cells M.cells 54) := k2.at (t1.at HM.out.row (by simp)) (fun i g => HM.out.notIn i (.inl g))
        exact ⟨h5, by simp [World.frozen?, hb], ⟨_, by rw [cell_of_heap hb]; rfl⟩, _, _, _, hrv⟩)
      have hbs : ∀ w : World, (Instr.buildSlice 49 1 #[(0, .agg #[.int .i64 x, .int .i64 1])]).run Try.prog w = .ok (.slice (some ⟨w.heap.size, 0, none⟩) 1 1) (w.alloc (.cells #[.int .i64 x, .int .i64 1] 52)) := fun w => by kernel_rfl
      generalize m.h = mh at *
      have hor : (decide (mh = 0) || decide (mh = x)) = false := by simp [h0, h1]
      rw [hor]
      clear h e0 t1 hQ hor
      go_enter Try.func17, Try.ntmps17
      go_wp2_with fail
      rw [← hw1, ← hu]
      clear hw1 hu hbs
      refine (HJ.out).mono ?_
      rintro e w2 ⟨v, rfl, hj⟩
      obtain ⟨h5, h6, ⟨v0, h7⟩, ra, rl, rc, rfl⟩ := HD.out v w2 hj
      have HF := hide h5
      clear h5 hj HD HJ HM c0 c1 c2 f0 f1 f2
      go_wp2_with fail
      go_ret
      exact ⟨rfl, HF.out⟩
/-- Only the monitor's variable was written. -/
theorem did_set (h : Mo w b M m) {w1 : World} {M' : MV} {m' : Mon} (t1 : Turned [b] w w1) (hrow : w1.heap[b]? = some (.cells M'.cells 54)) (hh : M'.h = m'.h) (ht : M'.t = m'.t) (hq : Qv w M'.q m'.q) (ha : Qv w M'.a m'.a) (hs : Sep M'.q M'.a) (hr : ∀ k i, InM M' k i → InM M k i) : Did w b M m' w1 := by
  have ts : St (fun k _ => k = b) w w1 := ⟨t1.os, t1.tape, t1.output, t1.size, fun k hk hn => t1.block k hk (by simp; intro e; exact hn 0 e), fun k c2 hc => ⟨c2, t1.at hc (by
    simp
    rintro rfl
    rw [h.row] at hc
    injection hc with hc
    injection hc with _ k2
    exact absurd k2 (by decide)), rfl, fun _ _ => rfl⟩⟩
  exact ⟨M', ⟨hrow, hh, ht, hq.keep ts (fun k i g => h.ne (hr k i (.inl g))), ha.keep ts (fun k i g => h.ne (hr k i (.inr g))), hs⟩, ts.mono (fun k i g => .inl g), fun k i g => .inl (hr k i g)⟩
theorem heap_drewN (w : World) (n b : Nat) : (w.drewN n).heap[b]? = w.heap[b]? := rfl
theorem next_any (h : Mo w b M m) : Calls Try.prog 34 #[.pointer (some ⟨b, 0, none⟩)] w fun e w' => e = .returned (.int .i64 (nextM m).h) ∧ Did w b M (nextM m) w' := by
  have c0 : w.cell? ⟨b, 0, none⟩ = some (.int .i64 m.h) := by rw [h.c]; show some (Value.int .i64 M.h) = _; rw [h.rp.h]
  have c1 : w.cell? ⟨b, 1, none⟩ = some (.int .i64 m.t) := by rw [h.c]; show some (Value.int .i64 M.t) = _; rw [h.rp.t]
  have c2 : w.cell? ⟨b, 2, none⟩ = some (.slice M.q.addr M.q.len M.q.cap) := by rw [h.c]; rfl
  have f0 := h.fz 0
  have f1 := h.fz 1
  have f2 := h.fz 2
  have hlen := h.rp.q.len
  have HM := hide h
  have t01 : Turned [b] w ((w.setCell ⟨b, 0, none⟩ (.int .i64 0)).setCell ⟨b, 1, none⟩ (.int .i64 0)) := ((Turned.refl _ _).setCell (p := ⟨b, 0, none⟩) (by simp) _).setCell (p := ⟨b, 1, none⟩) (by simp) _
  have r1 := heap_setCell_at _ _ 0 _ _ _ h.row (.int .i64 0)
  have r2 := heap_setCell_at _ _ 1 _ _ _ r1 (.int .i64 0)
  cases hq : m.q with
  | nil =>
    have e0 : nextM m = { m with h := 0, t := 0 } := by unfold nextM; rw [hq]
    rw [e0]
    have HD := hide (did_ht HM.out 0 0)
    have hl0 : M.q.len = 0 := by rw [hq] at hlen; simpa using hlen.symm
    rw [hl0] at c2
    generalize M.q.addr = qa at *
    generalize M.q.cap = qc at *
    clear h r1 r2 t01 hlen hl0 e0
    go_enter Try.func34, Try.ntmps34
    go_wp2_with fail
    go_ret
    exact ⟨rfl, HD.out⟩
  | cons p ps =>
    obtain ⟨p1, p2⟩ := p
    have e0 : nextM m = { m with h := p1, t := p2, q := ps } := by unfold nextM; rw [hq]
    rw [e0]
    have hl : M.q.len = ps.length + 1 := by rw [hq] at hlen; simpa using hlen.symm
    have hpos : (0 : Int) < (M.q.len : Int) := by omega
    have hroom := h.rp.q.room
    obtain ⟨qb, off, hat, hqc⟩ : ∃ qb off, M.q.at_ = some (qb, off) ∧ ∀ w', Turned [b] w w' → w'.cell? ⟨qb, off, none⟩ = some (.int .i64 p1) ∧ w'.cell? ⟨qb, off + 1, none⟩ = some (.int .i64 p2) := by
      cases ha : M.q.at_ with
      | none => have := h.rp.q.nil ha; omega
      | some z =>
        obtain ⟨qb, off⟩ := z
        obtain ⟨c, k1, k2, k3⟩ := h.rp.q.row qb off ha (by omega)
        have hne : qb ≠ b := fun e => h.ne (k := qb) (i := off) (.inl ⟨off, ha, Nat.le_refl _, by omega⟩) e
        refine ⟨qb, off, rfl, fun w' t => ?_⟩
        rw [t.cell (p := ⟨qb, off, none⟩) (lt_of_heap k1) (by simpa using hne), t.cell (p := ⟨qb, off + 1, none⟩) (lt_of_heap k1) (by simpa using hne), cell_of_heap k1, cell_of_heap k1]
        rw [hq] at k3
        exact ⟨k3 0 _ rfl, k3 1 _ rfl⟩
    obtain ⟨w1, hw1⟩ : ∃ w1, w1 = (w.setCell ⟨b, 0, none⟩ (.int .i64 0)).setCell ⟨b, 1, none⟩ (.int .i64 0) := ⟨_, rfl⟩
    rw [← hw1] at t01 r2
    have HCt := hide (cut_any M.q 1 w1 (by omega) hroom)
    have HR : Hid (∀ n : Nat, w1.cell? ⟨b, 2, none⟩ = some (.slice M.q.addr M.q.len M.q.cap) ∧ ((w1.drewN n).cell? ⟨qb, off, none⟩ = some (.int .i64 p1) ∧ (w1.drewN n).cell? ⟨qb, off + 1, none⟩ = some (.int .i64 p2)) ∧ ((w1.drewN n).frozen? ⟨b, 0, none⟩ = false ∧ (w1.drewN n).frozen? ⟨b, 1, none⟩ = false ∧ (w1.drewN n).frozen? ⟨b, 2, none⟩ = false) ∧ (w1.drewN n).cell? ⟨b, 0, none⟩ = some (.int .i64 0) ∧ (w1.drewN n).cell? ⟨b, 1, none⟩ = some (.int .i64 0) ∧ (w1.drewN n).cell? ⟨b, 2, none⟩ = some (.slice M.q.addr M.q.len M.q.cap) ∧ Did w b M { m with h := p1, t := p2, q := ps } ((((w1.drewN n).setCell ⟨b, 0, none⟩ (.int .i64 p1)).setCell ⟨b, 1, none⟩ (.int .i64 p2)).setCell ⟨b, 2, none⟩ (M.q.rst 1).val)) := hide (fun n => by
      have r2' : (w1.drewN n).heap[b]? = _ := r2
      have fz : ∀ i, (w1.drewN n).frozen? ⟨b, i, none⟩ = false := fun i => by simp [World.frozen?, r2]
      have r3 := heap_setCell_at _ _ 0 _ _ _ r2' (.int .i64 p1)
      have r4 := heap_setCell_at _ _ 1 _ _ _ r3 (.int .i64 p2)
      have r5 := heap_setCell_at _ _ 2 _ _ _ r4 (M.q.rst 1).val
      refine ⟨by rw [cell_of_heap r2]; rfl, hqc _ (t01.drewN n), ⟨fz 0, fz 1, fz 2⟩, by rw [cell_of_heap r2']; rfl, by rw [cell_of_heap r2']; rfl, by rw [cell_of_heap r2']; rfl, did_set (M' := ⟨p1, p2, M.q.rst 1, M.a⟩) h ((((t01.drewN n).setCell (p := ⟨b, 0, none⟩) (by simp) _).setCell (p := ⟨b, 1, none⟩) (by simp) _).setCell (p := ⟨b, 2, none⟩) (by simp) _) r5 rfl rfl ?_ h.rp.a (fun k i g1 g2 => h.rp.sep k i (inR_rst (by omega) g1).1 g2) (fun k i g => ?_)⟩
      · have := h.rp.q.rst (n := 1) (by omega)
        rw [hq] at this
        exact this
      · rcases g with g | g
        · exact .inl (inR_rst (by omega) g).1
        · exact .inr g)
    have hfa : (M.q.fst 1).val = .slice (some ⟨qb, off, none⟩) 1 1 := by unfold Sv.fst Sv.val Sv.addr; rw [hat]; rfl
    have hra : ∃ ra rl rc, (M.q.rst 1).val = .slice ra rl rc := ⟨_, _, _, rfl⟩
    obtain ⟨ra, rl, rc, hra⟩ := hra
    rw [hfa, hra, show ((1 : Nat) : Int) = 1 from rfl] at HCt
    rw [hra] at HR
    have hval : M.q.val = .slice M.q.addr M.q.len M.q.cap := rfl
    rw [hval] at HCt
    generalize M.q.addr = qa at *
    generalize M.q.len = ql at *
    generalize M.q.cap = qc at *
    clear h hqc r1 r2 t01 hlen hl hroom hfa hra hval hat e0
    go_enter Try.func34, Try.ntmps34
    have c2' := (HR.out 0).1
    go_wp2_with fail
    rw [← hw1]
    clear hw1 c0 c1 c2 f0 f1 f2
    refine (HCt.out).mono ?_
    rintro e w2 ⟨rfl, n, hw2⟩
    obtain ⟨-, ⟨g1, g2⟩, ⟨g3, g4, g5⟩, g6, g7, g8, g9⟩ := HR.out n
    rw [← hw2] at g1 g2 g3 g4 g5 g6 g7 g8 g9
    have HD := hide g9
    clear g9 hw2 HR HCt c2'
    go_wp2_with fail
    go_ret
    exact ⟨rfl, HD.out⟩
theorem did_tell (h : Mo w b M m) (n : Nat) (hn : n ≤ M.a.len) {w1 w2 : World} (t1 : Turned [] w w1) {v : Value} (hj : Joined w1 M.q (M.a.fst n) m.q (m.a.take n) v w2) : Did w b M (tellM m n) ((w2.setCell ⟨b, 2, none⟩ v).setCell ⟨b, 3, none⟩ (M.a.rst n).val) := by
  obtain ⟨r, rfl, h1, h2, h3⟩ := hj
  have hw := t1.size
  have hac := h.rp.a.room
  have hb : w2.heap[b]? = some (.cells M.cells 54) := h2.at (t1.at h.row (by simp)) (fun i g => h.notIn i (.inl g))
  have hb2 := heap_setCell_at _ _ 2 _ _ _ hb r.val
  have ts := (st_cell hb 2 r.val).trans (st_cell hb2 3 (M.a.rst n).val)
  have hlt := lt_of_heap h.row
  have hr : ∀ k i, InR r k i → InM M k i ∨ w.heap.size ≤ k := fun k i g => by
    rcases h3 k i g with g | g | g
    · exact .inl (.inl g)
    · exact .inl (.inr (inR_fst (by omega) g))
    · right; omega
  have hne : ∀ k i, InR r k i → ¬ k = b := fun k i g => by
    rcases hr k i g with g | g
    · exact h.ne g
    · omega
  have hrst : Qv w2 (M.a.rst n) (m.a.drop n) := ((h.rp.a.rst hn).turned t1).keep h2 (fun k i g1 g2 => h.rp.sep k i g2 (inR_rst (by omega) g1).1)
  refine ⟨⟨M.h, M.t, r, M.a.rst n⟩, ⟨heap_setCell_at _ _ 3 _ _ _ hb2 (M.a.rst n).val, h.rp.h, h.rp.t, h1.keep ts hne, hrst.keep ts (fun k i g => h.ne (.inr (inR_rst (by omega) g).1)), fun k i g1 g2 => ?_⟩, ?_, fun k i g => ?_⟩
  · have g3 := (inR_rst (by omega) g2).1
    rcases h3 k i g1 with g | g | g
    · exact h.rp.sep k i g g3
    · exact sep_cut M.a (by omega) k i g g2
    · have := h.rp.a.lt g3; omega
  · exact ((St.of t1).trans (h2.mono (fun k i g => .inr (.inl g)))).trans (ts.mono (fun k i g => .inl g))
  · rcases g with g | g
    · exact hr k i g
    · exact .inl (.inr (inR_rst (by omega) g).1)
theorem tell_any (h : Mo w b M m) (n : Nat) (hn : n ≤ m.a.length) (hl : m.q.length + m.a.length ≤ 1000) : Calls Try.prog 24 #[.pointer (some ⟨b, 0, none⟩), .int .i64 (n : Int)] w fun e w' => e = .returned (.tuple #[]) ∧ Did w b M (tellM m n) w' := by
  have hna : n ≤ M.a.len := by rw [← h.rp.a.len]; exact hn
  have c3 : w.cell? ⟨b, 3, none⟩ = some M.a.val := by rw [h.c]; rfl
  have HM := hide h
  have HCt := hide (cut_any M.a n w hna h.rp.a.room)
  have HJ := hide (fun (k : Nat) => join_all M.q (M.a.fst n) m.q (m.a.take n) (w.drewN k) (h.rp.q.turned ((Turned.refl _ _).drewN k)) ((h.rp.a.fst hna).turned ((Turned.refl _ _).drewN k)) (by rw [List.length_take]; omega))
  have HK : Hid (∀ k : Nat, (w.drewN k).cell? ⟨b, 2, none⟩ = some M.q.val ∧ ∀ v w2, Joined (w.drewN k) M.q (M.a.fst n) m.q (m.a.take n) v w2 → (∃ (ra : Option Addr) (rl rc : Nat), v = .slice ra rl rc) ∧ (∃ v0 v1, w2.cell? ⟨b, 2, none⟩ = some v0 ∧ w2.cell? ⟨b, 3, none⟩ = some v1) ∧ (w2.frozen? ⟨b, 2, none⟩ = false ∧ w2.frozen? ⟨b, 3, none⟩ = false) ∧ Did w b M (tellM m n) ((w2.setCell ⟨b, 2, none⟩ v).setCell ⟨b, 3, none⟩ (M.a.rst n).val)) := hide (fun k => by
    refine ⟨by have := HM.out.c 2; exact this, fun v w2 hj => ?_⟩
    have hd := did_tell HM.out n hna ((Turned.refl _ _).drewN k) hj
    obtain ⟨r, hv, _, h2, _⟩ := hj
    have hb : w2.heap[b]? = some (.cells M.cells 54) := h2.at HM.out.row (fun i g => HM.out.notIn i (.inl g))
    exact ⟨⟨_, _, _, hv⟩, ⟨_, _, by rw [cell_of_heap hb]; rfl, by rw [cell_of_heap hb]; rfl⟩, ⟨by simp [World.frozen?, hb], by simp [World.frozen?, hb]⟩, hd⟩)
  obtain ⟨ra, rl, rc, hra⟩ : ∃ ra rl rc, (M.a.rst n).val = .slice ra rl rc := ⟨_, _, _, rfl⟩
  rw [hra] at HCt HK
  clear h hn hl hna hra HM
  go_enter Try.func24, Try.ntmps24
  go_wp2_with fail
  refine (HCt.out).mono ?_
  rintro e w1 ⟨rfl, k, hw1⟩
  have c2 := (HK.out k).1
  have HJ2 := hide (HJ.out k)
  have HK2 := hide (HK.out k).2
  rw [← hw1] at c2 HJ2 HK2
  clear hw1 HJ HK HCt c3
  go_wp2_with fail
  refine (HJ2.out).mono ?_
  rintro e w2 ⟨v, rfl, hj⟩
  obtain ⟨⟨va, vl, vc, rfl⟩, ⟨v0, v1, g1, g2⟩, ⟨g3, g4⟩, g5⟩ := HK2.out v w2 hj
  have HD := hide g5
  clear g5 hj HK2 HJ2 c2
  go_wp2_with fail
  first | refine bodyPost_end (results_none rfl _ _ _) rfl ?_ | refine bodyPost_ret (results_none rfl _ _ _) rfl ?_
  exact ⟨rfl, HD.out⟩
end
end Go.Proofs.Ytlbcbphkgaoliab
