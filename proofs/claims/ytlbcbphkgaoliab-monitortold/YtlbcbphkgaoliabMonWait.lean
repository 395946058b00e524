/-
  Wait.
-/
import Derived.Test.YtlbcbphkgaoliabMonExit
import Derived.Deep.RegionHeld3
namespace Go.Proofs.Ytlbcbphkgaoliab
open Go.RowKit
set_option linter.unusedVariables false
set_option linter.unusedSimpArgs false
/-- Its holder stands aside. -/
def asideM (m : Mon) : Mon := { m with a := m.a ++ [(m.h, m.t)] }
def waitM (m : Mon) : Mon := nextM (asideM m)
def waitS (x : Int) (m : Mon) (S : Int → Bool) : Int → Bool := subS (addS S x) (waitM m).h
section
variable {B : Nat} {w w' : World} {b p n : Nat} {x y : Int} {M : MV} {m m' : Mon} {g : Int → Option Mon} {S S' : Int → Bool} {r : Int}
theorem did_a (h : Mo w b M m) {w1 w2 : World} (t1 : Turned [] w w1) {u : Sv} {l : List (Int × Int)} {v : Value} (hu : ∀ k i, InR u k i → w.heap.size ≤ k) (hj : Joined w1 M.a u m.a l v w2) : Did w b M { m with a := m.a ++ l } (w2.setCell ⟨b, 3, none⟩ v) := by
  obtain ⟨r, rfl, h1, h2, h3⟩ := hj
  have hw := t1.size
  have hb : w2.heap[b]? = some (.cells M.cells 54) := h2.at (t1.at h.row (by simp)) (fun i g => h.notIn i (.inr g))
  have ts := st_cell hb 3 r.val
  have hlt := lt_of_heap h.row
  have hr : ∀ k i, InR r k i → InR M.a k i ∨ w.heap.size ≤ k := fun k i g => by
    rcases h3 k i g with g | g | g
    · exact .inl g
    · exact .inr (hu k i g)
    · right; omega
  have hne : ∀ k i, InR r k i → ¬ k = b := fun k i g => by
    rcases hr k i g with g | g
    · exact h.ne (.inr g)
    · omega
  refine ⟨⟨M.h, M.t, M.q, r⟩, ⟨heap_setCell_at _ _ 3 _ _ _ hb r.val, h.rp.h, h.rp.t, ?_, h1.keep ts hne, fun k i g1 g2 => ?_⟩, ?_, fun k i g => ?_⟩
  · exact ((h.rp.q.turned t1).keep h2 (fun k i g1 g2 => h.rp.sep k i g1 g2)).keep ts (fun k i g => h.ne (.inl g))
  · rcases hr k i g2 with g | g
    · exact h.rp.sep k i g1 g
    · have := h.rp.q.lt g1; omega
  · exact ((St.of t1).trans (h2.mono (fun k i g => .inr (.inr g)))).trans (ts.mono (fun k i g => .inl g))
  · rcases g with g | g
    · exact .inl (.inl g)
    · rcases hr k i g with g | g
      · exact .inl (.inr g)
      · exact .inr g
set_option maxRecDepth 100000 in
theorem wait1_any (u2 u3 : Nat) (hx : I64 x) (hn : n ≤ 1000000) (h : Foc B w p y b m n g S) (hb2 : w.heap[u2]? = some (.cells #[.pointer (some ⟨p, 0, none⟩)] 23)) (hb3 : w.heap[u3]? = some (.cells #[.int .i64 x] 3)) (hI : I64 (waitM m).h) (hl : m.q.length + m.a.length ≤ 900) :
    Calls Try.prog 20 #[.pointer (some ⟨b, 0, none⟩), .pointer (some ⟨u2, 0, none⟩), .pointer (some ⟨u3, 0, none⟩)] w (DoneI B p n y b g (waitM m).h (waitM m) (waitS x m S) w) := by
  obtain ⟨M, hM⟩ := h.mo
  have c0 : w.drew.cell? ⟨b, 0, none⟩ = some (.int .i64 m.h) := by show w.cell? _ = _; rw [hM.c]; show some (Value.int .i64 M.h) = _; rw [hM.rp.h]
  have c1 : w.drew.cell? ⟨b, 1, none⟩ = some (.int .i64 m.t) := by show w.cell? _ = _; rw [hM.c]; show some (Value.int .i64 M.t) = _; rw [hM.rp.t]
  have c3 : w.drew.cell? ⟨b, 3, none⟩ = some M.a.val := by show w.cell? _ = _; rw [hM.c]; rfl
  obtain ⟨w1, hw1⟩ : ∃ w1, w1 = (w.alloc (.cells #[.int .i64 m.h, .int .i64 m.t] 52)).drew := ⟨_, rfl⟩
  obtain ⟨u, hu⟩ : ∃ u, u = w.heap.size := ⟨_, rfl⟩
  have t1 : Turned [] w w1 := by rw [hw1]; exact ((Turned.refl [] w).alloc _).drew
  have hQ : Qv w1 ⟨some (u, 0), 1, 1⟩ [(m.h, m.t)] := by
    refine ⟨rfl, Nat.le_refl _, (fun e => by cases e), fun b' off hb hc => ?_⟩
    cases hb
    refine ⟨_, by rw [hw1, hu]; exact heap_alloc_new w _, Nat.le_refl _, fun j v hj => ?_⟩
    rw [Nat.zero_add]
    match j, hj with
    | 0, hj => simpa [pcells] using hj
    | 1, hj => simpa [pcells] using hj
  have HJ := hide (join_any M.a ⟨some (u, 0), 1, 1⟩ m.a [(m.h, m.t)] w1 (hM.rp.a.turned t1) hQ (by simp) (by simp; omega))
  have HB2 := hide hb2
  have HB3 := hide hb3
  have HN2 := hide (h.ne hb2 (by decide))
  have HN3 := hide (h.ne hb3 (by decide))
  have HD : Hid (∀ v w2, Joined w1 M.a ⟨some (u, 0), 1, 1⟩ m.a [(m.h, m.t)] v w2 → ((w2.cell? ⟨b, 0, none⟩ = some (.int .i64 m.h) ∧ w2.cell? ⟨b, 1, none⟩ = some (.int .i64 m.t) ∧ w2.cell? ⟨b, 3, none⟩ = some M.a.val) ∧ w2.frozen? ⟨b, 3, none⟩ = false ∧ (∃ v0, w2.cell? ⟨b, 3, none⟩ = some v0) ∧ ∃ (ra : Option Addr) (rl rc : Nat), v = .slice ra rl rc) ∧ Foc B (w2.setCell ⟨b, 3, none⟩ v) p y b (asideM m) n g S ∧ Bel B w (w2.setCell ⟨b, 3, none⟩ v) ∧ (w2.setCell ⟨b, 3, none⟩ v).heap[u2]? = some (.cells #[.pointer (some ⟨p, 0, none⟩)] 23) ∧ (w2.setCell ⟨b, 3, none⟩ v).heap[u3]? = some (.cells #[.int .i64 x] 3)) := hide (fun v w2 hj => by
    have hd := did_a hM t1 (fun k i g => by obtain ⟨off, g1, _⟩ := g; cases g1; omega) hj
    have hst := Did.still hM hd
    obtain ⟨q1, q2⟩ := h.did1 (m' := asideM m) hM hd
    obtain ⟨rr, hrv, _, k2, _⟩ := hj
    have hb : w2.heap[b]? = some (.cells M.cells 54) := k2.at (t1.at hM.row (by simp)) (fun i g => hM.notIn i (.inr g))
    exact ⟨⟨⟨by rw [cell_of_heap hb]; show some (Value.int .i64 M.h) = _; rw [hM.rp.h], by rw [cell_of_heap hb]; show some (Value.int .i64 M.t) = _; rw [hM.rp.t], by rw [cell_of_heap hb]; rfl⟩, by simp [World.frozen?, hb], ⟨_, by rw [cell_of_heap hb]; rfl⟩, _, _, _, hrv⟩, q1, q2, hst.cell HB2.out HN2.out (by decide), hst.cell HB3.out HN3.out (by decide)⟩)
  have hbs : ∀ w : World, (Instr.buildSlice 49 1 #[(0, .agg #[.int .i64 m.h, .int .i64 m.t])]).run Try.prog w = .ok (.slice (some ⟨w.heap.size, 0, none⟩) 1 1) (w.alloc (.cells #[.int .i64 m.h, .int .i64 m.t] 52)) := fun w => by kernel_rfl
  have e0 : w.cell? ⟨b, 0, none⟩ = some (.int .i64 m.h) := c0
  have e1 : w.cell? ⟨b, 1, none⟩ = some (.int .i64 m.t) := c1
  have e3 : w.cell? ⟨b, 3, none⟩ = some M.a.val := c3
  have n0 := World.new_ne w ⟨b, 0, none⟩ (show w.cell? _ = _ from c0)
  have n1 := World.new_ne w ⟨b, 1, none⟩ (show w.cell? _ = _ from c1)
  have n3 := World.new_ne w ⟨b, 3, none⟩ (show w.cell? _ = _ from c3)
  have ta : Turned [] w (w.alloc (.cells #[.int .i64 m.h, .int .i64 m.t] 52)) := (Turned.refl [] w).alloc _
  have a0 : (w.alloc (.cells #[.int .i64 m.h, .int .i64 m.t] 52)).cell? ⟨b, 0, none⟩ = some (.int .i64 m.h) := by rw [ta.cell (p := ⟨b, 0, none⟩) (lt_of_heap hM.row) (by simp)]; exact e0
  have a1 : (w.alloc (.cells #[.int .i64 m.h, .int .i64 m.t] 52)).cell? ⟨b, 1, none⟩ = some (.int .i64 m.t) := by rw [ta.cell (p := ⟨b, 1, none⟩) (lt_of_heap hM.row) (by simp)]; exact e1
  have a3 : (w.alloc (.cells #[.int .i64 m.h, .int .i64 m.t] 52)).cell? ⟨b, 3, none⟩ = some M.a.val := by rw [ta.cell (p := ⟨b, 3, none⟩) (lt_of_heap hM.row) (by simp)]; exact e3
  have HX := hide hx
  have HI := hide hI
  clear h hM hb2 hb3 t1 hQ hx hI ta
  have HLd : Hid (∀ w4, Foc B w4 p y b (asideM m) (n + 1) g (addS S x) → Calls Try.prog 22 #[.pointer (some ⟨p, 0, none⟩), .pointer (some ⟨b, 0, none⟩)] w4 fun e w' => e = .returned (.int .i64 (waitM m).h) ∧ Foc B w' p y b (waitM m) (n + 1) g (waitS x m S) ∧ Bel B w4 w') := hide (fun w4 h => letIn_any HI.out h)
  have HSd : Hid (∀ w3, Foc B w3 p y b (asideM m) n g S → Calls Try.prog 18 #[.pointer (some ⟨p, 0, none⟩), .int .i64 x] w3 fun e w' => e = .returned (.tuple #[]) ∧ Foc B w' p y b (asideM m) (n + 1) g (addS S x) ∧ Bel B w3 w' ∧ Kp w3 w') := hide (fun w3 h => stand_any x HX.out hn h)
  obtain ⟨Q, hQ⟩ : ∃ Q, Q = DoneI B p n y b g (waitM m).h (waitM m) (waitS x m S) w := ⟨_, rfl⟩
  have HR : Hid (∀ w5, Foc B w5 p y b (waitM m) (n + 1) g (waitS x m S) → Bel B w w5 → Q (.returned (.int .i64 (waitM m).h)) w5) := hide (fun w5 h1 h2 => by
    rw [hQ]
    exact ⟨rfl, h1.mono (by omega), h2⟩)
  rw [← hQ]
  clear hQ
  generalize (waitM m).h = rh at *
  generalize waitM m = mw at *
  generalize waitS x m S = Sw at *
  go_enter Try.func20, Try.ntmps20
  go_wp2_with fail
  go_region_with (go_at_call 21; rw [← hu, ← hw1]; refine (HJ.out).mono ?_; rintro e w2 ⟨v, rfl, hj⟩; obtain ⟨⟨⟨g0, g1, g3⟩, g4, ⟨v0, g5⟩, ra, rl, rc, rfl⟩, g6, g7, g8, g9⟩ := HD.out v w2 hj; have HG := hide (And.intro g6 (And.intro g7 (And.intro g8 g9))); clear g6 g7 g8 g9 hj)
  all_goals (
    obtain ⟨w3, hw3⟩ : ∃ w3, w3 = w2.setCell ⟨b, 3, none⟩ (.slice ra rl rc) := ⟨_, rfl⟩
    rw [← hw3] at HG ⊢
    have d2 : w3.cell? ⟨u2, 0, none⟩ = some (.pointer (some ⟨p, 0, none⟩)) := by rw [cell_of_heap HG.out.2.2.1]; rfl
    have d3 : w3.cell? ⟨u3, 0, none⟩ = some (.int .i64 x) := by rw [cell_of_heap HG.out.2.2.2]; rfl
    have HS1 := hide (HSd.out w3 HG.out.1)
    clear hw3 g0 g1 g3 g4 g5 HSd HJ HD hw1 hu c0 c1 c3 e0 e1 e3 a0 a1 a3 n0 n1 n3 hbs HB2 HB3 HN2 HN3
    go_wp2_with fail
    refine (HS1.out).mono ?_
    rintro e w4 ⟨rfl, h4, h5⟩
    have HF4 := hide h4
    have HBl := hide (HG.out.2.1.trans h5.1)
    have hu4 := h5.2 u2 _ _ HG.out.2.2.1 (by decide)
    have HL1 := hide (HLd.out w4 h4)
    have e2 : w4.cell? ⟨u2, 0, none⟩ = some (.pointer (some ⟨p, 0, none⟩)) := by rw [cell_of_heap hu4]; rfl
    clear h4 h5 HS1 HLd hu4
    go_wp2_with fail
    refine (HL1.out).mono ?_
    rintro e w5 ⟨rfl, h6, h7⟩
    have HR2 := hide (HR.out w5 h6 (HBl.out.trans h7))
    clear h6 h7 HR HL1
    go_wp2_with fail
    first | exact HR2.out | (go_ret; exact HR2.out))
/-- Wait, without memory. -/
def waitT (g : Int → Option Mon) (S : Int → Bool) (x y : Int) : (Int × Int) × (Int → Option Mon) × (Int → Bool) := holdT g S x y (fun m => (waitM m).h) waitM (waitS x)
set_option maxRecDepth 100000 in
/-- Wait. -/
theorem wait_call (hx : I64 x) (hy : I64 y) (hn : n ≤ 900000) (h : Tb B w p n g S) (hf : Fine ((g y).getD Mon.zero)) (hI : I64 (waitM ((g y).getD Mon.zero)).h) :
    Calls Try.prog 8 #[.pointer (some ⟨p, 0, none⟩), .int .i64 x, .int .i64 y] w (LeftI B p n w (waitT g S x y)) := by
  have hB := h.lo
  obtain ⟨u2, hu2⟩ : ∃ u2, u2 = w.heap.size := ⟨_, rfl⟩
  obtain ⟨u3, hu3⟩ : ∃ u3, u3 = u2 + 1 := ⟨_, rfl⟩
  obtain ⟨w1, hw1⟩ : ∃ w1, w1 = (w.alloc (.cells #[.pointer (some ⟨p, 0, none⟩)] 23)).alloc (.cells #[.int .i64 x] 3) := ⟨_, rfl⟩
  have t1 : Turned [] w w1 := by rw [hw1]; exact ((Turned.refl _ _).alloc _).alloc _
  have r2 : w1.heap[u2]? = some (.cells #[.pointer (some ⟨p, 0, none⟩)] 23) := by
    rw [hw1, hu2, Below.heap_alloc _ _ _ (by simp)]
    exact heap_alloc_new _ _
  have r3 : w1.heap[u3]? = some (.cells #[.int .i64 x] 3) := by
    have := heap_alloc_new (w.alloc (.cells #[.pointer (some ⟨p, 0, none⟩)] 23)) (.cells #[.int .i64 x] 3)
    rw [show (w.alloc (.cells #[.pointer (some ⟨p, 0, none⟩)] 23)).heap.size = w.heap.size + 1 by simp] at this
    rw [hw1, hu3, hu2]
    exact this
  have HA := hide (holding_wait (.pointer (some ⟨u2, 0, none⟩)) (.pointer (some ⟨u3, 0, none⟩)) (fun m => (waitM m).h) waitM (waitS x) hx hy hn (h.turned t1) (fun b w2 t hF hm => wait1_any u2 u3 hx (by omega) hF (t.at r2 (by simp)) (t.at r3 (by simp)) hI hf.2))
  have c2 : w1.cell? ⟨u2, 0, none⟩ = some (.pointer (some ⟨p, 0, none⟩)) := by rw [cell_of_heap r2]; rfl
  have c3 : w1.cell? ⟨u3, 0, none⟩ = some (.int .i64 x) := by rw [cell_of_heap r3]; rfl
  have HB := hide (t1.bel hB (fun k hk => by cases hk))
  have hmf : ∀ (fn : Fn) (first cap : Array Value) (w : World), (Instr.makeFunc fn first cap).run Try.prog w = .ok (.func fn first cap) w := fun _ _ _ _ => rfl
  unfold waitT
  obtain ⟨o, ho⟩ : ∃ o, o = holdT g S x y (fun m => (waitM m).h) waitM (waitS x) := ⟨_, rfl⟩
  rw [← ho] at HA ⊢
  clear h hf t1 r2 r3 ho hx hy hI
  go_enter Try.func8, Try.ntmps8
  go_upto_region 1 with fail
  rw [← hu2, ← hu3, ← hw1]
  clear hu2 hu3 hw1
  go_wp2_with fail
  refine (HA.out).mono ?_
  rintro e w2 hl
  obtain ⟨⟨o1, o2⟩, o3⟩ := o
  have HL := hide (hl.from HB.out)
  obtain ⟨rfl, -, -⟩ := hl
  clear HA HB
  go_wp2_with fail
  go_ret2
  exact HL.out
end
end Go.Proofs.Ytlbcbphkgaoliab
