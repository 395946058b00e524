/-
  Exit.
-/
import Derived.Test.YtlbcbphkgaoliabMonHold
namespace Go.Proofs.Ytlbcbphkgaoliab
open Go.RowKit
set_option linter.unusedVariables false
set_option linter.unusedSimpArgs false
def exitM (m : Mon) : Mon := if 0 < m.t - 1 then { m with t := m.t - 1 } else nextM m
def exitR (m : Mon) : Int := if 0 < m.t - 1 then 0 else (nextM m).h
def exitS (m : Mon) (S : Int → Bool) : Int → Bool := if 0 < m.t - 1 then S else subS S (nextM m).h
section
variable {B : Nat} {w w' : World} {b p n : Nat} {x y : Int} {m m' : Mon} {g : Int → Option Mon} {S S' : Int → Bool} {r : Int}
theorem nextM_t (m : Mon) (t : Int) : nextM { m with t := t } = nextM m := by
  unfold nextM
  cases m.q <;> rfl
set_option maxRecDepth 100000 in
theorem exit1_any (u2 : Nat) (h : Foc B w p y b m n g S) (hb2 : w.heap[u2]? = some (.cells #[.pointer (some ⟨p, 0, none⟩)] 23)) (hI : I64 (nextM m).h) (ht : -1 ≤ m.t ∧ m.t ≤ 1000000) :
    Calls Try.prog 27 #[.pointer (some ⟨b, 0, none⟩), .pointer (some ⟨u2, 0, none⟩)] w (DoneI B p n y b g (exitR m) (exitM m) (exitS m S) w) := by
  obtain ⟨M, hM⟩ := h.mo
  have c1 : w.cell? ⟨b, 1, none⟩ = some (.int .i64 m.t) := by rw [hM.c]; show some (Value.int .i64 M.t) = _; rw [hM.rp.t]
  have f1 := hM.fz 1
  have hd := did_t hM (m.t - 1)
  obtain ⟨h1, hbl⟩ := h.did1 hM hd
  have hst := Did.still hM hd
  have hr2 := hst.cell hb2 (h.ne hb2 (by decide)) (by decide)
  obtain ⟨w1, hw1⟩ : ∃ w1, w1 = w.setCell ⟨b, 1, none⟩ (.int .i64 (m.t - 1)) := ⟨_, rfl⟩
  rw [← hw1] at h1 hbl hr2
  have hwr : wrap64 (m.t - 1) = m.t - 1 := by unfold wrap64; omega
  obtain ⟨M1, hM1⟩ := h1.mo
  have d1 : w1.cell? ⟨b, 1, none⟩ = some (.int .i64 (m.t - 1)) := by rw [hM1.c]; show some (Value.int .i64 M1.t) = _; rw [hM1.rp.t]
  have d2 : w1.cell? ⟨u2, 0, none⟩ = some (.pointer (some ⟨p, 0, none⟩)) := by rw [cell_of_heap hr2]; rfl
  have HF := hide h1
  have HB := hide hbl
  by_cases hp : 0 < m.t - 1
  · have e1 : exitR m = 0 := if_pos hp
    have e2 : exitM m = { m with t := m.t - 1 } := if_pos hp
    have e3 : exitS m S = S := if_pos hp
    have HR : Hid (DoneI B p n y b g (exitR m) (exitM m) (exitS m S) w (.returned (.int .i64 0)) w1) := hide (by rw [e1, e2, e3]; exact ⟨rfl, HF.out.mono (by omega), HB.out⟩)
    obtain ⟨Q, hQ⟩ : ∃ Q, Q = DoneI B p n y b g (exitR m) (exitM m) (exitS m S) w := ⟨_, rfl⟩
    rw [← hQ] at HR ⊢
    generalize m.t = mt at *
    clear h hM hb2 hd hst h1 hbl hr2 hM1 e1 e2 e3 hQ HF HB hI
    go_enter Try.func27, Try.ntmps27
    go_upto_region 2 with fail
    rw [← hw1]
    clear hw1
    go_wp2_with fail
    first | exact HR.out | (go_ret; exact HR.out)
  · have e1 : exitR m = (nextM m).h := if_neg hp
    have e2 : exitM m = nextM m := if_neg hp
    have e3 : exitS m S = subS S (nextM m).h := if_neg hp
    have HL := hide (letIn_any (by rw [nextM_t]; exact hI) HF.out)
    rw [nextM_t] at HL
    have HR : Hid (∀ w2, Foc B w2 p y b (nextM m) n g (fun z => if z = (nextM m).h then false else S z) → Bel B w1 w2 → DoneI B p n y b g (exitR m) (exitM m) (exitS m S) w (.returned (.int .i64 (nextM m).h)) w2) := hide (fun w2 h4 h5 => by
      rw [e1, e2, e3]
      exact ⟨rfl, Foc.mono (show Foc B w2 p y b (nextM m) n g (subS S (nextM m).h) from h4) (by omega), HB.out.trans h5⟩)
    obtain ⟨Q, hQ⟩ : ∃ Q, Q = DoneI B p n y b g (exitR m) (exitM m) (exitS m S) w := ⟨_, rfl⟩
    rw [← hQ] at HR ⊢
    generalize (nextM m).h = rh at *
    generalize m.t = mt at *
    clear h hM hb2 hd hst h1 hbl hr2 hM1 e1 e2 e3 hQ HF HB hI
    go_enter Try.func27, Try.ntmps27
    go_upto_region 2 with fail
    rw [← hw1]
    clear hw1
    go_wp2_with fail
    refine (HL.out).mono ?_
    rintro e w2 ⟨rfl, h4, h5⟩
    have HR2 := hide (HR.out w2 h4 h5)
    clear h4 h5 HR HL
    go_wp2_with fail
    first | exact HR2.out | (go_ret; exact HR2.out)
/-- Exit, without memory. -/
def exitT (g : Int → Option Mon) (S : Int → Bool) (x y : Int) : (Int × Int) × (Int → Option Mon) × (Int → Bool) := holdT g S x y exitR exitM exitS
set_option maxRecDepth 100000 in
/-- Exit. -/
theorem exit_call (hx : I64 x) (hy : I64 y) (hn : n ≤ 900000) (h : Tb B w p n g S) (hf : Fine ((g y).getD Mon.zero)) (hI : I64 (nextM ((g y).getD Mon.zero)).h) :
    Calls Try.prog 11 #[.pointer (some ⟨p, 0, none⟩), .int .i64 x, .int .i64 y] w (LeftI B p n w (exitT g S x y)) := by
  have hB := h.lo
  obtain ⟨u2, hu2⟩ : ∃ u2, u2 = w.heap.size := ⟨_, rfl⟩
  obtain ⟨w1, hw1⟩ : ∃ w1, w1 = w.alloc (.cells #[.pointer (some ⟨p, 0, none⟩)] 23) := ⟨_, rfl⟩
  have t1 : Turned [] w w1 := by rw [hw1]; exact (Turned.refl _ _).alloc _
  have r2 : w1.heap[u2]? = some (.cells #[.pointer (some ⟨p, 0, none⟩)] 23) := by rw [hw1, hu2]; exact heap_alloc_new _ _
  have HA := hide (holding_exit (.pointer (some ⟨u2, 0, none⟩)) exitR exitM exitS hx hy hn (h.turned t1) (fun b w2 t hF hm => exit1_any u2 hF (t.at r2 (by simp)) hI hf.1))
  have c2 : w1.cell? ⟨u2, 0, none⟩ = some (.pointer (some ⟨p, 0, none⟩)) := by rw [cell_of_heap r2]; rfl
  have HB := hide (t1.bel hB (fun k hk => by cases hk))
  have hmf : ∀ (fn : Fn) (first cap : Array Value) (w : World), (Instr.makeFunc fn first cap).run Try.prog w = .ok (.func fn first cap) w := fun _ _ _ _ => rfl
  unfold exitT
  obtain ⟨o, ho⟩ : ∃ o, o = holdT g S x y exitR exitM exitS := ⟨_, rfl⟩
  rw [← ho] at HA ⊢
  clear h hf t1 r2 ho hx hy hI
  go_enter Try.func11, Try.ntmps11
  go_upto_region 1 with fail
  rw [← hu2, ← hw1]
  clear hu2 hw1
  go_wp2_with fail
  refine (HA.out).mono ?_
  rintro e w2 hl
  obtain ⟨⟨o1, o2⟩, o3⟩ := o
  have HL := hide (hl.from HB.out)
  obtain ⟨rfl, -, -⟩ := hl
  clear HA HB
  go_wp2_with fail
  go_ret2
  exact HL.out
end
end Go.Proofs.Ytlbcbphkgaoliab
