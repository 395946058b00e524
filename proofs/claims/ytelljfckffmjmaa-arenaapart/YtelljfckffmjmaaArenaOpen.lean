/-
  A slice of a script's steps (three numbers each) that comes in can be read; two or three numbers that come in as one.
-/
import Derived.Test.YtelljfckffmjmaaClassesBase
import Derived.Test.YtelljfckffmjmaaLawKit
import Derived.Deep.Slices
namespace Go.Proofs.Ytelljfckffmjmaa
open Go.RowKit Go.ChangeShapes Go.WideShapes Go.ChangeAt
set_option linter.unusedVariables false

theorem wf_of {n : Int} (h : In64 n) : (Lit.int .i64 n).wf = true := by
  have e : IntKind.i64.min = -9223372036854775808 := by decide
  unfold In64 at h
  simp [Lit.wf]
  omega

/-- A step: its kind, who does it, a size. -/
structure Op3 where
  k : Int
  a : Int
  z : Int
def Op3.In (c : Op3) : Prop := In64 c.k ∧ In64 c.a ∧ In64 c.z
/-- A slice of calls that can be read. -/
structure ORd (w : World) (ao : Option Addr) (len : Nat) (cs : List Op3) : Prop where
  size : cs.length = len
  room : len ≤ 9223372036854775807
  cell : ∀ i c, cs[i]? = some c → ∃ b off, ao = some ⟨b, off, none⟩ ∧ w.cell? ⟨b, off + i * 3, none⟩ = some (.int .i64 c.k) ∧ w.cell? ⟨b, off + i * 3 + 1, none⟩ = some (.int .i64 c.a) ∧ w.cell? ⟨b, off + i * 3 + 2, none⟩ = some (.int .i64 c.z)
  inn : ∀ c, c ∈ cs → c.In
theorem ORd.turned {w w' : World} {ao : Option Addr} {len : Nat} {cs : List Op3} (h : ORd w ao len cs) (ht : Turned [] w w') : ORd w' ao len cs := by
  refine ⟨h.size, h.room, fun i c hc => ?_, h.inn⟩
  obtain ⟨b, off, h0, h1, h2, h3⟩ := h.cell i c hc
  exact ⟨b, off, h0, by rw [ht.cell (block_lt h1) (by simp)]; exact h1, by rw [ht.cell (block_lt h2) (by simp)]; exact h2, by rw [ht.cell (block_lt h3) (by simp)]; exact h3⟩

theorem cellsOp : Try.prog.cellsOf 49 = 3 := by kernel_rfl
theorem cellsInt64 : Try.prog.cellsOf 2 = 1 := by kernel_rfl
theorem cellsInt : Try.prog.cellsOf 3 = 1 := by kernel_rfl

/-- A call stands at that place. -/
def w3 (W : World) (b o : Nat) (c : Op3) : Prop := W.cell? ⟨b, o, none⟩ = some (.int .i64 c.k) ∧ W.cell? ⟨b, o + 1, none⟩ = some (.int .i64 c.a) ∧ W.cell? ⟨b, o + 2, none⟩ = some (.int .i64 c.z)

set_option maxRecDepth 100000 in
/-- As a function: which call stands at each place. -/
theorem open_op_at {H : Type} {enc : TypeId × Value → H} {W : World} {a : Option Addr} {len cap : Nat} {d : DataW H} {p : List MemPlace}
    (h : DataW.Trod enc Try.prog W 0 (fun _ => true) true 23 (.slice a len cap) d p) :
    len ≤ 9223372036854775807 ∧ ∀ i, i < len → ∃ (c : Op3) (b off : Nat), a = some ⟨b, off, none⟩ ∧ w3 W b (off + i * 3) c ∧ c.In := by
  obtain ⟨fuel, hf⟩ := h
  rcases Go.Deep.open_slice Try.underlying23 hf with ⟨hcs, _⟩ | ⟨x, len', cap', m, n, D, Pl, hcs, _, hl, hm, hmm, _, hel⟩
  · simp [Value.cells] at hcs
    obtain ⟨rfl, rfl, rfl⟩ := hcs
    exact ⟨by omega, fun i hi => absurd hi (Nat.not_lt_zero _)⟩
  · simp [Value.cells] at hcs
    obtain ⟨rfl, rfl, rfl⟩ := hcs
    simp only [if_true] at hmm
    subst hmm
    refine ⟨by unfold maxLen at hm; omega, fun i hi => ?_⟩
    obtain ⟨cs, h1, h2⟩ := hel i (by omega)
    rw [cellsOp] at h1
    obtain ⟨_, hlen, hc⟩ := World.cells?_some h1
    obtain ⟨v0, v1, v2, rfl⟩ : ∃ v0 v1 v2, cs = [v0, v1, v2] := by
      rcases cs with _ | ⟨v0, _ | ⟨v1, _ | ⟨v2, _ | ⟨v3, r⟩⟩⟩⟩
      all_goals first | (exact ⟨v0, v1, v2, rfl⟩) | (simp at hlen)
    obtain ⟨xs, n', -, -, -, hxl, hfl⟩ := DataW.trod_struct Try.underlying49 h2
    have f0 : DataW.trod enc Try.prog W 0 (fun _ => true) true n' 3 (List.take (Try.prog.cellsOf 3) (List.drop 0 [v0, v1, v2])) = xs[0]? := hfl 0 _ rfl
    have f1 : DataW.trod enc Try.prog W 0 (fun _ => true) true n' 3 (List.take (Try.prog.cellsOf 3) (List.drop 1 [v0, v1, v2])) = xs[1]? := hfl 1 _ rfl
    have f2 : DataW.trod enc Try.prog W 0 (fun _ => true) true n' 3 (List.take (Try.prog.cellsOf 3) (List.drop 2 [v0, v1, v2])) = xs[2]? := hfl 2 _ rfl
    rw [cellsInt] at f0 f1 f2
    have hxl5 : xs.length = 3 := hxl
    rw [List.getElem?_eq_getElem (by omega)] at f0 f1 f2
    obtain ⟨r, q0, -, w0⟩ := DataW.trod_int Try.underlying3 f0
    obtain ⟨v, q1, -, w1⟩ := DataW.trod_int Try.underlying3 f1
    obtain ⟨ar, q2, -, w2⟩ := DataW.trod_int Try.underlying3 f2
    simp at q0 q1 q2
    subst q0 q1 q2
    obtain ⟨b, off, spot⟩ := x
    have hspot : spot = none := by
      obtain ⟨cs0, k1, _⟩ := hel 0 (by omega)
      rw [cellsOp] at k1
      obtain ⟨_, k2, k3⟩ := World.cells?_some k1
      have k4 := k3 0 (by omega)
      rw [List.getElem?_eq_getElem (by omega)] at k4
      have e1 := World.cell?_spot k4
      simpa [Addr.add] using e1
    subst hspot
    have ha : ∀ j, Addr.add (Addr.add ⟨b, off, none⟩ (i * 3)) j = ⟨b, off + i * 3 + j, none⟩ := fun j => by
      rw [Go.Deep.add_add, show Addr.add ⟨b, off, none⟩ (i * 3 + j) = ⟨b, off + (i * 3 + j), none⟩ by simp [Addr.add], Nat.add_assoc]
    have g0 := hc 0 (by omega)
    have g1 := hc 1 (by omega)
    have g2 := hc 2 (by omega)
    rw [ha] at g0 g1 g2
    exact ⟨⟨r, v, ar⟩, b, off, rfl, ⟨g0, g1, g2⟩, wf_range w0, wf_range w1, wf_range w2⟩

theorem open_ops {H : Type} {enc : TypeId × Value → H} {W : World} {a : Option Addr} {len cap : Nat} {d : DataW H} {p : List MemPlace}
    (h : DataW.Trod enc Try.prog W 0 (fun _ => true) true 23 (.slice a len cap) d p) : ∃ cs, ORd W a len cs := by
  obtain ⟨hl, h1⟩ := open_op_at h
  have h2 : ∀ i : Fin len, ∃ c : Op3, (∃ (b off : Nat), a = some ⟨b, off, none⟩ ∧ w3 W b (off + i.val * 3) c) ∧ c.In := fun i => by
    obtain ⟨c, b, off, e1, e2, e3⟩ := h1 i.val i.isLt
    exact ⟨c, ⟨b, off, e1, e2⟩, e3⟩
  obtain ⟨f, hf⟩ := Classical.axiomOfChoice h2
  refine ⟨List.ofFn f, List.length_ofFn, hl, fun i c hc => ?_, fun c hc => ?_⟩
  · rw [List.getElem?_ofFn] at hc
    split at hc
    · rename_i hi
      injection hc with hc
      subst hc
      obtain ⟨b, off, e1, e2, e3, e4⟩ := (hf ⟨i, hi⟩).1
      exact ⟨b, off, e1, e2, e3, e4⟩
    · cases hc
  · obtain ⟨i, rfl⟩ := List.mem_ofFn.1 hc
    exact (hf i).2
set_option maxRecDepth 100000 in
theorem open_two {H : Type} {enc : TypeId × Value → H} {W : World} {base : Nat} {v : Value} {d : DataW H} {p : List MemPlace} {sp : Nat → Bool}
    (hv : Value.okWide Try.prog W .any base 66 v) (h : DataW.Trod enc Try.prog W 0 sp true 66 v d p) : ∃ x y : Int, v = .agg #[.int .i64 x, .int .i64 y] ∧ In64 x ∧ In64 y := by
  obtain ⟨cs, rfl, hsz, _⟩ : ∃ cs, v = .agg cs ∧ cs.size = Try.prog.cellsOf 66 ∧ Row.okWide Try.prog W .any base 66 cs := by
    simpa [Value.okWide, Try.underlying66] using hv
  have hc2 : Try.prog.cellsOf 66 = 2 := by kernel_rfl
  have hc1 : Try.prog.cellsOf 3 = 1 := by kernel_rfl
  rw [hc2] at hsz
  obtain ⟨c0, c1, rfl⟩ : ∃ c0 c1, cs = #[c0, c1] := by
    obtain ⟨l⟩ := cs
    rcases l with _ | ⟨c0, _ | ⟨c1, _ | ⟨c2, l⟩⟩⟩
    · simp at hsz
    · simp at hsz
    · exact ⟨c0, c1, rfl⟩
    · simp at hsz
  obtain ⟨fuel, hf⟩ := h
  obtain ⟨xs, m, -, -, -, hxl, hel⟩ := DataW.trod_array Try.underlying66 hf
  have e0 := hel 0 (by decide)
  have e1 := hel 1 (by decide)
  rw [hc1] at e0 e1
  rw [List.getElem?_eq_getElem (by omega)] at e0 e1
  obtain ⟨x0, q0, -, w0⟩ := DataW.trod_int Try.underlying3 e0
  obtain ⟨x1, q1, -, w1⟩ := DataW.trod_int Try.underlying3 e1
  simp [Value.cells] at q0 q1
  exact ⟨x0, x1, by rw [q0, q1], wf_range w0, wf_range w1⟩

set_option maxRecDepth 100000 in
theorem open_triple {H : Type} {enc : TypeId × Value → H} {W : World} {base : Nat} {v : Value} {d : DataW H} {p : List MemPlace} {sp : Nat → Bool}
    (hv : Value.okWide Try.prog W .any base 22 v) (h : DataW.Trod enc Try.prog W 0 sp true 22 v d p) : ∃ x y z : Int, v = .agg #[.int .i64 x, .int .i64 y, .int .i64 z] ∧ In64 x ∧ In64 y ∧ In64 z := by
  obtain ⟨cs, rfl, hsz, _⟩ : ∃ cs, v = .agg cs ∧ cs.size = Try.prog.cellsOf 22 ∧ Row.okWide Try.prog W .any base 22 cs := by
    simpa [Value.okWide, Try.underlying22] using hv
  have hc2 : Try.prog.cellsOf 22 = 3 := by kernel_rfl
  have hc1 : Try.prog.cellsOf 3 = 1 := by kernel_rfl
  rw [hc2] at hsz
  obtain ⟨c0, c1, c2, rfl⟩ : ∃ c0 c1 c2, cs = #[c0, c1, c2] := by
    obtain ⟨l⟩ := cs
    rcases l with _ | ⟨c0, _ | ⟨c1, _ | ⟨c2, _ | ⟨c3, l⟩⟩⟩⟩
    · simp at hsz
    · simp at hsz
    · simp at hsz
    · exact ⟨c0, c1, c2, rfl⟩
    · simp at hsz
  obtain ⟨fuel, hf⟩ := h
  obtain ⟨xs, m, -, -, -, hxl, hel⟩ := DataW.trod_array Try.underlying22 hf
  have e0 := hel 0 (by decide)
  have e1 := hel 1 (by decide)
  have e2 := hel 2 (by decide)
  rw [hc1] at e0 e1 e2
  rw [List.getElem?_eq_getElem (by omega)] at e0 e1 e2
  obtain ⟨x0, q0, -, w0⟩ := DataW.trod_int Try.underlying3 e0
  obtain ⟨x1, q1, -, w1⟩ := DataW.trod_int Try.underlying3 e1
  obtain ⟨x2, q2, -, w2⟩ := DataW.trod_int Try.underlying3 e2
  simp [Value.cells] at q0 q1 q2
  exact ⟨x0, x1, x2, by rw [q0, q1, q2], wf_range w0, wf_range w1, wf_range w2⟩
end Go.Proofs.Ytelljfckffmjmaa
