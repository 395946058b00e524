/-
  A slice of classes that comes in can be read.
-/
import Derived.Test.YthigmechfcndcaaClassesSize
import Derived.Test.YthigmechfcndcaaLawKit
import Derived.Deep.Slices
namespace Go.Proofs.Ythigmechfcndcaa
open Go.RowKit Go.ChangeShapes Go.WideShapes Go.ChangeAt
set_option linter.unusedVariables false

theorem cellsClass : Try.prog.cellsOf 91 = 3 := by kernel_rfl
theorem cellsInt : Try.prog.cellsOf 3 = 1 := by kernel_rfl

/-- A class stands at that place. -/
def w3 (W : World) (b o : Nat) (c : Cls) : Prop := W.cell? ⟨b, o, none⟩ = some (.int .i64 c.r) ∧ W.cell? ⟨b, o + 1, none⟩ = some (.int .i64 c.w) ∧ W.cell? ⟨b, o + 2, none⟩ = some (.int .i64 c.a)

set_option maxRecDepth 100000 in
/-- As a function: which class stands at each place. -/
theorem open_class_at {H : Type} {enc : TypeId × Value → H} {W : World} {a : Option Addr} {len cap : Nat} {d : DataW H} {p : List MemPlace}
    (h : DataW.Trod enc Try.prog W 0 (fun _ => true) true 22 (.slice a len cap) d p) :
    len ≤ 9223372036854775807 ∧ ∀ i, i < len → ∃ (c : Cls) (b off : Nat), a = some ⟨b, off, none⟩ ∧ w3 W b (off + i * 3) c ∧ c.In := by
  obtain ⟨fuel, hf⟩ := h
  rcases Go.Deep.open_slice Try.underlying22 hf with ⟨hcs, _⟩ | ⟨x, len', cap', m, n, D, Pl, hcs, _, hl, hm, hmm, _, hel⟩
  · simp [Value.cells] at hcs
    obtain ⟨rfl, rfl, rfl⟩ := hcs
    exact ⟨by omega, fun i hi => absurd hi (Nat.not_lt_zero _)⟩
  · simp [Value.cells] at hcs
    obtain ⟨rfl, rfl, rfl⟩ := hcs
    simp only [if_true] at hmm
    subst hmm
    refine ⟨by unfold maxLen at hm; omega, fun i hi => ?_⟩
    obtain ⟨cs, h1, h2⟩ := hel i (by omega)
    rw [cellsClass] at h1
    obtain ⟨_, hlen, hc⟩ := World.cells?_some h1
    obtain ⟨v0, v1, v2, rfl⟩ : ∃ v0 v1 v2, cs = [v0, v1, v2] := by
      rcases cs with _ | ⟨v0, _ | ⟨v1, _ | ⟨v2, _ | ⟨v3, r⟩⟩⟩⟩
      all_goals first | (exact ⟨v0, v1, v2, rfl⟩) | (simp at hlen)
    obtain ⟨xs, n', -, -, -, hxl, hfl⟩ := DataW.trod_struct Try.underlying91 h2
    have f0 : DataW.trod enc Try.prog W 0 (fun _ => true) true n' 3 (List.take (Try.prog.cellsOf 3) (List.drop 0 [v0, v1, v2])) = xs[0]? := hfl 0 _ rfl
    have f1 : DataW.trod enc Try.prog W 0 (fun _ => true) true n' 3 (List.take (Try.prog.cellsOf 3) (List.drop 1 [v0, v1, v2])) = xs[1]? := hfl 1 _ rfl
    have f2 : DataW.trod enc Try.prog W 0 (fun _ => true) true n' 3 (List.take (Try.prog.cellsOf 3) (List.drop 2 [v0, v1, v2])) = xs[2]? := hfl 2 _ rfl
    rw [cellsInt] at f0 f1 f2
    have hxl5 : xs.length = 3 := hxl
    rw [List.getElem?_eq_getElem (by omega)] at f0 f1 f2
    obtain ⟨r, q0, -, w0⟩ := DataW.trod_int Try.underlying3 f0
    obtain ⟨v, q1, -, w1⟩ := DataW.trod_int Try.underlying3 f1
    obtain ⟨ar, q2, -, w2⟩ := DataW.trod_int Try.underlying3 f2
    simp at q0 q1 q2
    subst q0 q1 q2
    obtain ⟨b, off, spot⟩ := x
    have hspot : spot = none := by
      obtain ⟨cs0, k1, _⟩ := hel 0 (by omega)
      rw [cellsClass] at k1
      obtain ⟨_, k2, k3⟩ := World.cells?_some k1
      have k4 := k3 0 (by omega)
      rw [List.getElem?_eq_getElem (by omega)] at k4
      have e1 := World.cell?_spot k4
      simpa [Addr.add] using e1
    subst hspot
    have ha : ∀ j, Addr.add (Addr.add ⟨b, off, none⟩ (i * 3)) j = ⟨b, off + i * 3 + j, none⟩ := fun j => by
      rw [Go.Deep.add_add, show Addr.add ⟨b, off, none⟩ (i * 3 + j) = ⟨b, off + (i * 3 + j), none⟩ by simp [Addr.add], Nat.add_assoc]
    have g0 := hc 0 (by omega)
    have g1 := hc 1 (by omega)
    have g2 := hc 2 (by omega)
    rw [ha] at g0 g1 g2
    exact ⟨⟨r, v, ar⟩, b, off, rfl, ⟨g0, g1, g2⟩, wf_range w0, wf_range w1, wf_range w2⟩

set_option maxRecDepth 100000 in
theorem open_classes {H : Type} {enc : TypeId × Value → H} {W : World} {a : Option Addr} {len cap : Nat} {d : DataW H} {p : List MemPlace}
    (h : DataW.Trod enc Try.prog W 0 (fun _ => true) true 22 (.slice a len cap) d p) : ∃ cs, CRd W a len cs := by
  obtain ⟨hl, h1⟩ := open_class_at h
  have h2 : ∀ i : Fin len, ∃ c : Cls, (∃ (b off : Nat), a = some ⟨b, off, none⟩ ∧ w3 W b (off + i.val * 3) c) ∧ c.In := fun i => by
    obtain ⟨c, b, off, e1, e2, e3⟩ := h1 i.val i.isLt
    exact ⟨c, ⟨b, off, e1, e2⟩, e3⟩
  obtain ⟨f, hf⟩ := Classical.axiomOfChoice h2
  refine ⟨List.ofFn f, List.length_ofFn, hl, fun i c hc => ?_, fun c hc => ?_⟩
  · rw [List.getElem?_ofFn] at hc
    split at hc
    · rename_i hi
      injection hc with hc
      subst hc
      obtain ⟨b, off, e1, e2, e3, e4⟩ := (hf ⟨i, hi⟩).1
      exact ⟨b, off, e1, e2, e3, e4⟩
    · cases hc
  · obtain ⟨i, rfl⟩ := List.mem_ofFn.1 hc
    exact (hf i).2
end Go.Proofs.Ythigmechfcndcaa
