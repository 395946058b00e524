/-
  Three numbers that come in as one.
-/
import Derived.Test.YtkidcbehjhlnkabClassesOpen
namespace Go.Proofs.Ytkidcbehjhlnkab
open Go.RowKit Go.ChangeShapes Go.WideShapes Go.ChangeAt
set_option linter.unusedVariables false

theorem open_triple {H : Type} {enc : TypeId × Value → H} {W : World} {base : Nat} {v : Value} {d : DataW H} {p : List MemPlace} {sp : Nat → Bool}
    (hv : Value.okWide Try.prog W .any base 23 v) (h : DataW.Trod enc Try.prog W 0 sp true 23 v d p) : ∃ x y z : Int, v = .agg #[.int .i64 x, .int .i64 y, .int .i64 z] ∧ In64 x ∧ In64 y ∧ In64 z := by
  obtain ⟨cs, rfl, hsz, _⟩ : ∃ cs, v = .agg cs ∧ cs.size = Try.prog.cellsOf 23 ∧ Row.okWide Try.prog W .any base 23 cs := by
    simpa [Value.okWide, Try.underlying23] using hv
  have hc2 : Try.prog.cellsOf 23 = 3 := by kernel_rfl
  have hc1 : Try.prog.cellsOf 3 = 1 := by kernel_rfl
  rw [hc2] at hsz
  obtain ⟨c0, c1, c2, rfl⟩ : ∃ c0 c1 c2, cs = #[c0, c1, c2] := by
    obtain ⟨l⟩ := cs
    rcases l with _ | ⟨c0, _ | ⟨c1, _ | ⟨c2, _ | ⟨c3, l⟩⟩⟩⟩
    · simp at hsz
    · simp at hsz
    · simp at hsz
    · exact ⟨c0, c1, c2, rfl⟩
    · simp at hsz
  obtain ⟨fuel, hf⟩ := h
  obtain ⟨xs, m, -, -, -, hxl, hel⟩ := DataW.trod_array Try.underlying23 hf
  have e0 := hel 0 (by decide)
  have e1 := hel 1 (by decide)
  have e2 := hel 2 (by decide)
  rw [hc1] at e0 e1 e2
  rw [List.getElem?_eq_getElem (by omega)] at e0 e1 e2
  obtain ⟨x0, q0, -, w0⟩ := DataW.trod_int Try.underlying3 e0
  obtain ⟨x1, q1, -, w1⟩ := DataW.trod_int Try.underlying3 e1
  obtain ⟨x2, q2, -, w2⟩ := DataW.trod_int Try.underlying3 e2
  simp [Value.cells] at q0 q1 q2
  exact ⟨x0, x1, x2, by rw [q0, q1, q2], wf_range w0, wf_range w1, wf_range w2⟩
end Go.Proofs.Ytkidcbehjhlnkab
