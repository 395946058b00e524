/-
  What the laws on sums share: numbers that come in.
-/
import Derived.Test.YtdjeilombaclmaaSumsAwake
import Derived.Deep.Slices
namespace Go.Proofs.Ytdjeilombaclmaa
open Go.RowKit Go.ChangeShapes Go.WideShapes Go.ChangeAt
set_option linter.unusedVariables false

theorem isRow_rd {w : World} {a : Option Addr} {len cap : Nat} {zs : List Int} (h : IsRow .i64 w a len cap zs) : IRd w a len (zs.take len) ∧ len ≤ 9223372036854775807 ∧ len ≤ cap ∧ cap ≤ 9223372036854775807 ∧ (a = none → cap = 0) := by
  rcases h with ⟨rfl, rfl, rfl, rfl⟩ | ⟨x, rfl, hl, hm, hz, hc, hwf⟩
  · exact ⟨⟨rfl, fun i x hx => by simp at hx⟩, by omega, by omega, by omega, fun _ => rfl⟩
  · refine ⟨⟨by simp; omega, fun i y hy => ?_⟩, by unfold maxLen at hm; omega, hl, by unfold maxLen at hm; omega, fun h => by cases h⟩
    have hi := (List.getElem?_eq_some_iff.1 hy).1
    simp at hi
    have h1 := hc i (by omega)
    have hsp : x.spot = none := by
      have := World.cell?_spot (hc 0 (by omega))
      simpa [Addr.add] using this
    obtain ⟨b, off, spot⟩ := x
    simp at hsp
    subst hsp
    refine ⟨b, off, rfl, ?_⟩
    rw [show Addr.add ⟨b, off, none⟩ i = ⟨b, off + i, none⟩ by simp [Addr.add]] at h1
    rw [List.getElem?_take] at hy
    split at hy
    · rw [List.getD_eq_getElem?_getD, hy] at h1
      exact h1
    · cases hy
/-- Its first values. -/
theorem IRd.first {w : World} {a : Option Addr} {len : Nat} {l : List Int} (h : IRd w a len l) {m : Nat} (hm : m ≤ len) : IRd w a m (l.take m) := by
  refine ⟨by rw [List.length_take, h.size]; omega, fun i x hx => ?_⟩
  rw [List.getElem?_take] at hx
  split at hx
  · exact h.cell i x hx
  · cases hx

set_option maxRecDepth 100000 in
theorem cut_first (a : Option Addr) (len cap m : Nat) (hm : m < len) (hc : len ≤ cap) (hcc : cap ≤ 9223372036854775807) : ∀ w' : World, (Instr.slice 22 (.slice a len cap) none (some (.int .i64 (m : Int))) none).run Try.prog w' = .ok (.slice a m cap) w' := fun w' => by
  rw [run_slice_h (P := Try.prog) w' 22 a len cap Try.underlying22 .i64 (m : Int) (by omega) (by omega)]
  show Result.ok (sliced _ 0 (m : Int).toNat cap 1) w' = _
  simp [sliced, Addr.add]
def In64 (z : Int) : Prop := -9223372036854775808 ≤ z ∧ z ≤ 9223372036854775807
set_option maxRecDepth 100000 in
theorem open_two {H : Type} {enc : TypeId × Value → H} {W : World} {base : Nat} {v : Value} {d : DataW H} {p : List MemPlace} {sp : Nat → Bool}
    (hv : Value.okWide Try.prog W .any base 35 v) (h : DataW.Trod enc Try.prog W 0 sp true 35 v d p) : ∃ x y : Int, v = .agg #[.int .i64 x, .int .i64 y] ∧ In64 x ∧ In64 y := by
  obtain ⟨cs, rfl, hsz, _⟩ : ∃ cs, v = .agg cs ∧ cs.size = Try.prog.cellsOf 35 ∧ Row.okWide Try.prog W .any base 35 cs := by
    simpa [Value.okWide, Try.underlying35] using hv
  have hc2 : Try.prog.cellsOf 35 = 2 := by kernel_rfl
  have hc1 : Try.prog.cellsOf 3 = 1 := by kernel_rfl
  rw [hc2] at hsz
  obtain ⟨c0, c1, rfl⟩ : ∃ c0 c1, cs = #[c0, c1] := by
    obtain ⟨l⟩ := cs
    rcases l with _ | ⟨c0, _ | ⟨c1, _ | ⟨c2, l⟩⟩⟩
    · simp at hsz
    · simp at hsz
    · exact ⟨c0, c1, rfl⟩
    · simp at hsz
  obtain ⟨fuel, hf⟩ := h
  obtain ⟨xs, m, -, -, -, hxl, hel⟩ := DataW.trod_array Try.underlying35 hf
  have e0 := hel 0 (by decide)
  have e1 := hel 1 (by decide)
  rw [hc1] at e0 e1
  rw [List.getElem?_eq_getElem (by omega)] at e0 e1
  obtain ⟨x0, q0, -, w0⟩ := DataW.trod_int Try.underlying3 e0
  obtain ⟨x1, q1, -, w1⟩ := DataW.trod_int Try.underlying3 e1
  simp [Value.cells] at q0 q1
  exact ⟨x0, x1, by rw [q0, q1], wf_range w0, wf_range w1⟩

end Go.Proofs.Ytdjeilombaclmaa
