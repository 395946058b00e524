/-
  The document's own Ref tells the same; three numbers that come in as one.
-/
import Derived.Test.YtcnclecdainneaaClassesRefR
import Derived.Test.YtcnclecdainneaaClassesOpen
namespace Go.Proofs.Ytcnclecdainneaa
open Go.RowKit Go.ChangeShapes Go.WideShapes Go.ChangeAt
set_option linter.unusedVariables false

set_option maxRecDepth 100000 in
set_option maxHeartbeats 4000000 in
theorem rref_any (ao : Option Addr) (len cap : Nat) (cs : List Cls) (k n x : Int) (w : World) (hn : In64 n) (h : CRd w ao len cs) :
    Calls Try.prog 17 #[.slice ao len cap, .int .i64 k, .int .i64 n, .int .i64 x] w fun e w' => e = .returned (.bool (decide (0 < x ∧ x ≤ refsOf cs k n))) ∧ Turned [] w w' := by
  have HC := hide (rrefs_any ao len cap cs k n w hn h)
  have hr := refsOf_range cs k n
  generalize refsOf cs k n = y at *
  obtain ⟨R, rfl⟩ := Int.eq_ofNat_of_zero_le hr.1
  simp only [Int.toNat_natCast] at HC
  have hR : R ≤ 65535 := by omega
  obtain ⟨bb, hb⟩ : ∃ b, b = decide (0 < x ∧ x ≤ (R : Int)) := ⟨_, rfl⟩
  rw [← hb]
  have HB := hide hb
  clear hb hr hn h
  go_enter Try.func17, Try.ntmps17
  go_wp2_with fail
  refine HC.out.mono ?_
  rintro e w1 ⟨ar, cp, rfl, hrd, ht1⟩
  have HT := hide ht1
  have HR := hide hrd
  clear ht1 HC hrd
  go_wp2_with fail
  go_loopw [10] (fun i wr => ∃ (j : Nat), j ≤ R ∧ i = .int .i64 j ∧ Hid (x ≤ 0 ∨ (j : Int) < x) ∧ Hid (wr = w1)) (fun i _ => R - (intOf i).toNat)
  case atStart => exact ⟨0, Nat.zero_le _, rfl, by show _ ∨ _; omega, rfl⟩
  case round =>
    obtain ⟨j, hj, rfl, HX, HW⟩ := hrel
    have hW : wr = w1 := HW.out
    subst hW
    by_cases hlt : j < R
    · obtain ⟨b, off, rfl, c0⟩ := HR.out.cell j _ (rowTo_get hlt)
      by_cases he : (j : Int) + 1 = x
      · have hb : bb = true := by rw [HB.out]; simp; omega
        subst hb
        have e1 : ((j : Int) + 1 == x) = true := by simp [he]
        clear he HX
        go_wp2_with fail
        go_ret
        exact ⟨rfl, HT.out⟩
      · have HX2 : Hid (x ≤ 0 ∨ ((j + 1 : Nat) : Int) < x) := by show _ ∨ _; have := HX.out; omega
        have e1 : ((j : Int) + 1 == x) = false := by simp [he]
        clear he HX
        go_wp2_with fail
        go_roundw
        case rel => exact ⟨j + 1, by omega, by go_num, HX2, by first | exact rfl | exact trivial⟩
        case measure => simp [intOf]; omega
    · have hb : bb = false := by rw [HB.out]; have := HX.out; simp; omega
      subst hb
      clear HX
      go_wp2_with fail
      go_ret
      exact ⟨rfl, HT.out⟩

theorem open_triple {H : Type} {enc : TypeId × Value → H} {W : World} {base : Nat} {v : Value} {d : DataW H} {p : List MemPlace} {sp : Nat → Bool}
    (hv : Value.okWide Try.prog W .any base 23 v) (h : DataW.Trod enc Try.prog W 0 sp true 23 v d p) : ∃ x y z : Int, v = .agg #[.int .i64 x, .int .i64 y, .int .i64 z] ∧ In64 x ∧ In64 y ∧ In64 z := by
  obtain ⟨cs, rfl, hsz, _⟩ : ∃ cs, v = .agg cs ∧ cs.size = Try.prog.cellsOf 23 ∧ Row.okWide Try.prog W .any base 23 cs := by
    simpa [Value.okWide, Try.underlying23] using hv
  have hc2 : Try.prog.cellsOf 23 = 3 := by kernel_rfl
  have hc1 : Try.prog.cellsOf 3 = 1 := by kernel_rfl
  rw [hc2] at hsz
  obtain ⟨c0, c1, c2, rfl⟩ : ∃ c0 c1 c2, cs = #[c0, c1, c2] := by
    obtain ⟨l⟩ := cs
    rcases l with _ | ⟨c0, _ | ⟨c1, _ | ⟨c2, _ | ⟨c3, l⟩⟩⟩⟩
    · simp at hsz
    · simp at hsz
    · simp at hsz
    · exact ⟨c0, c1, c2, rfl⟩
    · simp at hsz
  obtain ⟨fuel, hf⟩ := h
  obtain ⟨xs, m, -, -, -, hxl, hel⟩ := DataW.trod_array Try.underlying23 hf
  have e0 := hel 0 (by decide)
  have e1 := hel 1 (by decide)
  have e2 := hel 2 (by decide)
  rw [hc1] at e0 e1 e2
  rw [List.getElem?_eq_getElem (by omega)] at e0 e1 e2
  obtain ⟨x0, q0, -, w0⟩ := DataW.trod_int Try.underlying3 e0
  obtain ⟨x1, q1, -, w1⟩ := DataW.trod_int Try.underlying3 e1
  obtain ⟨x2, q2, -, w2⟩ := DataW.trod_int Try.underlying3 e2
  simp [Value.cells] at q0 q1 q2
  exact ⟨x0, x1, x2, by rw [q0, q1, q2], wf_range w0, wf_range w1, wf_range w2⟩
end Go.Proofs.Ytcnclecdainneaa
