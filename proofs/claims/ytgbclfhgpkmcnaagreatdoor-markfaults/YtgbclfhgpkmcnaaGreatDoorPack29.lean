/-
  Texts of the proof, several in one: ThingsArg, MarkArgs.
-/
import Derived.Test.YtgbclfhgpkmcnaaGreatDoorPack27
import Derived.Deep.Slices
/-
  Arguments that are things, and lists of numbers: what comes in can be read.
-/
namespace Go.Proofs.YtgbclfhgpkmcnaaGreatDoor
open Go.RowKit Go.ChangeShapes Go.WideShapes Go.ChangeAt
set_option linter.unusedVariables false

theorem cellsThing : Tryz.prog.cellsOf 71 = 3 := by kernel_rfl
theorem cellsInt : Tryz.prog.cellsOf 3 = 1 := by kernel_rfl
theorem cellsInts : Tryz.prog.cellsOf 25 = 1 := by kernel_rfl
theorem ird_of {H : Type} {enc : TypeId × Value → H} {W : World} {n : Nat} {v : Value} {x : DataW H × List MemPlace}
    (f : DataW.trod enc Tryz.prog W 0 (fun _ => true) true n 25 [v] = some x) : ∃ aL lL cL zs, v = .slice aL lL cL ∧ IRd W aL lL zs ∧ zs.length = lL ∧ lL ≤ cL ∧ cL ≤ 9223372036854775807 := by
  rcases open_ints Tryz.underlying25 Tryz.underlying3 cellsInt f with ⟨hcs, _⟩ | ⟨y, l, c, zs, hcs, _, hl2, hm2, hz, _, hcell, hwz⟩
  · simp at hcs
    have h1 := isRow_ird (w := W) (a := none) (len := 0) (cap := 0) (zs := []) (.inl ⟨rfl, rfl, rfl, rfl⟩)
    exact ⟨none, 0, 0, _, hcs, h1, h1.size, by omega, by omega⟩
  · simp at hcs
    have h1 := isRow_ird (w := W) (a := some y) (len := l) (cap := c) (zs := zs) (.inr ⟨_, rfl, hl2, hm2, by simpa using hz, hcell, hwz⟩)
    exact ⟨some y, l, c, _, hcs, h1, h1.size, hl2, by unfold maxLen at hm2; omega⟩

set_option maxRecDepth 100000 in
theorem open_thing_at {H : Type} {enc : TypeId × Value → H} {W : World} {a : Option Addr} {len cap : Nat} {d : DataW H} {p : List MemPlace}
    (h : DataW.Trod enc Tryz.prog W 0 (fun _ => true) true 22 (.slice a len cap) d p) :
    (len ≤ cap ∧ cap ≤ 9223372036854775807) ∧ ∀ i, i < len → ∃ (t : Th) (b off : Nat) (aR : Option Addr) (cR : Nat), a = some ⟨b, off, none⟩ ∧ W.cell? ⟨b, off + i * 3, none⟩ = some (.int .i64 t.c) ∧ W.cell? ⟨b, off + i * 3 + 1, none⟩ = some (.int .i64 t.n) ∧ W.cell? ⟨b, off + i * 3 + 2, none⟩ = some (.slice aR t.refs.length cR) ∧ IRd W aR t.refs.length t.refs := by
  obtain ⟨fuel, hf⟩ := h
  rcases Go.Deep.open_slice Tryz.underlying22 hf with ⟨hcs, _⟩ | ⟨x, len', cap', m, n, D, Pl, hcs, _, hl, hm, hmm, _, hel⟩
  · simp [Value.cells] at hcs
    obtain ⟨rfl, rfl, rfl⟩ := hcs
    exact ⟨⟨by omega, by omega⟩, fun i hi => absurd hi (Nat.not_lt_zero _)⟩
  · simp [Value.cells] at hcs
    obtain ⟨rfl, rfl, rfl⟩ := hcs
    simp only [if_true] at hmm
    subst hmm
    refine ⟨⟨hl, by unfold maxLen at hm; omega⟩, fun i hi => ?_⟩
    obtain ⟨cs, h1, h2⟩ := hel i (by omega)
    rw [cellsThing] at h1
    obtain ⟨_, hlen, hc⟩ := World.cells?_some h1
    obtain ⟨v0, v1, v2, rfl⟩ : ∃ v0 v1 v2, cs = [v0, v1, v2] := by
      rcases cs with _ | ⟨v0, _ | ⟨v1, _ | ⟨v2, _ | ⟨v3, r⟩⟩⟩⟩
      all_goals first | (exact ⟨v0, v1, v2, rfl⟩) | (simp at hlen)
    obtain ⟨xs, n', -, -, -, hxl, hfl⟩ := DataW.trod_struct Tryz.underlying71 h2
    have f0 : DataW.trod enc Tryz.prog W 0 (fun _ => true) true n' 3 (List.take (Tryz.prog.cellsOf 3) (List.drop 0 [v0, v1, v2])) = xs[0]? := hfl 0 _ rfl
    have f1 : DataW.trod enc Tryz.prog W 0 (fun _ => true) true n' 3 (List.take (Tryz.prog.cellsOf 3) (List.drop 1 [v0, v1, v2])) = xs[1]? := hfl 1 _ rfl
    have f2 : DataW.trod enc Tryz.prog W 0 (fun _ => true) true n' 25 (List.take (Tryz.prog.cellsOf 25) (List.drop 2 [v0, v1, v2])) = xs[2]? := hfl 2 _ rfl
    rw [cellsInt] at f0 f1
    rw [cellsInts] at f2
    have hxl5 : xs.length = 3 := hxl
    rw [List.getElem?_eq_getElem (by omega)] at f0 f1 f2
    obtain ⟨r, q0, -, w0⟩ := DataW.trod_int Tryz.underlying3 f0
    obtain ⟨v, q1, -, w1⟩ := DataW.trod_int Tryz.underlying3 f1
    simp at q0 q1
    subst q0 q1
    obtain ⟨aL, lL, cL, zs, hv2, hrow, hzl, -, -⟩ := ird_of (v := v2) f2
    subst hv2
    obtain ⟨b, off, spot⟩ := x
    have hspot : spot = none := by
      obtain ⟨cs0, k1, _⟩ := hel 0 (by omega)
      rw [cellsThing] at k1
      obtain ⟨_, k2, k3⟩ := World.cells?_some k1
      have k4 := k3 0 (by omega)
      rw [List.getElem?_eq_getElem (by omega)] at k4
      have e1 := World.cell?_spot k4
      simpa [Addr.add] using e1
    subst hspot
    have ha : ∀ j, Addr.add (Addr.add ⟨b, off, none⟩ (i * 3)) j = ⟨b, off + i * 3 + j, none⟩ := fun j => by
      rw [Go.Deep.add_add, show Addr.add ⟨b, off, none⟩ (i * 3 + j) = ⟨b, off + (i * 3 + j), none⟩ by simp [Addr.add], Nat.add_assoc]
    have g0 := hc 0 (by omega)
    have g1 := hc 1 (by omega)
    have g2 := hc 2 (by omega)
    rw [ha] at g0 g1 g2
    subst hzl
    exact ⟨⟨r, v, zs⟩, b, off, aL, cL, rfl, g0, g1, g2, hrow⟩
theorem open_things {H : Type} {enc : TypeId × Value → H} {W : World} {a : Option Addr} {len cap : Nat} {d : DataW H} {p : List MemPlace}
    (h : DataW.Trod enc Tryz.prog W 0 (fun _ => true) true 22 (.slice a len cap) d p) : ∃ ths : List Th, ths.length = len ∧ ThR W a ths ∧ len ≤ cap ∧ cap ≤ 9223372036854775807 := by
  obtain ⟨hl, h1⟩ := open_thing_at h
  have h2 : ∀ i : Fin len, ∃ t : Th, ∃ (b off : Nat) (aR : Option Addr) (cR : Nat), a = some ⟨b, off, none⟩ ∧ W.cell? ⟨b, off + i.val * 3, none⟩ = some (.int .i64 t.c) ∧ W.cell? ⟨b, off + i.val * 3 + 1, none⟩ = some (.int .i64 t.n) ∧ W.cell? ⟨b, off + i.val * 3 + 2, none⟩ = some (.slice aR t.refs.length cR) ∧ IRd W aR t.refs.length t.refs := fun i => h1 i.val i.isLt
  obtain ⟨f, hf⟩ := Classical.axiomOfChoice h2
  refine ⟨List.ofFn f, List.length_ofFn, ⟨by rw [List.length_ofFn]; omega, fun i t ht => ?_⟩, hl.1, hl.2⟩
  rw [List.getElem?_ofFn] at ht
  split at ht
  · rename_i hi
    injection ht with ht
    subst ht
    exact hf ⟨i, hi⟩
  · cases ht
/-- The first things of a row. -/
theorem ThR.front {w : World} {ao : Option Addr} {ths : List Th} (h : ThR w ao ths) (k : Nat) : ThR w ao (ths.take k) := by
  refine ⟨by rw [List.length_take]; have := h.room; omega, fun i t ht => ?_⟩
  rw [List.getElem?_take] at ht
  split at ht
  · exact h.cell i t ht
  · cases ht
theorem IRd.front {w : World} {ao : Option Addr} {l : List Int} (h : IRd w ao l.length l) (k : Nat) : IRd w ao (l.take k).length (l.take k) := by
  refine ⟨rfl, by rw [List.length_take]; have := h.room; omega, fun i x hx => ?_, fun x hx => h.inn x (List.mem_of_mem_take hx)⟩
  rw [List.getElem?_take] at hx
  split at hx
  · exact h.cell i x hx
  · cases hx

set_option maxRecDepth 100000 in
theorem cut_things (a : Option Addr) (len cap m : Nat) (hm : m < len) (hc : len ≤ cap) (hcc : cap ≤ 9223372036854775807) : ∀ w' : World, (Instr.slice 22 (.slice a len cap) none (some (.int .i64 (m : Int))) none).run Tryz.prog w' = .ok (.slice a m cap) w' := fun w' => by
  rw [run_slice_h (P := Tryz.prog) w' 22 a len cap Tryz.underlying22 .i64 (m : Int) (by omega) (by omega)]
  show Result.ok (sliced _ 0 (m : Int).toNat cap _) w' = _
  simp [sliced, Addr.add]
set_option maxRecDepth 100000 in
theorem cut_ints (a : Option Addr) (len cap m : Nat) (hm : m < len) (hc : len ≤ cap) (hcc : cap ≤ 9223372036854775807) : ∀ w' : World, (Instr.slice 25 (.slice a len cap) none (some (.int .i64 (m : Int))) none).run Tryz.prog w' = .ok (.slice a m cap) w' := fun w' => by
  rw [run_slice_h (P := Tryz.prog) w' 25 a len cap Tryz.underlying25 .i64 (m : Int) (by omega) (by omega)]
  show Result.ok (sliced _ 0 (m : Int).toNat cap 1) w' = _
  simp [sliced, Addr.add]
end Go.Proofs.YtgbclfhgpkmcnaaGreatDoor

/-
  The arguments of the statements of layer 11: things, sizes, work: what comes in can be read.
-/
namespace Go.Proofs.YtgbclfhgpkmcnaaGreatDoor
open Go.RowKit Go.ChangeShapes Go.WideShapes Go.ChangeAt
set_option linter.unusedVariables false

theorem cellsSizes : Tryz.prog.cellsOf 24 = 3 := by kernel_rfl
theorem cellsWork : Tryz.prog.cellsOf 27 = 2 := by kernel_rfl

set_option maxRecDepth 100000 in
theorem open_sizes {H : Type} {enc : TypeId × Value → H} {W : World} {base : Nat} {v : Value} {d : DataW H} {p : List MemPlace}
    (hv : Value.okWide Tryz.prog W .any base 24 v) (h : DataW.Trod enc Tryz.prog W 0 (fun _ => true) true 24 v d p) :
    ∃ x y z : Int, v = .agg #[.int .i64 x, .int .i64 y, .int .i64 z] ∧ In64 x ∧ In64 y ∧ In64 z := by
  obtain ⟨cs, rfl, hs3, _⟩ : ∃ cs, v = .agg cs ∧ cs.size = Tryz.prog.cellsOf 24 ∧ Row.okWide Tryz.prog W .any base 24 cs := by
    simpa [Value.okWide, Tryz.underlying24] using hv
  rw [cellsSizes] at hs3
  obtain ⟨c0, c1, c2, rfl⟩ : ∃ c0 c1 c2, cs = #[c0, c1, c2] := by
    obtain ⟨l⟩ := cs
    rcases l with _ | ⟨c0, _ | ⟨c1, _ | ⟨c2, _ | ⟨c3, l⟩⟩⟩⟩
    · simp at hs3
    · simp at hs3
    · simp at hs3
    · exact ⟨c0, c1, c2, rfl⟩
    · simp at hs3
  obtain ⟨fuel, hf⟩ := h
  obtain ⟨xs, n', -, hx, -, hxl, hfl⟩ := DataW.trod_struct Tryz.underlying24 hf
  have f0 : DataW.trod enc Tryz.prog W 0 (fun _ => true) true n' 3 (List.take (Tryz.prog.cellsOf 3) (List.drop 0 [c0, c1, c2])) = xs[0]? := hfl 0 _ rfl
  have f1 : DataW.trod enc Tryz.prog W 0 (fun _ => true) true n' 3 (List.take (Tryz.prog.cellsOf 3) (List.drop 1 [c0, c1, c2])) = xs[1]? := hfl 1 _ rfl
  have f2 : DataW.trod enc Tryz.prog W 0 (fun _ => true) true n' 3 (List.take (Tryz.prog.cellsOf 3) (List.drop 2 [c0, c1, c2])) = xs[2]? := hfl 2 _ rfl
  rw [cellsInt] at f0 f1 f2
  have hxl3 : xs.length = 3 := hxl
  rw [List.getElem?_eq_getElem (by omega)] at f0 f1 f2
  obtain ⟨a, q0, -, w0⟩ := DataW.trod_int Tryz.underlying3 f0
  obtain ⟨b, q1, -, w1⟩ := DataW.trod_int Tryz.underlying3 f1
  obtain ⟨c, q2, -, w2⟩ := DataW.trod_int Tryz.underlying3 f2
  simp at q0 q1 q2
  subst q0 q1 q2
  exact ⟨a, b, c, rfl, wf_range w0, wf_range w1, wf_range w2⟩

set_option maxRecDepth 100000 in
theorem open_work {H : Type} {enc : TypeId × Value → H} {W : World} {base : Nat} {v : Value} {d : DataW H} {p : List MemPlace}
    (hv : Value.okWide Tryz.prog W .any base 27 v) (h : DataW.Trod enc Tryz.prog W 0 (fun _ => true) true 27 v d p) :
    ∃ (ro : Option Addr) (rc : Nat) (rs : List Int) (po : Option Addr) (pc : Nat) (ps : List Int), v = .agg #[.slice ro rs.length rc, .slice po ps.length pc] ∧ IRd W ro rs.length rs ∧ IRd W po ps.length ps ∧ (rs.length ≤ rc ∧ rc ≤ 9223372036854775807) ∧ (ps.length ≤ pc ∧ pc ≤ 9223372036854775807) := by
  obtain ⟨cs, rfl, hs3, _⟩ : ∃ cs, v = .agg cs ∧ cs.size = Tryz.prog.cellsOf 27 ∧ Row.okWide Tryz.prog W .any base 27 cs := by
    simpa [Value.okWide, Tryz.underlying27] using hv
  rw [cellsWork] at hs3
  obtain ⟨c0, c1, rfl⟩ : ∃ c0 c1, cs = #[c0, c1] := by
    obtain ⟨l⟩ := cs
    rcases l with _ | ⟨c0, _ | ⟨c1, _ | ⟨c2, l⟩⟩⟩
    · simp at hs3
    · simp at hs3
    · exact ⟨c0, c1, rfl⟩
    · simp at hs3
  obtain ⟨fuel, hf⟩ := h
  obtain ⟨xs, n', -, hx, -, hxl, hfl⟩ := DataW.trod_struct Tryz.underlying27 hf
  have f0 : DataW.trod enc Tryz.prog W 0 (fun _ => true) true n' 25 (List.take (Tryz.prog.cellsOf 25) (List.drop 0 [c0, c1])) = xs[0]? := hfl 0 _ rfl
  have f1 : DataW.trod enc Tryz.prog W 0 (fun _ => true) true n' 25 (List.take (Tryz.prog.cellsOf 25) (List.drop 1 [c0, c1])) = xs[1]? := hfl 1 _ rfl
  rw [cellsInts] at f0 f1
  have hxl3 : xs.length = 2 := hxl
  rw [List.getElem?_eq_getElem (by omega)] at f0 f1
  obtain ⟨a0, l0, k0, z0, e0, r0, h0, g0⟩ := ird_of (v := c0) f0
  obtain ⟨a1, l1, k1, z1, e1, r1, h1, g1⟩ := ird_of (v := c1) f1
  subst e0 e1 h0 h1
  exact ⟨a0, k0, z0, a1, k1, z1, rfl, r0, r1, g0, g1⟩

end Go.Proofs.YtgbclfhgpkmcnaaGreatDoor
