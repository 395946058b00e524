/-
  A slice of things that comes in can be read.
-/
import Derived.Test.YtkidcbehjhlnkaaClassesSum
import Derived.Deep.Slices
namespace Go.Proofs.Ytkidcbehjhlnkaa
open Go.RowKit Go.ChangeShapes Go.WideShapes Go.ChangeAt
set_option linter.unusedVariables false

/-- A slice of things: a class, a length, numbers. -/
structure ThRd (w : World) (ao : Option Addr) (len : Nat) : Prop where
  room : len ≤ 9223372036854775807
  cell : ∀ i, i < len → ∃ (b off : Nat) (c n : Int) (aR : Option Addr) (lR cR : Nat) (zs : List Int), ao = some ⟨b, off, none⟩ ∧ w.cell? ⟨b, off + i * 3, none⟩ = some (.int .i64 c) ∧ w.cell? ⟨b, off + i * 3 + 1, none⟩ = some (.int .i64 n) ∧ w.cell? ⟨b, off + i * 3 + 2, none⟩ = some (.slice aR lR cR) ∧ IRd w aR lR zs ∧ In64 c ∧ In64 n
theorem ThRd.turned {w w' : World} {ao : Option Addr} {len : Nat} (h : ThRd w ao len) (ht : Turned [] w w') : ThRd w' ao len := by
  refine ⟨h.room, fun i hi => ?_⟩
  obtain ⟨b, off, c, n, aR, lR, cR, zs, h0, h1, h2, h3, h4, h5⟩ := h.cell i hi
  exact ⟨b, off, c, n, aR, lR, cR, zs, h0, by rw [ht.cell (block_lt h1) (by simp)]; exact h1, by rw [ht.cell (block_lt h2) (by simp)]; exact h2, by rw [ht.cell (block_lt h3) (by simp)]; exact h3, h4.turned ht, h5⟩

theorem cellsThing : Try.prog.cellsOf 99 = 3 := by kernel_rfl
theorem cellsInt : Try.prog.cellsOf 3 = 1 := by kernel_rfl
theorem cellsInts : Try.prog.cellsOf 50 = 1 := by kernel_rfl

set_option maxRecDepth 100000 in
theorem open_things {H : Type} {enc : TypeId × Value → H} {W : World} {a : Option Addr} {len cap : Nat} {d : DataW H} {p : List MemPlace}
    (h : DataW.Trod enc Try.prog W 0 (fun _ => true) true 55 (.slice a len cap) d p) : ThRd W a len := by
  obtain ⟨fuel, hf⟩ := h
  rcases Go.Deep.open_slice Try.underlying55 hf with ⟨hcs, _⟩ | ⟨x, len', cap', m, n, D, Pl, hcs, _, hl, hm, hmm, _, hel⟩
  · simp [Value.cells] at hcs
    obtain ⟨rfl, rfl, rfl⟩ := hcs
    exact ⟨by omega, fun i hi => absurd hi (Nat.not_lt_zero _)⟩
  · simp [Value.cells] at hcs
    obtain ⟨rfl, rfl, rfl⟩ := hcs
    simp only [if_true] at hmm
    subst hmm
    refine ⟨by unfold maxLen at hm; omega, fun i hi => ?_⟩
    obtain ⟨cs, h1, h2⟩ := hel i (by omega)
    rw [cellsThing] at h1
    obtain ⟨_, hlen, hc⟩ := World.cells?_some h1
    obtain ⟨v0, v1, v2, rfl⟩ : ∃ v0 v1 v2, cs = [v0, v1, v2] := by
      rcases cs with _ | ⟨v0, _ | ⟨v1, _ | ⟨v2, _ | ⟨v3, r⟩⟩⟩⟩
      all_goals first | (exact ⟨v0, v1, v2, rfl⟩) | (simp at hlen)
    obtain ⟨xs, n', -, -, -, hxl, hfl⟩ := DataW.trod_struct Try.underlying99 h2
    have f0 : DataW.trod enc Try.prog W 0 (fun _ => true) true n' 3 (List.take (Try.prog.cellsOf 3) (List.drop 0 [v0, v1, v2])) = xs[0]? := hfl 0 _ rfl
    have f1 : DataW.trod enc Try.prog W 0 (fun _ => true) true n' 3 (List.take (Try.prog.cellsOf 3) (List.drop 1 [v0, v1, v2])) = xs[1]? := hfl 1 _ rfl
    have f2 : DataW.trod enc Try.prog W 0 (fun _ => true) true n' 50 (List.take (Try.prog.cellsOf 50) (List.drop 2 [v0, v1, v2])) = xs[2]? := hfl 2 _ rfl
    rw [cellsInt] at f0 f1
    rw [cellsInts] at f2
    have hxl5 : xs.length = 3 := hxl
    rw [List.getElem?_eq_getElem (by omega)] at f0 f1 f2
    obtain ⟨r, q0, -, w0⟩ := DataW.trod_int Try.underlying3 f0
    obtain ⟨v, q1, -, w1⟩ := DataW.trod_int Try.underlying3 f1
    simp at q0 q1
    subst q0 q1
    obtain ⟨aL, lL, cL, zs, hv2, hrow⟩ : ∃ aL lL cL zs, v2 = .slice aL lL cL ∧ IsRow .i64 W aL lL cL zs := by
      rcases open_ints Try.underlying50 Try.underlying3 cellsInt f2 with ⟨hcs, _⟩ | ⟨y, l, c, zs, hcs, _, hl2, hm2, hz, _, hcell, hwz⟩
      · simp at hcs
        exact ⟨none, 0, 0, [], hcs, .inl ⟨rfl, rfl, rfl, rfl⟩⟩
      · simp at hcs
        exact ⟨some y, l, c, zs, hcs, .inr ⟨_, rfl, hl2, hm2, by simpa using hz, hcell, hwz⟩⟩
    subst hv2
    obtain ⟨b, off, spot⟩ := x
    have hspot : spot = none := by
      obtain ⟨cs0, k1, _⟩ := hel 0 (by omega)
      rw [cellsThing] at k1
      obtain ⟨_, k2, k3⟩ := World.cells?_some k1
      have k4 := k3 0 (by omega)
      rw [List.getElem?_eq_getElem (by omega)] at k4
      have e1 := World.cell?_spot k4
      simpa [Addr.add] using e1
    subst hspot
    have ha : ∀ j, Addr.add (Addr.add ⟨b, off, none⟩ (i * 3)) j = ⟨b, off + i * 3 + j, none⟩ := fun j => by
      rw [Go.Deep.add_add, show Addr.add ⟨b, off, none⟩ (i * 3 + j) = ⟨b, off + (i * 3 + j), none⟩ by simp [Addr.add], Nat.add_assoc]
    have g0 := hc 0 (by omega)
    have g1 := hc 1 (by omega)
    have g2 := hc 2 (by omega)
    rw [ha] at g0 g1 g2
    exact ⟨b, off, r, v, aL, lL, cL, zs.take lL, rfl, g0, g1, g2, isRow_ird hrow, wf_range w0, wf_range w1⟩
end Go.Proofs.Ytkidcbehjhlnkaa
