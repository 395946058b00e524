/-
  A slice of calls that came in: each with a list of numbers of its own; and of bools.
-/
import Derived.Test.YtclfeafmlngpnaaSafeAwake
import Derived.Test.YtclfeafmlngpnaaBulk
import Derived.Deep.Grids
namespace Go.Proofs.Ytclfeafmlngpnaa
open Go.ChangeShapes Go.WideShapes Go.ChangeAt Go.RowKit Go.Maps
set_option linter.unusedVariables false

def BRd (w : World) (a : Option Addr) (len : Nat) (bs : Nat → Bool) : Prop := ∀ i, i < len → ∃ g off, a = some ⟨g, off, none⟩ ∧ w.cell? ⟨g, off + i, none⟩ = some (.bool (bs i))
theorem BRd.turned {w w' : World} {a : Option Addr} {len : Nat} {bs : Nat → Bool} (h : BRd w a len bs) (ht : Turned [] w w') : BRd w' a len bs := fun i hi => by
  obtain ⟨g, off, h1, h2⟩ := h i hi
  exact ⟨g, off, h1, by rw [ht.cell (block_lt h2) (by simp)]; exact h2⟩

/-- Calls that can be read. -/
def OpsRd (w : World) (a : Option Addr) (len : Nat) : Prop := ∀ i, i < len → ∃ (b off : Nat) (K At : Int) (aL : Option Addr) (lL cL : Nat) (l : List Int), a = some ⟨b, off, none⟩ ∧
  w.cell? ⟨b, off + i * 3, none⟩ = some (.int .i64 K) ∧ w.cell? ⟨b, off + i * 3 + 1, none⟩ = some (.int .i64 At) ∧ w.cell? ⟨b, off + i * 3 + 2, none⟩ = some (.slice aL lL cL) ∧ In64 K ∧ In64 At ∧ IRd w aL lL l ∧ lL ≤ 1048576
theorem OpsRd.turned {w w' : World} {a : Option Addr} {len : Nat} (h : OpsRd w a len) (ht : Turned [] w w') : OpsRd w' a len := fun i hi => by
  obtain ⟨b, off, K, At, aL, lL, cL, l, h0, h1, h2, h3, h4, h5, h6, h7⟩ := h i hi
  exact ⟨b, off, K, At, aL, lL, cL, l, h0, by rw [ht.cell (block_lt h1) (by simp)]; exact h1, by rw [ht.cell (block_lt h2) (by simp)]; exact h2, by rw [ht.cell (block_lt h3) (by simp)]; exact h3, h4, h5, h6.turned ht (by simp), h7⟩

theorem isRow_ird {w : World} {a : Option Addr} {len cap : Nat} {zs : List Int} (h : IsRow .i64 w a len cap zs) : IRd w a len (zs.take len) ∧ len ≤ 9223372036854775807 := by
  rcases h.cases with h0 | ⟨b, off, rfl, hl, hm, _, hc, hw⟩
  · subst h0
    exact ⟨by rw [List.take_zero]; exact IRd.nil _ _, by omega⟩
  · refine ⟨⟨by rw [List.length_take]; omega, fun x hx => ?_, fun i x hx => ⟨b, off, rfl, ?_⟩⟩, hm⟩
    · obtain ⟨i, hi⟩ := List.mem_iff_getElem?.1 hx
      rw [List.getElem?_take] at hi
      split at hi
      · have := hw i
        rw [List.getD_eq_getElem?_getD, hi] at this
        exact wf_range this
      · cases hi
    · rw [List.getElem?_take] at hx
      split at hx
      · rename_i h1
        rw [hc i h1, List.getD_eq_getElem?_getD, hx]
        rfl
      · cases hx

theorem cellsInt : Try.prog.cellsOf 3 = 1 := by kernel_rfl
theorem cellsSl : Try.prog.cellsOf 27 = 1 := by kernel_rfl
theorem cellsOp : Try.prog.cellsOf 31 = 3 := by kernel_rfl

theorem bulk_mem {H : Type} {l : List (DataW H)} {x : DataW H} (h : x ∈ l) : Rows.uptoBulk x ≤ Rows.uptoBulkAll l := by
  induction l with
  | nil => cases h
  | cons y r ih =>
    simp only [Rows.uptoBulkAll]
    rcases List.mem_cons.1 h with rfl | h
    · omega
    · have := ih h
      omega

theorem open_things {H : Type} {enc : TypeId × Value → H} {W : World} {a : Option Addr} {len cap : Nat} {d : DataW H} {p : List MemPlace}
    (h : DataW.Trod enc Try.prog W 0 (fun _ => true) true 22 (.slice a len cap) d p) (hbulk : Rows.uptoBulk d ≤ 1048576) : OpsRd W a len := by
  obtain ⟨fuel, hf⟩ := h
  rcases Go.Deep.open_slice Try.underlying22 hf with ⟨hcs, _⟩ | ⟨x, len', cap', m, n, D, Pl, hcs, _, hl, hm, hmm, hx, hel⟩
  · simp [Value.cells] at hcs
    obtain ⟨rfl, rfl, rfl⟩ := hcs
    exact fun i hi => absurd hi (Nat.not_lt_zero _)
  · simp [Value.cells] at hcs
    obtain ⟨rfl, rfl, rfl⟩ := hcs
    simp only [if_true] at hmm
    subst hmm
    have hd := congrArg Prod.fst hx
    simp only at hd
    intro i hi
    obtain ⟨cs, h1, h2⟩ := hel i (by omega)
    rw [cellsOp] at h1
    obtain ⟨_, hlen, hc⟩ := World.cells?_some h1
    obtain ⟨v0, v1, v2, rfl⟩ : ∃ v0 v1 v2, cs = [v0, v1, v2] := by
      rcases cs with _ | ⟨v0, _ | ⟨v1, _ | ⟨v2, _ | ⟨v3, r⟩⟩⟩⟩
      all_goals first | (exact ⟨v0, v1, v2, rfl⟩) | (simp at hlen)
    obtain ⟨xs, n', -, hagg, -, hxl, hfl⟩ := DataW.trod_struct Try.underlying31 h2
    have hDi : D i = .agg (xs.map (·.1)) := congrArg Prod.fst hagg
    have f0 : DataW.trod enc Try.prog W 0 (fun _ => true) true n' 3 (List.take (Try.prog.cellsOf 3) (List.drop 0 [v0, v1, v2])) = xs[0]? := hfl 0 _ rfl
    have f1 : DataW.trod enc Try.prog W 0 (fun _ => true) true n' 3 (List.take (Try.prog.cellsOf 3) (List.drop 1 [v0, v1, v2])) = xs[1]? := hfl 1 _ rfl
    have f2 : DataW.trod enc Try.prog W 0 (fun _ => true) true n' 27 (List.take (Try.prog.cellsOf 27) (List.drop 2 [v0, v1, v2])) = xs[2]? := hfl 2 _ rfl
    rw [cellsInt] at f0 f1
    rw [cellsSl] at f2
    have hxl3 : xs.length = 3 := hxl
    rw [List.getElem?_eq_getElem (by omega)] at f0 f1 f2
    obtain ⟨kd, q0, -, w0⟩ := DataW.trod_int Try.underlying3 f0
    obtain ⟨t, q1, -, w1⟩ := DataW.trod_int Try.underlying3 f1
    simp at q0 q1
    subst q0 q1
    obtain ⟨aL, lL, cL, zs, hv2, hrow⟩ : ∃ aL lL cL zs, v2 = .slice aL lL cL ∧ IsRow .i64 W aL lL cL zs := by
      rcases open_ints Try.underlying27 Try.underlying3 cellsInt f2 with ⟨hcs, _⟩ | ⟨y, l, c, zs, hcs, _, hl2, hm2, hz, _, hcell, hwz⟩
      · simp at hcs
        exact ⟨none, 0, 0, [], hcs, .inl ⟨rfl, rfl, rfl, rfl⟩⟩
      · simp at hcs
        exact ⟨some y, l, c, zs, hcs, .inr ⟨_, rfl, hl2, hm2, by simpa using hz, hcell, hwz⟩⟩
    subst hv2
    have hfew : lL ≤ 1048576 := by
      have e1 := slice_few (d := xs[2].1) (p := xs[2].2) Try.underlying27 ⟨n', by simpa [Value.cells] using f2⟩
      have e2 : Rows.uptoBulk xs[2].1 ≤ Rows.uptoBulkAll (xs.map (·.1)) := bulk_mem (List.mem_map.2 ⟨_, List.getElem_mem _, rfl⟩)
      have e3 : Rows.uptoBulk (D i) ≤ Rows.uptoBulkAll ((List.range len).map D) := bulk_mem (List.mem_map.2 ⟨i, List.mem_range.2 hi, rfl⟩)
      rw [hDi] at e3
      rw [hd] at hbulk
      simp only [Rows.uptoBulk] at e3 hbulk
      omega
    obtain ⟨b, off, spot⟩ := x
    have hspot : spot = none := by
      obtain ⟨cs0, k1, _⟩ := hel 0 (by omega)
      rw [cellsOp] at k1
      obtain ⟨_, k2, k3⟩ := World.cells?_some k1
      have k4 := k3 0 (by omega)
      rw [List.getElem?_eq_getElem (by omega)] at k4
      have e1 := World.cell?_spot k4
      simpa [Addr.add] using e1
    subst hspot
    have ha : ∀ j, Addr.add (Addr.add ⟨b, off, none⟩ (i * 3)) j = ⟨b, off + i * 3 + j, none⟩ := fun j => by
      rw [Go.Deep.add_add, show Addr.add ⟨b, off, none⟩ (i * 3 + j) = ⟨b, off + (i * 3 + j), none⟩ by simp [Addr.add], Nat.add_assoc]
    have g0 := hc 0 (by omega)
    have g1 := hc 1 (by omega)
    have g2 := hc 2 (by omega)
    rw [ha] at g0 g1 g2
    exact ⟨b, off, kd, t, aL, lL, cL, zs.take lL, rfl, g0, g1, g2, wf_range w0, wf_range w1, (isRow_ird hrow).1, hfew⟩
end Go.Proofs.Ytclfeafmlngpnaa
