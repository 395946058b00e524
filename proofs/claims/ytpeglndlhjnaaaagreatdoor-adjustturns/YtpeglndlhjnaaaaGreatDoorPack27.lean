/-
  Texts of the proof, several in one: ThingsArg, AdjArgs.
-/
import Derived.Test.YtpeglndlhjnaaaaGreatDoorPack25
import Derived.Deep.Slices
/-
  Arguments that are things, and lists of numbers: what comes in can be read.
-/
namespace Go.Proofs.YtpeglndlhjnaaaaGreatDoor
open Go.RowKit Go.ChangeShapes Go.WideShapes Go.ChangeAt
set_option linter.unusedVariables false

theorem cellsThing : Tryz.prog.cellsOf 62 = 3 := by kernel_rfl
theorem cellsInt : Tryz.prog.cellsOf 3 = 1 := by kernel_rfl
theorem cellsInts : Tryz.prog.cellsOf 23 = 1 := by kernel_rfl
theorem ird_of {H : Type} {enc : TypeId × Value → H} {W : World} {n : Nat} {v : Value} {x : DataW H × List MemPlace}
    (f : DataW.trod enc Tryz.prog W 0 (fun _ => true) true n 23 [v] = some x) : ∃ aL lL cL zs, v = .slice aL lL cL ∧ IRd W aL lL zs ∧ zs.length = lL ∧ lL ≤ cL ∧ cL ≤ 9223372036854775807 := by
  rcases open_ints Tryz.underlying23 Tryz.underlying3 cellsInt f with ⟨hcs, _⟩ | ⟨y, l, c, zs, hcs, _, hl2, hm2, hz, _, hcell, hwz⟩
  · simp at hcs
    have h1 := isRow_ird (w := W) (a := none) (len := 0) (cap := 0) (zs := []) (.inl ⟨rfl, rfl, rfl, rfl⟩)
    exact ⟨none, 0, 0, _, hcs, h1, h1.size, by omega, by omega⟩
  · simp at hcs
    have h1 := isRow_ird (w := W) (a := some y) (len := l) (cap := c) (zs := zs) (.inr ⟨_, rfl, hl2, hm2, by simpa using hz, hcell, hwz⟩)
    exact ⟨some y, l, c, _, hcs, h1, h1.size, hl2, by unfold maxLen at hm2; omega⟩

set_option maxRecDepth 100000 in
theorem open_thing_at {H : Type} {enc : TypeId × Value → H} {W : World} {a : Option Addr} {len cap : Nat} {d : DataW H} {p : List MemPlace}
    (h : DataW.Trod enc Tryz.prog W 0 (fun _ => true) true 22 (.slice a len cap) d p) :
    (len ≤ cap ∧ cap ≤ 9223372036854775807) ∧ ∀ i, i < len → ∃ (t : Th) (b off : Nat) (aR : Option Addr) (cR : Nat), a = some ⟨b, off, none⟩ ∧ W.cell? ⟨b, off + i * 3, none⟩ = some (.int .i64 t.c) ∧ W.cell? ⟨b, off + i * 3 + 1, none⟩ = some (.int .i64 t.n) ∧ W.cell? ⟨b, off + i * 3 + 2, none⟩ = some (.slice aR t.refs.length cR) ∧ IRd W aR t.refs.length t.refs := by
  obtain ⟨fuel, hf⟩ := h
  rcases Go.Deep.open_slice Tryz.underlying22 hf with ⟨hcs, _⟩ | ⟨x, len', cap', m, n, D, Pl, hcs, _, hl, hm, hmm, _, hel⟩
  · simp [Value.cells] at hcs
    obtain ⟨rfl, rfl, rfl⟩ := hcs
    exact ⟨⟨by omega, by omega⟩, fun i hi => absurd hi (Nat.not_lt_zero _)⟩
  · simp [Value.cells] at hcs
    obtain ⟨rfl, rfl, rfl⟩ := hcs
    simp only [if_true] at hmm
    subst hmm
    refine ⟨⟨hl, by unfold maxLen at hm; omega⟩, fun i hi => ?_⟩
    obtain ⟨cs, h1, h2⟩ := hel i (by omega)
    rw [cellsThing] at h1
    obtain ⟨_, hlen, hc⟩ := World.cells?_some h1
    obtain ⟨v0, v1, v2, rfl⟩ : ∃ v0 v1 v2, cs = [v0, v1, v2] := by
      rcases cs with _ | ⟨v0, _ | ⟨v1, _ | ⟨v2, _ | ⟨v3, r⟩⟩⟩⟩
      all_goals first | (exact ⟨v0, v1, v2, rfl⟩) | (simp at hlen)
    obtain ⟨xs, n', -, -, -, hxl, hfl⟩ := DataW.trod_struct Tryz.underlying62 h2
    have f0 : DataW.trod enc Tryz.prog W 0 (fun _ => true) true n' 3 (List.take (Tryz.prog.cellsOf 3) (List.drop 0 [v0, v1, v2])) = xs[0]? := hfl 0 _ rfl
    have f1 : DataW.trod enc Tryz.prog W 0 (fun _ => true) true n' 3 (List.take (Tryz.prog.cellsOf 3) (List.drop 1 [v0, v1, v2])) = xs[1]? := hfl 1 _ rfl
    have f2 : DataW.trod enc Tryz.prog W 0 (fun _ => true) true n' 23 (List.take (Tryz.prog.cellsOf 23) (List.drop 2 [v0, v1, v2])) = xs[2]? := hfl 2 _ rfl
    rw [cellsInt] at f0 f1
    rw [cellsInts] at f2
    have hxl5 : xs.length = 3 := hxl
    rw [List.getElem?_eq_getElem (by omega)] at f0 f1 f2
    obtain ⟨r, q0, -, w0⟩ := DataW.trod_int Tryz.underlying3 f0
    obtain ⟨v, q1, -, w1⟩ := DataW.trod_int Tryz.underlying3 f1
    simp at q0 q1
    subst q0 q1
    obtain ⟨aL, lL, cL, zs, hv2, hrow, hzl, -, -⟩ := ird_of (v := v2) f2
    subst hv2
    obtain ⟨b, off, spot⟩ := x
    have hspot : spot = none := by
      obtain ⟨cs0, k1, _⟩ := hel 0 (by omega)
      rw [cellsThing] at k1
      obtain ⟨_, k2, k3⟩ := World.cells?_some k1
      have k4 := k3 0 (by omega)
      rw [List.getElem?_eq_getElem (by omega)] at k4
      have e1 := World.cell?_spot k4
      simpa [Addr.add] using e1
    subst hspot
    have ha : ∀ j, Addr.add (Addr.add ⟨b, off, none⟩ (i * 3)) j = ⟨b, off + i * 3 + j, none⟩ := fun j => by
      rw [Go.Deep.add_add, show Addr.add ⟨b, off, none⟩ (i * 3 + j) = ⟨b, off + (i * 3 + j), none⟩ by simp [Addr.add], Nat.add_assoc]
    have g0 := hc 0 (by omega)
    have g1 := hc 1 (by omega)
    have g2 := hc 2 (by omega)
    rw [ha] at g0 g1 g2
    subst hzl
    exact ⟨⟨r, v, zs⟩, b, off, aL, cL, rfl, g0, g1, g2, hrow⟩
theorem open_things {H : Type} {enc : TypeId × Value → H} {W : World} {a : Option Addr} {len cap : Nat} {d : DataW H} {p : List MemPlace}
    (h : DataW.Trod enc Tryz.prog W 0 (fun _ => true) true 22 (.slice a len cap) d p) : ∃ ths : List Th, ths.length = len ∧ ThR W a ths ∧ len ≤ cap ∧ cap ≤ 9223372036854775807 := by
  obtain ⟨hl, h1⟩ := open_thing_at h
  have h2 : ∀ i : Fin len, ∃ t : Th, ∃ (b off : Nat) (aR : Option Addr) (cR : Nat), a = some ⟨b, off, none⟩ ∧ W.cell? ⟨b, off + i.val * 3, none⟩ = some (.int .i64 t.c) ∧ W.cell? ⟨b, off + i.val * 3 + 1, none⟩ = some (.int .i64 t.n) ∧ W.cell? ⟨b, off + i.val * 3 + 2, none⟩ = some (.slice aR t.refs.length cR) ∧ IRd W aR t.refs.length t.refs := fun i => h1 i.val i.isLt
  obtain ⟨f, hf⟩ := Classical.axiomOfChoice h2
  refine ⟨List.ofFn f, List.length_ofFn, ⟨by rw [List.length_ofFn]; omega, fun i t ht => ?_⟩, hl.1, hl.2⟩
  rw [List.getElem?_ofFn] at ht
  split at ht
  · rename_i hi
    injection ht with ht
    subst ht
    exact hf ⟨i, hi⟩
  · cases ht
/-- The first things of a row. -/
theorem ThR.front {w : World} {ao : Option Addr} {ths : List Th} (h : ThR w ao ths) (k : Nat) : ThR w ao (ths.take k) := by
  refine ⟨by rw [List.length_take]; have := h.room; omega, fun i t ht => ?_⟩
  rw [List.getElem?_take] at ht
  split at ht
  · exact h.cell i t ht
  · cases ht
theorem IRd.front {w : World} {ao : Option Addr} {l : List Int} (h : IRd w ao l.length l) (k : Nat) : IRd w ao (l.take k).length (l.take k) := by
  refine ⟨rfl, by rw [List.length_take]; have := h.room; omega, fun i x hx => ?_, fun x hx => h.inn x (List.mem_of_mem_take hx)⟩
  rw [List.getElem?_take] at hx
  split at hx
  · exact h.cell i x hx
  · cases hx

set_option maxRecDepth 100000 in
theorem cut_things (a : Option Addr) (len cap m : Nat) (hm : m < len) (hc : len ≤ cap) (hcc : cap ≤ 9223372036854775807) : ∀ w' : World, (Instr.slice 22 (.slice a len cap) none (some (.int .i64 (m : Int))) none).run Tryz.prog w' = .ok (.slice a m cap) w' := fun w' => by
  rw [run_slice_h (P := Tryz.prog) w' 22 a len cap Tryz.underlying22 .i64 (m : Int) (by omega) (by omega)]
  show Result.ok (sliced _ 0 (m : Int).toNat cap _) w' = _
  simp [sliced, Addr.add]
set_option maxRecDepth 100000 in
theorem cut_ints (a : Option Addr) (len cap m : Nat) (hm : m < len) (hc : len ≤ cap) (hcc : cap ≤ 9223372036854775807) : ∀ w' : World, (Instr.slice 23 (.slice a len cap) none (some (.int .i64 (m : Int))) none).run Tryz.prog w' = .ok (.slice a m cap) w' := fun w' => by
  rw [run_slice_h (P := Tryz.prog) w' 23 a len cap Tryz.underlying23 .i64 (m : Int) (by omega) (by omega)]
  show Result.ok (sliced _ 0 (m : Int).toNat cap 1) w' = _
  simp [sliced, Addr.add]
end Go.Proofs.YtpeglndlhjnaaaaGreatDoor

/-
  What comes into the laws on turning: things, the work; pick.
-/
namespace Go.Proofs.YtpeglndlhjnaaaaGreatDoor
open Go.RowKit Go.ChangeShapes Go.WideShapes Go.ChangeAt
set_option linter.unusedVariables false
set_option linter.unusedSimpArgs false

theorem cellsWork14 : Tryz.prog.cellsOf 25 = 5 := by kernel_rfl
set_option maxRecDepth 100000 in
theorem open_work14 {H : Type} {enc : TypeId × Value → H} {W : World} {base : Nat} {v : Value} {d : DataW H} {p : List MemPlace}
    (hv : Value.okWide Tryz.prog W .any base 25 v) (h : DataW.Trod enc Tryz.prog W 0 (fun _ => true) true 25 v d p) :
    ∃ (x y z : Int) (ro : Option Addr) (rc : Nat) (rs : List Int) (po : Option Addr) (pc : Nat) (ps : List Int), v = .agg #[.int .i64 x, .int .i64 y, .int .i64 z, .slice ro rs.length rc, .slice po ps.length pc] ∧ In64 x ∧ In64 y ∧ In64 z ∧ IRd W ro rs.length rs ∧ IRd W po ps.length ps ∧ (rs.length ≤ rc ∧ rc ≤ 9223372036854775807) ∧ (ps.length ≤ pc ∧ pc ≤ 9223372036854775807) := by
  obtain ⟨cs, rfl, hs3, _⟩ : ∃ cs, v = .agg cs ∧ cs.size = Tryz.prog.cellsOf 25 ∧ Row.okWide Tryz.prog W .any base 25 cs := by
    simpa [Value.okWide, Tryz.underlying25] using hv
  rw [cellsWork14] at hs3
  obtain ⟨c0, c1, c2, c3, c4, rfl⟩ : ∃ c0 c1 c2 c3 c4, cs = #[c0, c1, c2, c3, c4] := by
    obtain ⟨l⟩ := cs
    rcases l with _ | ⟨c0, _ | ⟨c1, _ | ⟨c2, _ | ⟨c3, _ | ⟨c4, _ | ⟨c5, l⟩⟩⟩⟩⟩⟩
    · simp at hs3
    · simp at hs3
    · simp at hs3
    · simp at hs3
    · simp at hs3
    · exact ⟨c0, c1, c2, c3, c4, rfl⟩
    · simp at hs3
  obtain ⟨fuel, hf⟩ := h
  obtain ⟨xs, n', -, hx, -, hxl, hfl⟩ := DataW.trod_struct Tryz.underlying25 hf
  have f0 : DataW.trod enc Tryz.prog W 0 (fun _ => true) true n' 3 (List.take (Tryz.prog.cellsOf 3) (List.drop 0 [c0, c1, c2, c3, c4])) = xs[0]? := hfl 0 _ rfl
  have f1 : DataW.trod enc Tryz.prog W 0 (fun _ => true) true n' 3 (List.take (Tryz.prog.cellsOf 3) (List.drop 1 [c0, c1, c2, c3, c4])) = xs[1]? := hfl 1 _ rfl
  have f2 : DataW.trod enc Tryz.prog W 0 (fun _ => true) true n' 3 (List.take (Tryz.prog.cellsOf 3) (List.drop 2 [c0, c1, c2, c3, c4])) = xs[2]? := hfl 2 _ rfl
  have f3 : DataW.trod enc Tryz.prog W 0 (fun _ => true) true n' 23 (List.take (Tryz.prog.cellsOf 23) (List.drop 3 [c0, c1, c2, c3, c4])) = xs[3]? := hfl 3 _ rfl
  have f4 : DataW.trod enc Tryz.prog W 0 (fun _ => true) true n' 23 (List.take (Tryz.prog.cellsOf 23) (List.drop 4 [c0, c1, c2, c3, c4])) = xs[4]? := hfl 4 _ rfl
  rw [cellsInt] at f0 f1 f2
  rw [cellsInts] at f3 f4
  have hxl3 : xs.length = 5 := hxl
  rw [List.getElem?_eq_getElem (by omega)] at f0 f1 f2 f3 f4
  obtain ⟨a, q0, -, w0⟩ := DataW.trod_int Tryz.underlying3 f0
  obtain ⟨b, q1, -, w1⟩ := DataW.trod_int Tryz.underlying3 f1
  obtain ⟨c, q2, -, w2⟩ := DataW.trod_int Tryz.underlying3 f2
  simp at q0 q1 q2
  subst q0 q1 q2
  obtain ⟨a3, l3, k3, z3, e3, r3, h3, g3⟩ := ird_of (v := c3) f3
  obtain ⟨a4, l4, k4, z4, e4, r4, h4, g4⟩ := ird_of (v := c4) f4
  subst e3 e4 h3 h4
  exact ⟨a, b, c, a3, k3, z3, a4, k4, z4, rfl, wf_range w0, wf_range w1, wf_range w2, r3, r4, g3, g4⟩

/-- Which of n things a raw number speaks of. -/
def pkF (c : Int) (n : Nat) : Nat := (if c < 0 then -(c + 1) else c).toNat % n
theorem pkF_lt (c : Int) {n : Nat} (h : 0 < n) : pkF c n < n := Nat.mod_lt _ h
theorem pick14 (c : Int) (n : Nat) (w : World) (hr : In64 c) (hn : 0 < n ∧ n ≤ 1000000) :
    Calls Tryz.prog 9 #[.int .i64 c, .int .i64 n] w fun e w' => e = .returned (.int .i64 (pkF c n : Nat)) ∧ w' = w := by
  unfold In64 at hr
  have hz : ¬ ((n : Int) = 0) := by omega
  have hm1 : ¬ ((n : Int) = -1) := by omega
  have key : ∀ x : Int, 0 ≤ x → (.int .i64 (x.tmod n) : Value) = .int .i64 ((x.toNat % n : Nat) : Int) := by
    intro x hx
    obtain ⟨m, rfl⟩ := Int.eq_ofNat_of_zero_le hx
    rw [Int.toNat_natCast, Int.tmod_eq_emod_of_nonneg (by omega)]
    rfl
  have KEY := hide key
  clear key
  obtain ⟨r, hr2⟩ : ∃ r : Nat, r = pkF c n := ⟨_, rfl⟩
  rw [← hr2]
  have HR := hide hr2
  clear hr2
  by_cases hneg : c < 0
  · have HP : Hid ((if c < 0 then -(c + 1) else c) = -(c + 1)) := hide (by rw [if_pos hneg])
    go_enter Tryz.func9, Tryz.ntmps9
    go_wp2_with fail
    go_ret
    have h1 := KEY.out (-(c + 1)) (by omega)
    refine ⟨?_, rfl⟩
    rw [HR.out]
    unfold pkF
    rw [HP.out, ← h1, Int.neg_tmod]
    rfl
  · have HP : Hid ((if c < 0 then -(c + 1) else c) = c) := hide (by rw [if_neg hneg])
    go_enter Tryz.func9, Tryz.ntmps9
    go_wp2_with fail
    go_ret
    have h1 := KEY.out c (by omega)
    refine ⟨?_, rfl⟩
    rw [HR.out]
    unfold pkF
    rw [HP.out, ← h1, Int.tmod_eq_emod_of_nonneg (by omega)]
    rfl
end Go.Proofs.YtpeglndlhjnaaaaGreatDoor
