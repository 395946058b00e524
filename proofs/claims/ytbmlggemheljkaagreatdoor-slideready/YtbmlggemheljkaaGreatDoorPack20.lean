/-
  Texts of the proof, several in one: Pairs, SlideArgs.
-/
import Derived.Test.YtbmlggemheljkaaGreatDoorPack13
import Derived.Test.YtbmlggemheljkaaGreatDoorPack7
import Derived.Deep.Slices
/-
  A list of pairs that comes in; the sizes behind its marks.
-/
namespace Go.Proofs.YtbmlggemheljkaaGreatDoor
open Go.RowKit Go.ChangeShapes Go.WideShapes Go.ChangeAt Bt
set_option linter.unusedVariables false
set_option linter.unusedSimpArgs false

/-- A slice of pairs that can be read. -/
structure TwRd (w : World) (ao : Option Addr) (len : Nat) (cs : List (Int × Int)) : Prop where
  size : cs.length = len
  room : len ≤ 9223372036854775807
  cell : ∀ i c, cs[i]? = some c → ∃ b off, ao = some ⟨b, off, none⟩ ∧ w.cell? ⟨b, off + i * 2, none⟩ = some (.int .i64 c.1) ∧ w.cell? ⟨b, off + i * 2 + 1, none⟩ = some (.int .i64 c.2)
  inn : ∀ c, c ∈ cs → In64 c.1 ∧ In64 c.2
theorem TwRd.turned {w w' : World} {ao : Option Addr} {len : Nat} {cs : List (Int × Int)} (h : TwRd w ao len cs) (ht : Turned [] w w') : TwRd w' ao len cs := by
  refine ⟨h.size, h.room, fun i c hc => ?_, h.inn⟩
  obtain ⟨b, off, h0, h1, h2⟩ := h.cell i c hc
  exact ⟨b, off, h0, by rw [ht.cell (block_lt h1) (by simp)]; exact h1, by rw [ht.cell (block_lt h2) (by simp)]; exact h2⟩

theorem cellsTwo : Tryz.prog.cellsOf 46 = 2 := by kernel_rfl
theorem cellsInt : Tryz.prog.cellsOf 3 = 1 := by kernel_rfl

set_option maxRecDepth 100000 in
theorem open_two_at {H : Type} {enc : TypeId × Value → H} {W : World} {a : Option Addr} {len cap : Nat} {d : DataW H} {p : List MemPlace}
    (h : DataW.Trod enc Tryz.prog W 0 (fun _ => true) true 22 (.slice a len cap) d p) :
    len ≤ 9223372036854775807 ∧ ∀ i, i < len → ∃ (c : Int × Int) (b off : Nat), a = some ⟨b, off, none⟩ ∧ (W.cell? ⟨b, off + i * 2, none⟩ = some (.int .i64 c.1) ∧ W.cell? ⟨b, off + i * 2 + 1, none⟩ = some (.int .i64 c.2)) ∧ In64 c.1 ∧ In64 c.2 := by
  obtain ⟨fuel, hf⟩ := h
  rcases Go.Deep.open_slice Tryz.underlying22 hf with ⟨hcs, _⟩ | ⟨x, len', cap', m, n, D, Pl, hcs, _, hl, hm, hmm, _, hel⟩
  · simp [Value.cells] at hcs
    obtain ⟨rfl, rfl, rfl⟩ := hcs
    exact ⟨by omega, fun i hi => absurd hi (Nat.not_lt_zero _)⟩
  · simp [Value.cells] at hcs
    obtain ⟨rfl, rfl, rfl⟩ := hcs
    simp only [if_true] at hmm
    subst hmm
    refine ⟨by unfold maxLen at hm; omega, fun i hi => ?_⟩
    obtain ⟨cs, h1, h2⟩ := hel i (by omega)
    rw [cellsTwo] at h1
    obtain ⟨_, hlen, hc⟩ := World.cells?_some h1
    obtain ⟨v0, v1, rfl⟩ : ∃ v0 v1, cs = [v0, v1] := by
      rcases cs with _ | ⟨v0, _ | ⟨v1, _ | ⟨v2, r⟩⟩⟩
      all_goals first | (exact ⟨v0, v1, rfl⟩) | (simp at hlen)
    obtain ⟨xs, n', -, -, -, hxl, hfl⟩ := DataW.trod_array Tryz.underlying46 h2
    have f0 := hfl 0 (by decide)
    have f1 := hfl 1 (by decide)
    rw [cellsInt] at f0 f1
    rw [List.getElem?_eq_getElem (by omega)] at f0 f1
    obtain ⟨r, q0, -, w0⟩ := DataW.trod_int Tryz.underlying3 f0
    obtain ⟨v, q1, -, w1⟩ := DataW.trod_int Tryz.underlying3 f1
    simp at q0 q1
    subst q0 q1
    obtain ⟨b, off, spot⟩ := x
    have hspot : spot = none := by
      obtain ⟨cs0, k1, _⟩ := hel 0 (by omega)
      rw [cellsTwo] at k1
      obtain ⟨_, k2, k3⟩ := World.cells?_some k1
      have k4 := k3 0 (by omega)
      rw [List.getElem?_eq_getElem (by omega)] at k4
      have e1 := World.cell?_spot k4
      simpa [Addr.add] using e1
    subst hspot
    have ha : ∀ j, Addr.add (Addr.add ⟨b, off, none⟩ (i * 2)) j = ⟨b, off + i * 2 + j, none⟩ := fun j => by
      rw [Go.Deep.add_add, show Addr.add ⟨b, off, none⟩ (i * 2 + j) = ⟨b, off + (i * 2 + j), none⟩ by simp [Addr.add], Nat.add_assoc]
    have g0 := hc 0 (by omega)
    have g1 := hc 1 (by omega)
    rw [ha] at g0 g1
    exact ⟨(r, v), b, off, rfl, ⟨g0, g1⟩, wf_range w0, wf_range w1⟩

theorem open_pairs {H : Type} {enc : TypeId × Value → H} {W : World} {a : Option Addr} {len cap : Nat} {d : DataW H} {p : List MemPlace}
    (h : DataW.Trod enc Tryz.prog W 0 (fun _ => true) true 22 (.slice a len cap) d p) : ∃ cs, TwRd W a len cs := by
  obtain ⟨hl, h1⟩ := open_two_at h
  have h2 : ∀ i : Fin len, ∃ c : Int × Int, (∃ (b off : Nat), a = some ⟨b, off, none⟩ ∧ (W.cell? ⟨b, off + i.val * 2, none⟩ = some (.int .i64 c.1) ∧ W.cell? ⟨b, off + i.val * 2 + 1, none⟩ = some (.int .i64 c.2))) ∧ In64 c.1 ∧ In64 c.2 := fun i => by
    obtain ⟨c, b, off, e1, e2, e3⟩ := h1 i.val i.isLt
    exact ⟨c, ⟨b, off, e1, e2⟩, e3⟩
  obtain ⟨f, hf⟩ := Classical.axiomOfChoice h2
  refine ⟨List.ofFn f, List.length_ofFn, hl, fun i c hc => ?_, fun c hc => ?_⟩
  · rw [List.getElem?_ofFn] at hc
    split at hc
    · rename_i hi
      injection hc with hc
      subst hc
      obtain ⟨b, off, e1, e2, e3⟩ := (hf ⟨i, hi⟩).1
      exact ⟨b, off, e1, e2, e3⟩
    · cases hc
  · obtain ⟨i, rfl⟩ := List.mem_ofFn.1 hc
    exact (hf i).2

/-- The sizes behind the first marks of a list. -/
noncomputable def mkS (n : Nat) (cs : List (Int × Int)) : Nat → Nat → Nat
  | 0 => S0
  | j + 1 => match cs[j]? with
    | some c => (markT n (mkS n cs j) c.1 c.2).2.2
    | none => mkS n cs j
theorem mkS_bl (n : Nat) (cs : List (Int × Int)) (j : Nat) : Bl n (mkS n cs j) := by
  induction j with
  | zero => exact Bl.none n
  | succ j ih =>
    unfold mkS
    split
    · exact markT_bl ih _ _
    · exact ih
end Go.Proofs.YtbmlggemheljkaaGreatDoor

/-
  What comes into the laws on sliding: the work; pick.
-/
namespace Go.Proofs.YtbmlggemheljkaaGreatDoor
open Go.RowKit Go.ChangeShapes Go.WideShapes Go.ChangeAt Bt
set_option linter.unusedVariables false
set_option linter.unusedSimpArgs false

/-- A slice of numbers that can be read. -/
structure PkRd (w : World) (ao : Option Addr) (len : Nat) (l : List Int) : Prop where
  size : l.length = len
  room : len ≤ 9223372036854775807
  cell : ∀ i x, l[i]? = some x → ∃ b off, ao = some ⟨b, off, none⟩ ∧ w.cell? ⟨b, off + i, none⟩ = some (.int .i64 x)
  inn : ∀ x, x ∈ l → In64 x
theorem PkRd.turned {w w' : World} {ao : Option Addr} {len : Nat} {l : List Int} (h : PkRd w ao len l) (ht : Turned [] w w') : PkRd w' ao len l := by
  refine ⟨h.size, h.room, fun i c hc => ?_, h.inn⟩
  obtain ⟨b, off, h0, h1⟩ := h.cell i c hc
  exact ⟨b, off, h0, by rw [ht.cell (block_lt h1) (by simp)]; exact h1⟩
theorem cellsInts15 : Tryz.prog.cellsOf 23 = 1 := by kernel_rfl
theorem cellsWork15 : Tryz.prog.cellsOf 25 = 4 := by kernel_rfl
theorem isRow_pk {w : World} {a : Option Addr} {len cap : Nat} {zs : List Int} (h : IsRow .i64 w a len cap zs) (hw : ∀ z, z ∈ zs → (Lit.int .i64 z).wf = true) : PkRd w a len (zs.take len) := by
  rcases h with ⟨rfl, rfl, rfl, rfl⟩ | ⟨x, rfl, hl, hm, hz, hc, hwf⟩
  · exact ⟨rfl, by omega, fun i x hx => by simp at hx, fun x hx => by simp at hx⟩
  · refine ⟨by simp; omega, by unfold maxLen at hm; omega, fun i y hy => ?_, fun y hy => ?_⟩
    · have hi := (List.getElem?_eq_some_iff.1 hy).1
      simp at hi
      have h1 := hc i (by omega)
      have hsp : x.spot = none := by
        have := World.cell?_spot (hc 0 (by omega))
        simpa [Addr.add] using this
      obtain ⟨b, off, spot⟩ := x
      simp at hsp
      subst hsp
      refine ⟨b, off, rfl, ?_⟩
      rw [show Addr.add ⟨b, off, none⟩ i = ⟨b, off + i, none⟩ by simp [Addr.add]] at h1
      rw [List.getElem?_take] at hy
      split at hy
      · rw [List.getD_eq_getElem?_getD, hy] at h1
        exact h1
      · cases hy
    · exact wf_range (hw y (List.mem_of_mem_take hy))
theorem pk_of {H : Type} {enc : TypeId × Value → H} {W : World} {n : Nat} {v : Value} {x : DataW H × List MemPlace}
    (f : DataW.trod enc Tryz.prog W 0 (fun _ => true) true n 23 [v] = some x) : ∃ aL lL cL zs, v = .slice aL lL cL ∧ PkRd W aL lL zs := by
  rcases open_ints Tryz.underlying23 Tryz.underlying3 cellsInt f with ⟨hcs, _⟩ | ⟨y, l, c, zs, hcs, _, hl2, hm2, hz, _, hcell, hwz⟩
  · simp at hcs
    exact ⟨none, 0, 0, _, hcs, isRow_pk (cap := 0) (.inl ⟨rfl, rfl, rfl, rfl⟩) (fun z hz => by simp at hz)⟩
  · simp at hcs
    exact ⟨some y, l, c, _, hcs, isRow_pk (cap := c) (.inr ⟨_, rfl, hl2, hm2, by simpa using hz, hcell, hwz⟩) hwz⟩
set_option maxRecDepth 100000 in
theorem open_work15 {H : Type} {enc : TypeId × Value → H} {W : World} {base : Nat} {v : Value} {d : DataW H} {p : List MemPlace}
    (hv : Value.okWide Tryz.prog W .any base 25 v) (h : DataW.Trod enc Tryz.prog W 0 (fun _ => true) true 25 v d p) :
    ∃ (x y z : Int) (po : Option Addr) (pl pc : Nat) (ps : List Int), v = .agg #[.int .i64 x, .int .i64 y, .int .i64 z, .slice po pl pc] ∧ In64 x ∧ In64 y ∧ In64 z ∧ PkRd W po pl ps := by
  obtain ⟨cs, rfl, hs3, _⟩ : ∃ cs, v = .agg cs ∧ cs.size = Tryz.prog.cellsOf 25 ∧ Row.okWide Tryz.prog W .any base 25 cs := by
    simpa [Value.okWide, Tryz.underlying25] using hv
  rw [cellsWork15] at hs3
  obtain ⟨c0, c1, c2, c3, rfl⟩ : ∃ c0 c1 c2 c3, cs = #[c0, c1, c2, c3] := by
    obtain ⟨l⟩ := cs
    rcases l with _ | ⟨c0, _ | ⟨c1, _ | ⟨c2, _ | ⟨c3, _ | ⟨c4, l⟩⟩⟩⟩⟩
    · simp at hs3
    · simp at hs3
    · simp at hs3
    · simp at hs3
    · exact ⟨c0, c1, c2, c3, rfl⟩
    · simp at hs3
  obtain ⟨fuel, hf⟩ := h
  obtain ⟨xs, n', -, hx, -, hxl, hfl⟩ := DataW.trod_struct Tryz.underlying25 hf
  have f0 : DataW.trod enc Tryz.prog W 0 (fun _ => true) true n' 3 (List.take (Tryz.prog.cellsOf 3) (List.drop 0 [c0, c1, c2, c3])) = xs[0]? := hfl 0 _ rfl
  have f1 : DataW.trod enc Tryz.prog W 0 (fun _ => true) true n' 3 (List.take (Tryz.prog.cellsOf 3) (List.drop 1 [c0, c1, c2, c3])) = xs[1]? := hfl 1 _ rfl
  have f2 : DataW.trod enc Tryz.prog W 0 (fun _ => true) true n' 3 (List.take (Tryz.prog.cellsOf 3) (List.drop 2 [c0, c1, c2, c3])) = xs[2]? := hfl 2 _ rfl
  have f3 : DataW.trod enc Tryz.prog W 0 (fun _ => true) true n' 23 (List.take (Tryz.prog.cellsOf 23) (List.drop 3 [c0, c1, c2, c3])) = xs[3]? := hfl 3 _ rfl
  rw [cellsInt] at f0 f1 f2
  rw [cellsInts15] at f3
  have hxl3 : xs.length = 4 := hxl
  rw [List.getElem?_eq_getElem (by omega)] at f0 f1 f2 f3
  obtain ⟨a, q0, -, w0⟩ := DataW.trod_int Tryz.underlying3 f0
  obtain ⟨b, q1, -, w1⟩ := DataW.trod_int Tryz.underlying3 f1
  obtain ⟨c, q2, -, w2⟩ := DataW.trod_int Tryz.underlying3 f2
  simp at q0 q1 q2
  subst q0 q1 q2
  obtain ⟨a3, l3, k3, z3, e3, r3⟩ := pk_of (v := c3) f3
  subst e3
  exact ⟨a, b, c, a3, l3, k3, z3, rfl, wf_range w0, wf_range w1, wf_range w2, r3⟩

/-- Which of n things a raw number speaks of. -/
def pkF (c : Int) (n : Nat) : Nat := (if c < 0 then -(c + 1) else c).toNat % n
theorem pkF_lt (c : Int) {n : Nat} (h : 0 < n) : pkF c n < n := Nat.mod_lt _ h
theorem pick15 (c : Int) (n : Nat) (w : World) (hr : In64 c) (hn : 0 < n ∧ n ≤ 1000000) :
    Calls Tryz.prog 11 #[.int .i64 c, .int .i64 n] w fun e w' => e = .returned (.int .i64 (pkF c n : Nat)) ∧ w' = w := by
  unfold In64 at hr
  have hz : ¬ ((n : Int) = 0) := by omega
  have hm1 : ¬ ((n : Int) = -1) := by omega
  have key : ∀ x : Int, 0 ≤ x → (.int .i64 (x.tmod n) : Value) = .int .i64 ((x.toNat % n : Nat) : Int) := by
    intro x hx
    obtain ⟨m, rfl⟩ := Int.eq_ofNat_of_zero_le hx
    rw [Int.toNat_natCast, Int.tmod_eq_emod_of_nonneg (by omega)]
    rfl
  have KEY := hide key
  clear key
  obtain ⟨r, hr2⟩ : ∃ r : Nat, r = pkF c n := ⟨_, rfl⟩
  rw [← hr2]
  have HR := hide hr2
  clear hr2
  by_cases hneg : c < 0
  · have HP : Hid ((if c < 0 then -(c + 1) else c) = -(c + 1)) := hide (by rw [if_pos hneg])
    go_enter Tryz.func11, Tryz.ntmps11
    go_wp2_with fail
    go_ret
    have h1 := KEY.out (-(c + 1)) (by omega)
    refine ⟨?_, rfl⟩
    rw [HR.out]
    unfold pkF
    rw [HP.out, ← h1, Int.neg_tmod]
    rfl
  · have HP : Hid ((if c < 0 then -(c + 1) else c) = c) := hide (by rw [if_neg hneg])
    go_enter Tryz.func11, Tryz.ntmps11
    go_wp2_with fail
    go_ret
    have h1 := KEY.out c (by omega)
    refine ⟨?_, rfl⟩
    rw [HR.out]
    unfold pkF
    rw [HP.out, ← h1, Int.tmod_eq_emod_of_nonneg (by omega)]
    rfl
end Go.Proofs.YtbmlggemheljkaaGreatDoor
