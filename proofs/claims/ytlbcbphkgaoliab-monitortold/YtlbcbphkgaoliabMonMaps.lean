/-
  The maps of package monitor: monitors by their objects ('MM'), threads that stand somewhere ('NM'), and what their operations do.
-/
import Derived.Test.YtlbcbphkgaoliabFrames
import Derived.Maps.OwnSet
import Derived.Maps.Views
namespace Go.Proofs.Ytlbcbphkgaoliab
open Go.RowKit Go.Maps
set_option linter.unusedVariables false

theorem lawO : Keyed Try.prog 2 := int_keyed Try.underlying2
theorem lawT : Keyed Try.prog 3 := int_keyed Try.underlying3
/-- Whole numbers of 64 bits. -/
def I64 (x : Int) : Prop := -9223372036854775808 ≤ x ∧ x ≤ 9223372036854775807
theorem keyO {x : Int} (h : I64 x) : keyOf Try.prog 2 (.int .i64 x) = some (.int .i64 x) := keyOf_int_mk Try.underlying2 (WalkArith.wf_i64 h)
theorem keyT {x : Int} (h : I64 x) : keyOf Try.prog 3 (.int .i64 x) = some (.int .i64 x) := keyOf_int_mk Try.underlying3 (WalkArith.wf_i64 h)
theorem litM_ne {x y : Int} (h : x ≠ y) : (Lit.int .i64 x) ≠ (Lit.int .i64 y) := fun e => h (by injection e)

/-- A slice of parties, as a value: where it lies, how long it is, and how much room it has. -/
structure Sv where
  at_ : Option (Nat × Nat)
  len : Nat
  cap : Nat
def Sv.addr (s : Sv) : Option Addr := s.at_.map fun p => ⟨p.1, p.2, none⟩
def Sv.val (s : Sv) : Value := .slice s.addr s.len s.cap
def Sv.zero : Sv := ⟨none, 0, 0⟩
def natD (n : Nat) : DataW Unit := .lit (.int .i64 (n : Int))
def Sv.dat (s : Sv) : DataW Unit := .agg [match s.at_ with | none => .nil | some p => .agg [natD p.1, natD p.2], natD s.len, natD s.cap]
theorem natD_inj {a b : Nat} (h : natD a = natD b) : a = b := by simp [natD] at h; omega
theorem Sv.dat_inj {a b : Sv} (h : a.dat = b.dat) : a = b := by
  obtain ⟨a1, a2, a3⟩ := a
  obtain ⟨b1, b2, b3⟩ := b
  unfold Sv.dat at h
  simp only [DataW.agg.injEq, List.cons.injEq, and_true] at h
  obtain ⟨h1, h2, h3⟩ := h
  have e2 := natD_inj h2
  have e3 := natD_inj h3
  have e1 : a1 = b1 := by
    rcases a1 with _ | ⟨x, y⟩ <;> rcases b1 with _ | ⟨u, v⟩
    · rfl
    · simp at h1
    · simp at h1
    · simp only [DataW.agg.injEq, List.cons.injEq, and_true] at h1
      rw [natD_inj h1.1, natD_inj h1.2]
  subst e1 e2 e3
  rfl
theorem Sv.val_inj {a b : Sv} (h : a.val = b.val) : a = b := by
  obtain ⟨a1, a2, a3⟩ := a
  obtain ⟨b1, b2, b3⟩ := b
  unfold Sv.val Sv.addr at h
  simp only [Value.slice.injEq] at h
  obtain ⟨h1, rfl, rfl⟩ := h
  have e1 : a1 = b1 := by
    rcases a1 with _ | ⟨x, y⟩ <;> rcases b1 with _ | ⟨u, v⟩
    · rfl
    · simp at h1
    · simp at h1
    · simp at h1
      rw [h1.1, h1.2]
  subst e1
  rfl
/-- A monitor, as a value: its holder, how many times, its two queues. -/
structure MV where
  h : Int
  t : Int
  q : Sv
  a : Sv
def MV.cells (m : MV) : Array Value := #[.int .i64 m.h, .int .i64 m.t, m.q.val, m.a.val]
def MV.val (m : MV) : Value := .agg m.cells
def MV.zero : MV := ⟨0, 0, Sv.zero, Sv.zero⟩
def MV.dat (m : MV) : DataW Unit := .agg [.lit (.int .i64 m.h), .lit (.int .i64 m.t), m.q.dat, m.a.dat]
theorem MV.dat_inj {a b : MV} (h : a.dat = b.dat) : a = b := by
  obtain ⟨a1, a2, a3, a4⟩ := a
  obtain ⟨b1, b2, b3, b4⟩ := b
  unfold MV.dat at h
  simp only [DataW.agg.injEq, List.cons.injEq, and_true, DataW.lit.injEq, Lit.int.injEq, true_and] at h
  obtain ⟨h1, h2, h3, h4⟩ := h
  rw [h1, h2, Sv.dat_inj h3, Sv.dat_inj h4]
theorem MV.val_inj {a b : MV} (h : a.val = b.val) : a = b := by
  obtain ⟨a1, a2, a3, a4⟩ := a
  obtain ⟨b1, b2, b3, b4⟩ := b
  unfold MV.val MV.cells at h
  simp at h
  obtain ⟨h1, h2, h3, h4⟩ := h
  rw [h1, h2, Sv.val_inj h3, Sv.val_inj h4]
open Classical in
/-- How a monitor reads. -/
noncomputable def monElem (v : Value) : Option (DataW Unit × List MemPlace) := if h : ∃ m : MV, v = m.val then some ((Classical.choose h).dat, []) else none
theorem monElem_mk (m : MV) : monElem m.val = some (m.dat, []) := by
  have h : ∃ m' : MV, m.val = m'.val := ⟨m, rfl⟩
  unfold monElem
  rw [dif_pos h, ← MV.val_inj (Classical.choose_spec h)]
theorem monElem_inv {v : Value} {z : DataW Unit × List MemPlace} (h : monElem v = some z) : ∃ m : MV, v = m.val ∧ z = (m.dat, []) := by
  unfold monElem at h
  split at h
  · rename_i g
    injection h with h
    exact ⟨_, Classical.choose_spec g, h.symm⟩
  · cases h
theorem zeroMon (w : World) : (zeroValue 54).run Try.prog w = .ok MV.zero.val w := by kernel_rfl
theorem zeroUnitM (w : World) : (zeroValue 63).run Try.prog w = .ok (.agg #[]) w := by kernel_rfl

/-- Block b is the map of these monitors. -/
def MM (w : World) (b n : Nat) (f : Int → Option MV) : Prop :=
  ∃ D : DataW Unit, w.ownsMap Try.prog 2 monElem b n D ∧ ∀ x, Maps.has D (.int .i64 x) = (f x).isSome ∧ ∀ c, f x = some c → ∀ z, D.atKey (.int .i64 x) z = c.dat
/-- Block b is the set of these threads. -/
def NM (w : World) (b n : Nat) (S : Int → Bool) : Prop :=
  ∃ D : DataW Unit, w.ownsMap Try.prog 3 unitElem b n D ∧ ∀ x, Maps.has D (.int .i64 x) = S x
section
variable {w w' : World} {b n : Nat} {f : Int → Option MV} {S : Int → Bool}
theorem MM.block (h : MM w b n f) (hb : w'.heap[b]? = w.heap[b]?) : MM w' b n f := by
  obtain ⟨D, ⟨es, clock, h1, h2⟩, h3⟩ := h
  exact ⟨D, ⟨es, clock, hb.trans h1, h2⟩, h3⟩
theorem NM.block (h : NM w b n S) (hb : w'.heap[b]? = w.heap[b]?) : NM w' b n S := by
  obtain ⟨D, ⟨es, clock, h1, h2⟩, h3⟩ := h
  exact ⟨D, ⟨es, clock, hb.trans h1, h2⟩, h3⟩
theorem MM.lt (h : MM w b n f) : b < w.heap.size := by obtain ⟨D, h1, _⟩ := h; exact h1.lt
theorem NM.lt (h : NM w b n S) : b < w.heap.size := by obtain ⟨D, h1, _⟩ := h; exact h1.lt
theorem MM.isMap (h : MM w b n f) : ∃ es clock, w.heap[b]? = some (.map es clock) := by obtain ⟨D, ⟨es, clock, h1, _⟩, _⟩ := h; exact ⟨es, clock, h1⟩
theorem NM.isMap (h : NM w b n S) : ∃ es clock, w.heap[b]? = some (.map es clock) := by obtain ⟨D, ⟨es, clock, h1, _⟩, _⟩ := h; exact ⟨es, clock, h1⟩
theorem MM.ne (h : MM w b n f) {c : Array Value} {e : TypeId} {fr : Nat × Nat} {x : Nat} (hx : w.heap[x]? = some (.cells c e fr)) : x ≠ b := by
  rintro rfl
  obtain ⟨es, clock, h1⟩ := h.isMap
  rw [hx] at h1
  cases h1
theorem NM.ne (h : NM w b n S) {c : Array Value} {e : TypeId} {fr : Nat × Nat} {x : Nat} (hx : w.heap[x]? = some (.cells c e fr)) : x ≠ b := by
  rintro rfl
  obtain ⟨es, clock, h1⟩ := h.isMap
  rw [hx] at h1
  cases h1
theorem mm_made (w : World) : MM (w.alloc (.map #[] 0)) w.heap.size 0 (fun _ => none) :=
  ⟨.map [], World.ownsMap_made _ _ _ _, fun x => ⟨rfl, fun c hc => by cases hc⟩⟩
theorem nm_made (w : World) : NM (w.alloc (.map #[] 0)) w.heap.size 0 (fun _ => false) :=
  ⟨.map [], World.ownsMap_made _ _ _ _, fun x => rfl⟩
/-- 'monitors[x]'. -/
theorem MM.look (h : MM w b n f) {x : Int} (hx : I64 x) : (Instr.lookup 39 (.map (some b)) (.int .i64 x) false).run Try.prog w = .ok ((f x).getD MV.zero).val w := by
  obtain ⟨D, hown, hD⟩ := h
  obtain ⟨v, ps, hrun, hv⟩ := hown.lookup lawO Try.underlying39 (zeroMon w) (monElem_mk MV.zero) (keyO hx)
  rw [hrun]
  obtain ⟨o, rfl, ho⟩ := monElem_inv hv
  have h1 : D.atKey (.int .i64 x) MV.zero.dat = o.dat := congrArg Prod.fst ho
  have e : (f x).getD MV.zero = o := by
    cases hf : f x with
    | none =>
      have h2 := (hD x).1
      rw [hf] at h2
      rw [atKey_of_not_has h2] at h1
      exact MV.dat_inj h1
    | some d =>
      rw [(hD x).2 d hf] at h1
      exact MV.dat_inj h1
  rw [e]
theorem mm_look_nil (w : World) {x : Int} (hx : I64 x) : (Instr.lookup 39 (.map none) (.int .i64 x) false).run Try.prog w = .ok MV.zero.val w :=
  (Maps.look_nil false lawO Try.underlying39 (zeroMon w) (keyO hx)).trans rfl
/-- '_, stands := standing[x]'. -/
theorem NM.look (h : NM w b n S) {x : Int} (hx : I64 x) : (Instr.lookup 40 (.map (some b)) (.int .i64 x) true).run Try.prog w = .ok (.tuple #[.agg #[], .bool (S x)]) w := by
  obtain ⟨D, hown, hD⟩ := h
  obtain ⟨v, ps, hrun, hv⟩ := hown.look_ok lawT Try.underlying40 (zeroUnitM w) unitElem_mk (keyT hx)
  rw [hrun]
  obtain ⟨rfl, _⟩ := unitElem_inv hv
  rw [hD x]
theorem nm_look_nil (w : World) {x : Int} (hx : I64 x) : (Instr.lookup 40 (.map none) (.int .i64 x) true).run Try.prog w = .ok (.tuple #[.agg #[], .bool false]) w :=
  (Maps.look_nil true lawT Try.underlying40 (zeroUnitM w) (keyT hx)).trans rfl
/-- 'monitors[x] = m'. -/
theorem MM.update (h : MM w b n f) (hn : n < maxLen) {x : Int} (hx : I64 x) (c : MV) :
    ∃ w', (Instr.mapUpdate 39 (.map (some b)) (.int .i64 x) c.val).run Try.prog w = .ok () w' ∧ MM w' b (n + 1) (fun y => if y = x then some c else f y) ∧ Turned [b] w w' ∧ w'.heap.size = w.heap.size := by
  obtain ⟨D, hown, hD⟩ := h
  obtain ⟨w', hrun, h1, h2⟩ := hown.store lawO Try.underlying39 hn (keyO hx) (monElem_mk c)
  refine ⟨w', hrun, ⟨_, h1, fun y => ?_⟩, ⟨h2.grown.os, h2.grown.tape, h2.grown.output, h2.grown.size, fun k hk hn => h2.grown.block k hk (fun e => hn (by injection e with e; simp [e]))⟩, by obtain ⟨_, _, _, _, _, rfl⟩ := h2; simp [Go.ChangeMaps.setBlock]⟩
  by_cases hy : y = x
  · subst hy
    dsimp only
    rw [if_pos rfl]
    refine ⟨by rw [has_put_same hown.isMap (show WideAt.IsKeyLit (Lit.int .i64 y) from trivial)]; simp, fun d hd z => ?_⟩
    rw [atKey_put_same hown.isMap (show WideAt.IsKeyLit (Lit.int .i64 y) from trivial)]
    cases hd
    rfl
  · dsimp only
    rw [if_neg hy, has_put_other (litM_ne hy)]
    refine ⟨(hD y).1, fun d hd z => ?_⟩
    rw [atKey_put_other (litM_ne hy)]
    exact (hD y).2 d hd z
/-- 'standing[x] = struct{}{}'. -/
theorem NM.update (h : NM w b n S) (hn : n < maxLen) {x : Int} (hx : I64 x) :
    ∃ w', (Instr.mapUpdate 40 (.map (some b)) (.int .i64 x) (.agg #[])).run Try.prog w = .ok () w' ∧ NM w' b (n + 1) (fun y => if y = x then true else S y) ∧ Turned [b] w w' ∧ w'.heap.size = w.heap.size := by
  obtain ⟨D, hown, hD⟩ := h
  obtain ⟨w', hrun, h1, h2⟩ := hown.store lawT Try.underlying40 hn (keyT hx) unitElem_mk
  refine ⟨w', hrun, ⟨_, h1, fun y => ?_⟩, ⟨h2.grown.os, h2.grown.tape, h2.grown.output, h2.grown.size, fun k hk hn => h2.grown.block k hk (fun e => hn (by injection e with e; simp [e]))⟩, by obtain ⟨_, _, _, _, _, rfl⟩ := h2; simp [Go.ChangeMaps.setBlock]⟩
  by_cases hy : y = x
  · subst hy
    dsimp only
    rw [if_pos rfl, has_put_same hown.isMap (show WideAt.IsKeyLit (Lit.int .i64 y) from trivial)]
  · dsimp only
    rw [if_neg hy, has_put_other (litM_ne hy)]
    exact hD y
/-- 'delete(monitors, x)'. -/
theorem MM.drop (h : MM w b n f) {x : Int} (hx : I64 x) (ty : TypeId) :
    ∃ w', (Builtin.delete_ #[39, 2] ty #[.map (some b), .int .i64 x]).run Try.prog w = .ok (.tuple #[]) w' ∧ MM w' b n (fun y => if y = x then none else f y) ∧ Turned [b] w w' ∧ w'.heap.size = w.heap.size := by
  obtain ⟨D, hown, hD⟩ := h
  obtain ⟨w', hrun, h1, h2⟩ := hown.drop lawO Try.underlying39 (keyO hx) ty
  refine ⟨w', hrun, ⟨_, h1, fun y => ?_⟩, ⟨h2.grown.os, h2.grown.tape, h2.grown.output, h2.grown.size, fun k hk hn => h2.grown.block k hk (fun e => hn (by injection e with e; simp [e]))⟩, by obtain ⟨_, _, _, _, _, rfl⟩ := h2; simp [Go.ChangeMaps.setBlock]⟩
  by_cases hy : y = x
  · subst hy
    dsimp only
    rw [if_pos rfl]
    exact ⟨by rw [has_del_same]; simp, fun d hd => by cases hd⟩
  · dsimp only
    rw [if_neg hy, has_del_other (litM_ne hy)]
    refine ⟨(hD y).1, fun d hd z => ?_⟩
    rw [atKey_del_other (litM_ne hy)]
    exact (hD y).2 d hd z
/-- 'delete(standing, x)'. -/
theorem NM.drop (h : NM w b n S) {x : Int} (hx : I64 x) (ty : TypeId) :
    ∃ w', (Builtin.delete_ #[40, 3] ty #[.map (some b), .int .i64 x]).run Try.prog w = .ok (.tuple #[]) w' ∧ NM w' b n (fun y => if y = x then false else S y) ∧ Turned [b] w w' ∧ w'.heap.size = w.heap.size := by
  obtain ⟨D, hown, hD⟩ := h
  obtain ⟨w', hrun, h1, h2⟩ := hown.drop lawT Try.underlying40 (keyT hx) ty
  refine ⟨w', hrun, ⟨_, h1, fun y => ?_⟩, ⟨h2.grown.os, h2.grown.tape, h2.grown.output, h2.grown.size, fun k hk hn => h2.grown.block k hk (fun e => hn (by injection e with e; simp [e]))⟩, by obtain ⟨_, _, _, _, _, rfl⟩ := h2; simp [Go.ChangeMaps.setBlock]⟩
  by_cases hy : y = x
  · subst hy
    dsimp only
    rw [if_pos rfl, has_del_same]
  · dsimp only
    rw [if_neg hy, has_del_other (litM_ne hy)]
    exact hD y
theorem mm_drop_nil (w : World) {x : Int} (hx : I64 x) (ty : TypeId) : (Builtin.delete_ #[39, 2] ty #[.map none, .int .i64 x]).run Try.prog w = .ok (.tuple #[]) w := Maps.drop_nil lawO Try.underlying39 (keyO hx) ty
theorem nm_drop_nil (w : World) {x : Int} (hx : I64 x) (ty : TypeId) : (Builtin.delete_ #[40, 3] ty #[.map none, .int .i64 x]).run Try.prog w = .ok (.tuple #[]) w := Maps.drop_nil lawT Try.underlying40 (keyT hx) ty
end
end Go.Proofs.Ytlbcbphkgaoliab
