/-
  The maps of package blocks: objects by their addresses ('OMap'), addresses that were reached ('SMap'): what stands in them, and the laws at their operations.
-/
import Derived.Test.YthigmechfcndcaaBlocksRch
import Derived.Maps.OwnSet
namespace Go.Proofs.Ythigmechfcndcaa
open Go.RowKit Go.Maps
set_option linter.unusedVariables false

theorem law64 : Keyed Try.prog 2 := int_keyed Try.underlying2
theorem zeroBlock (w : World) : (zeroValue 38).run Try.prog w = .ok (.agg #[.int .i64 0, .int .i64 0, .int .i64 0, .int .i64 0]) w := by kernel_rfl
theorem zeroUnit (w : World) : (zeroValue 61).run Try.prog w = .ok (.agg #[]) w := by kernel_rfl
theorem key64 {x : Int} (h : In64 x) : keyOf Try.prog 2 (.int .i64 x) = some (.int .i64 x) := keyOf_int_mk Try.underlying2 (WalkArith.wf_i64 h)

/-- How an element of the objects' map reads. -/
def Blk.datum (b : Blk) : DataW Unit := .agg [.lit (.int .i64 b.t), .lit (.int .i64 b.k), .lit (.int .i64 b.n), .lit (.int .i64 b.s)]
theorem Blk.datum_inj {a b : Blk} (h : a.datum = b.datum) : a = b := by
  obtain ⟨a1, a2, a3, a4⟩ := a
  obtain ⟨b1, b2, b3, b4⟩ := b
  simp [Blk.datum] at h
  simp [h]
def blkElem : Value → Option (DataW Unit × List MemPlace)
  | .agg cs => match cs.toList with
    | [.int .i64 a, .int .i64 b, .int .i64 c, .int .i64 d] => some (Blk.datum ⟨a, b, c, d⟩, [])
    | _ => none
  | _ => none
theorem blkElem_mk (b : Blk) : blkElem (.agg #[.int .i64 b.t, .int .i64 b.k, .int .i64 b.n, .int .i64 b.s]) = some (b.datum, []) := rfl
theorem blkElem_inv {v : Value} {z : DataW Unit × List MemPlace} (h : blkElem v = some z) : ∃ b : Blk, v = .agg #[.int .i64 b.t, .int .i64 b.k, .int .i64 b.n, .int .i64 b.s] ∧ z = (b.datum, []) := by
  unfold blkElem at h
  split at h
  · rename_i cs
    split at h
    · rename_i a b c d hc
      injection h with h
      refine ⟨⟨a, b, c, d⟩, ?_, h.symm⟩
      congr 1
      apply Array.ext'
      simpa using hc
    · cases h
  · cases h

/-- The objects' map: f. -/
def OMap (w : World) (b n : Nat) (f : Int → Option Blk) : Prop :=
  ∃ D : DataW Unit, w.ownsMap Try.prog 2 blkElem b n D ∧ ∀ x, Maps.has D (.int .i64 x) = (f x).isSome ∧ ∀ c, f x = some c → ∀ z, D.atKey (.int .i64 x) z = c.datum
/-- The map of what was reached: the list R. -/
def SMap (w : World) (b n : Nat) (R : List Int) : Prop :=
  ∃ D : DataW Unit, w.ownsMap Try.prog 2 unitElem b n D ∧ ∀ x, Maps.has D (.int .i64 x) = decide (x ∈ R)

theorem OMap.block {w w' : World} {b n : Nat} {f : Int → Option Blk} (h : OMap w b n f) (hb : w'.heap[b]? = w.heap[b]?) : OMap w' b n f := by
  obtain ⟨D, ⟨es, clock, h1, h2⟩, h3⟩ := h
  exact ⟨D, ⟨es, clock, hb.trans h1, h2⟩, h3⟩
theorem SMap.block {w w' : World} {b n : Nat} {R : List Int} (h : SMap w b n R) (hb : w'.heap[b]? = w.heap[b]?) : SMap w' b n R := by
  obtain ⟨D, ⟨es, clock, h1, h2⟩, h3⟩ := h
  exact ⟨D, ⟨es, clock, hb.trans h1, h2⟩, h3⟩
theorem OMap.lt {w : World} {b n : Nat} {f : Int → Option Blk} (h : OMap w b n f) : b < w.heap.size := by obtain ⟨D, h1, _⟩ := h; exact h1.lt
theorem SMap.lt {w : World} {b n : Nat} {R : List Int} (h : SMap w b n R) : b < w.heap.size := by obtain ⟨D, h1, _⟩ := h; exact h1.lt
theorem OMap.isMap {w : World} {b n : Nat} {f : Int → Option Blk} (h : OMap w b n f) : ∃ es clock, w.heap[b]? = some (.map es clock) := by obtain ⟨D, ⟨es, clock, h1, _⟩, _⟩ := h; exact ⟨es, clock, h1⟩
theorem SMap.isMap {w : World} {b n : Nat} {R : List Int} (h : SMap w b n R) : ∃ es clock, w.heap[b]? = some (.map es clock) := by obtain ⟨D, ⟨es, clock, h1, _⟩, _⟩ := h; exact ⟨es, clock, h1⟩
theorem omap_made (w : World) : OMap (w.alloc (.map #[] 0)) w.heap.size 0 (fun _ => none) :=
  ⟨.map [], World.ownsMap_made _ _ _ _, fun x => ⟨rfl, fun c hc => by cases hc⟩⟩
theorem smap_made (w : World) : SMap (w.alloc (.map #[] 0)) w.heap.size 0 [] :=
  ⟨.map [], World.ownsMap_made _ _ _ _, fun x => by simp; rfl⟩

section
variable (w : World) {ops : Array Oper} {rest : List Oper} {o : Oper} {a : Act} {Q : Exit → Act → World → Prop}

/-- 'b, known := objects[x]'. -/
theorem wpList_omap_look (hg : o.guard = none) (m x : Operand) (hop : o.op = Op.lookup 84 m x true) (b n : Nat) (f : Int → Option Blk) (hm : a.eval m = .map (some b)) (h : OMap w b n f) (r : Int) (hx : a.eval x = .int .i64 r) (hr : In64 r)
    (hK : wpList Try.prog ops Q rest (a.put o.dst (.tuple #[.agg #[.int .i64 ((f r).getD Blk.zero).t, .int .i64 ((f r).getD Blk.zero).k, .int .i64 ((f r).getD Blk.zero).n, .int .i64 ((f r).getD Blk.zero).s], .bool (f r).isSome])) w) :
    wpList Try.prog ops Q (o :: rest) a w := by
  obtain ⟨D, hown, hD⟩ := h
  refine wpList_lookup_own_ok w hg m x _ hop 2 38 law64 Try.underlying84 blkElem (zeroBlock _) Blk.zero.datum [] (blkElem_mk Blk.zero) b n D hm hown _ _ hx (key64 hr) (fun v ps hv => ?_)
  obtain ⟨c, rfl, hc⟩ := blkElem_inv hv
  have hc1 : D.atKey (.int .i64 r) Blk.zero.datum = c.datum := congrArg Prod.fst hc
  rw [(hD r).1]
  have e : (f r).getD Blk.zero = c := by
    cases hf : f r with
    | none =>
      have h1 := (hD r).1
      rw [hf] at h1
      rw [atKey_of_not_has h1] at hc1
      exact Blk.datum_inj hc1
    | some d =>
      rw [(hD r).2 d hf] at hc1
      exact Blk.datum_inj hc1
  rw [← e]
  exact hK

theorem wpList_omap_none (hg : o.guard = none) (m x : Operand) (hop : o.op = Op.lookup 84 m x true) (b n : Nat) (f : Int → Option Blk) (hm : a.eval m = .map (some b)) (h : OMap w b n f) (r : Int) (hx : a.eval x = .int .i64 r) (hr : In64 r) (hf : f r = none)
    (hK : wpList Try.prog ops Q rest (a.put o.dst (.tuple #[.agg #[.int .i64 0, .int .i64 0, .int .i64 0, .int .i64 0], .bool false])) w) :
    wpList Try.prog ops Q (o :: rest) a w :=
  wpList_omap_look w hg m x hop b n f hm h r hx hr (by rw [hf]; exact hK)
theorem wpList_omap_some (hg : o.guard = none) (m x : Operand) (hop : o.op = Op.lookup 84 m x true) (b n : Nat) (f : Int → Option Blk) (hm : a.eval m = .map (some b)) (h : OMap w b n f) (r : Int) (hx : a.eval x = .int .i64 r) (hr : In64 r) (bt bk bn bz : Int) (hf : f r = some ⟨bt, bk, bn, bz⟩)
    (hK : wpList Try.prog ops Q rest (a.put o.dst (.tuple #[.agg #[.int .i64 bt, .int .i64 bk, .int .i64 bn, .int .i64 bz], .bool true])) w) :
    wpList Try.prog ops Q (o :: rest) a w :=
  wpList_omap_look w hg m x hop b n f hm h r hx hr (by rw [hf]; exact hK)

/-- '_, again := reached[x]'. -/
theorem wpList_smap_look (hg : o.guard = none) (m x : Operand) (hop : o.op = Op.lookup 81 m x true) (b n : Nat) (R : List Int) (hm : a.eval m = .map (some b)) (h : SMap w b n R) (r : Int) (hx : a.eval x = .int .i64 r) (hr : In64 r)
    (hK : wpList Try.prog ops Q rest (a.put o.dst (.tuple #[.agg #[], .bool (decide (r ∈ R))])) w) :
    wpList Try.prog ops Q (o :: rest) a w := by
  obtain ⟨D, hown, hD⟩ := h
  refine wpList_lookup_own_unit w hg m x _ hop 2 61 law64 Try.underlying81 (zeroUnit _) b n D hm hown _ _ hx (key64 hr) ?_
  rw [hD r]
  exact hK

theorem lit_ne {x y : Int} (h : x ≠ y) : (Lit.int .i64 x) ≠ (Lit.int .i64 y) := fun e => h (by injection e)

theorem wpList_smap_is (hg : o.guard = none) (m x : Operand) (hop : o.op = Op.lookup 81 m x true) (b n : Nat) (R : List Int) (hm : a.eval m = .map (some b)) (h : SMap w b n R) (r : Int) (hx : a.eval x = .int .i64 r) (hr : In64 r) (q : Bool) (hq : decide (r ∈ R) = q)
    (hK : wpList Try.prog ops Q rest (a.put o.dst (.tuple #[.agg #[], .bool q])) w) :
    wpList Try.prog ops Q (o :: rest) a w :=
  wpList_smap_look w hg m x hop b n R hm h r hx hr (by rw [hq]; exact hK)

/-- 'objects[b.At] = b'. -/
theorem wpList_omap_store (hg : o.guard = none) (m x v : Operand) (hop : o.op = Op.mapUpdate 84 m x v) (b n : Nat) (f : Int → Option Blk) (hm : a.eval m = .map (some b)) (h : OMap w b n f) (hn : n < maxLen) (r : Int) (hx : a.eval x = .int .i64 r) (hr : In64 r) (c : Blk) (hv : a.eval v = .agg #[.int .i64 c.t, .int .i64 c.k, .int .i64 c.n, .int .i64 c.s])
    (hK : ∀ w', OMap w' b (n + 1) (fun y => if y = r then some c else f y) → Turned [b] w w' → wpList Try.prog ops Q rest (a.put o.dst undef) w') :
    wpList Try.prog ops Q (o :: rest) a w := by
  obtain ⟨D, hown, hD⟩ := h
  refine wpList_mapUpdate_own w hg m x v _ hop 2 38 law64 Try.underlying84 blkElem b n D hm hown hn _ _ _ hx hv (key64 hr) _ [] (blkElem_mk c) (fun w' h1 h2 => hK w' ⟨_, h1, fun y => ?_⟩ ⟨h2.os, h2.tape, h2.output, h2.size, fun k hk hn => h2.block k hk (fun e => hn (by injection e with e; simp [e]))⟩)
  by_cases hy : y = r
  · subst hy
    refine ⟨by rw [has_put_same hown.isMap (show WideAt.IsKeyLit (Lit.int .i64 y) from trivial)]; simp, fun d hd z => ?_⟩
    rw [atKey_put_same hown.isMap (show WideAt.IsKeyLit (Lit.int .i64 y) from trivial)]
    simp at hd
    rw [hd]
  · rw [has_put_other (lit_ne hy), (hD y).1]
    refine ⟨by simp [hy], fun d hd z => ?_⟩
    rw [atKey_put_other (lit_ne hy)]
    simp [hy] at hd
    exact (hD y).2 d hd z

/-- 'reached[x] = struct{}{}'. -/
theorem wpList_smap_store (hg : o.guard = none) (m x v : Operand) (hop : o.op = Op.mapUpdate 81 m x v) (b n : Nat) (R : List Int) (hm : a.eval m = .map (some b)) (h : SMap w b n R) (hn : n < maxLen) (r : Int) (hx : a.eval x = .int .i64 r) (hr : In64 r) (hv : a.eval v = .agg #[])
    (hK : ∀ w', SMap w' b (n + 1) (R ++ [r]) → Turned [b] w w' → wpList Try.prog ops Q rest (a.put o.dst undef) w') :
    wpList Try.prog ops Q (o :: rest) a w := by
  obtain ⟨D, hown, hD⟩ := h
  refine wpList_mapUpdate_own w hg m x v _ hop 2 61 law64 Try.underlying81 unitElem b n D hm hown hn _ _ _ hx hv (key64 hr) _ [] unitElem_mk (fun w' h1 h2 => hK w' ⟨_, h1, fun y => ?_⟩ ⟨h2.os, h2.tape, h2.output, h2.size, fun k hk hn => h2.block k hk (fun e => hn (by injection e with e; simp [e]))⟩)
  by_cases hy : y = r
  · subst hy
    rw [has_put_same hown.isMap (show WideAt.IsKeyLit (Lit.int .i64 y) from trivial)]
    simp
  · rw [has_put_other (lit_ne hy), hD y]
    simp [hy]
end
end Go.Proofs.Ythigmechfcndcaa
