/-
  Texts of the proof, several in one: AdjMap.
-/
import Derived.Test.YtpeglndlhjnaaaaGreatDoorPack1
import Derived.Maps.OwnSet
import Derived.Maps.Views
import Derived.Sort.KeysCollected
/-
  The map of package adjust: workers' blocks by their numbers, and the laws at its operations.
-/
namespace Go.Proofs.YtpeglndlhjnaaaaGreatDoor
open Go.RowKit Go.Maps
set_option linter.unusedVariables false

theorem lawA : Keyed Tryz.prog 3 := int_keyed Tryz.underlying3
theorem zeroWkA (w : World) : (zeroValue 101).run Tryz.prog w = .ok (.pointer none) w := by kernel_rfl
theorem keyA {x : Int} (h : -9223372036854775808 ≤ x ∧ x ≤ 9223372036854775807) : keyOf Tryz.prog 3 (.int .i64 x) = some (.int .i64 x) := keyOf_int_mk Tryz.underlying3 (WalkArith.wf_i64 h)
theorem litA_ne {x y : Int} (h : x ≠ y) : (Lit.int .i64 x) ≠ (Lit.int .i64 y) := fun e => h (by injection e)
/-- How a worker reads: by its block; none: -1. -/
def ptrElem : Value → Option (DataW Unit × List MemPlace)
  | .pointer (some ⟨b, 0, none⟩) => some (.lit (.int .i64 (b : Int)), [])
  | .pointer none => some (.lit (.int .i64 (-1)), [])
  | _ => none
theorem ptrElem_mk (b : Nat) : ptrElem (.pointer (some ⟨b, 0, none⟩)) = some (.lit (.int .i64 (b : Int)), []) := rfl
theorem ptrElem_none : ptrElem (.pointer none) = some (.lit (.int .i64 (-1)), []) := rfl
def ptrOf : Option Nat → Value
  | some b => .pointer (some ⟨b, 0, none⟩)
  | none => .pointer none
def ptrDat : Option Nat → DataW Unit
  | some b => .lit (.int .i64 (b : Int))
  | none => .lit (.int .i64 (-1))
theorem ptrElem_inv {v : Value} {z : DataW Unit × List MemPlace} (h : ptrElem v = some z) : ∃ o : Option Nat, v = ptrOf o ∧ z = (ptrDat o, []) := by
  unfold ptrElem at h
  split at h
  · injection h with h; exact ⟨some _, rfl, h.symm⟩
  · injection h with h; exact ⟨none, rfl, h.symm⟩
  · cases h
theorem ptrDat_inj {a b : Option Nat} (h : ptrDat a = ptrDat b) : a = b := by
  cases a <;> cases b <;> simp [ptrDat] at h ⊢ <;> omega

/-- Block b is the map of these workers. -/
def WM (w : World) (b n : Nat) (f : Int → Option Nat) : Prop :=
  ∃ D : DataW Unit, w.ownsMap Tryz.prog 3 ptrElem b n D ∧ ∀ x, Maps.has D (.int .i64 x) = (f x).isSome ∧ ∀ c, f x = some c → ∀ z, D.atKey (.int .i64 x) z = ptrDat (some c)
section
variable {w w' : World} {b n : Nat} {f : Int → Option Nat}
theorem WM.block (h : WM w b n f) (hb : w'.heap[b]? = w.heap[b]?) : WM w' b n f := by
  obtain ⟨D, ⟨es, clock, h1, h2⟩, h3⟩ := h
  exact ⟨D, ⟨es, clock, hb.trans h1, h2⟩, h3⟩
theorem WM.lt (h : WM w b n f) : b < w.heap.size := by obtain ⟨D, h1, _⟩ := h; exact h1.lt
theorem WM.isMap (h : WM w b n f) : ∃ es clock, w.heap[b]? = some (.map es clock) := by obtain ⟨D, ⟨es, clock, h1, _⟩, _⟩ := h; exact ⟨es, clock, h1⟩
theorem WM.ne (h : WM w b n f) {c : Array Value} {e : TypeId} {fr : Nat × Nat} {x : Nat} (hx : w.heap[x]? = some (.cells c e fr)) : x ≠ b := by
  rintro rfl
  obtain ⟨es, clock, h1⟩ := h.isMap
  rw [hx] at h1
  cases h1
theorem WM.congr {g : Int → Option Nat} (h : WM w b n f) (e : ∀ x, f x = g x) : WM w b n g := by
  have : f = g := funext e
  rw [← this]; exact h
theorem wm_made (w : World) : WM (w.alloc (.map #[] 0)) w.heap.size 0 (fun _ => none) :=
  ⟨.map [], World.ownsMap_made _ _ _ _, fun x => ⟨rfl, fun c hc => by cases hc⟩⟩
/-- 'workers[x]'. -/
theorem WM.look (h : WM w b n f) {x : Int} (hx : -9223372036854775808 ≤ x ∧ x ≤ 9223372036854775807) : (Instr.lookup 96 (.map (some b)) (.int .i64 x) false).run Tryz.prog w = .ok (ptrOf (f x)) w := by
  obtain ⟨D, hown, hD⟩ := h
  obtain ⟨v, ps, hrun, hv⟩ := hown.lookup lawA Tryz.underlying96 (zeroWkA w) ptrElem_none (keyA hx)
  rw [hrun]
  obtain ⟨o, rfl, ho⟩ := ptrElem_inv hv
  have h1 : D.atKey (.int .i64 x) (.lit (.int .i64 (-1))) = ptrDat o := congrArg Prod.fst ho
  have e : f x = o := by
    cases hf : f x with
    | none =>
      have h2 := (hD x).1
      rw [hf] at h2
      rw [atKey_of_not_has h2] at h1
      exact ptrDat_inj (a := none) h1
    | some d =>
      rw [(hD x).2 d hf] at h1
      exact ptrDat_inj h1
  rw [e]
theorem lookA_none (w : World) {x : Int} (hx : -9223372036854775808 ≤ x ∧ x ≤ 9223372036854775807) : (Instr.lookup 96 (.map none) (.int .i64 x) false).run Tryz.prog w = .ok (.pointer none) w :=
  (Maps.look_nil false lawA Tryz.underlying96 (zeroWkA w) (keyA hx)).trans rfl
/-- 'len(workers)'. -/
theorem WM.len (h : WM w b n f) (ty : TypeId) : ∃ m : Nat, (Builtin.len_ #[96] ty #[.map (some b)]).run Tryz.prog w = .ok (.int .i64 (m : Int)) w ∧ m ≤ n ∧ (m = 0 ↔ ∀ x, f x = none) := by
  obtain ⟨D, hown, hD⟩ := h
  refine ⟨_, hown.len Tryz.underlying96 ty, hown.size_le, ?_⟩
  obtain ⟨es, rfl, hpw, _⟩ := hown.entries lawA
  obtain ⟨es', he, hk⟩ := hown.keysOf
  obtain rfl : es = es' := by simpa using he
  rw [size_eq]
  constructor
  · intro h0 x
    have hes : es = [] := List.eq_nil_of_length_eq_zero h0
    have h1 := (hD x).1
    rw [has_eq, hes] at h1
    cases hf : f x with
    | none => rfl
    | some c => rw [hf] at h1; cases h1
  · intro hall
    cases es with
    | nil => rfl
    | cons p l =>
      obtain ⟨v, hv⟩ := hk p (by simp)
      obtain ⟨x, _, h2, _⟩ := Maps.keyOf_int_inv Tryz.underlying3 hv
      have h1 := (hD x).1
      rw [has_eq, hall x] at h1
      have h3 : (p :: l).any (fun q => q.1.sameKey (.int .i64 x)) = true := List.any_eq_true.2 ⟨p, by simp, by rw [h2]; simp [Lit.sameKey]⟩
      rw [h3] at h1
      cases h1
/-- 'workers[x] = c'. -/
theorem WM.update (h : WM w b n f) (hn : n < maxLen) {x : Int} (hx : -9223372036854775808 ≤ x ∧ x ≤ 9223372036854775807) (c : Nat) :
    ∃ w', (Instr.mapUpdate 96 (.map (some b)) (.int .i64 x) (.pointer (some ⟨c, 0, none⟩))).run Tryz.prog w = .ok () w' ∧ WM w' b (n + 1) (fun y => if y = x then some c else f y) ∧ Turned [b] w w' ∧ w'.heap.size = w.heap.size := by
  obtain ⟨D, hown, hD⟩ := h
  obtain ⟨w', hrun, h1, h2⟩ := hown.store lawA Tryz.underlying96 hn (keyA hx) (ptrElem_mk c)
  refine ⟨w', hrun, ⟨_, h1, fun y => ?_⟩, ⟨h2.grown.os, h2.grown.tape, h2.grown.output, h2.grown.size, fun k hk hn => h2.grown.block k hk (fun e => hn (by injection e with e; simp [e]))⟩, by obtain ⟨_, _, _, _, _, rfl⟩ := h2; simp [Go.ChangeMaps.setBlock]⟩
  by_cases hy : y = x
  · subst hy
    dsimp only
    rw [if_pos rfl]
    refine ⟨by rw [has_put_same hown.isMap (show WideAt.IsKeyLit (Lit.int .i64 y) from trivial)]; simp, fun d hd z => ?_⟩
    rw [atKey_put_same hown.isMap (show WideAt.IsKeyLit (Lit.int .i64 y) from trivial)]
    cases hd
    rfl
  · dsimp only
    rw [if_neg hy, has_put_other (litA_ne hy)]
    refine ⟨(hD y).1, fun d hd z => ?_⟩
    rw [atKey_put_other (litA_ne hy)]
    exact (hD y).2 d hd z
/-- 'delete(workers, x)'. -/
theorem WM.drop (h : WM w b n f) {x : Int} (hx : -9223372036854775808 ≤ x ∧ x ≤ 9223372036854775807) (ty : TypeId) :
    ∃ w', (Builtin.delete_ #[96, 3] ty #[.map (some b), .int .i64 x]).run Tryz.prog w = .ok (.tuple #[]) w' ∧ WM w' b n (fun y => if y = x then none else f y) ∧ Turned [b] w w' := by
  obtain ⟨D, hown, hD⟩ := h
  obtain ⟨w', hrun, h1, h2⟩ := hown.drop lawA Tryz.underlying96 (keyA hx) ty
  refine ⟨w', hrun, ⟨_, h1, fun y => ?_⟩, ⟨h2.grown.os, h2.grown.tape, h2.grown.output, h2.grown.size, fun k hk hn => h2.grown.block k hk (fun e => hn (by injection e with e; simp [e]))⟩⟩
  by_cases hy : y = x
  · subst hy
    dsimp only
    rw [if_pos rfl]
    exact ⟨by rw [has_del_same]; simp, fun d hd => by cases hd⟩
  · dsimp only
    rw [if_neg hy, has_del_other (litA_ne hy)]
    refine ⟨(hD y).1, fun d hd z => ?_⟩
    rw [atKey_del_other (litA_ne hy)]
    exact (hD y).2 d hd z
end
section
variable (w : World) {ops : Array Oper} {rest : List Oper} {o : Oper} {a : Act} {Q : Exit → Act → World → Prop}
/-- 'delete(workers, x)' in a walk. -/
theorem wpList_wm_delete (hg : o.guard = none) (m x : Operand) (hop : o.op = Op.call { callee := Callee.builtin Builtin.delete, args := #[m, x], argTypes := #[96, 3] }) (b n : Nat) (f : Int → Option Nat) (hm : a.eval m = .map (some b)) (h : WM w b n f) (r : Int) (hx : a.eval x = .int .i64 r) (hr : -9223372036854775808 ≤ r ∧ r ≤ 9223372036854775807)
    (hK : ∀ w', WM w' b n (fun y => if y = r then none else f y) → Turned [b] w w' → wpList Tryz.prog ops Q rest (a.put o.dst (.tuple #[])) w') :
    wpList Tryz.prog ops Q (o :: rest) a w := by
  obtain ⟨D, hown, hD⟩ := h
  refine wpList_delete_own w hg m x _ _ hop 101 lawA Tryz.underlying96 ptrElem b _ D hm hown _ _ hx (keyA hr) (fun w' h1 h2 => hK w' ⟨_, h1, fun y => ?_⟩ ⟨h2.grown.os, h2.grown.tape, h2.grown.output, h2.grown.size, fun k hk hn => h2.grown.block k hk (fun e => hn (by injection e with e; simp [e]))⟩)
  by_cases hy : y = r
  · subst hy
    dsimp only
    rw [if_pos rfl]
    exact ⟨by rw [has_del_same]; simp, fun d hd => by cases hd⟩
  · dsimp only
    rw [if_neg hy, has_del_other (litA_ne hy)]
    refine ⟨(hD y).1, fun d hd z => ?_⟩
    rw [atKey_del_other (litA_ne hy)]
    exact (hD y).2 d hd z
end
end Go.Proofs.YtpeglndlhjnaaaaGreatDoor
