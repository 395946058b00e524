/-
  The map of package safe: threads by their numbers, and the laws at its operations; the object itself.
-/
import Derived.Test.YtclfeafmlngpnaaSafeP
import Derived.Maps.OwnSet
import Derived.Maps.Views
import Derived.Maps.RangeWalk
import Derived.Sort.KeysCollected
namespace Go.Proofs.Ytclfeafmlngpnaa
open Go.RowKit Go.Maps
set_option linter.unusedVariables false

def In64 (x : Int) : Prop := -9223372036854775808 ≤ x ∧ x ≤ 9223372036854775807

theorem law3 : Keyed Try.prog 3 := int_keyed Try.underlying3
theorem zero3 (w : World) : (zeroValue 3).run Try.prog w = .ok (.int .i64 0) w := by kernel_rfl
theorem wf3 {x : Int} (h : In64 x) : (Lit.int .i64 x).wf = true := WalkArith.wf_i64 h
theorem key3 {x : Int} (h : In64 x) : keyOf Try.prog 3 (.int .i64 x) = some (.int .i64 x) := keyOf_int_mk Try.underlying3 (wf3 h)
theorem lit_ne {x y : Int} (h : x ≠ y) : (Lit.int .i64 x) ≠ (Lit.int .i64 y) := fun e => h (by injection e)

/-- The map's reading tells the threads. -/
def DL (D : DataW Unit) (L : Th) : Prop := ∀ x, has D (.int .i64 x) = decide (st L x ≠ 0) ∧ (st L x ≠ 0 → ∀ z, D.atKey (.int .i64 x) z = .lit (.int .i64 (st L x)))

theorem DL.size {w : World} {b n : Nat} {D : DataW Unit} {L : Th} (hown : w.ownsMap Try.prog 3 (plainElem Try.prog 3) b n D) (hD : DL D L) (hL : Ok L) : Maps.size D = L.length := by
  obtain ⟨es, rfl, hpw, _⟩ := hown.entries law3
  obtain ⟨es', he, hk⟩ := hown.keysOf
  obtain rfl : es = es' := by simpa using he
  have hint : ∀ p, p ∈ es → ∃ x, p.1 = .int .i64 x := fun p hp => by
    obtain ⟨v, hv⟩ := hk p hp
    obtain ⟨x, _, h2, _⟩ := Maps.keyOf_int_inv Try.underlying3 hv
    exact ⟨x, h2⟩
  let num : Lit → Int := fun l => match l with | .int _ x => x | _ => 0
  have hp : (es.map fun p => num p.1).Perm (L.map Prod.fst) := by
    refine (List.perm_ext_iff_of_nodup ?_ (nodup_of_srt (srt_fst.1 hL.srt))).2 fun x => ?_
    · refine List.pairwise_map.2 (hpw.imp_of_mem fun {p q} hp' hq' hne e => hne ?_)
      obtain ⟨a, ha⟩ := hint p hp'
      obtain ⟨b, hb⟩ := hint q hq'
      rw [ha, hb] at e ⊢
      exact congrArg _ e
    · have hx := (hD x).1
      rw [has_eq] at hx
      constructor
      · intro h
        obtain ⟨p, hp', e⟩ := List.mem_map.1 h
        obtain ⟨a, ha⟩ := hint p hp'
        rw [ha] at e
        have e' : a = x := e
        subst e'
        have h1 : es.any (fun q => q.1.sameKey (.int .i64 a)) = true := List.any_eq_true.2 ⟨p, hp', by rw [ha]; simp [Lit.sameKey]⟩
        rw [h1] at hx
        have h2 : st L a ≠ 0 := of_decide_eq_true hx.symm
        exact List.mem_map.2 ⟨_, st_mem h2, rfl⟩
      · intro h
        obtain ⟨p, hp', e⟩ := List.mem_map.1 h
        have h2 : st L x ≠ 0 := by
          have h3 := st_of_mem hL hp'
          have h4 := (hL.ok p hp').1
          rw [e] at h3
          omega
        rw [show decide (st L x ≠ 0) = true from decide_eq_true h2] at hx
        obtain ⟨q, hq, hs⟩ := List.any_eq_true.1 hx
        obtain ⟨a, ha⟩ := hint q hq
        rw [ha] at hs
        have e2 : a = x := by simpa [Lit.sameKey] using hs
        exact List.mem_map.2 ⟨q, hq, by rw [ha]; exact e2⟩
  have h1 := hp.length_eq
  rw [size_eq]
  simpa using h1

/-- Block b is the map of these threads. -/
def TM (w : World) (b : Nat) (L : Th) : Prop := ∃ D : DataW Unit, w.ownsMap Try.prog 3 (plainElem Try.prog 3) b L.length D ∧ DL D L

theorem tm_tight {w : World} {b n : Nat} {D : DataW Unit} {L : Th} (hown : w.ownsMap Try.prog 3 (plainElem Try.prog 3) b n D) (hD : DL D L) (hL : Ok L) : TM w b L := by
  have h1 := DL.size hown hD hL
  obtain ⟨es, clock, h2, F, h3, rfl⟩ := hown
  refine ⟨_, ⟨es, clock, h2, F, ?_, rfl⟩, hD⟩
  have h4 : Maps.size (DataW.map ((es.toList.map (WideElems.rg Try.prog 3 (plainElem (H := Unit) Try.prog 3))).foldr DataW.insert [])) = es.size := by
    rw [size_eq, length_sorted]
    simp
  omega

theorem TM.block {w w' : World} {b : Nat} {L : Th} (h : TM w b L) (hb : w'.heap[b]? = w.heap[b]?) : TM w' b L := by
  obtain ⟨D, ⟨es, clock, h1, h2⟩, h3⟩ := h
  exact ⟨D, ⟨es, clock, hb.trans h1, h2⟩, h3⟩
theorem TM.lt {w : World} {b : Nat} {L : Th} (h : TM w b L) : b < w.heap.size := by obtain ⟨D, h1, _⟩ := h; exact h1.lt
theorem TM.isMap {w : World} {b : Nat} {L : Th} (h : TM w b L) : ∃ es clock, w.heap[b]? = some (.map es clock) := by obtain ⟨D, ⟨es, clock, h1, _⟩, _⟩ := h; exact ⟨es, clock, h1⟩
theorem tm_made (w : World) : TM (w.alloc (.map #[] 0)) w.heap.size [] :=
  ⟨.map [], World.ownsMap_made _ _ _ _, fun x => ⟨rfl, fun h => absurd rfl h⟩⟩

/-- 'states[x]'. -/
theorem TM.look {w : World} {b : Nat} {L : Th} (h : TM w b L) (hL : Ok L) {x : Int} (hx : In64 x) : (Instr.lookup 46 (.map (some b)) (.int .i64 x) false).run Try.prog w = .ok (.int .i64 (st L x)) w := by
  obtain ⟨D, hown, hD⟩ := h
  obtain ⟨c, hrun, hat, hwc⟩ := hown.lookup_int law3 Try.underlying46 Try.underlying3 (zero3 w) (key3 hx)
  rw [hrun]
  have e : c = st L x := by
    by_cases h0 : st L x = 0
    · have h1 := (hD x).1
      rw [h0] at h1
      rw [atKey_of_not_has (by simpa using h1)] at hat
      injection hat with hat
      injection hat with _ hat
      omega
    · rw [(hD x).2 h0] at hat
      injection hat with hat
      injection hat with _ hat
      exact hat.symm
  rw [e]
theorem look_none (w : World) {x : Int} (hx : In64 x) : (Instr.lookup 46 (.map none) (.int .i64 x) false).run Try.prog w = .ok (.int .i64 0) w :=
  (Maps.look_nil false law3 Try.underlying46 (zero3 w) (key3 hx)).trans rfl

theorem DL.put {w : World} {b n : Nat} {D : DataW Unit} {L M : Th} (hown : w.ownsMap Try.prog 3 (plainElem Try.prog 3) b n D) (hD : DL D L) {x s : Int} (hs : s ≠ 0) (hM : ∀ y, st M y = if y = x then s else st L y) : DL (D.put (.int .i64 x) (.lit (.int .i64 s))) M := by
  intro y
  rw [hM y]
  by_cases hy : y = x
  · subst hy
    rw [if_pos rfl]
    refine ⟨by rw [has_put_same hown.isMap (show WideAt.IsKeyLit (Lit.int .i64 y) from trivial)]; simp [hs], fun _ z => ?_⟩
    rw [atKey_put_same hown.isMap (show WideAt.IsKeyLit (Lit.int .i64 y) from trivial)]
  · rw [if_neg hy, has_put_other (lit_ne hy)]
    refine ⟨(hD y).1, fun h z => ?_⟩
    rw [atKey_put_other (lit_ne hy)]
    exact (hD y).2 h z
theorem DL.del {D : DataW Unit} {L : Th} (hD : DL D L) (x : Int) : DL (D.del (.int .i64 x)) (del x L) := by
  intro y
  rw [st_del]
  by_cases hy : y = x
  · subst hy
    rw [if_pos rfl]
    exact ⟨by rw [has_del_same]; simp, fun h => absurd rfl h⟩
  · rw [if_neg hy, has_del_other (lit_ne hy)]
    refine ⟨(hD y).1, fun h z => ?_⟩
    rw [atKey_del_other (lit_ne hy)]
    exact (hD y).2 h z

section
variable (w : World) {ops : Array Oper} {rest : List Oper} {o : Oper} {a : Act} {Q : Exit → Act → World → Prop}

/-- 'states[x] = s'. -/
theorem wpList_tm_store (hg : o.guard = none) (m x v : Operand) (hop : o.op = Op.mapUpdate 46 m x v) (b : Nat) (L M : Th) (hm : a.eval m = .map (some b)) (h : TM w b L) (hn : L.length < maxLen) (r s : Int) (hx : a.eval x = .int .i64 r) (hr : In64 r) (hv : a.eval v = .int .i64 s) (hs : 1 ≤ s ∧ s ≤ 3) (hM : ∀ y, st M y = if y = r then s else st L y) (hMk : Ok M)
    (hK : ∀ w', TM w' b M → Turned [b] w w' → wpList Try.prog ops Q rest (a.put o.dst undef) w') :
    wpList Try.prog ops Q (o :: rest) a w := by
  obtain ⟨D, hown, hD⟩ := h
  refine wpList_mapUpdate_own w hg m x v _ hop 3 3 law3 Try.underlying46 (plainElem Try.prog 3) b _ D hm hown hn _ _ _ hx hv (key3 hr) _ [] (plainElem_int Try.underlying3 (wf3 (by unfold In64; omega)))
    (fun w' h1 h2 => hK w' (tm_tight h1 (DL.put hown hD (by omega) hM) hMk) ⟨h2.os, h2.tape, h2.output, h2.size, fun k hk hn => h2.block k hk (fun e => hn (by injection e with e; simp [e]))⟩)
/-- The same, as an equation: for regions that draw their order. -/
theorem TM.update {w : World} {b : Nat} {L M : Th} (h : TM w b L) (hn : L.length < maxLen) {r s : Int} (hr : In64 r) (hs : 1 ≤ s ∧ s ≤ 3) (hM : ∀ y, st M y = if y = r then s else st L y) (hMk : Ok M) :
    ∃ w', (Instr.mapUpdate 46 (.map (some b)) (.int .i64 r) (.int .i64 s)).run Try.prog w = .ok () w' ∧ TM w' b M ∧ Turned [b] w w' := by
  obtain ⟨D, hown, hD⟩ := h
  obtain ⟨w', hrun, h1, h2⟩ := hown.update law3 Try.underlying46 hn (key3 hr) (plainElem_int Try.underlying3 (wf3 (x := s) (by unfold In64; omega)))
  exact ⟨w', hrun, tm_tight h1 (DL.put hown hD (by omega) hM) hMk, ⟨h2.os, h2.tape, h2.output, h2.size, fun k hk hn => h2.block k hk (fun e => hn (by injection e with e; simp [e]))⟩⟩
/-- 'delete(states, x)'. -/
theorem wpList_tm_delete (hg : o.guard = none) (m x : Operand) (hop : o.op = Op.call { callee := Callee.builtin Builtin.delete, args := #[m, x], argTypes := #[46, 3] }) (b : Nat) (L : Th) (hm : a.eval m = .map (some b)) (h : TM w b L) (hL : Ok L) (r : Int) (hx : a.eval x = .int .i64 r) (hr : In64 r)
    (hK : ∀ w', TM w' b (del r L) → Turned [b] w w' → wpList Try.prog ops Q rest (a.put o.dst (.tuple #[])) w') :
    wpList Try.prog ops Q (o :: rest) a w := by
  obtain ⟨D, hown, hD⟩ := h
  refine wpList_delete_own w hg m x _ _ hop 3 law3 Try.underlying46 (plainElem Try.prog 3) b _ D hm hown _ _ hx (key3 hr)
    (fun w' h1 h2 => hK w' (tm_tight h1 (hD.del r) (hL.del r)) ?_)
  have h3 := h2.grown
  exact ⟨h3.os, h3.tape, h3.output, h3.size, fun k hk hn => h3.block k hk (fun e => hn (by injection e with e; simp [e]))⟩
end

/-- The object: block a; its map mo; the threads; is it armed? -/
structure Sf (w : World) (a : Nat) (mo : Option Nat) (L : Th) (ar : Bool) : Prop where
  obj : w.heap[a]? = some (.cells #[.map mo, .bool ar] 48)
  ok : Ok L
  few : L.length < 17592186044416
  map : ∀ b, mo = some b → TM w b L
  emp : mo = none → L = []

theorem Sf.c0 {w : World} {a : Nat} {mo : Option Nat} {L : Th} {ar : Bool} (h : Sf w a mo L ar) : w.cell? ⟨a, 0, none⟩ = some (.map mo) := by rw [cell_of_heap h.obj]; rfl
theorem Sf.c1 {w : World} {a : Nat} {mo : Option Nat} {L : Th} {ar : Bool} (h : Sf w a mo L ar) : w.cell? ⟨a, 1, none⟩ = some (.bool ar) := by rw [cell_of_heap h.obj]; rfl
theorem Sf.fr {w : World} {a : Nat} {mo : Option Nat} {L : Th} {ar : Bool} (h : Sf w a mo L ar) (i : Nat) : w.frozen? ⟨a, i, none⟩ = false := by simp [World.frozen?, h.obj]
theorem Sf.ne {w : World} {a : Nat} {mo : Option Nat} {L : Th} {ar : Bool} (h : Sf w a mo L ar) {b : Nat} (hb : mo = some b) : b ≠ a := by
  intro e
  obtain ⟨es, clock, h1⟩ := (h.map b hb).isMap
  rw [e, h.obj] at h1
  cases h1
/-- Where its blocks stay, it stays. -/
theorem Sf.keep {w w' : World} {a : Nat} {mo : Option Nat} {L : Th} {ar : Bool} (h : Sf w a mo L ar) (h1 : w'.heap[a]? = w.heap[a]?) (h2 : ∀ b, mo = some b → w'.heap[b]? = w.heap[b]?) : Sf w' a mo L ar :=
  ⟨h1.trans h.obj, h.ok, h.few, fun b hb => (h.map b hb).block (h2 b hb), h.emp⟩
theorem Sf.lt {w : World} {a : Nat} {mo : Option Nat} {L : Th} {ar : Bool} (h : Sf w a mo L ar) : a < w.heap.size := lt_of_heap h.obj
theorem Sf.turned {w w' : World} {a : Nat} {mo : Option Nat} {L : Th} {ar : Bool} {S : List Nat} (h : Sf w a mo L ar) (ht : Turned S w w') (h1 : a ∉ S) (h2 : ∀ b, mo = some b → b ∉ S) : Sf w' a mo L ar :=
  h.keep (ht.block a h.lt h1) (fun b hb => ht.block b (h.map b hb).lt (h2 b hb))
/-- Another list of threads in the same map. -/
theorem Sf.store {w w' : World} {a b : Nat} {L M : Th} {ar : Bool} (h : Sf w a (some b) L ar) (hm : TM w' b M) (ht : Turned [b] w w') (hM : Ok M) (hf : M.length < 17592186044416) : Sf w' a (some b) M ar :=
  ⟨(ht.block a h.lt (by have := h.ne rfl; simp; omega)).trans h.obj, hM, hf, fun c hc => by cases hc; exact hm, fun e => by cases e⟩
theorem Sf.setArmed {w : World} {a : Nat} {mo : Option Nat} {L : Th} {ar : Bool} (h : Sf w a mo L ar) (b : Bool) : Sf (w.setCell ⟨a, 1, none⟩ (.bool b)) a mo L b :=
  ⟨by rw [heap_setCell_at w a 1 _ _ _ h.obj]; rfl, h.ok, h.few, fun c hc => (h.map c hc).block (Below.heap_setCell _ _ _ _ (h.ne hc)), h.emp⟩
end Go.Proofs.Ytclfeafmlngpnaa
