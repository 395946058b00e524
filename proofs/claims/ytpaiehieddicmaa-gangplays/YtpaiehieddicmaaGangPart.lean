/-
  Parts of a row: 'l[:k]', 'l[k:]', and what is appended of them.
-/
import Derived.Test.YtpaiehieddicmaaGangKit
import Derived.Laws.AppendOwnNone
namespace Go.Proofs.Ytpaiehieddicmaa
open Go.RowKit
set_option linter.unusedVariables false

theorem infoInt : (Try.prog.info? 3).map (fun i => (i.zero, i.size, i.bytes)) = some (some (.int .i64 0), 1, 8) := by kernel_rfl

/-- 'append(s, x...)', x a slice that can be read. -/
theorem wpList_append_part {w : World} {ops : Array Oper} {rest : List Oper} {o : Oper} {a : Act} {Q : Exit → Act → World → Prop} (hg : o.guard = none) (s x : Operand)
    (hop : o.op = .call { callee := .builtin .append, args := #[s, x], argTypes := #[22, 22] }) (B : Nat) (v : Value) (l : List Int) (hs : a.eval s = v) (hown : Row w B v l) (ao : Option Addr) (m c : Nat) (r : List Int) (hx : a.eval x = .slice ao m c) (hr : IRd w ao m r) (hn : ao = none → c = 0) (hf : l.length + m ≤ 17592186044416) (hB : B ≤ w.heap.size)
    (hK : ∀ v' w', Row w' B v' (l ++ r) → w.grownBy w' v.ownBlock → wpList Try.prog ops Q rest (a.put o.dst v') w') : wpList Try.prog ops Q (o :: rest) a w := by
  obtain ⟨i0, hi, hi0⟩ := Option.map_eq_some_iff.1 infoInt
  simp only [Prod.mk.injEq] at hi0
  obtain ⟨hz0, hz1, hz2⟩ := hi0
  cases ao with
  | none =>
    have hc := hn rfl
    subst hc
    obtain rfl : r = [] := by
      cases r with
      | nil => rfl
      | cons y r =>
        obtain ⟨g, off, h1, _⟩ := hr.cell 0 y rfl
        cases h1
    obtain rfl : m = 0 := hr.size.symm
    refine wpList_append_own_none hg s x 22 hop B 3 i0 1 Try.underlying22 hi v l.length _ hs hown hx ?_
    refine hK v w (by rw [List.append_nil]; exact hown) ⟨rfl, rfl, rfl, Nat.le_refl _, fun _ _ _ => rfl⟩
  | some ad =>
    refine wpList_append_own w hg s x 22 hop B 3 i0 (.int .i64 0) 1 8 Try.underlying22 hi hz0 hz1 hz2 rfl (by decide) v l.length _ hs hown ad m c (r.map (Value.int .i64)) hx (by simp [hr.size]) (fun j u hu => ?_) (fun u hu => by obtain ⟨y, _, rfl⟩ := List.mem_map.1 hu; rfl) (by unfold maxLen; omega) (by omega) hB (fun v' w' h1 h2 _ => hK v' w' ?_ h2)
    · rw [List.getElem?_map] at hu
      cases hy : r[j]? with
      | none => rw [hy] at hu; cases hu
      | some y =>
        rw [hy] at hu
        simp at hu
        subst hu
        obtain ⟨g, off, h1, h2⟩ := hr.cell j y hy
        cases h1
        rw [show (⟨g, off, none⟩ : Addr).add j = ⟨g, off + j, none⟩ by simp [Addr.add]]
        exact h2
    · unfold Row
      rw [List.length_append, List.map_append, hr.size]
      exact h1

set_option maxRecDepth 100000 in
theorem row_front {w : World} {B : Nat} {v : Value} {l : List Int} (h : Row w B v l) {k : Nat} (hk : k ≤ l.length) :
    ∃ ao c, (∀ w' : World, (Instr.slice 22 v none (some (.int .i64 (k : Int))) none).run Try.prog w' = .ok (.slice ao k c) w') ∧ IRd w ao k (l.take k) ∧ (ao = none → c = 0) := by
  rcases h.2 with ⟨hv, hn⟩ | ⟨g, cap, cur, hv, hg, hb, h1, h2, h3, h4⟩
  · subst hv
    obtain rfl : l = [] := List.eq_nil_of_length_eq_zero hn
    obtain rfl : k = 0 := by simpa using hk
    refine ⟨none, 0, fun w' => ?_, IRd.nil _ _, fun _ => rfl⟩
    rw [run_slice_h (P := Try.prog) w' 22 none 0 0 Try.underlying22 .i64 ((0 : Nat) : Int) (by omega) (by simp)]
    rfl
  · subst hv
    refine ⟨some ⟨g, 0, none⟩, cap, fun w' => ?_, ⟨by rw [List.length_take]; omega, fun i x hx => ⟨g, 0, rfl, ?_⟩⟩, fun e => by cases e⟩
    · rw [run_slice_h (P := Try.prog) w' 22 _ _ _ Try.underlying22 .i64 k (by omega) (by omega)]
      show Result.ok (sliced _ 0 (k : Int).toNat cap 1) w' = _
      simp [sliced, Addr.add]
    · rw [List.getElem?_take] at hx
      split at hx
      · obtain ⟨_, ao, cp, e1, hc⟩ := ownsRow_any h
        obtain ⟨g2, e2, _, _, e3, _⟩ := hc i (.int .i64 x) (by simp [hx])
        injection e1 with e1
        rw [e2] at e1
        cases e1
        rw [Nat.zero_add]
        exact e3
      · cases hx
set_option maxRecDepth 100000 in
theorem row_back {w : World} {B : Nat} {v : Value} {l : List Int} (h : Row w B v l) {k : Nat} (hk : k ≤ l.length) (hl : l.length ≤ 17592186044416) :
    ∃ ao c, (∀ w' : World, (Instr.slice 22 v (some (.int .i64 (k : Int))) none none).run Try.prog w' = .ok (.slice ao (l.length - k) c) w') ∧ IRd w ao (l.length - k) (l.drop k) ∧ (ao = none → c = 0) := by
  rcases h.2 with ⟨hv, hn⟩ | ⟨g, cap, cur, hv, hg, hb, h1, h2, h3, h4⟩
  · subst hv
    obtain rfl : l = [] := List.eq_nil_of_length_eq_zero hn
    obtain rfl : k = 0 := by simpa using hk
    refine ⟨none, 0, fun w' => ?_, IRd.nil _ _, fun _ => rfl⟩
    rw [run_slice_l (P := Try.prog) w' 22 none 0 0 Try.underlying22 .i64 ((0 : Nat) : Int) (by omega) (by simp)]
    rfl
  · subst hv
    refine ⟨if cap = k then some ⟨g, 0, none⟩ else some ⟨g, k, none⟩, cap - k, fun w' => ?_, ⟨by simp, fun i x hx => ?_⟩, fun e => by split at e <;> cases e⟩
    · rw [run_slice_l (P := Try.prog) w' 22 _ _ _ Try.underlying22 .i64 k (by omega) (by omega)]
      show Result.ok (sliced _ (k : Int).toNat l.length cap 1) w' = _
      simp [sliced, Addr.add]
      by_cases h0 : k = 0 <;> simp [h0]
    · rw [List.getElem?_drop] at hx
      have hi := (List.getElem?_eq_some_iff.1 hx).1
      refine ⟨g, k, by rw [if_neg (by omega)], ?_⟩
      obtain ⟨_, ao, cp, e1, hc⟩ := ownsRow_any h
      obtain ⟨g2, e2, _, _, e3, _⟩ := hc (k + i) (.int .i64 x) (by simp [hx])
      injection e1 with e1
      rw [e2] at e1
      cases e1
      exact e3

theorem row_nil (w : World) (B : Nat) : Row w B (.slice none 0 0) [] := World.ownsRow_nil _ _ _ _
theorem turned_grown {w w' : World} {v : Value} (hg : w.grownBy w' v.ownBlock) : Turned v.ownBlock.toList w w' := (Turned.refl v.ownBlock.toList w).grown hg (fun k hk => .inl (by rw [hk]; simp))
theorem turned_grown0 {w w' : World} (hg : w.grownBy w' (Value.slice none 0 0).ownBlock) : Turned [] w w' := (Turned.refl [] w).grown hg (fun k hk => by simp [Value.ownBlock] at hk)
/-- A gang stays where a row of newer blocks grows. -/
theorem Gn.grown {w0 w w' : World} {p q n : Nat} {ws : List Int} {came : Nat} {ph : Int} (h : Gn w0 w p q n ws came ph) {B : Nat} {v : Value} {l : List Int} (hr : Row w B v l) (hg : w.grownBy w' v.ownBlock) (hB : p < B ∧ q < B ∧ w0.heap.size ≤ B) : Gn w0 w' p q n ws came ph :=
  h.other (turned_grown hg) (fun hm => by have := (ownsRow_lt hr p (by simpa using hm)).1; omega) (fun hm => by have := (ownsRow_lt hr q (by simpa using hm)).1; omega) (fun i hi => by have := (ownsRow_lt hr i (by simpa using hi)).1; omega)
theorem Row.gang {w w' : World} {B p q : Nat} {v : Value} {l : List Int} (h : Row w B v l) (ht : Turned [p, q] w w') (hB : p < B ∧ q < B) : Row w' B v l :=
  h.keep ht (fun k hk => by have := (ownsRow_lt h k hk).1; simp; omega)
theorem Row.t0 {w w' : World} {B : Nat} {v : Value} {l : List Int} (h : Row w B v l) (ht : Turned [] w w') : Row w' B v l := h.keep ht (fun k hk => by simp)

/-- Who is left. -/
structure Lft (n : Nat) (lst ws : List Int) (came : Nat) : Prop where
  nd : lst.Nodup
  mem : ∀ y, y ∈ lst ↔ (0 ≤ y ∧ y < n) ∧ y ∉ ws.take came
/-- Behind j arrivals of a phase. -/
def Beh (n : Nat) (pp : Int) (j : Nat) (lst ws : List Int) (came : Nat) (ph : Int) : Prop := lst.length = n - j ∧ ((j < n ∧ came = j ∧ ph = pp ∧ Lft n lst ws came) ∨ (j = n ∧ came = 0 ∧ ph = pp + 1))
theorem Beh.start {n : Nat} (hn : 0 < n) (pp : Int) (ws : List Int) : Beh n pp 0 (ids n) ws 0 pp := ⟨by rw [ids_length]; rfl, .inl ⟨hn, rfl, rfl, ⟨ids_nodup n, fun y => by rw [mem_ids]; simp⟩⟩⟩
theorem Beh.step {n : Nat} {pp : Int} {j : Nat} {lst ws ws' : List Int} {came came' : Nat} {ph ph' er : Int} {b : Bool} (h : Beh n pp j lst ws came ph) (hj : j < n) {k : Nat} {t : Int} (hk : lst[k]? = some t) (ha : Arr n ws came ph t b er ws' came' ph') :
    er = 0 ∧ b = decide ((j : Int) = (n : Int) - 1) ∧ Beh n pp (j + 1) (lst.take k ++ lst.drop (k + 1)) ws' came' ph' := by
  obtain ⟨hl, h1 | h1⟩ := h
  · obtain ⟨_, rfl, rfl, hL⟩ := h1
    obtain ⟨hkl, ht'⟩ := List.getElem?_eq_some_iff.1 hk
    have hlen : (lst.take k ++ lst.drop (k + 1)).length = n - (came + 1) := by simp; omega
    have htm : t ∈ lst := List.mem_of_getElem? hk
    obtain ⟨htr, htn⟩ := (hL.mem t).1 htm
    have e : lst.take k ++ lst.drop (k + 1) = lst.eraseIdx k := (List.eraseIdx_eq_take_drop_succ lst k).symm
    have e2 : lst = lst.take k ++ t :: lst.drop (k + 1) := by
      rw [← ht', ← List.drop_eq_getElem_cons hkl, List.take_append_drop]
    have hnd := hL.nd
    rw [e2] at hnd
    have hnd2 := List.nodup_append.1 hnd
    have hnt : t ∉ lst.take k ++ lst.drop (k + 1) := by
      intro hm
      rcases List.mem_append.1 hm with hm | hm
      · exact hnd2.2.2 t hm t (by simp) rfl
      · exact (List.nodup_cons.1 hnd2.2.1).1 hm
    have hmem : ∀ y, y ∈ lst ↔ (y = t ∨ y ∈ lst.take k ++ lst.drop (k + 1)) := fun y => by
      rw [show y ∈ lst ↔ y ∈ lst.take k ++ t :: lst.drop (k + 1) by rw [← e2]]
      simp only [List.mem_append, List.mem_cons]
      constructor
      · rintro (h | h | h) <;> simp [h]
      · rintro (h | h | h) <;> simp [h]
    cases ha with
    | task h => exact absurd htr h
    | state h hm => exact absurd hm htn
    | more h hm hc hs =>
      refine ⟨rfl, (decide_eq_false (by omega)).symm, hlen, .inl ⟨hc, rfl, rfl, ⟨by rw [e]; exact hL.nd.sublist (List.eraseIdx_sublist _ _), fun y => ?_⟩⟩⟩
      rw [hs]
      constructor
      · intro hy
        have h3 := (hL.mem y).1 ((hmem y).2 (.inr hy))
        refine ⟨h3.1, ?_⟩
        rintro (rfl | h4)
        · exact hnt hy
        · exact h3.2 h4
      · rintro ⟨h3, h4⟩
        rcases (hmem y).1 ((hL.mem y).2 ⟨h3, fun h5 => h4 (.inr h5)⟩) with h5 | h5
        · exact absurd (.inl h5) h4
        · exact h5
    | last h hm hc hs => exact ⟨rfl, (decide_eq_true (by omega)).symm, hlen, .inr ⟨hc, rfl, rfl⟩⟩
  · omega
end Go.Proofs.Ytpaiehieddicmaa
