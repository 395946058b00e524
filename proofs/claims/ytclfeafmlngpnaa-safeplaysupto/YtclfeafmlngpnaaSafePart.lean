/-
  Parts of a row: 'l[:k]', 'l[k:]', and what is appended of them.
-/
import Derived.Test.YtclfeafmlngpnaaSafeAwake
import Derived.Laws.AppendOwnNone
namespace Go.Proofs.Ytclfeafmlngpnaa
open Go.RowKit Go.Maps
set_option linter.unusedVariables false

theorem infoInt : (Try.prog.info? 3).map (fun i => (i.zero, i.size, i.bytes)) = some (some (.int .i64 0), 1, 8) := by kernel_rfl

/-- 'append(s, x...)', x a slice that can be read. -/
theorem wpList_append_part {w : World} {ops : Array Oper} {rest : List Oper} {o : Oper} {a : Act} {Q : Exit → Act → World → Prop} (hg : o.guard = none) (s x : Operand)
    (hop : o.op = .call { callee := .builtin .append, args := #[s, x], argTypes := #[27, 27] }) (B : Nat) (v : Value) (l : List Int) (hs : a.eval s = v) (hown : Row w B v l) (ao : Option Addr) (m c : Nat) (r : List Int) (hx : a.eval x = .slice ao m c) (hr : IRd w ao m r) (hn : ao = none → c = 0) (hf : l.length + m ≤ 17592186044416) (hB : B ≤ w.heap.size)
    (hK : ∀ v' w', Row w' B v' (l ++ r) → w.grownBy w' v.ownBlock → wpList Try.prog ops Q rest (a.put o.dst v') w') : wpList Try.prog ops Q (o :: rest) a w := by
  obtain ⟨i0, hi, hi0⟩ := Option.map_eq_some_iff.1 infoInt
  simp only [Prod.mk.injEq] at hi0
  obtain ⟨hz0, hz1, hz2⟩ := hi0
  cases ao with
  | none =>
    have hc := hn rfl
    subst hc
    obtain rfl : r = [] := by
      cases r with
      | nil => rfl
      | cons y r =>
        obtain ⟨g, off, h1, _⟩ := hr.cell 0 y rfl
        cases h1
    obtain rfl : m = 0 := hr.size.symm
    refine wpList_append_own_none hg s x 27 hop B 3 i0 1 Try.underlying27 hi v l.length _ hs hown hx ?_
    refine hK v w (by rw [List.append_nil]; exact hown) ⟨rfl, rfl, rfl, Nat.le_refl _, fun _ _ _ => rfl⟩
  | some ad =>
    refine wpList_append_own w hg s x 27 hop B 3 i0 (.int .i64 0) 1 8 Try.underlying27 hi hz0 hz1 hz2 rfl (by decide) v l.length _ hs hown ad m c (r.map (Value.int .i64)) hx (by simp [hr.size]) (fun j u hu => ?_) (fun u hu => by obtain ⟨y, _, rfl⟩ := List.mem_map.1 hu; rfl) (by unfold maxLen; omega) (by omega) hB (fun v' w' h1 h2 _ => hK v' w' ?_ h2)
    · rw [List.getElem?_map] at hu
      cases hy : r[j]? with
      | none => rw [hy] at hu; cases hu
      | some y =>
        rw [hy] at hu
        simp at hu
        subst hu
        obtain ⟨g, off, h1, h2⟩ := hr.cell j y hy
        cases h1
        rw [show (⟨g, off, none⟩ : Addr).add j = ⟨g, off + j, none⟩ by simp [Addr.add]]
        exact h2
    · unfold Row
      rw [List.length_append, List.map_append, hr.size]
      exact h1

/-- 'l[:k]' of a row of one's own. -/
theorem row_front {w : World} {B : Nat} {v : Value} {l : List Int} (h : Row w B v l) (h64 : ∀ x, x ∈ l → In64 x) {k : Nat} (hk : k ≤ l.length) :
    ∃ ao c, (∀ w' : World, (Instr.slice 27 v none (some (.int .i64 (k : Int))) none).run Try.prog w' = .ok (.slice ao k c) w') ∧ IRd w ao k (l.take k) ∧ (ao = none → c = 0) := by
  rcases h.2 with ⟨hv, hn⟩ | ⟨g, cap, cur, hv, hg, hb, h1, h2, h3, h4⟩
  · subst hv
    obtain rfl : l = [] := List.eq_nil_of_length_eq_zero hn
    obtain rfl : k = 0 := by simpa using hk
    refine ⟨none, 0, fun w' => ?_, IRd.nil _ _, fun _ => rfl⟩
    rw [run_slice_h (P := Try.prog) w' 27 none 0 0 Try.underlying27 .i64 ((0 : Nat) : Int) (by omega) (by simp)]
    rfl
  · subst hv
    refine ⟨some ⟨g, 0, none⟩, cap, fun w' => ?_, ⟨by rw [List.length_take]; omega, fun x hx => h64 x (List.mem_of_mem_take hx), fun i x hx => ⟨g, 0, rfl, ?_⟩⟩, fun e => by cases e⟩
    · rw [run_slice_h (P := Try.prog) w' 27 _ _ _ Try.underlying27 .i64 k (by omega) (by omega)]
      show Result.ok (sliced _ 0 (k : Int).toNat cap 1) w' = _
      simp [sliced, Addr.add]
    · rw [List.getElem?_take] at hx
      split at hx
      · obtain ⟨_, ao, cp, e1, hc⟩ := ownsRow_any h
        obtain ⟨g2, e2, _, _, e3, _⟩ := hc i (.int .i64 x) (by simp [hx])
        injection e1 with e1
        rw [e2] at e1
        cases e1
        rw [Nat.zero_add]
        exact e3
      · cases hx
/-- 'l[k:]' of a row of one's own. -/
theorem row_back {w : World} {B : Nat} {v : Value} {l : List Int} (h : Row w B v l) (h64 : ∀ x, x ∈ l → In64 x) {k : Nat} (hk : k ≤ l.length) (hl : l.length ≤ 17592186044416) :
    ∃ ao c, (∀ w' : World, (Instr.slice 27 v (some (.int .i64 (k : Int))) none none).run Try.prog w' = .ok (.slice ao (l.length - k) c) w') ∧ IRd w ao (l.length - k) (l.drop k) ∧ (ao = none → c = 0) := by
  rcases h.2 with ⟨hv, hn⟩ | ⟨g, cap, cur, hv, hg, hb, h1, h2, h3, h4⟩
  · subst hv
    obtain rfl : l = [] := List.eq_nil_of_length_eq_zero hn
    obtain rfl : k = 0 := by simpa using hk
    refine ⟨none, 0, fun w' => ?_, IRd.nil _ _, fun _ => rfl⟩
    rw [run_slice_l (P := Try.prog) w' 27 none 0 0 Try.underlying27 .i64 ((0 : Nat) : Int) (by omega) (by simp)]
    rfl
  · subst hv
    refine ⟨if cap = k then some ⟨g, 0, none⟩ else some ⟨g, k, none⟩, cap - k, fun w' => ?_, ⟨by simp, fun x hx => h64 x (List.mem_of_mem_drop hx), fun i x hx => ?_⟩, fun e => by split at e <;> cases e⟩
    · rw [run_slice_l (P := Try.prog) w' 27 _ _ _ Try.underlying27 .i64 k (by omega) (by omega)]
      show Result.ok (sliced _ (k : Int).toNat l.length cap 1) w' = _
      simp [sliced, Addr.add]
      by_cases h0 : k = 0 <;> simp [h0]
    · rw [List.getElem?_drop] at hx
      have hi := (List.getElem?_eq_some_iff.1 hx).1
      refine ⟨g, k, by rw [if_neg (by omega)], ?_⟩
      obtain ⟨_, ao, cp, e1, hc⟩ := ownsRow_any h
      obtain ⟨g2, e2, _, _, e3, _⟩ := hc (k + i) (.int .i64 x) (by simp [hx])
      injection e1 with e1
      rw [e2] at e1
      cases e1
      exact e3
end Go.Proofs.Ytclfeafmlngpnaa
