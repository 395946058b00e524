/-
  Rows of int64 numbers: a copy (slices.Clone), 'same', Plain and the document's Plain.
-/
import Derived.Test.YtdjeilombaclmaaSumsBase
import Derived.Deep.QuietTactic
import Derived.BigQuiet
import Derived.Deep.AppendLies
import Derived.Laws.AppendOwnNone
namespace Go.Proofs.Ytdjeilombaclmaa
open Go.RowKit
set_option linter.unusedVariables false

/-- A row of one's own. -/
def Rw (w : World) (B : Nat) (v : Value) (l : List Int) : Prop := w.ownsRow B 2 1 v l.length (l.map (Value.int .i64))
/-- It is new. -/
def New (w : World) (B : Nat) (ao : Option Addr) : Prop := ∀ a, ao = some a → B ≤ a.block ∧ a.block < w.heap.size
theorem Rw.rd {w : World} {B : Nat} {v : Value} {l : List Int} (h : Rw w B v l) : ∃ ao cap, v = .slice ao l.length cap ∧ IRd w ao l.length l ∧ New w B ao ∧ (ao = none → cap = 0) := by
  rcases h.2 with ⟨hv, h0⟩ | ⟨g, cap, cur, hv, hg, hh, hc, _, _, ht⟩
  · have : l = [] := List.eq_nil_of_length_eq_zero h0
    subst this
    exact ⟨none, 0, hv, IRd.nil _ _, (by intro a ha; cases ha), fun _ => rfl⟩
  · refine ⟨_, cap, hv, ⟨rfl, fun i x hx => ⟨g, 0, rfl, ?_⟩⟩, (by intro a ha; cases ha; exact ⟨hg, lt_of_heap hh⟩), fun h => by cases h⟩
    rw [Nat.zero_add, cell_of_heap hh]
    have h1 : (l.map (Value.int .i64))[i]? = some (.int .i64 x) := by rw [List.getElem?_map, hx]; rfl
    rw [← ht, List.getElem?_take] at h1
    split at h1
    · simpa using h1
    · cases h1
theorem IRd.of_none {w : World} {len : Nat} {l : List Int} (h : IRd w none len l) : l = [] ∧ len = 0 := by
  obtain rfl : l = [] := by
    cases l with
    | nil => rfl
    | cons y r => obtain ⟨g, off, h1, _⟩ := h.cell 0 y rfl; cases h1
  exact ⟨rfl, h.size.symm⟩

theorem IRd.turnedP {w w' : World} {ao : Option Addr} {len : Nat} {l : List Int} {S : List Nat} (h : IRd w ao len l) (ht : Turned S w w') (hS : 0 < len → ∀ g off, ao = some ⟨g, off, none⟩ → g ∉ S) : IRd w' ao len l :=
  ⟨h.size, fun i x hx => by
    obtain ⟨g, off, h1, h2⟩ := h.cell i x hx
    have hi := (List.getElem?_eq_some_iff.1 hx).1
    have hl := h.size
    exact ⟨g, off, h1, by rw [ht.cell (block_lt h2) (hS (by omega) g off h1)]; exact h2⟩⟩

/-- 'append(s, x...)', x a slice that can be read. -/
theorem wpList_append64 {w : World} {ops : Array Oper} {rest : List Oper} {o : Oper} {a : Act} {Q : Exit → Act → World → Prop} (hg : o.guard = none) (s x : Operand)
    (hop : o.op = .call { callee := .builtin .append, args := #[s, x], argTypes := #[22, 22] }) (B : Nat) (v : Value) (l : List Int) (hs : a.eval s = v) (hown : Rw w B v l) (ao : Option Addr) (m c : Nat) (r : List Int) (hx : a.eval x = .slice ao m c) (hr : IRd w ao m r) (hn : ao = none → c = 0) (hf : l.length + m ≤ 17592186044416) (hB : B ≤ w.heap.size)
    (hK : ∀ v' w', Rw w' B v' (l ++ r) → w.grownBy w' v.ownBlock → wpList Try.prog ops Q rest (a.put o.dst v') w') : wpList Try.prog ops Q (o :: rest) a w := by
  obtain ⟨i0, hi, hi0⟩ := Option.map_eq_some_iff.1 Try.info2
  simp only [Prod.mk.injEq] at hi0
  obtain ⟨hz0, hz1, hz2⟩ := hi0
  cases ao with
  | none =>
    have hc := hn rfl
    subst hc
    obtain ⟨rfl, rfl⟩ := hr.of_none
    refine wpList_append_own_none hg s x 22 hop B 2 i0 1 Try.underlying22 hi v l.length _ hs hown hx ?_
    refine hK v w (by rw [List.append_nil]; exact hown) ⟨rfl, rfl, rfl, Nat.le_refl _, fun _ _ _ => rfl⟩
  | some ad =>
    refine wpList_append_own w hg s x 22 hop B 2 i0 (.int .i64 0) 1 8 Try.underlying22 hi hz0 hz1 hz2 rfl (by decide) v l.length _ hs hown ad m c (r.map (Value.int .i64)) hx (by simp [hr.size]) (fun j u hu => ?_) (fun u hu => by obtain ⟨y, _, rfl⟩ := List.mem_map.1 hu; rfl) (by unfold maxLen; omega) (by omega) hB (fun v' w' h1 h2 _ => hK v' w' ?_ h2)
    · rw [List.getElem?_map] at hu
      cases hy : r[j]? with
      | none => rw [hy] at hu; cases hu
      | some y =>
        rw [hy] at hu
        simp at hu
        subst hu
        obtain ⟨g, off, h1, h2⟩ := hr.cell j y hy
        cases h1
        rw [show (⟨g, off, none⟩ : Addr).add j = ⟨g, off + j, none⟩ by simp [Addr.add]]
        exact h2
    · unfold Rw
      rw [List.length_append, List.map_append, hr.size]
      exact h1

theorem rw_empty (w : World) : Rw (w.alloc (.cells #[] 2)) w.heap.size (.slice (some ⟨w.heap.size, 0, none⟩) 0 0) [] :=
  ⟨rfl, .inr ⟨w.heap.size, 0, #[], rfl, Nat.le_refl _, heap_alloc_new _ _, by simp, by simp, by simp, by simp⟩⟩

theorem clone_any (w : World) (ao : Option Addr) (n c : Nat) (l : List Int) (h : IRd w ao n l) (hn : n ≤ 65536) (h0 : ao = none → c = 0) :
    Calls Try.prog 23 #[.slice ao n c] w fun e w' => ∃ ao' c', e = .returned (.slice ao' n c') ∧ IRd w' ao' n l ∧ New w' w.heap.size ao' ∧ (ao' = none → c' = 0) ∧ Turned [] w w' := by
  cases ao with
  | none =>
    obtain ⟨rfl, rfl⟩ := h.of_none
    obtain rfl := h0 rfl
    have heq := fun w => Lib.run_eql_slice_nil (P := Try.prog) w 22 2 none 0 0 0 0 Try.underlying22
    go_enter Try.func23, Try.ntmps23
    go_wp2_with fail
    go_ret
    exact ⟨none, 0, rfl, IRd.nil _ _, (by intro a ha; cases ha), fun _ => rfl, Turned.refl _ _⟩
  | some ad =>
    have heq := fun w => Lib.run_eql_slice_nil (P := Try.prog) w 22 2 (some ad) n c 0 0 Try.underlying22
    have hbs : ∀ w : World, (Instr.buildSlice 22 0 #[]).run Try.prog w = .ok (.slice (some ⟨w.heap.size, 0, none⟩) 0 0) (w.alloc (.cells #[] 2)) := fun _ => by kernel_rfl
    have HR := hide (h.turned0 ((Turned.refl [] w).alloc (.cells #[] 2)))
    have HS := hide h.size
    clear h
    go_enter Try.func23, Try.ntmps23
    go_wp2_with (at_builtin; refine wpList_append64 rfl _ _ rfl w.heap.size (.slice (some ⟨w.heap.size, 0, none⟩) 0 0) [] rfl (rw_empty w) (some ad) n c l rfl HR.out (fun h => by cases h) (by simp; omega) (by simp) ?_; intro v' w3 hown hgr)
    go_ret
    obtain ⟨ao', c', hv, h1, h2, h3⟩ := hown.rd
    simp only [List.nil_append, HS.out] at hv h1
    refine ⟨ao', c', by rw [hv]; rfl, h1, h2, h3, ((Turned.refl [] w).alloc _).grown hgr (fun k hk => ?_)⟩
    simp [Value.ownBlock] at hk
    exact .inr (by omega)

set_option maxRecDepth 100000 in
theorem same12 (w : World) (aa ab : Option Addr) (ca cb : Nat) (l : List Int) (n : Nat) (hn : n ≤ 100000) (ha : IRd w aa n l) (hb : IRd w ab n l) :
    Calls Try.prog 12 #[.slice aa n ca, .slice ab n cb] w fun e w' => e = .returned (.bool true) ∧ Turned [] w w' := by
  have HL := hide ha.size
  have HA := hide ha
  have HB := hide hb
  clear ha hb
  go_enter Try.func12, Try.ntmps12
  go_wp2_with fail
  go_loopw [5] (fun i wr => ∃ (k m : Nat), k ≤ n ∧ i = .int .i64 k ∧ Hid (wr = w.drewN m)) (fun i _ => n - (intOf i).toNat)
  case atStart => exact ⟨0, 0, Nat.zero_le _, rfl, rfl⟩
  case round =>
    obtain ⟨k, m, hk, rfl, HW⟩ := hrel
    have hw := HW.out
    clear HW
    subst hw
    by_cases hlt : k < n
    · obtain ⟨x, hx⟩ : ∃ x, l[k]? = some x := ⟨_, List.getElem?_eq_getElem (by rw [HL.out]; exact hlt)⟩
      obtain ⟨g1, o1, rfl, hc1⟩ := HA.out.cell k x hx
      obtain ⟨g2, o2, rfl, hc2⟩ := HB.out.cell k x hx
      have hki : (k : Int) < n := by omega
      clear hx
      go_wp2_with fail
      go_quiet (fail)
      go_wp2_with fail
      go_roundw
      case rel => exact ⟨k + 1, _, by omega, by go_num, rfl⟩
      case measure => simp [intOf]; omega
    · go_wp2_with fail
      go_ret
      exact ⟨rfl, (Turned.refl _ _).drewN _⟩

/-- The sums ahead, as they are told. -/
def preL (l : List Int) : List Int := (List.range l.length).map (fun i => wrap64 (pre l i))
theorem preL_len (l : List Int) : (preL l).length = l.length := by simp [preL]
theorem preL_get {l : List Int} {i : Nat} (h : i < l.length) : (preL l)[i]? = some (wrap64 (pre l i)) := by simp [preL, h]
theorem preL_ext {l r : List Int} (h1 : r.length = l.length) (h2 : ∀ i, i < l.length → r[i]? = some (wrap64 (pre l i))) : r = preL l := by
  apply List.ext_getElem?
  intro i
  by_cases hi : i < l.length
  · rw [h2 i hi, preL_get hi]
  · rw [List.getElem?_eq_none (by omega), List.getElem?_eq_none (by rw [preL_len]; omega)]

/-- While they are told: the first j of them, then zeros. -/
def preJ (l : List Int) (j : Nat) : List Int := (preL l).take j ++ List.replicate (l.length - j) 0
theorem preJ_len (l : List Int) (j : Nat) (hj : j ≤ l.length) : (preJ l j).length = l.length := by simp [preJ, preL_len]; omega
theorem preJ_set {l : List Int} {j : Nat} (hj : j < l.length) : (preJ l j).set j (wrap64 (pre l j)) = preJ l (j + 1) := by
  unfold preJ
  have h1 : ((preL l).take j).length = j := by rw [List.length_take, preL_len]; omega
  rw [List.set_append_right _ _ (by omega), h1, Nat.sub_self, take_snoc (preL_get hj)]
  obtain ⟨m, hm⟩ : ∃ m, l.length - j = m + 1 := ⟨l.length - j - 1, by omega⟩
  rw [hm, show l.length - (j + 1) = m by omega, List.replicate_succ]
  simp
theorem preJ_zero (l : List Int) : preJ l 0 = List.replicate l.length 0 := by simp [preJ]
theorem preJ_all (l : List Int) : preJ l l.length = preL l := by
  unfold preJ
  rw [List.take_of_length_le (by rw [preL_len]; exact Nat.le_refl _)]
  simp

set_option maxRecDepth 100000 in
theorem splain_any (w : World) (ao : Option Addr) (n c : Nat) (l : List Int) (h : IRd w ao n l) (hn : n ≤ 65536) :
    Calls Try.prog 10 #[.slice ao n c] w fun e w' => e = .returned (.tuple #[.slice (some ⟨w.heap.size, 0, none⟩) n n, .int .i64 (wrap64 (pre l n))]) ∧ IRd w' (some ⟨w.heap.size, 0, none⟩) n (preL l) ∧ Turned [] w w' := by
  have hmk := run_make_row' (P := Try.prog) 22 2 (.int .i64 0) 8 Try.underlying22 Try.info2 rfl .i64 .i64 n (by omega) (by omega)
  have HS := hide h.size
  have HT := hide (show Turned [] w (w.alloc (.cells (madeCells #[Value.int .i64 0] n) 2)) from (Turned.refl _ _).alloc _)
  have HG := hide (show (w.alloc (.cells (madeCells #[Value.int .i64 0] n) 2)).heap[w.heap.size]? = some (.cells (ints (preJ l 0)) 2) from by
    rw [heap_alloc_new, madeCells_zeros, preJ_zero, ← HS.out]; rfl)
  have HR := hide h
  clear h
  go_enter Try.func10, Try.ntmps10
  go_wp2_with fail
  generalize w.alloc (.cells (madeCells #[Value.int .i64 0] n) 2) = w1 at *
  clear hmk
  obtain ⟨q, hq⟩ : ∃ q, q = w.heap.size := ⟨_, rfl⟩
  rw [← hq] at HG ⊢
  have HQ := hide hq
  clear hq
  go_loopw [5, 13] (fun s i wr => ∃ (j : Nat), j ≤ n ∧ i = .int .i64 j ∧ s = .int .i64 (wrap64 (pre l j)) ∧ Hid (wr.heap[q]? = some (.cells (ints (preJ l j)) 2)) ∧ Hid (Turned [] w wr)) (fun _ i _ => n - (intOf i).toNat)
  case atStart => exact ⟨0, Nat.zero_le _, rfl, by rw [pre_zero, wrap0], HG, HT⟩
  case round =>
    obtain ⟨j, hj, rfl, rfl, HG2, HT2⟩ := hrel
    clear HG HT
    by_cases hlt : j < n
    · have hx := getD_some (show j < l.length by have := HS.out; omega)
      obtain ⟨b, off, rfl, c0⟩ := (HR.out.turned0 HT2.out).cell j _ hx
      have hb2 : b ≠ q := by
        obtain ⟨b', off', e, c1⟩ := HR.out.cell j _ hx
        cases e
        have := block_lt c1
        have := HQ.out
        simp at *
        omega
      have HX := hide (pre_succ hx)
      generalize l.getD j 0 = x at *
      have hjl : (preJ l j)[j]? = some 0 := by
        unfold preJ
        have h1 : ((preL l).take j).length = j := by rw [List.length_take, preL_len]; have := HS.out; omega
        rw [List.getElem?_append_right (by omega), h1, Nat.sub_self, List.getElem?_replicate, if_pos (by have := HS.out; omega)]
      have cq : wr.cell? ⟨q, j, none⟩ = some (.int .i64 0) := by rw [cell_of_heap HG2.out]; simp [ints, hjl]
      have fq : wr.frozen? ⟨q, j, none⟩ = false := by have := HG2.out; simp [World.frozen?, this]
      have HS3 := hide (show (wr.setCell ⟨q, j, none⟩ (.int .i64 (wrap64 (pre l j)))).heap[q]? = some (.cells (ints (preJ l (j + 1))) 2) from by
        rw [heap_setCell_at _ _ _ _ _ _ HG2.out, ← preJ_set (by have := HS.out; omega)]; simp [ints, List.map_set])
      have HU := hide (HT2.out.setCell (p := ⟨q, j, none⟩) (.inr (by have := HQ.out; dsimp only; omega)) (.int .i64 (wrap64 (pre l j))))
      have e1 := wrap_add (pre l j) x
      rw [← HX.out] at e1
      have E1 := hide e1
      have hr := wrap64_range (pre l j)
      clear hjl hx HG2 HT2 HX e1
      generalize wrap64 (pre l j) = sj at *
      go_wp2_with fail
      go_roundw
      case rel => exact ⟨j + 1, by omega, by go_num, by rw [← E1.out], HS3, HU⟩
      case measure => simp [intOf]; omega
    · have hjk : j = n := by omega
      subst hjk
      go_wp2_with fail
      go_ret2
      have h1 := HG2.out
      rw [← HS.out, preJ_all] at h1
      obtain rfl := HQ.out
      refine ⟨rfl, ⟨by rw [preL_len]; exact HS.out, fun i x hx => ⟨_, 0, rfl, by rw [Nat.zero_add, cell_of_heap h1]; simp [ints, hx]⟩⟩, HT2.out⟩
end Go.Proofs.Ytdjeilombaclmaa
