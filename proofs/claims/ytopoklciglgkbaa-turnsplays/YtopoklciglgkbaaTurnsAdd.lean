/-
  New and Add of package turns.
-/
import Derived.Test.YtopoklciglgkbaaTurnsWake
namespace Go.Proofs.Ytopoklciglgkbaa
open Go.RowKit

theorem Try.infoTask : (Try.prog.info? 64).map (fun i => (i.zero, i.size, i.bytes)) = some (some (.pointer none), 1, 8) := by kernel_rfl

theorem eql_func (fn : Fn) (first caps : Array Value) (w : World) : (binOp .eql 41 (.func fn first caps) .nilFunc).run Try.prog w = .ok (.bool false) w := rfl
theorem eql_nil (w : World) : (binOp .eql 41 .nilFunc .nilFunc).run Try.prog w = .ok (.bool true) w := rfl

theorem new_turns (B : Nat) (w : World) (hB : B ≤ w.heap.size) :
    Calls Try.prog 10 #[] w fun e w' => e = .returned (.pointer (some ⟨w.heap.size, 0, none⟩)) ∧ Trn B w' w.heap.size [w.heap.size] [] ∧ Turned [] w w' ∧ w'.heap.size = w.heap.size + 1 := by
  go_enter Try.func10, Try.ntmps10
  go_wp2
  go_ret
  refine ⟨rfl, ⟨⟨.slice none 0 0, heap_alloc_new _ _, World.ownsRow_nil _ _ _ _, by simp [Value.ownBlock]⟩, by simp, by simp, by simp, ?_, by simp⟩, (Turned.refl _ _).alloc _, by simp⟩
  intro k hk
  simp at hk
  subst hk
  simp
  omega

/-- The list of the blocks that Add may turn. -/
def rowOf (v : Value) : List Nat := v.ownBlock.toList

theorem add_keep {B : Nat} {w : World} {p : Nat} {F : List Nat} {ts : List Task} (h : Trn B w p F ts) {v : Value} (hv : w.heap[p]? = some (.cells #[v] 58)) (hr : w.ownsRow B 64 1 v ts.length (ts.map Task.ptr)) {o1 o2 : Obj} {w3 : World} (hg : ((w.alloc o1).alloc o2).grownBy w3 v.ownBlock) : w3.heap[p]? = some (.cells #[v] 58) := by
  have hp := (h.lo p h.pF).2
  rw [hg.block p (by simp; omega) (fun e => ?_), Below.heap_alloc _ _ _ (by simp; omega), Below.heap_alloc _ _ _ hp]
  · exact hv
  · obtain ⟨_, _, c, hc⟩ := ownsRow_lt hr p e.symm
    rw [hv] at hc
    simp at hc
theorem cell_two_new (w : World) (o : Obj) (x : Value) (e : TypeId) : ∀ (j : Nat) (u : Value), ([x] : List Value)[j]? = some u → ((w.alloc o).alloc (.cells #[x] e)).cell? (Addr.add ⟨w.heap.size + 1, 0, none⟩ j) = some u := by
  intro j u hu
  cases j with
  | zero =>
    simp at hu
    subst hu
    have h1 := heap_alloc_new (w.alloc o) (.cells #[x] e)
    have h2 : (w.alloc o).heap.size = w.heap.size + 1 := by simp
    rw [h2] at h1
    show World.cell? _ ⟨w.heap.size + 1, 0, none⟩ = _
    rw [cell_of_heap h1]
    rfl
  | succ j => simp at hu

theorem add_trn {B : Nat} {w : World} {p : Nat} {F : List Nat} {ts : List Task} (h : Trn B w p F ts) {v : Value} (hv : w.heap[p]? = some (.cells #[v] 58)) (hr : w.ownsRow B 64 1 v ts.length (ts.map Task.ptr)) (hvF : ∀ k, v.ownBlock = some k → k ∈ F)
    {o2 : Obj} {w3 : World} {v' : Value} (t : Task) (htb : t.b = w.heap.size) (hg : ((w.alloc (.cells t.cells 67)).alloc o2).grownBy w3 v.ownBlock) (ho : w3.ownsRow B 64 1 v' (ts.length + 1) (ts.map Task.ptr ++ [.pointer (some ⟨w.heap.size, 0, none⟩)])) (hl : ts.length < 128) (hB : B ≤ w.heap.size) :
    ∃ F', Trn B (w3.setCell ⟨p, 0, none⟩ v') p F' (ts ++ [t]) ∧ (∀ k, k ∈ F → k ∈ F') ∧ (∀ k, k ∈ F' → k ∈ F ∨ w.heap.size ≤ k ∨ ∃ c, w.heap[k]? = some (.cells c 64 (0, 0))) ∧
        ∃ M, Turned M w (w3.setCell ⟨p, 0, none⟩ v') ∧ ∀ k, k ∈ M → k ∈ F ∧ ∃ c e, w.heap[k]? = some (.cells c e) ∧ (e = 58 ∨ e = 64) := by
  have hp := (h.lo p h.pF).2
  have h3 := add_keep h hv hr hg
  have hsz : w.heap.size + 2 ≤ w3.heap.size := by have := hg.size; simpa using this
  -- blocks that were there
  have old : ∀ k, k < w.heap.size → some k ≠ v.ownBlock → w3.heap[k]? = w.heap[k]? := by
    intro k hk hne
    rw [hg.block k (by simp; omega) hne, Below.heap_alloc _ _ _ (by simp; omega), Below.heap_alloc _ _ _ hk]
  have hnew : w3.heap[w.heap.size]? = some (.cells t.cells 67) := by
    rw [hg.block w.heap.size (by simp; omega) (fun e => by have := (ownsRow_lt hr _ e.symm).2.1; omega), Below.heap_alloc _ _ _ (by simp), heap_alloc_new]
  have hp' : ∀ k, k ≠ p → (w3.setCell ⟨p, 0, none⟩ v').heap[k]? = w3.heap[k]? := fun k hk => Below.heap_setCell _ _ _ _ hk
  have hzz : (w3.setCell ⟨p, 0, none⟩ v').heap.size = w3.heap.size := by simp [World.setCell]
  refine ⟨w.heap.size :: (v'.ownBlock.toList ++ F), ⟨⟨v', ?_, ?_, ?_⟩, by simp [h.pF], ?_, ?_, ?_, by simp; omega⟩, fun k hk => by simp [hk], ?_, p :: v.ownBlock.toList, ?_, ?_⟩
  · rw [heap_setCell_at _ _ _ _ _ _ h3]; rfl
  · rw [List.length_append, List.map_append]
    have e : [t].map Task.ptr = [.pointer (some ⟨w.heap.size, 0, none⟩)] := by simp [Task.ptr, htb]
    rw [e]
    refine ownsRow_keep ho (fun k hk => hp' k (fun e => ?_))
    obtain ⟨_, _, c, hc⟩ := ownsRow_lt ho k hk
    rw [e, h3] at hc
    simp at hc
  · intro k hk
    simp [hk]
  · intro u hu
    rcases List.mem_append.1 hu with hu | hu
    · obtain ⟨h1, h2⟩ := h.task u hu
      obtain ⟨a1, a2⟩ := h.apart hu
      refine ⟨?_, by simp [h2]⟩
      rw [hp' _ a1, old _ (h.ltb hu) (fun e => a2 v hv _ e.symm rfl)]
      exact h1
    · simp at hu
      subst hu
      refine ⟨?_, by simp [htb]⟩
      rw [htb, hp' _ (by omega)]
      exact hnew
  · rw [List.map_append]
    refine List.nodup_append.2 ⟨h.nodup, by simp, ?_⟩
    intro a ha b hb
    simp at hb
    obtain ⟨u, hu, rfl⟩ := List.mem_map.1 ha
    have := h.ltb hu
    omega
  · intro k hk
    rw [hzz]
    simp at hk
    rcases hk with rfl | hk | hk
    · omega
    · obtain ⟨h1, h2, _⟩ := ownsRow_lt ho k hk
      exact ⟨h1, h2⟩
    · obtain ⟨h1, h2⟩ := h.lo k hk
      exact ⟨h1, by omega⟩
  · intro k hk
    simp at hk
    rcases hk with rfl | hk | hk
    · exact .inr (.inl (Nat.le_refl _))
    · by_cases hlt : k < w.heap.size
      · by_cases hne : some k = v.ownBlock
        · exact .inl (hvF k hne.symm)
        · obtain ⟨h1, h2, c, hc⟩ := ownsRow_lt ho k hk
          rw [old k hlt hne] at hc
          exact .inr (.inr ⟨c, hc⟩)
      · exact .inr (.inl (by omega))
    · exact .inl hk
  · refine ⟨hg.os, hg.tape, hg.output, by rw [hzz]; omega, fun k hk hn => ?_⟩
    simp at hn
    rw [hp' k hn.1, old k hk (fun e => hn.2 e.symm)]
  · intro k hk
    simp at hk
    rcases hk with rfl | hk
    · exact ⟨h.pF, _, _, hv, .inl rfl⟩
    · obtain ⟨_, _, c, hc⟩ := ownsRow_lt hr k hk
      exact ⟨hvF k hk, c, _, hc, .inr rfl⟩

set_option maxRecDepth 100000 in
theorem add_ok (B : Nat) (w : World) (p : Nat) (F : List Nat) (ts : List Task) (fn : Fn) (first caps : Array Value) (S A : List Nat) (D : World → Int → Prop) (tell : Int → Int) (hl : ts.length < 128) (h : Trn B w p F ts) :
    Calls Try.prog 13 #[.pointer (some ⟨p, 0, none⟩), .func fn first caps] w fun e w' =>
      e = .returned (.tuple #[.int .i64 ((ts.length : Int) + 1), .int .i64 0]) ∧ ∃ F', Trn B w' p F' (ts ++ [⟨w.heap.size, .func fn first caps, S, A, D, tell, 0, 0⟩]) ∧ (∀ k, k ∈ F → k ∈ F') ∧ (∀ k, k ∈ F' → k ∈ F ∨ w.heap.size ≤ k ∨ ∃ c, w.heap[k]? = some (.cells c 64 (0, 0))) ∧
        ∃ M, Turned M w w' ∧ ∀ k, k ∈ M → k ∈ F ∧ ∃ c e, w.heap[k]? = some (.cells c e) ∧ (e = 58 ∨ e = 64) := by
  obtain ⟨v, hv, hrow, hvF⟩ := h.head
  have hc0 : w.cell? ⟨p, 0, none⟩ = some v := by rw [cell_of_heap hv]; rfl
  obtain ⟨-, ao, cap, rfl, -⟩ := ownsRow_any hrow
  have hp := h.lo p h.pF
  have hn128 : ¬ (128 ≤ (ts.length : Int)) := by omega
  have HH := hide h
  have HV := hide hv
  have HR := hide hrow
  have HF := hide hvF
  clear h hv hrow hvF
  obtain ⟨i0, hi, hi0⟩ := Option.map_eq_some_iff.1 Try.infoTask
  simp only [Prod.mk.injEq] at hi0
  obtain ⟨hz0, hz1, hz2⟩ := hi0
  have hmf : ∀ (fn : Fn) (first cap : Array Value) (w : World), (Instr.makeFunc fn first cap).run Try.prog w = .ok (.func fn first cap) w := fun _ _ _ _ => rfl
  have heq := eql_func fn first caps
  go_enter Try.func13, Try.ntmps13
  go_wp2_with (at_builtin; (refine wpList_append_own _ rfl _ _ 56 rfl B 64 i0 (.pointer none) 1 8 Try.underlying56 hi hz0 hz1 hz2 rfl (by decide) _ _ _ rfl ((HR.out.alloc _).alloc _) ⟨w.heap.size + 1, 0, none⟩ 1 1 [.pointer (some ⟨w.heap.size, 0, none⟩)] rfl rfl (cell_two_new _ _ _ _) (fun x hx => by simp at hx; subst hx; rfl) (by unfold maxLen; omega) (by omega) (by simp; omega) ?_); intro v' w3 hown' hgrow3 hnil3; obtain ⟨-, ao2, cap2, rfl, -⟩ := ownsRow_any hown'; have h3 := add_keep HH.out HV.out HR.out hgrow3; have hp3 : w3.cell? ⟨p, 0, none⟩ = some (.slice ao ts.length cap) := (cell_of_heap h3 0); have hf3 : w3.frozen? ⟨p, 0, none⟩ = false := (by simp [World.frozen?, h3]); have h4 := heap_setCell_at w3 p 0 _ _ _ h3 (.slice ao2 (ts.length + 1) cap2); have hp4 : (w3.setCell ⟨p, 0, none⟩ (.slice ao2 (ts.length + 1) cap2)).cell? ⟨p, 0, none⟩ = some (.slice ao2 (ts.length + 1) cap2) := (cell_of_heap h4 0); have HG3 := hide hgrow3; have HO3 := hide hown'; have H4 := hide h4; clear hown' hgrow3 hnil3 h3 h4)
  go_ret2
  exact ⟨rfl, add_trn HH.out HV.out HR.out HF.out ⟨w.heap.size, .func fn first caps, S, A, D, tell, 0, 0⟩ rfl HG3.out HO3.out hl (by omega)⟩

theorem add_full (B : Nat) (w : World) (p : Nat) (F : List Nat) (ts : List Task) (fn : Fn) (first caps : Array Value) (hl : ts.length = 128) (h : Trn B w p F ts) :
    Calls Try.prog 13 #[.pointer (some ⟨p, 0, none⟩), .func fn first caps] w fun e w' => e = .returned (.tuple #[.int .i64 0, .int .i64 14]) ∧ w' = w := by
  obtain ⟨ao, cap, h0, h1⟩ := h.open
  have hn128 : 128 ≤ (ts.length : Int) := by omega
  have heq := eql_func fn first caps
  clear h1 h hl
  go_enter Try.func13, Try.ntmps13
  go_wp2_with fail
  go_ret2
  exact ⟨rfl, rfl⟩

theorem add_nil (a : Option Addr) (w : World) :
    Calls Try.prog 13 #[.pointer a, .nilFunc] w fun e w' => e = .returned (.tuple #[.int .i64 0, .int .i64 1]) ∧ w' = w := by
  have heq := eql_nil
  cases a with
  | none =>
    go_enter Try.func13, Try.ntmps13
    go_wp2_with fail
    go_ret2
    exact ⟨rfl, rfl⟩
  | some a =>
    go_enter Try.func13, Try.ntmps13
    go_wp2_with fail
    go_ret2
    exact ⟨rfl, rfl⟩

theorem add_none (fv : Value) (w : World) :
    Calls Try.prog 13 #[.pointer none, fv] w fun e w' => e = .returned (.tuple #[.int .i64 0, .int .i64 1]) ∧ w' = w := by
  go_enter Try.func13, Try.ntmps13
  go_wp2_with fail
  go_ret2
  exact ⟨rfl, rfl⟩
end Go.Proofs.Ytopoklciglgkbaa
