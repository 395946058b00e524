/-
  Add of the document's own tasks: its three rows grow, one behind the other.
-/
import Derived.Test.YtopoklciglgkbaaRefRun
import Derived.Maps.AppendAt
namespace Go.Proofs.Ytopoklciglgkbaa
open Go.RowKit
set_option linter.unusedVariables false

/-- The document's object with its three rows, each as long as it is. -/
structure R3 (B : Nat) (w : World) (q : Nat) (n m k : Nat) (vt vs vn : Value) (xs ys zs : List Value) : Prop where
  head : w.heap[q]? = some (.cells #[vt, vs, vn] 30)
  t : w.ownsRow B 28 1 vt n xs
  s : w.ownsRow B 3 1 vs m ys
  c : w.ownsRow B 3 1 vn k zs
  sep : ∀ j, vs.ownBlock = some j → vn.ownBlock ≠ some j

section
variable {B : Nat} {w : World} {q n m k : Nat} {vt vs vn : Value} {xs ys zs : List Value}
theorem R3.old {o : Obj} {w3 : World} {row : Option Nat} (hg : (w.alloc o).grownBy w3 row) (j : Nat) (hj : j < w.heap.size) (hr : row ≠ some j) : w3.heap[j]? = w.heap[j]? := by
  rw [hg.block j (by simp; omega) (fun e => hr e.symm), Below.heap_alloc _ _ _ hj]
theorem R3.growt (h : R3 B w q n m k vt vs vn xs ys zs) {o : Obj} {w3 : World} {v' y : Value} (hg : (w.alloc o).grownBy w3 vt.ownBlock) (ho : w3.ownsRow B 28 1 v' (n + 1) (xs ++ [y])) :
    w3.heap[q]? = some (.cells #[vt, vs, vn] 30) ∧ R3 B (w3.setCell ⟨q, 0, none⟩ v') q (n + 1) m k v' vs vn (xs ++ [y]) ys zs ∧ Turned (q :: vt.ownBlock.toList) w (w3.setCell ⟨q, 0, none⟩ v') := by
  have hq := lt_of_heap h.head
  have hqt : vt.ownBlock ≠ some q := fun e => by obtain ⟨_, _, c, hc⟩ := ownsRow_lt h.t q e; rw [h.head] at hc; simp at hc
  have h3 : w3.heap[q]? = some (.cells #[vt, vs, vn] 30) := by rw [R3.old hg q hq hqt]; exact h.head
  have hst : ∀ (e : TypeId) (v : Value) (l : Nat) (us : List Value), w3.ownsRow B e 1 v l us → e ≠ 30 → (w3.setCell ⟨q, 0, none⟩ v').ownsRow B e 1 v l us := fun e v l us hv he =>
    ownsRow_keep hv (fun j hj => Below.heap_setCell _ _ _ _ (fun e2 => by obtain ⟨_, _, c, hc⟩ := ownsRow_lt hv j hj; rw [e2, h3] at hc; simp at hc; exact he hc.2.symm))
  have hk3 : ∀ (v : Value) (l : Nat) (us : List Value), w.ownsRow B 3 1 v l us → w3.ownsRow B 3 1 v l us := fun v l us hv =>
    ownsRow_keep hv (fun j hj => R3.old hg j (ownsRow_lt hv j hj).2.1 (fun e => by
      obtain ⟨_, _, c, hc⟩ := ownsRow_lt hv j hj
      obtain ⟨_, _, d, hd⟩ := ownsRow_lt h.t j e
      rw [hc] at hd
      simp at hd))
  refine ⟨h3, ⟨by rw [heap_setCell_at _ _ _ _ _ _ h3]; rfl, hst _ _ _ _ ho (by decide), hst _ _ _ _ (hk3 _ _ _ h.s) (by decide), hst _ _ _ _ (hk3 _ _ _ h.c) (by decide), h.sep⟩, ⟨hg.os, hg.tape, hg.output, by have := hg.size; simp [World.setCell] at this ⊢; omega, fun j hj hn => ?_⟩⟩
  simp at hn
  rw [Below.heap_setCell _ _ _ _ hn.1, R3.old hg j hj (fun e => hn.2 e)]
theorem R3.grows (h : R3 B w q n m k vt vs vn xs ys zs) {o : Obj} {w3 : World} {v' y : Value} (hg : (w.alloc o).grownBy w3 vs.ownBlock) (ho : w3.ownsRow B 3 1 v' (m + 1) (ys ++ [y])) (hat : v'.ownBlock = vs.ownBlock ∨ v'.ownBlock = some (w.alloc o).heap.size) :
    w3.heap[q]? = some (.cells #[vt, vs, vn] 30) ∧ R3 B (w3.setCell ⟨q, 1, none⟩ v') q n (m + 1) k vt v' vn xs (ys ++ [y]) zs ∧ Turned (q :: vs.ownBlock.toList) w (w3.setCell ⟨q, 1, none⟩ v') := by
  have hq := lt_of_heap h.head
  have hqt : vs.ownBlock ≠ some q := fun e => by obtain ⟨_, _, c, hc⟩ := ownsRow_lt h.s q e; rw [h.head] at hc; simp at hc
  have h3 : w3.heap[q]? = some (.cells #[vt, vs, vn] 30) := by rw [R3.old hg q hq hqt]; exact h.head
  have hst : ∀ (e : TypeId) (v : Value) (l : Nat) (us : List Value), w3.ownsRow B e 1 v l us → e ≠ 30 → (w3.setCell ⟨q, 1, none⟩ v').ownsRow B e 1 v l us := fun e v l us hv he =>
    ownsRow_keep hv (fun j hj => Below.heap_setCell _ _ _ _ (fun e2 => by obtain ⟨_, _, c, hc⟩ := ownsRow_lt hv j hj; rw [e2, h3] at hc; simp at hc; exact he hc.2.symm))
  have kt : w3.ownsRow B 28 1 vt n xs := ownsRow_keep h.t (fun j hj => R3.old hg j (ownsRow_lt h.t j hj).2.1 (fun e => by
      obtain ⟨_, _, c, hc⟩ := ownsRow_lt h.t j hj
      obtain ⟨_, _, d, hd⟩ := ownsRow_lt h.s j e
      rw [hc] at hd
      simp at hd))
  have kn : w3.ownsRow B 3 1 vn k zs := ownsRow_keep h.c (fun j hj => R3.old hg j (ownsRow_lt h.c j hj).2.1 (fun e => h.sep j e hj))
  refine ⟨h3, ⟨by rw [heap_setCell_at _ _ _ _ _ _ h3]; rfl, hst _ _ _ _ kt (by decide), hst _ _ _ _ ho (by decide), hst _ _ _ _ kn (by decide), fun j hj hj2 => ?_⟩, ⟨hg.os, hg.tape, hg.output, by have := hg.size; simp [World.setCell] at this ⊢; omega, fun j hj hn => ?_⟩⟩
  · rcases hat with e | e
    · exact h.sep j (by rw [← e]; exact hj) hj2
    · rw [e] at hj
      injection hj with hj
      have h5 := (ownsRow_lt h.c j hj2).2.1
      simp at hj
      omega
  · simp at hn
    rw [Below.heap_setCell _ _ _ _ hn.1, R3.old hg j hj (fun e => hn.2 e)]
theorem R3.growc (h : R3 B w q n m k vt vs vn xs ys zs) {o : Obj} {w3 : World} {v' y : Value} (hg : (w.alloc o).grownBy w3 vn.ownBlock) (ho : w3.ownsRow B 3 1 v' (k + 1) (zs ++ [y])) (hat : v'.ownBlock = vn.ownBlock ∨ v'.ownBlock = some (w.alloc o).heap.size) :
    w3.heap[q]? = some (.cells #[vt, vs, vn] 30) ∧ R3 B (w3.setCell ⟨q, 2, none⟩ v') q n m (k + 1) vt vs v' xs ys (zs ++ [y]) ∧ Turned (q :: vn.ownBlock.toList) w (w3.setCell ⟨q, 2, none⟩ v') := by
  have hq := lt_of_heap h.head
  have hqt : vn.ownBlock ≠ some q := fun e => by obtain ⟨_, _, c, hc⟩ := ownsRow_lt h.c q e; rw [h.head] at hc; simp at hc
  have h3 : w3.heap[q]? = some (.cells #[vt, vs, vn] 30) := by rw [R3.old hg q hq hqt]; exact h.head
  have hst : ∀ (e : TypeId) (v : Value) (l : Nat) (us : List Value), w3.ownsRow B e 1 v l us → e ≠ 30 → (w3.setCell ⟨q, 2, none⟩ v').ownsRow B e 1 v l us := fun e v l us hv he =>
    ownsRow_keep hv (fun j hj => Below.heap_setCell _ _ _ _ (fun e2 => by obtain ⟨_, _, c, hc⟩ := ownsRow_lt hv j hj; rw [e2, h3] at hc; simp at hc; exact he hc.2.symm))
  have kt : w3.ownsRow B 28 1 vt n xs := ownsRow_keep h.t (fun j hj => R3.old hg j (ownsRow_lt h.t j hj).2.1 (fun e => by
      obtain ⟨_, _, c, hc⟩ := ownsRow_lt h.t j hj
      obtain ⟨_, _, d, hd⟩ := ownsRow_lt h.c j e
      rw [hc] at hd
      simp at hd))
  have kn : w3.ownsRow B 3 1 vs m ys := ownsRow_keep h.s (fun j hj => R3.old hg j (ownsRow_lt h.s j hj).2.1 (fun e => h.sep j hj e))
  refine ⟨h3, ⟨by rw [heap_setCell_at _ _ _ _ _ _ h3]; rfl, hst _ _ _ _ kt (by decide), hst _ _ _ _ kn (by decide), hst _ _ _ _ ho (by decide), fun j hj hj2 => ?_⟩, ⟨hg.os, hg.tape, hg.output, by have := hg.size; simp [World.setCell] at this ⊢; omega, fun j hj hn => ?_⟩⟩
  · rcases hat with e | e
    · exact h.sep j hj (by rw [← e]; exact hj2)
    · rw [e] at hj2
      injection hj2 with hj2
      have h5 := (ownsRow_lt h.s j hj).2.1
      simp at hj2
      omega
  · simp at hn
    rw [Below.heap_setCell _ _ _ _ hn.1, R3.old hg j hj (fun e => hn.2 e)]
end

theorem Try.infoInts : (Try.prog.info? 28).map (fun i => (i.zero, i.size, i.bytes)) = some (some (.slice none 0 0), 1, 24) := by kernel_rfl

theorem cell_at {w : World} {a : Nat} (x : Value) (e : TypeId) (h : a = w.heap.size) : ∀ (j : Nat) (u : Value), ([x] : List Value)[j]? = some u → (w.alloc (.cells #[x] e)).cell? (Addr.add ⟨a, 0, none⟩ j) = some u := by
  subst h
  intro j u hu
  cases j with
  | zero =>
    simp at hu
    subst hu
    show World.cell? _ ⟨w.heap.size, 0, none⟩ = _
    rw [cell_of_heap (heap_alloc_new _ _)]
    rfl
  | succ j => simp at hu
theorem R3.cs {B : Nat} {w : World} {q n m k : Nat} {vt vs vn : Value} {xs ys zs : List Value} (h : R3 B w q n m k vt vs vn xs ys zs) : w.cell? ⟨q, 0, none⟩ = some vt ∧ w.cell? ⟨q, 1, none⟩ = some vs ∧ w.cell? ⟨q, 2, none⟩ = some vn ∧ ∀ i, w.frozen? ⟨q, i, none⟩ = false := by
  refine ⟨?_, ?_, ?_, fun i => by simp [World.frozen?, h.head]⟩ <;> (rw [cell_of_heap h.head]; rfl)

/-- A row that has grown lies where it lay, or behind all that was there. -/
theorem own_at {v v' : Value} {a : Nat} {b : Nat} (h : v'.ownBlock = v.ownBlock ∨ v'.ownBlock = some a) (hb : b ≤ a) : ∀ k, v'.ownBlock = some k → v.ownBlock = some k ∨ b ≤ k := fun k hk => by
  rcases h with h | h
  · exact .inl (by rw [← h]; exact hk)
  · rw [h] at hk
    injection hk with hk
    exact .inr (by omega)

set_option maxRecDepth 100000 in
set_option maxHeartbeats 4000000 in
theorem radd_r3 (B : Nat) (w : World) (q n : Nat) (vt vs vn : Value) (xs ys zs : List Value) (ao : Option Addr) (len cap : Nat) (hn : n < 128) (hB : B ≤ w.heap.size) (h : R3 B w q n n n vt vs vn xs ys zs) :
    Calls Try.prog 15 #[.pointer (some ⟨q, 0, none⟩), .slice ao len cap] w fun e w' =>
      e = .returned (.int .i64 ((n : Int) + 1)) ∧ ∃ vt' vs' vn', R3 B w' q (n + 1) (n + 1) (n + 1) vt' vs' vn' (xs ++ [.slice ao len cap]) (ys ++ [.int .i64 0]) (zs ++ [.int .i64 0]) ∧ (∀ k, vt'.ownBlock = some k ∨ vs'.ownBlock = some k ∨ vn'.ownBlock = some k → vt.ownBlock = some k ∨ vs.ownBlock = some k ∨ vn.ownBlock = some k ∨ w.heap.size ≤ k) ∧ Turned (q :: (vt.ownBlock.toList ++ (vs.ownBlock.toList ++ vn.ownBlock.toList))) w w' := by
  obtain ⟨c0, c1, c2, cf⟩ := h.cs
  have f0 := cf 0
  obtain ⟨-, a1, p1, rfl, -⟩ := ownsRow_any h.t
  obtain ⟨-, a2, p2, rfl, -⟩ := ownsRow_any h.s
  obtain ⟨-, a3, p3, rfl, -⟩ := ownsRow_any h.c
  have hn128 : ¬ (128 ≤ (n : Int)) := by omega
  have HR := hide h
  clear h cf
  obtain ⟨i0, hi, hi0⟩ := Option.map_eq_some_iff.1 Try.infoInt
  simp only [Prod.mk.injEq] at hi0
  obtain ⟨hz0, hz1, hz2⟩ := hi0
  obtain ⟨j0, hj, hj0⟩ := Option.map_eq_some_iff.1 Try.infoInts
  simp only [Prod.mk.injEq] at hj0
  obtain ⟨jz0, jz1, jz2⟩ := hj0
  go_enter Try.func15, Try.ntmps15
  go_wp2_with (at_builtin; first
    | (refine wpList_append_own_at _ rfl _ _ 27 rfl B 28 j0 (.slice none 0 0) 1 24 Try.underlying27 hj jz0 jz1 jz2 rfl (by decide) _ _ _ rfl (HR.out.t.alloc _) ⟨w.heap.size, 0, none⟩ 1 1 [.slice ao len cap] rfl rfl (cell_at _ _ rfl) (fun x hx => by simp at hx; subst hx; rfl) (by unfold maxLen; omega) (by omega) (by simp; omega) ?_; intro v3 w3 ho hg hnil hat; obtain ⟨-, a4, p4, rfl, -⟩ := ownsRow_any ho; obtain ⟨hq3, hR4, hT4⟩ := HR.out.growt hg ho; have g0 : w3.cell? ⟨q, 0, none⟩ = some (.slice a1 n p1) := (cell_of_heap hq3 0); have gf : w3.frozen? ⟨q, 0, none⟩ = false := (by simp [World.frozen?, hq3]); obtain ⟨k0, k1, k2, kf⟩ := hR4.cs; have kf1 := kf 1; have H4 := hide hR4; have T4 := hide hT4; have z3 : w.heap.size ≤ w3.heap.size := (by have := hg.size; simp at this; omega); have A4 := hide (own_at (b := w.heap.size) hat (by simp)); clear ho hg hnil hat hq3 hR4 hT4 kf)
    | (refine wpList_append_own_at _ rfl _ _ 28 rfl B 3 i0 (.int .i64 0) 1 8 Try.underlying28 hi hz0 hz1 hz2 rfl (by decide) _ _ _ rfl (H4.out.s.alloc _) ⟨w3.heap.size, 0, none⟩ 1 1 [.int .i64 0] rfl rfl (cell_at _ _ (by simp [World.setCell])) (fun x hx => by simp at hx; subst hx; rfl) (by unfold maxLen; omega) (by omega) (by simp [World.setCell]; omega) ?_; intro v5 w5 ho hg hnil hat; obtain ⟨-, a5, p5, rfl, -⟩ := ownsRow_any ho; obtain ⟨hq5, hR5, hT5⟩ := H4.out.grows hg ho hat; have g1 : w5.cell? ⟨q, 1, none⟩ = some (.slice a2 n p2) := (cell_of_heap hq5 1); have gf1 : w5.frozen? ⟨q, 1, none⟩ = false := (by simp [World.frozen?, hq5]); obtain ⟨l0, l1, l2, lf⟩ := hR5.cs; have lf2 := lf 2; have H5 := hide hR5; have T5 := hide hT5; have z5 : w3.heap.size ≤ w5.heap.size := (by have := hg.size; simp [World.setCell] at this; omega); have A5 := hide (own_at (b := w.heap.size) hat (by simp [World.setCell]; omega)); clear ho hg hnil hat hq5 hR5 hT5 lf)
    | (refine wpList_append_own_at _ rfl _ _ 28 rfl B 3 i0 (.int .i64 0) 1 8 Try.underlying28 hi hz0 hz1 hz2 rfl (by decide) _ _ _ rfl (H5.out.c.alloc _) ⟨w5.heap.size, 0, none⟩ 1 1 [.int .i64 0] rfl rfl (cell_at _ _ (by simp [World.setCell])) (fun x hx => by simp at hx; subst hx; rfl) (by unfold maxLen; omega) (by omega) (by simp [World.setCell]; omega) ?_; intro v6 w6 ho hg hnil hat; obtain ⟨-, a6, p6, rfl, -⟩ := ownsRow_any ho; obtain ⟨hq6, hR6, hT6⟩ := H5.out.growc hg ho hat; have g2 : w6.cell? ⟨q, 2, none⟩ = some (.slice a3 n p3) := (cell_of_heap hq6 2); have gf2 : w6.frozen? ⟨q, 2, none⟩ = false := (by simp [World.frozen?, hq6]); obtain ⟨m0, m1, m2, mf⟩ := hR6.cs; have H6 := hide hR6; have T6 := hide hT6; have A6 := hide (own_at (b := w.heap.size) hat (by simp [World.setCell]; omega)); clear ho hg hnil hat hq6 hR6 hT6 mf))
  go_ret
  refine ⟨rfl, _, _, _, H6.out, fun k hk => ?_, ?_⟩
  · rcases hk with hk | hk | hk
    · rcases A4.out k hk with h | h; exact .inl h; exact .inr (.inr (.inr h))
    · rcases A5.out k hk with h | h; exact .inr (.inl h); exact .inr (.inr (.inr h))
    · rcases A6.out k hk with h | h; exact .inr (.inr (.inl h)); exact .inr (.inr (.inr h))
  exact ((T4.out.mono (by intro k hk; simp at hk ⊢; rcases hk with h | h; exact .inl h; exact .inr (.inl h))).trans (T5.out.mono (by intro k hk; simp at hk ⊢; rcases hk with h | h; exact .inl h; exact .inr (.inr (.inl h))))).trans (T6.out.mono (by intro k hk; simp at hk ⊢; rcases hk with h | h; exact .inl h; exact .inr (.inr (.inr h))))
end Go.Proofs.Ytopoklciglgkbaa
