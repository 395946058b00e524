/-
  Three threads at once, without memory; the document's New.
-/
import Derived.Test.YtelljfckffmjmaaArenaBoth
namespace Go.Proofs.Ytelljfckffmjmaa
open Go.RowKit
set_option linter.unusedVariables false

/-- Each thread's ask may step. -/
def FAll (A : AC) (l bl : List Int) (K : Nat → AkS) : Prop := bl.length = 6 ∧ ∀ i, i < 3 → FitA A (2 * i) ⟨l, bl, K i, 0⟩
/-- Asks of both sides stand to each other. -/
def Sync (A : AC) (K : Nat → AkS) (R : Nat → RkS) (xs ys : Nat → Option Nat) : Prop := ∀ i, i < 3 → (ys i = none ∧ xs i = none) ∨ (∃ b c, xs i = some b ∧ ys i = some c ∧ RelA A (K i) (R i))

theorem FitA.s {A : AC} {o : Nat} {l bl : List Int} {k : AkS} {s : Int} (s' : Int) (h : FitA A o ⟨l, bl, k, s⟩) : FitA A o ⟨l, bl, k, s'⟩ := ⟨h.b0, h.b1, h.bo, h.rd, h.sw⟩

theorem stepA_bl (A : AC) (o : Nat) (x : ASt) (j : Nat) (h1 : j ≠ o) (h2 : j ≠ o + 1) : (stepA A o x).bl.getD j 0 = x.bl.getD j 0 := by
  unfold stepA
  split
  · rfl
  · split
    · split
      · rfl
      · split
        · simp only; rw [getD_set, if_neg (fun h => h1 h.1.symm)]
        · split
          · simp only; rw [getD_set, if_neg (fun h => h2 h.1.symm), getD_set, if_neg (fun h => h1 h.1.symm)]
          · rfl
    · rfl
    · split
      · simp only
        split
        · rfl
        · rw [getD_set, if_neg (fun h => h2 h.1.symm), getD_set, if_neg (fun h => h1 h.1.symm)]
      · rfl

theorem FAll.step {A : AC} {l bl : List Int} {K : Nat → AkS} (h : FAll A l bl K) (hto : A.to ≤ l.length) {i : Nat} (hi : i < 3) (s : Int) : FAll A (stepA A (2 * i) ⟨l, bl, K i, s⟩).l (stepA A (2 * i) ⟨l, bl, K i, s⟩).bl (updx K i (stepA A (2 * i) ⟨l, bl, K i, s⟩).k) := by
  have hl := stepA_len A (2 * i) ⟨l, bl, K i, s⟩
  refine ⟨by rw [hl.2]; exact h.1, fun j hj => ?_⟩
  unfold updx
  by_cases e : j = i
  · subst e
    rw [if_pos rfl]
    exact (fit_step A (2 * j) ⟨l, bl, K j, s⟩ hto ((h.2 j hj).s s)).s 0
  · rw [if_neg e]
    have hj' := h.2 j hj
    refine ⟨?_, ?_, ?_, hj'.rd, hj'.sw⟩
    · simp only
      rw [stepA_bl A (2 * i) _ (2 * j) (by omega) (by omega), stepA_bl A (2 * i) _ (2 * j + 1) (by omega) (by omega)]
      exact hj'.b0
    · simp only
      rw [stepA_bl A (2 * i) _ (2 * j + 1) (by omega) (by omega), hl.1]
      exact hj'.b1
    · simp only
      rw [hl.2]
      exact hj'.bo
theorem FAll.ask {A : AC} {l bl : List Int} {K : Nat → AkS} (h : FAll A l bl K) (i : Nat) (hi : i < 3) (size : Int) : FAll A l bl (updx K i (akNew size)) := by
  refine ⟨h.1, fun j hj => ?_⟩
  unfold updx
  have hj' := h.2 j hj
  by_cases e : j = i
  · subst e
    rw [if_pos rfl]
    exact ⟨hj'.b0, hj'.b1, hj'.bo, fun h => absurd rfl h, fun h => by cases h⟩
  · rw [if_neg e]
    exact hj'
theorem FAll.fill {A : AC} {l bl : List Int} {K : Nat → AkS} (h : FAll A l bl K) (i : Nat) (hi : i < 3) (n : Nat) (x : Int) : FAll A (l.set n x) ((bl.set (2 * i) 0).set (2 * i + 1) 0) K := by
  refine ⟨by simp; exact h.1, fun j hj => ?_⟩
  have hj' := h.2 j hj
  have h6 := h.1
  refine ⟨?_, ?_, ?_, hj'.rd, hj'.sw⟩
  · have := hj'.b0
    simp only at *
    by_cases e : j = i
    · subst e
      rw [getD_set, getD_set, getD_set, if_neg (by omega), if_pos ⟨rfl, by omega⟩, if_pos ⟨rfl, by simp; omega⟩]
      omega
    · rw [getD_set, getD_set, getD_set, getD_set, if_neg (by omega), if_neg (by omega), if_neg (by omega), if_neg (by omega)]
      exact this
  · have := hj'.b1
    simp only at *
    by_cases e : j = i
    · subst e
      rw [getD_set, if_pos ⟨rfl, by simp; omega⟩]
      omega
    · rw [getD_set, getD_set, if_neg (by omega), if_neg (by omega)]
      simp
      exact this
  · simp
    have := hj'.bo
    simpa using this

section
variable (w : World) (p q : Nat) (l : List Int) (s : Int)
set_option maxRecDepth 4000 in
theorem rnew_ok (top til buf : Nat) (ht : top < l.length) (hto : til ≤ l.length) (hb : 2 ≤ buf ∧ buf ≤ 4096) (hl : l.length ≤ 65536) (h : Ref w p q l s) :
    Calls Try.prog 11 #[.pointer (some ⟨p, 0, none⟩), .int .i64 top, .int .i64 til, .int .i64 buf] w fun e w' => ∃ m, e = .returned (.tuple #[.pointer (some ⟨m, 0, none⟩), .int .i64 0]) ∧ Rn w' m p q ⟨top, til, buf⟩ l s ∧ Turned [] w w' ∧ w.heap.size ≤ m := by
  have h1 : ¬ ((top : Int) < 0) := by omega
  have h2 : ¬ ((l.length : Int) ≤ (top : Int)) := by omega
  have h3 : ¬ ((til : Int) < 0) := by omega
  have h4 : ¬ ((l.length : Int) < (til : Int)) := by omega
  have h5 : ¬ ((buf : Int) < 2) := by omega
  have h6 : ¬ ((4096 : Int) < (buf : Int)) := by omega
  have HM := hide h
  have c0 := h.c0
  have HX := hide (And.intro ht (And.intro hto (And.intro hb hl)))
  clear h hb ht hto
  generalize hn : l.length = n at *
  have HNl := hide hn
  clear hn
  go_enter Try.func11, Try.ntmps11
  go_wp2_with fail
  all_goals first
    | (go_ret2; obtain ⟨x1, x2, x3, x4⟩ := HX.out; exact ⟨_, rfl, ⟨heap_alloc_new _ _, by rw [HNl.out]; exact x1, by rw [HNl.out]; exact x2, by rw [HNl.out]; exact x4, x3, HM.out.alloc _⟩, (Turned.refl _ _).alloc _, Nat.le_refl _⟩)
    | trace_state
set_option maxRecDepth 4000 in
theorem rnew_bad (top til buf : Int) (hx : ¬ (0 ≤ top ∧ top < l.length ∧ 0 ≤ til ∧ til ≤ l.length ∧ 2 ≤ buf ∧ buf ≤ 4096)) (hl : l.length ≤ 65536) (h : Ref w p q l s) :
    Calls Try.prog 11 #[.pointer (some ⟨p, 0, none⟩), .int .i64 top, .int .i64 til, .int .i64 buf] w fun e w' => e = .returned (.tuple #[.pointer none, .int .i64 1]) ∧ Turned [] w w' := by
  have c0 := h.c0
  have HX := hide hx
  clear h hx
  generalize l.length = n at *
  go_enter Try.func11, Try.ntmps11
  go_wp2_with fail
  all_goals first
    | (go_ret2; exact ⟨rfl, Turned.refl _ _⟩)
    | (exfalso; refine HX.out ⟨?_, ?_, ?_, ?_, ?_, ?_⟩ <;> omega)
    | trace_state
end
end Go.Proofs.Ytelljfckffmjmaa
