/-
  Where the picks of a run come from: slices.Clone, and next of package turns.
-/
import Derived.Test.YtopoklciglgkbaaTurnsGood
namespace Go.Proofs.Ytopoklciglgkbaa
open Go.RowKit
set_option linter.unusedVariables false

set_option maxRecDepth 100000 in
theorem clone_any (F : List Nat) (ao : Option Addr) (len cap : Nat) (l : List Int) (w : World) (hl : len ≤ 65536) (h : Rd w F ao len l) :
    Calls Try.prog 33 #[.slice ao len cap] w fun e w' => ∃ v, e = .returned v ∧ w'.ownsRow w.heap.size 3 1 v len (l.map (Value.int .i64)) ∧ Turned [] w w' := by
  have heq := fun w => Lib.run_eql_slice_nil (P := Try.prog) w 28 3 ao len cap 0 0 Try.underlying28
  cases ao with
  | none =>
    have hnil : l = [] := by
      cases l with
      | nil => rfl
      | cons x l =>
        obtain ⟨g, off, e, _⟩ := h.2 0 x rfl
        cases e
    have hlen : len = 0 := by rw [← h.1, hnil]; rfl
    subst hnil hlen
    clear h
    go_enter Try.func33, Try.ntmps33
    go_wp2_with fail
    go_ret
    exact ⟨_, rfl, World.ownsRow_nil _ _ _ _, Turned.refl _ _⟩
  | some a =>
    have hbs : ∀ w : World, (Instr.buildSlice 28 0 #[]).run Try.prog w = .ok (.slice (some ⟨w.heap.size, 0, none⟩) 0 0) (w.alloc (.cells #[] 3)) := fun _ => by kernel_rfl
    have hcl : ∀ j u, (l.map (Value.int .i64))[j]? = some u → (w.alloc (.cells #[] 3)).cell? (Addr.add a j) = some u := by
      intro j u hu
      rw [List.getElem?_map] at hu
      obtain ⟨x, hx, rfl⟩ := Option.map_eq_some_iff.1 hu
      obtain ⟨g, off, e, _, h1⟩ := h.2 j x hx
      injection e with e
      subst e
      rw [show Addr.add ⟨g, off, none⟩ j = ⟨g, off + j, none⟩ by simp [Addr.add]]
      rw [World.cell?_of_block (w := w) (Below.heap_alloc _ _ _ (block_lt h1))]
      exact h1
    have HC := hide hcl
    have HL := hide h.1
    have HO : Hid ((w.alloc (.cells #[] 3)).ownsRow w.heap.size 3 1 (.slice (some ⟨w.heap.size, 0, none⟩) 0 0) 0 []) := World.ownsRow_made w #[] 0 (Nat.le_refl _) (by unfold maxLen; omega) (by simp)
    clear h hcl
    obtain ⟨i0, hi, hi0⟩ := Option.map_eq_some_iff.1 Try.infoInt
    simp only [Prod.mk.injEq] at hi0
    obtain ⟨hz0, hz1, hz2⟩ := hi0
    go_enter Try.func33, Try.ntmps33
    go_wp2_with (at_builtin; (refine wpList_append_own _ rfl _ _ 28 rfl w.heap.size 3 i0 (.int .i64 0) 1 8 Try.underlying28 hi hz0 hz1 hz2 rfl (by decide) _ _ _ rfl HO.out a len cap (l.map (Value.int .i64)) rfl (by simp [Hid.out HL]) HC.out (by intro u hu; obtain ⟨x, _, rfl⟩ := List.mem_map.1 hu; rfl) (by unfold maxLen; omega) (by omega) (by simp) ?_); intro v' w3 hown hgr hnil)
    go_ret
    simp only [Nat.zero_add, List.nil_append] at hown
    exact ⟨_, rfl, hown, ((Turned.refl _ _).alloc _).grown hgr (fun k hk => by have hk2 : some w.heap.size = some k := hk; injection hk2 with e; omega)⟩

/-- The script of a run: block s; the picks that are left; the next number behind them. -/
def Scr (w : World) (F : List Nat) (s : Nat) (l : List Int) (m : Int) : Prop :=
  ∃ ao cap, w.heap[s]? = some (.cells #[.slice ao l.length cap, .int .i64 m] 74) ∧ Rd w (s :: F) ao l.length l ∧ l.length ≤ cap

theorem Scr.turned {w w' : World} {F S : List Nat} {s : Nat} {l : List Int} {m : Int} (h : Scr w F s l m) (hT : Turned S w w') (hs : s ∉ S) (hS : ∀ k, k ∈ S → k ∈ F) : Scr w' F s l m := by
  obtain ⟨ao, cap, h1, h2, h3⟩ := h
  exact ⟨ao, cap, by rw [hT.block s (lt_of_heap h1) hs]; exact h1, h2.turned hT (fun k hk => List.mem_cons_of_mem _ (hS k hk)), h3⟩

theorem next_more (F : List Nat) (s : Nat) (m : Int) (w : World) (hm : 0 ≤ m ∧ m < 4611686018427387904) (h : Scr w F s [] m) :
    Calls Try.prog 35 #[.pointer (some ⟨s, 0, none⟩)] w fun e w' => e = .returned (.int .i64 m) ∧ Scr w' F s [] (m + 1) ∧ Turned [s] w w' := by
  obtain ⟨ao, cap, hx, hr, hcap⟩ := h
  have hc0 : w.cell? ⟨s, 0, none⟩ = some (.slice ao 0 cap) := by rw [cell_of_heap hx]; rfl
  have hc1 : w.cell? ⟨s, 1, none⟩ = some (.int .i64 m) := by rw [cell_of_heap hx]; rfl
  have hf1 : w.frozen? ⟨s, 1, none⟩ = false := by simp [World.frozen?, hx]
  have hx2 := heap_setCell_at w s 1 _ _ _ hx (.int .i64 (m + 1))
  have hc2 : (w.setCell ⟨s, 1, none⟩ (.int .i64 (m + 1))).cell? ⟨s, 1, none⟩ = some (.int .i64 (m + 1)) := by rw [cell_of_heap hx2]; rfl
  have e1 : wrap64 (m + 1) = m + 1 := by unfold wrap64; omega
  have e2 : wrap64 (m + 1 - 1) = m := by unfold wrap64; omega
  have HT := hide ((Turned.refl [s] w).setCell (p := ⟨s, 1, none⟩) (by simp) (.int .i64 (m + 1)))
  have HX : Hid (Scr (w.setCell ⟨s, 1, none⟩ (.int .i64 (m + 1))) F s [] (m + 1)) := ⟨ao, cap, hx2, hr.turned HT.out (fun _ hk => by simp at hk; simp [hk]), hcap⟩
  clear hx hx2 hr
  go_enter Try.func35, Try.ntmps35
  go_wp2
  go_ret
  exact ⟨rfl, HX.out, HT.out⟩

theorem scr_step {F : List Nat} {s : Nat} {x : Int} {l : List Int} {m : Int} {w : World} {g off cap : Nat} (hx : w.heap[s]? = some (.cells #[.slice (some ⟨g, off, none⟩) (x :: l).length cap, .int .i64 m] 74)) (hr : Rd w (s :: F) (some ⟨g, off, none⟩) (x :: l).length (x :: l)) (off' cap' : Nat) (ho : l = [] ∨ off' = off + 1) (hc : l.length ≤ cap') :
    Scr (w.setCell ⟨s, 0, none⟩ (.slice (some ⟨g, off', none⟩) l.length cap')) F s l m ∧ Turned [s] w (w.setCell ⟨s, 0, none⟩ (.slice (some ⟨g, off', none⟩) l.length cap')) := by
  have HT := (Turned.refl [s] w).setCell (p := ⟨s, 0, none⟩) (by simp) (.slice (some ⟨g, off', none⟩) l.length cap')
  refine ⟨⟨_, cap', heap_setCell_at w s 0 _ _ _ hx _, ⟨rfl, fun i y hy => ?_⟩, hc⟩, HT⟩
  obtain ⟨g2, off2, e, h2, h3⟩ := hr.2 (i + 1) y (by simpa using hy)
  have e2 : g = g2 ∧ off = off2 := by simpa using e
  obtain ⟨rfl, rfl⟩ := e2
  rcases ho with rfl | rfl
  · simp at hy
  · refine ⟨g, off + 1, rfl, h2, ?_⟩
    rw [show off + 1 + i = off + (i + 1) by omega]
    rw [HT.cell (block_lt h3) (by simp at h2; simp; exact h2.1)]
    exact h3

theorem next_pick (F : List Nat) (s : Nat) (x : Int) (l : List Int) (m : Int) (w : World) (h : Scr w F s (x :: l) m) :
    Calls Try.prog 35 #[.pointer (some ⟨s, 0, none⟩)] w fun e w' => e = .returned (.int .i64 x) ∧ Scr w' F s l m ∧ Turned [s] w w' := by
  obtain ⟨ao, cap, hx, hr, hcap⟩ := h
  obtain ⟨g, off, rfl, hgs, hc⟩ := hr.2 0 x rfl
  simp at hcap
  rw [Nat.add_zero] at hc
  have hc0 : w.cell? ⟨s, 0, none⟩ = some (.slice (some ⟨g, off, none⟩) (l.length + 1) cap) := by rw [cell_of_heap hx]; rfl
  have hf0 : w.frozen? ⟨s, 0, none⟩ = false := by simp [World.frozen?, hx]
  have HS := hide (fun off' cap' => scr_step hx hr off' cap')
  clear hx hr hgs
  go_enter Try.func35, Try.ntmps35
  go_wp2
  · go_ret
    exact ⟨rfl, HS.out off 0 (.inl (List.eq_nil_of_length_eq_zero (by omega))) (by omega)⟩
  · go_ret
    exact ⟨rfl, HS.out (off + 1) (cap - 1) (.inr rfl) (by omega)⟩

/-- The next pick, what is left behind it, and the next number behind these. -/
def nextOf : List Int → Int → Int × List Int × Int
  | [], m => (m, [], m + 1)
  | x :: l, m => (x, l, m)

theorem next_any (F : List Nat) (s : Nat) (l : List Int) (m : Int) (w : World) (hm : 0 ≤ m ∧ m < 4611686018427387904) (h : Scr w F s l m) :
    Calls Try.prog 35 #[.pointer (some ⟨s, 0, none⟩)] w fun e w' => e = .returned (.int .i64 (nextOf l m).1) ∧ Scr w' F s (nextOf l m).2.1 (nextOf l m).2.2 ∧ Turned [s] w w' := by
  cases l with
  | nil => exact next_more F s m w hm h
  | cons x l => exact next_pick F s x l m w h
end Go.Proofs.Ytopoklciglgkbaa
