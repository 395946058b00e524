/-
  Counters are added; a slice of numbers that came in, as it is read; small facts on numbers.
-/
import Derived.Test.YtopoklciglgkbaaTurnsPure
import Derived.Test.YtopoklciglgkbaaTurnsAwake
import Derived.Test.YtopoklciglgkbaaLawKit
namespace Go.Proofs.Ytopoklciglgkbaa
open Go.RowKit
set_option linter.unusedVariables false

/-- A counter is made and added. -/
theorem add_counter (B : Nat) (w : World) (p : Nat) (F : List Nat) (ts : List Task) (c : Int) (hc : 0 ≤ c ∧ c ≤ 65536) (hl : ts.length < 128) (h : Tur B w p F ts) :
    Calls Try.prog 13 #[.pointer (some ⟨p, 0, none⟩), .func (.func 26) #[.pointer (some ⟨w.heap.size, 0, none⟩)] #[]] (w.alloc (.cells #[.int .i64 c] 52)) fun e w' =>
      e = .returned (.tuple #[.int .i64 ((ts.length : Int) + 1), .int .i64 0]) ∧ ∃ F' b, Tur B w' p F' (ts ++ [ct b w.heap.size c 0 0]) ∧ Turned F w w' := by
  have hp := h.trn.lo p h.trn.pF
  have hT : Turned [] w (w.alloc (.cells #[.int .i64 c] 52)) := (Turned.refl _ _).alloc _
  have h1 := (h.same hT).more (k := w.heap.size) ⟨by omega, by simp⟩
  refine (add_tur B _ p _ ts (.func 26) #[.pointer (some ⟨w.heap.size, 0, none⟩)] #[] [w.heap.size] [w.heap.size] (CounterD w.heap.size c) (counterTell c) hl h1 (fun b => good_counter B w.heap.size c hc b 0 0) (by show _ = _; rw [heap_alloc_new, Int.sub_zero]) (by intro k hk; simp at hk; simp [hk]) (by intro k hk; simp at hk; simp [hk]) ?_).mono ?_
  · intro t ht
    refine ⟨fun k hk hm => ?_, fun k hk hm => ?_⟩
    · simp at hm
      subst hm
      have := (h.trn.lo _ (h.sF t ht _ hk)).2
      omega
    · simp at hk
      subst hk
      have := (h.awA ht hm).1
      omega
  · rintro e w' ⟨rfl, F', h2, _, _, h3, _⟩
    exact ⟨rfl, F', _, h2, (hT.mono (by simp)).trans_new h3 (fun k hk => by rcases List.mem_cons.1 hk with rfl | hk; exact .inr (Nat.le_refl _); exact .inl hk)⟩

theorem tmod_bounds (a m : Int) (hm : 0 < m) : -m < a.tmod m ∧ a.tmod m < m := by
  have h1 := Int.tmod_lt_of_pos a hm
  have h2 := Int.tmod_lt_of_pos (-a) hm
  rw [Int.neg_tmod] at h2
  omega

theorem isRow_rd {w : World} {a : Option Addr} {len cap : Nat} {zs : List Int} (h : IsRow .i64 w a len cap zs) : Rd w [] a len (zs.take len) ∧ Ranged (zs.take len) ∧ len ≤ 9223372036854775807 := by
  rcases h with ⟨rfl, rfl, rfl, rfl⟩ | ⟨x, rfl, hl, hm, hz, hc, hwf⟩
  · exact ⟨⟨by simp, by simp⟩, by intro x hx; simp at hx, by omega⟩
  · refine ⟨⟨by simp; omega, fun i y hy => ?_⟩, fun y hy => wf_range (hwf y (List.mem_of_mem_take hy)), by unfold maxLen at hm; omega⟩
    have hi := (List.getElem?_eq_some_iff.1 hy).1
    simp at hi
    have h1 := hc i (by omega)
    have hsp : x.spot = none := by
      have := World.cell?_spot (hc 0 (by omega))
      simpa [Addr.add] using this
    obtain ⟨b, off, spot⟩ := x
    simp at hsp
    subst hsp
    refine ⟨b, off, rfl, by simp, ?_⟩
    rw [show Addr.add ⟨b, off, none⟩ i = ⟨b, off + i, none⟩ by simp [Addr.add]] at h1
    rw [h1]
    rw [List.getElem?_take_of_lt (by omega)] at hy
    rw [List.getD_eq_getElem?_getD, hy]
    rfl
end Go.Proofs.Ytopoklciglgkbaa
