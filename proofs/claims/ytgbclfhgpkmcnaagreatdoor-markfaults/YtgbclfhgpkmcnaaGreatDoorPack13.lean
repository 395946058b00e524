/-
  Texts of the proof, several in one: ClassesRow.
-/
import Derived.Test.YtgbclfhgpkmcnaaGreatDoorPack1
import Derived.Test.YtgbclfhgpkmcnaaGreatDoorPack2
import Derived.Test.YtgbclfhgpkmcnaaGreatDoorPack12
import Derived.Deep.OwnRows
/-
  What Refs tells: a row of the call's own.
-/
namespace Go.Proofs.YtgbclfhgpkmcnaaGreatDoor
open Go.RowKit
set_option linter.unusedVariables false


theorem refsOf_range (cs : List Cls) (k n : Int) : 0 ≤ refsOf cs k n ∧ refsOf cs k n ≤ 65535 := by
  unfold refsOf told
  split
  · simp
  · rename_i c hc
    split
    · rename_i hn
      have := clsAt_few hc hn
      simp only [gRefs]
      omega
    · simp

/-- The numbers from 1 on. -/
def rowTo (k : Nat) : List Int := (List.range k).map fun (i : Nat) => (i : Int) + 1
theorem rowTo_length (k : Nat) : (rowTo k).length = k := by simp [rowTo]
theorem rowTo_get {k i : Nat} (h : i < k) : (rowTo k)[i]? = some ((i : Int) + 1) := by simp [rowTo, h]

set_option maxRecDepth 100000 in
theorem refs_block (ao : Option Addr) (len cap : Nat) (cs : List Cls) (k n : Int) (w : World) (hn : In64 n) (h : CRd w ao len cs) :
    Calls Tryz.prog 185 #[.slice ao len cap, .int .i64 k, .int .i64 n] w fun e w' => ∃ g cp, e = .returned (.slice (some ⟨g, 0, none⟩) (refsOf cs k n).toNat cp) ∧ IRd w' (some ⟨g, 0, none⟩) (refsOf cs k n).toNat (rowTo (refsOf cs k n).toNat) ∧ Turned [] w w' ∧ w.heap.size ≤ g ∧ cp = (refsOf cs k n).toNat ∧ ∃ c : Array Value, w'.heap[g]? = some (.cells c 3 (0, 0)) ∧ c.size = (refsOf cs k n).toNat := by
  have HC := hide (count_refs ao len cap cs k n w hn h)
  have hr := refsOf_range cs k n
  unfold refsOf at *
  generalize told gRefs cs k n = y at *
  obtain ⟨y, z⟩ := y
  simp only at hr HC ⊢
  obtain ⟨m, rfl⟩ := Int.eq_ofNat_of_zero_le hr.1
  have hm65 : m ≤ 65535 := by omega
  simp only [Int.toNat_natCast]
  have hmk := run_make_row' (P := Tryz.prog) 25 3 (.int .i64 0) 8 Tryz.underlying25 Tryz.infoInt rfl .i64 .i64 m (by omega) (by omega)
  clear hr hn h
  go_enter Tryz.func185, Tryz.ntmps185
  go_wp2_with fail
  refine HC.out.mono ?_
  rintro e w1 ⟨rfl, ht1⟩
  have HT := hide ht1
  clear ht1 HC
  have HT2 := hide (HT.out.alloc (.cells (madeCells #[.int .i64 0] m) 3))
  have HB : Hid ((w1.alloc (.cells (madeCells #[.int .i64 0] m) 3)).heap[w1.heap.size]? = some (.cells (madeCells #[.int .i64 0] m) 3 (0, 0))) := heap_alloc_new _ _
  have HZ : Hid ((madeCells #[Value.int .i64 0] m).size = m) := by show _ = _; simp [madeCells]
  have hg : w.heap.size ≤ w1.heap.size := HT.out.size
  go_wp2_with fail
  generalize w1.heap.size = g at *
  clear HT hmk
  go_loopw [22] (fun i wr => ∃ (j : Nat) (c : Array Value), j ≤ m ∧ i = .int .i64 j ∧ Hid (wr.heap[g]? = some (.cells c 3 (0, 0)) ∧ c.size = m ∧ ∀ i : Nat, i < j → c[i]? = some (.int .i64 ((i : Int) + 1))) ∧ Hid (Turned [] w wr)) (fun i _ => m - (intOf i).toNat)
  case atStart => exact ⟨0, _, Nat.zero_le _, rfl, ⟨HB.out, HZ.out, fun i hi => by omega⟩, HT2⟩
  case round =>
    obtain ⟨j, c, hj, rfl, HI, HTr⟩ := hrel
    by_cases hlt : j < m
    · have hc := HI.out.1
      have hcell : wr.cell? ⟨g, j, none⟩ = some (c[j]'(by have := HI.out.2.1; omega)) := by rw [cell_of_heap hc, Array.getElem?_eq_getElem]
      have hfz : wr.frozen? ⟨g, j, none⟩ = false := by simp [World.frozen?, hc]
      generalize c[j]'(by have := HI.out.2.1; omega) = u at *
      have HI2 : Hid ((wr.setCell ⟨g, j, none⟩ (.int .i64 ((j : Int) + 1))).heap[g]? = some (.cells (c.setIfInBounds j (.int .i64 ((j : Int) + 1))) 3 (0, 0)) ∧ (c.setIfInBounds j (.int .i64 ((j : Int) + 1))).size = m ∧ ∀ i : Nat, i < j + 1 → (c.setIfInBounds j (.int .i64 ((j : Int) + 1)))[i]? = some (.int .i64 ((i : Int) + 1))) := by
        refine ⟨heap_setCell_at _ _ _ _ _ _ hc _, by simp [HI.out.2.1], fun i hi => ?_⟩
        by_cases he : i = j
        · subst he
          rw [Array.getElem?_setIfInBounds_self_of_lt (by have := HI.out.2.1; omega)]
        · rw [Array.getElem?_setIfInBounds_ne (by omega)]
          exact HI.out.2.2 i (by omega)
      have HT3 := hide (HTr.out.setCell (p := ⟨g, j, none⟩) (.inr hg) (.int .i64 ((j : Int) + 1)))
      clear hc HI HTr
      go_wp2_with fail
      go_roundw
      case rel => exact ⟨j + 1, _, by omega, by go_num, HI2, HT3⟩
      case measure => simp [intOf]; omega
    · have hjm : j = m := by omega
      subst hjm
      go_wp2_with fail
      go_ret
      refine ⟨g, j, rfl, ⟨rowTo_length _, by omega, fun i x hx => ?_, fun x hx => ?_⟩, HTr.out, hg, rfl, _, HI.out.1, HI.out.2.1⟩
      · have hi := (List.getElem?_eq_some_iff.1 hx).1
        rw [rowTo_length] at hi
        rw [rowTo_get hi] at hx
        injection hx with hx
        subst hx
        exact ⟨g, 0, rfl, by rw [Nat.zero_add, cell_of_heap HI.out.1]; exact HI.out.2.2 i hi⟩
      · obtain ⟨i, hi⟩ := List.mem_iff_getElem?.1 hx
        have hl := (List.getElem?_eq_some_iff.1 hi).1
        rw [rowTo_length] at hl
        rw [rowTo_get hl] at hi
        injection hi with hi
        subst hi
        unfold In64
        omega

theorem refs_new (ao : Option Addr) (len cap : Nat) (cs : List Cls) (k n : Int) (w : World) (hn : In64 n) (h : CRd w ao len cs) :
    Calls Tryz.prog 185 #[.slice ao len cap, .int .i64 k, .int .i64 n] w fun e w' => ∃ g cp, e = .returned (.slice (some ⟨g, 0, none⟩) (refsOf cs k n).toNat cp) ∧ IRd w' (some ⟨g, 0, none⟩) (refsOf cs k n).toNat (rowTo (refsOf cs k n).toNat) ∧ Turned [] w w' ∧ w.heap.size ≤ g :=
  (refs_block ao len cap cs k n w hn h).mono fun e w' ⟨g, cp, h1, h2, h3, h4, _⟩ => ⟨g, cp, h1, h2, h3, h4⟩

theorem refs_any (ao : Option Addr) (len cap : Nat) (cs : List Cls) (k n : Int) (w : World) (hn : In64 n) (h : CRd w ao len cs) :
    Calls Tryz.prog 185 #[.slice ao len cap, .int .i64 k, .int .i64 n] w fun e w' => ∃ g cp, e = .returned (.slice (some ⟨g, 0, none⟩) (refsOf cs k n).toNat cp) ∧ IRd w' (some ⟨g, 0, none⟩) (refsOf cs k n).toNat (rowTo (refsOf cs k n).toNat) ∧ Turned [] w w' :=
  (refs_new ao len cap cs k n w hn h).mono fun e w' ⟨g, cp, h1, h2, h3, _⟩ => ⟨g, cp, h1, h2, h3⟩
end Go.Proofs.YtgbclfhgpkmcnaaGreatDoor
