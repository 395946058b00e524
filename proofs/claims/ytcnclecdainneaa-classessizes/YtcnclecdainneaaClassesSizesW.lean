/-
  The law of ClassesSizes, walked.
-/
import Derived.Test.YtcnclecdainneaaClassesRefF
import Derived.Test.YtcnclecdainneaaClassesAwake
import Derived.Deep.RegionHeld3
import Derived.Deep.QuietTactic
import Derived.BigQuiet
namespace Go.Proofs.Ytcnclecdainneaa
open Go.RowKit
set_option linter.unusedVariables false

/-- The three numbers, laid into block b; and nothing that was there has turned. -/
structure At3 (w W : World) (b : Nat) (x y z : Int) : Prop where
  t : Turned [] w W
  h : W.heap[b]? = some (.cells #[.int .i64 x, .int .i64 y, .int .i64 z] 23)
theorem At3.next {w W W' : World} {b : Nat} {x y z : Int} (h : At3 w W b x y z) (ht : Turned [] W W') : At3 w W' b x y z := ⟨h.t.trans ht, by rw [ht.block b (lt_of_heap h.h) (by simp)]; exact h.h⟩
theorem At3.drew {w W : World} {b : Nat} {x y z : Int} (h : At3 w W b x y z) : At3 w W.drew b x y z := ⟨h.t.drew, h.h⟩
theorem At3.cells {w W : World} {b : Nat} {x y z : Int} (h : At3 w W b x y z) : W.cell? ⟨b, 0, none⟩ = some (.int .i64 x) ∧ W.cell? ⟨b, 1, none⟩ = some (.int .i64 y) ∧ W.cell? ⟨b, 2, none⟩ = some (.int .i64 z) :=
  ⟨by rw [cell_of_heap h.h]; rfl, by rw [cell_of_heap h.h]; rfl, by rw [cell_of_heap h.h]; rfl⟩
theorem at3_new (w : World) (x y z : Int) : At3 w (w.alloc (.cells #[.int .i64 x, .int .i64 y, .int .i64 z] 23)) w.heap.size x y z := ⟨(Turned.refl [] w).alloc _, heap_alloc_new _ _⟩
theorem IRd.drewN {w : World} {ao : Option Addr} {len : Nat} {l : List Int} (h : IRd w ao len l) (m : Nat) : IRd (w.drewN m) ao len l := ⟨h.size, h.room, h.cell, h.inn⟩
theorem Turned.drewN {S : List Nat} {a w : World} (h : Turned S a w) (m : Nat) : Turned S a (w.drewN m) := ⟨h.os, h.tape, h.output, h.size, h.block⟩

set_option maxRecDepth 100000 in
set_option maxHeartbeats 8000000 in
theorem sizes_walk (ac : Option Addr) (lc cc : Nat) (cs : List Cls) (x y z : Int) (ai : Option Addr) (li ci : Nat) (l : List Int) (w : World) (h : CRd w ac lc cs) (hy : In64 y) (hi : IRd w ai li l) :
    Calls Try.prog 3 #[.slice ac lc cc, .agg #[.int .i64 x, .int .i64 y, .int .i64 z], .slice ai li ci] w fun e w' => e = .returned (.bool true) ∧ Turned [] w w' := by
  have H := hide h
  have HI := hide hi
  have C1 := hide (fun w h => sizes_any ac lc cc cs x y w hy h)
  have C2 := hide (fun w h => rsize_any ac lc cc cs x y w hy h)
  have C3 := hide (fun w h => sum_any ai li ci l w h)
  have C4 := hide (fun w h => rsum_any ai li ci l w h)
  have C5 := hide (fun w h => check_any ac lc cc cs w h)
  have C6 := hide (fun w h => rcheck_any ac lc cc cs w h)
  have C7 := hide (fun w h => ref_any ac lc cc cs x y z w hy h)
  have C8 := hide (fun w h => rref_any ac lc cc cs x y z w hy h)
  have C9 := hide (fun w h => refs_any ac lc cc cs x y w hy h)
  have C10 := hide (fun w h => rrefs_any ac lc cc cs x y w hy h)
  have hR := refsOf_range cs x y
  generalize sizeOf cs x y = p1 at *
  generalize sumOf l = p2 at *
  generalize checkOf cs = p3 at *
  generalize decide (0 < z ∧ z ≤ refsOf cs x y) = p4 at *
  obtain ⟨R, hR0⟩ := Int.eq_ofNat_of_zero_le hR.1
  rw [hR0] at C9 C10 hR
  simp only [Int.toNat_natCast] at C9 C10
  have hRn : R ≤ 65535 := by omega
  clear hR0 hR hy h hi
  have HA := hide (at3_new w x y z)
  go_enter Try.func3, Try.ntmps3
  go_wp2_with fail
  refine (awake_true _).mono ?_
  rintro e w1 ⟨rfl, ht⟩
  have HA1 := hide (HA.out.next ht)
  clear ht HA
  generalize w.heap.size = b at *
  obtain ⟨b0, b1, b2⟩ := HA1.out.cells
  go_wp2_with fail
  refine (C1.out _ (H.out.turned HA1.out.t)).mono ?_
  rintro e w2 ⟨rfl, ht⟩
  have HA2 := hide (HA1.out.next ht)
  clear ht HA1 C1 b0 b1 b2
  obtain ⟨b0, b1, b2⟩ := HA2.out.cells
  go_wp2_with fail
  refine (C2.out _ (H.out.turned HA2.out.t)).mono ?_
  rintro e w3 ⟨rfl, ht⟩
  have HA3 := hide (HA2.out.next ht)
  clear ht HA2 C2 b0 b1 b2
  go_wp2_with fail
  refine (C3.out _ (HI.out.turned HA3.out.t)).mono ?_
  rintro e w4 ⟨rfl, rfl⟩
  go_wp2_with fail
  refine (C4.out _ (HI.out.turned HA3.out.t)).mono ?_
  rintro e w5 ⟨rfl, rfl⟩
  clear C3 C4
  obtain ⟨b0, b1, b2⟩ := HA3.out.cells
  go_wp2_with fail
  go_region_held3 (fun w' => w'.cell? ⟨b, 0, none⟩ = some (.int .i64 x) ∧ w'.cell? ⟨b, 1, none⟩ = some (.int .i64 y) ∧ w'.cell? ⟨b, 2, none⟩ = some (.int .i64 z)) (go_keep)
    (first
      | (go_at_call 14; refine (C5.out _ (by exact H.out.turned HA3.out.t.drew)).mono ?_; rintro e w6 ⟨rfl, ht⟩; have HA6 := hide (HA3.out.drew.next ht); obtain ⟨d0, d1, d2⟩ := HA6.out.cells; clear ht)
      | (go_at_call 15; refine (C6.out _ (by exact H.out.turned HA6.out.t)).mono ?_; rintro e w7 ⟨rfl, ht⟩; have HA7 := hide (HA6.out.next ht); obtain ⟨f0, f1, f2⟩ := HA7.out.cells; clear ht)
      | (go_at_call 16; refine (C7.out _ (by exact H.out.turned HA7.out.t)).mono ?_; rintro e w8 ⟨rfl, ht⟩; have HA8 := hide (HA7.out.next ht); obtain ⟨g0, g1, g2⟩ := HA8.out.cells; clear ht)
      | (go_at_call 17; refine (C8.out _ (by exact H.out.turned HA8.out.t)).mono ?_; rintro e w9 ⟨rfl, ht⟩; have HA9 := hide (HA8.out.next ht); obtain ⟨k0, k1, k2⟩ := HA9.out.cells; clear ht))
  clear b0 b1 b2 d0 d1 d2 f0 f1 f2 g0 g1 g2 C5 C6 C7 C8 HA3 HA6 HA7 HA8
  go_wp2_with fail
  refine (C9.out _ (H.out.turned HA9.out.t)).mono ?_
  rintro e w10 ⟨g, cp, rfl, hrd, ht⟩
  have HA10 := hide (HA9.out.next ht)
  have HR := hide hrd
  clear ht hrd HA9 C9 k0 k1 k2
  obtain ⟨b0, b1, b2⟩ := HA10.out.cells
  go_wp2_with fail
  refine (C10.out _ (H.out.turned HA10.out.t)).mono ?_
  rintro e w11 ⟨ar, cq, rfl, hrd, ht⟩
  have HT := hide (HA10.out.next ht).t
  have HQ := hide hrd
  have HR1 := hide (HR.out.turned ht)
  clear ht hrd HA10 C10 b0 b1 b2 HR
  go_wp2_with fail
  go_loopw [18] (fun i wr => ∃ (j : Nat), j ≤ R ∧ i = .int .i64 j ∧ Hid (IRd wr (some ⟨g, 0, none⟩) R (rowTo R)) ∧ Hid (IRd wr ar R (rowTo R)) ∧ Hid (Turned [] w wr)) (fun i _ => R - (intOf i).toNat)
  case atStart => exact ⟨0, Nat.zero_le _, rfl, HR1, HQ, HT⟩
  case round =>
    obtain ⟨j, hj, rfl, HRr, HQr, HTr⟩ := hrel
    by_cases hlt : j < R
    · obtain ⟨g', o', he, c0⟩ := HRr.out.cell j _ (rowTo_get hlt)
      simp only [Option.some.injEq, Addr.mk.injEq] at he
      obtain ⟨rfl, rfl, -⟩ := he
      rw [Nat.zero_add] at c0
      obtain ⟨b', off', rfl, c1⟩ := HQr.out.cell j _ (rowTo_get hlt)
      go_wp2_with fail
      go_quiet (fail)
      go_wp2_with fail
      go_roundw
      case rel => exact ⟨j + 1, by omega, by go_num, HRr.out.drewN _, HQr.out.drewN _, HTr.out.drewN _⟩
      case measure => simp [intOf]; omega
    · go_wp2_with fail
      go_ret
      exact ⟨rfl, HTr.out⟩
end Go.Proofs.Ytcnclecdainneaa
