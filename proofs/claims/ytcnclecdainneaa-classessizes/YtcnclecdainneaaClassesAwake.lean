/-
  The chapter's examples hold: awake tells true.
-/
import Derived.Test.YtcnclecdainneaaClassesRow
import Derived.Test.YtcnclecdainneaaClassesChk
import Derived.Test.YtcnclecdainneaaClassesHead
namespace Go.Proofs.Ytcnclecdainneaa
open Go.RowKit
set_option linter.unusedVariables false

def threeCs : List Cls := [⟨2, 1, 0⟩, ⟨0, 0, 1⟩, ⟨0, 0, 2⟩]

theorem three_any (w : World) :
    Calls Try.prog 24 #[] w fun e w' => ∃ g, e = .returned (.slice (some ⟨g, 0, none⟩) 3 3) ∧ CRd w' (some ⟨g, 0, none⟩) 3 threeCs ∧ Turned [] w w' := by
  have hbs : ∀ w : World, (Instr.buildSlice 22 3 #[(0, .agg #[.int .i64 2, .int .i64 1, .int .i64 0]), (1, .agg #[.int .i64 0, .int .i64 0, .int .i64 1]), (2, .agg #[.int .i64 0, .int .i64 0, .int .i64 2])]).run Try.prog w = .ok (.slice (some ⟨w.heap.size, 0, none⟩) 3 3) (w.alloc (.cells #[.int .i64 2, .int .i64 1, .int .i64 0, .int .i64 0, .int .i64 0, .int .i64 1, .int .i64 0, .int .i64 0, .int .i64 2] 43)) := fun _ => by kernel_rfl
  have HT := hide (fun c => (Turned.refl [] w).alloc (.cells c 43))
  go_enter Try.func24, Try.ntmps24
  go_wp2_with fail
  go_ret
  refine ⟨w.heap.size, rfl, ⟨rfl, by omega, fun i c hc => ?_, fun c hc => ?_⟩, HT.out _⟩
  · have hh := heap_alloc_new w (.cells #[.int .i64 2, .int .i64 1, .int .i64 0, .int .i64 0, .int .i64 0, .int .i64 1, .int .i64 0, .int .i64 0, .int .i64 2] 43)
    refine ⟨w.heap.size, 0, rfl, ?_⟩
    rw [cell_of_heap hh, cell_of_heap hh, cell_of_heap hh]
    match i, hc with
    | 0, hc => simp [threeCs] at hc; subst hc; exact ⟨rfl, rfl, rfl⟩
    | 1, hc => simp [threeCs] at hc; subst hc; exact ⟨rfl, rfl, rfl⟩
    | 2, hc => simp [threeCs] at hc; subst hc; exact ⟨rfl, rfl, rfl⟩
    | n + 3, hc => simp [threeCs] at hc
  · simp [threeCs] at hc
    rcases hc with rfl | rfl | rfl <;> simp [Cls.In, In64]

theorem size3 (g : Nat) (k n a b : Int) (w : World) (hn : In64 n) (e : sizeOf threeCs k n = (a, b)) (h : CRd w (some ⟨g, 0, none⟩) 3 threeCs) :
    Calls Try.prog 10 #[.slice (some ⟨g, 0, none⟩) 3 3, .int .i64 k, .int .i64 n] w fun e w' => e = .returned (.tuple #[.int .i64 a, .int .i64 b]) ∧ Turned [] w w' := by
  have h1 := sizes_any (some ⟨g, 0, none⟩) 3 3 threeCs k n w hn h
  rw [e] at h1
  exact h1
theorem ref3 (g : Nat) (k n x : Int) (b : Bool) (w : World) (hn : In64 n) (e : decide (0 < x ∧ x ≤ refsOf threeCs k n) = b) (h : CRd w (some ⟨g, 0, none⟩) 3 threeCs) :
    Calls Try.prog 16 #[.slice (some ⟨g, 0, none⟩) 3 3, .int .i64 k, .int .i64 n, .int .i64 x] w fun e w' => e = .returned (.bool b) ∧ Turned [] w w' := by
  have h1 := ref_any (some ⟨g, 0, none⟩) 3 3 threeCs k n x w hn h
  rw [e] at h1
  exact h1
theorem refs3 (g : Nat) (w : World) (h : CRd w (some ⟨g, 0, none⟩) 3 threeCs) :
    Calls Try.prog 18 #[.slice (some ⟨g, 0, none⟩) 3 3, .int .i64 1, .int .i64 0] w fun e w' => ∃ g cp, e = .returned (.slice (some ⟨g, 0, none⟩) 2 cp) ∧ w'.cell? ⟨g, 1, none⟩ = some (.int .i64 2) ∧ Turned [] w w' := by
  have h1 := refs_any (some ⟨g, 0, none⟩) 3 3 threeCs 1 0 w (by unfold In64; omega) h
  rw [show refsOf threeCs 1 0 = 2 by decide] at h1
  refine h1.mono ?_
  rintro e w' ⟨g2, cp, rfl, h2, h3⟩
  obtain ⟨b, off, e1, e2⟩ := h2.cell 1 2 rfl
  simp at e1
  obtain ⟨rfl, rfl⟩ := e1
  exact ⟨g2, cp, rfl, e2, h3⟩
theorem check3 (g : Nat) (w : World) (h : CRd w (some ⟨g, 0, none⟩) 3 threeCs) :
    Calls Try.prog 14 #[.slice (some ⟨g, 0, none⟩) 3 3] w fun e w' => e = .returned (.int .i64 0) ∧ Turned [] w w' := by
  have h1 := check_any (some ⟨g, 0, none⟩) 3 3 threeCs w h
  rw [show checkOf threeCs = 0 by decide] at h1
  exact h1

theorem header25 (w : World) :
    Calls Try.prog 20 #[.int .i64 2, .int .i64 5] w fun e w' => e = .returned (.int .i64 4611686027017322501) ∧ w' = w := by
  have h1 := header_any 2 5 w
  rw [show headOf 2 5 = 4611686027017322501 by decide] at h1
  exact h1
theorem parts25 (w : World) :
    Calls Try.prog 21 #[.int .i64 4611686027017322501] w fun e w' => e = .returned (.tuple #[.int .i64 2, .int .i64 5, .bool true]) ∧ w' = w := by
  have h1 := parts_yes 4611686027017322501 w (by decide)
  rw [show partC 4611686027017322501 = 2 by decide, show partL 4611686027017322501 = 5 by decide] at h1
  exact h1

set_option maxRecDepth 100000 in
theorem awake_true (w : World) :
    Calls Try.prog 9 #[] w fun e w' => e = .returned (.bool true) ∧ Turned [] w w' := by
  have HT0 := hide (Turned.refl [] w)
  go_enter Try.func9, Try.ntmps9
  go_wp2_with fail
  refine (three_any _).mono ?_
  rintro e w1 ⟨g1, rfl, hc, ht⟩
  have HT1 := hide (HT0.out.trans ht)
  have HC1 := hide hc
  clear hc ht HT0
  go_wp2_with fail
  refine (size3 _ 1 0 4 0 _ (by unfold In64; omega) (by decide) HC1.out).mono ?_
  rintro e w2 ⟨rfl, ht⟩
  have HT2 := hide (HT1.out.trans ht)
  clear ht HC1 HT1
  go_wp2_with fail
  refine (three_any _).mono ?_
  rintro e w3 ⟨g3, rfl, hc, ht⟩
  have HT3 := hide (HT2.out.trans ht)
  have HC3 := hide hc
  clear hc ht HT2
  go_wp2_with fail
  refine (size3 _ 2 5 6 0 _ (by unfold In64; omega) (by decide) HC3.out).mono ?_
  rintro e w4 ⟨rfl, ht⟩
  have HT4 := hide (HT3.out.trans ht)
  clear ht HC3 HT3
  go_wp2_with fail
  refine (three_any _).mono ?_
  rintro e w5 ⟨g5, rfl, hc, ht⟩
  have HT5 := hide (HT4.out.trans ht)
  have HC5 := hide hc
  clear hc ht HT4
  go_wp2_with fail
  refine (size3 _ 1 3 0 11 _ (by unfold In64; omega) (by decide) HC5.out).mono ?_
  rintro e w6 ⟨rfl, ht⟩
  have HT6 := hide (HT5.out.trans ht)
  clear ht HC5 HT5
  go_wp2_with fail
  refine (three_any _).mono ?_
  rintro e w7 ⟨g7, rfl, hc, ht⟩
  have HT7 := hide (HT6.out.trans ht)
  have HC7 := hide hc
  clear hc ht HT6
  go_wp2_with fail
  refine (size3 _ 4 0 0 12 _ (by unfold In64; omega) (by decide) HC7.out).mono ?_
  rintro e w8 ⟨rfl, ht⟩
  have HT8 := hide (HT7.out.trans ht)
  clear ht HC7 HT7
  go_wp2_with fail
  refine (header25 _).mono ?_
  rintro e w9 ⟨rfl, rfl⟩
  go_wp2_with fail
  refine (parts25 _).mono ?_
  rintro e w9 ⟨rfl, rfl⟩
  go_wp2_with fail
  refine (parts_no _ _ (by decide)).mono ?_
  rintro e w9 ⟨rfl, rfl⟩
  go_wp2_with fail
  refine (three_any _).mono ?_
  rintro e w9 ⟨g9, rfl, hc, ht⟩
  have HT9 := hide (HT8.out.trans ht)
  have HC9 := hide hc
  clear hc ht HT8
  go_wp2_with fail
  refine (refs3 _ _ HC9.out).mono ?_
  rintro e w10 ⟨gr, cp, rfl, hr, ht⟩
  have HT10 := hide (HT9.out.trans ht)
  have HR := hide hr
  clear hr ht HC9 HT9
  go_wp2_with fail
  refine (three_any _).mono ?_
  rintro e w11 ⟨g11, rfl, hc, ht⟩
  have HT11 := hide (HT10.out.trans ht)
  have HC11 := hide hc
  have HR := hide (show _ = _ from (ht.cell (block_lt HR.out) (by simp)).trans HR.out)
  clear hc ht HT10
  go_wp2_with fail
  refine (check3 _ _ HC11.out).mono ?_
  rintro e w12 ⟨rfl, ht⟩
  have HT12 := hide (HT11.out.trans ht)
  have hr : _ = _ := (ht.cell (block_lt HR.out) (by simp)).trans HR.out
  clear ht HC11 HT11
  go_wp2_with fail
  refine (three_any _).mono ?_
  rintro e w13 ⟨g13, rfl, hc, ht⟩
  have HT13 := hide (HT12.out.trans ht)
  have HC13 := hide hc
  clear hc ht HT12
  go_wp2_with fail
  refine (ref3 _ 2 3 3 true _ (by unfold In64; omega) (by decide) HC13.out).mono ?_
  rintro e w14 ⟨rfl, ht⟩
  have HT14 := hide (HT13.out.trans ht)
  clear ht HC13 HT13
  go_wp2_with fail
  refine (three_any _).mono ?_
  rintro e w15 ⟨g15, rfl, hc, ht⟩
  have HT15 := hide (HT14.out.trans ht)
  have HC15 := hide hc
  clear hc ht HT14
  go_wp2_with fail
  refine (ref3 _ 3 3 3 false _ (by unfold In64; omega) (by decide) HC15.out).mono ?_
  rintro e w16 ⟨rfl, ht⟩
  have HT16 := hide (HT15.out.trans ht)
  clear ht HC15 HT15
  go_wp2_with fail
  go_ret
  exact ⟨rfl, HT16.out⟩
end Go.Proofs.Ytcnclecdainneaa
