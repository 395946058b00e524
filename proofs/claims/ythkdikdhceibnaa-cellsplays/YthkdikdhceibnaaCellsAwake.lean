/-
  The chapter's own examples ('awake' of the statements' package): what the document fixes is told, and nothing that was there has turned.
-/
import Derived.Test.YthkdikdhceibnaaCellsMore
namespace Go.Proofs.Ythkdikdhceibnaa
open Go.RowKit

theorem w_1 : wrap64 (0 + 1) = 1 := by unfold wrap64; omega
theorem w_2 : wrap64 (1 + 1) = 2 := by unfold wrap64; omega
theorem w_3 : wrap64 (2 + 1) = 3 := by unfold wrap64; omega
theorem w_4 : wrap64 (3 + 1) = 4 := by unfold wrap64; omega
theorem w_5 : wrap64 (4 + 1) = 5 := by unfold wrap64; omega
theorem w_a : wrap64 (7 + -2) = 5 := by unfold wrap64; omega
theorem w_b : wrap64 (5 - -2) = 7 := by unfold wrap64; omega

set_option maxRecDepth 100000 in
theorem awake_true (w : World) :
    Calls Try.prog 9 #[] w fun e w' => e = .returned (.bool true) ∧ Turned [] w w' := by
  have hN := new_any 3 w
  rw [show (List.replicate (min (max 3 0) 65536 : Int).toNat (0 : Int)) = [0, 0, 0] from by decide] at hN
  have HN := hide hN
  clear hN
  go_enter Try.func9, Try.ntmps9
  go_wp2_with fail
  refine (HN.out).mono ?_
  rintro e w1 ⟨rfl, hm, ht, hz⟩
  have HM := hide hm
  have HT := hide ht
  clear hm ht HN hz
  go_wp2_with fail
  refine (store_in _ _ _ _ _ 1 0 5 rfl HM.out).mono ?_
  rintro e w2 ⟨rfl, hm, ht⟩
  have hm2 : Mem w2 (w.heap.size + 1) w.heap.size [0, 5, 0] 1 := by rw [w_1] at hm; exact hm
  have ht2 := HT.out.trans_new ht (by simp)
  clear HM HT hm ht
  have HM := hide hm2
  have HT := hide ht2
  clear hm2 ht2
  go_wp2_with fail
  refine (swap_hit _ _ _ _ _ 1 5 7 rfl HM.out).mono ?_
  rintro e w3 ⟨rfl, hm, ht⟩
  have hm2 : Mem w3 (w.heap.size + 1) w.heap.size [0, 7, 0] 2 := by rw [w_2] at hm; exact hm
  have ht2 := HT.out.trans_new ht (by simp)
  clear HM HT hm ht
  have HM := hide hm2
  have HT := hide ht2
  clear hm2 ht2
  go_wp2_with fail
  refine (swap_miss _ _ _ _ _ 1 7 5 8 rfl (by decide) HM.out).mono ?_
  rintro e w4 ⟨rfl, hm, ht⟩
  have hm2 : Mem w4 (w.heap.size + 1) w.heap.size [0, 7, 0] 3 := by rw [w_3] at hm; exact hm
  have ht2 := HT.out.trans_new ht (by simp)
  clear HM HT hm ht
  have HM := hide hm2
  have HT := hide ht2
  clear hm2 ht2
  go_wp2_with fail
  refine (add_in _ _ _ _ _ 1 7 (-2) rfl HM.out).mono ?_
  rintro e w5 ⟨rfl, hm, ht⟩
  rw [w_a] at hm
  rw [w_a, w_b]
  have hm2 : Mem w5 (w.heap.size + 1) w.heap.size [0, 5, 0] 4 := by rw [w_4] at hm; exact hm
  have ht2 := HT.out.trans_new ht (by simp)
  clear HM HT hm ht
  have HM := hide hm2
  have HT := hide ht2
  clear hm2 ht2
  go_wp2_with fail
  refine (load_in _ _ _ _ _ 1 5 rfl HM.out).mono ?_
  rintro e w6 ⟨rfl, hm, ht⟩
  have hm2 : Mem w6 (w.heap.size + 1) w.heap.size [0, 5, 0] 5 := by rw [w_5] at hm; exact hm
  have ht2 := HT.out.trans_new ht (by simp)
  clear HM HT hm ht
  have HM := hide hm2
  have HT := hide ht2
  clear hm2 ht2
  go_wp2_with fail
  refine (load_out _ _ _ _ _ 3 (by simp) HM.out.c0).mono ?_
  rintro e w7 ⟨rfl, rfl⟩
  go_wp2_with fail
  refine (words_mem _ _ _ _ 0 9 _ (by simp) HM.out).mono ?_
  rw [show (List.drop (min (max 0 0) (([0, 5, 0] : List Int).length : Int)).toNat (List.take (min (max 9 0) (([0, 5, 0] : List Int).length : Int)).toNat [0, 5, 0])) = ([0, 5, 0] : List Int) from by decide]
  rintro e w8 ⟨v, rfl, hown, ht⟩
  obtain ⟨g, cap, rfl, hg, hg2, hcap, hcl, hfz⟩ := ownsRow_open hown (by decide)
  have hm2 := HM.out.turned ht (by simp) (by simp)
  have ht2 := HT.out.trans_new ht (by simp)
  have hc1 := hcl 1 5 rfl
  clear HM HT ht hown hcl hfz hg hg2 hcap
  have HM := hide hm2
  have HT := hide ht2
  clear hm2 ht2
  have hbs : ∀ w : World, (Instr.buildSlice 29 2 #[(0, .int .i64 1), (1, .int .i64 2)]).run Try.prog w = .ok (.slice (some ⟨w.heap.size, 0, none⟩) 2 2) (w.alloc (.cells #[.int .i64 1, .int .i64 2] 2)) := fun _ => by kernel_rfl
  go_wp2_with (first | (go_at_call 26; refine (steps_mem _ _ _ _ _ HM.out).mono ?_; rintro e wx ⟨rfl, rfl⟩) | (go_at_call 19; refine (put_out _ _ _ _ 2 _ 2 2 _ (by simp) (HM.out.alloc _).c0 (by simp)).mono ?_; rintro e wy ⟨rfl, rfl⟩) | (go_at_call 12; refine (len_mem _ _ _ _ _ (HM.out.alloc _)).mono ?_; rintro e wz ⟨rfl, rfl⟩))
  go_ret
  exact ⟨rfl, HT.out.alloc _⟩
end Go.Proofs.Ythkdikdhceibnaa
