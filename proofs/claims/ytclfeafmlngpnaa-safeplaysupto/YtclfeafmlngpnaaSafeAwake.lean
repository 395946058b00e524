/-
  awake tells true.
-/
import Derived.Test.YtclfeafmlngpnaaSafeLaw
namespace Go.Proofs.Ytclfeafmlngpnaa
open Go.RowKit Go.Maps
set_option linter.unusedVariables false

theorem in64_small {x : Int} (h : 0 ≤ x ∧ x ≤ 100) : In64 x := by unfold In64; omega

set_option maxRecDepth 100000 in
theorem awake_any (w : World) : Calls Try.prog 8 #[] w fun e w' => e = .returned (.bool true) ∧ Turned [] w w' := by
  have HN := hide (sn_new w w (Turned.refl _ _))
  unfold ptr at HN
  go_enter Try.func8, Try.ntmps8
  go_wp2_with fail
  refine HN.out.mono ?_
  rintro e w1 ⟨rfl, h1, t1⟩
  generalize w.heap.size = a at *
  have HA := hide (sn_add (h1.next ((Turned.refl [] w1).alloc (.cells #[.int .i64 1, .int .i64 2, .int .i64 3] 3))) (some ⟨w1.heap.size, 0, none⟩) 3 3 [1, 2, 3] (ird_new w1 [1, 2, 3] (fun x hx => in64_small (by simp at hx; omega))) (by simp))
  rw [show addR false [] [1, 2, 3] = ([(1, 1), (2, 1), (3, 1)], 3) by decide] at HA
  unfold ptr at HA
  clear h1 t1 HN
  go_wp2_with fail
  refine HA.out.mono ?_
  rintro e w2 ⟨rfl, h2, -⟩
  have HA2 := hide (sn_hold h2 3 (in64_small (by omega)))
  rw [show mustE (st ([(1, 1), (2, 1), (3, 1)], 3).1 3) 1 = 0 by decide, show holdL ([(1, 1), (2, 1), (3, 1)], 3).1 3 = [(1, 1), (2, 1), (3, 3)] by decide] at HA2
  unfold ptr at HA2
  clear h2 HA
  go_wp2_with fail
  refine HA2.out.mono ?_
  rintro e w3 ⟨rfl, h3, -⟩
  have HA3 := hide (sn_arm h3)
  unfold ptr at HA3
  clear h3 HA2
  go_wp2_with fail
  refine HA3.out.mono ?_
  rintro e w4 ⟨rfl, h4, -⟩
  have HA4 := hide (sn_poll h4 1 (in64_small (by omega)))
  rw [show polls [(1, 1), (2, 1), (3, 3)] true 1 = true by decide, show pollL [(1, 1), (2, 1), (3, 3)] true 1 = [(1, 2), (2, 1), (3, 3)] by decide] at HA4
  unfold ptr at HA4
  clear h4 HA3
  go_wp2_with fail
  refine HA4.out.mono ?_
  rintro e w5 ⟨rfl, h5, -⟩
  have HA5 := hide (sn_reached h5)
  rw [show reach [(1, 2), (2, 1), (3, 3)] true = false by decide] at HA5
  unfold ptr at HA5
  clear h5 HA4
  go_wp2_with fail
  refine HA5.out.mono ?_
  rintro e w6 ⟨rfl, h6, -⟩
  have HA6 := hide (sn_poll h6 2 (in64_small (by omega)))
  rw [show polls [(1, 2), (2, 1), (3, 3)] true 2 = true by decide, show pollL [(1, 2), (2, 1), (3, 3)] true 2 = [(1, 2), (2, 2), (3, 3)] by decide] at HA6
  unfold ptr at HA6
  clear h6 HA5
  go_wp2_with fail
  refine HA6.out.mono ?_
  rintro e w7 ⟨rfl, h7, -⟩
  have HA7 := hide (sn_reached h7)
  rw [show reach [(1, 2), (2, 2), (3, 3)] true = true by decide] at HA7
  unfold ptr at HA7
  clear h7 HA6
  go_wp2_with fail
  refine HA7.out.mono ?_
  rintro e w8 ⟨rfl, h8, -⟩
  have HA8 := hide (sn_free h8 3 (in64_small (by omega)))
  rw [show (decide (st [(1, 2), (2, 2), (3, 3)] 3 = 3) && !true) = false by decide, show mustE (st [(1, 2), (2, 2), (3, 3)] 3) 3 = 0 by decide, show freeL [(1, 2), (2, 2), (3, 3)] true 3 = [(1, 2), (2, 2), (3, 2)] by decide] at HA8
  unfold ptr at HA8
  clear h8 HA7
  go_wp2_with fail
  refine HA8.out.mono ?_
  rintro e w9 ⟨rfl, h9, -⟩
  have HA9 := hide (sn_resume h9)
  rw [show resumeT [(1, 2), (2, 2), (3, 2)] true = [1, 2, 3] by decide, show resumeL [(1, 2), (2, 2), (3, 2)] true = [(1, 1), (2, 1), (3, 1)] by decide, show resumeA [(1, 2), (2, 2), (3, 2)] true = false by decide] at HA9
  unfold ptr at HA9
  clear h9 HA8
  go_wp2_with fail
  refine HA9.out.mono ?_
  rintro e w10 ⟨v, rfl, hr, h10, -⟩
  obtain ⟨g, cap, rfl, -, -, -, hc, -⟩ := ownsRow_open hr (by simp)
  have hc2 := hc 2 (.int .i64 3) rfl
  have HS1 := hide (sn_state h10 3 (in64_small (by omega)))
  rw [show st [(1, 1), (2, 1), (3, 1)] 3 = 1 by decide] at HS1
  have HS2 := hide (sn_armed h10)
  have HT := hide h10.turn
  unfold ptr at HS1 HS2
  clear hr h10 HA9 hc
  go_wp2_with fail
  refine HS1.out.mono ?_
  rintro e w11 ⟨rfl, hw⟩
  rw [hw]
  clear hw w11
  go_wp2_with fail
  refine HS2.out.mono ?_
  rintro e w11 ⟨rfl, hw⟩
  rw [hw]
  clear hw w11
  go_wp2_with fail
  go_ret
  exact ⟨rfl, HT.out⟩
end Go.Proofs.Ytclfeafmlngpnaa
