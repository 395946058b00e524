/-
  SafeNil: of no safepoint nothing comes, and a zero one has no threads: true for every number of a thread.
-/
import Derived.Test.YtclfeafmlngpnaaSafeAwake
import Derived.Test.YtclfeafmlngpnaaLawKit
namespace Go.Proofs.Ytclfeafmlngpnaa
open Go.ChangeShapes Go.WideShapes Go.ChangeAt Go.RowKit Go.Maps
set_option linter.unusedVariables false

set_option maxHeartbeats 4000000 in
set_option maxRecDepth 100000 in
theorem safeNil_walk (t : Int) (w : World) (ht : (Lit.int .i64 t).wf = true) :
    Calls Try.prog 5 #[.int .i64 t] w fun e w' => e = .returned (.bool true) ∧ Turned [] w w' := by
  have h64 : In64 t := wf_range ht
  have hz : Sn w (w.alloc (.cells #[.map none, .bool false] 48)) w.heap.size [] false := ⟨none, ⟨heap_alloc_new _ _, Ok.nil, by simp, fun b hb => (by cases hb), fun _ => rfl⟩, (Turned.refl _ _).alloc _, Nat.le_refl _, fun b hb => by cases hb⟩
  have HZ := hide hz
  clear hz ht
  go_enter Try.func5, Try.ntmps5
  go_wp2_with fail
  generalize w.alloc (.cells #[.map none, .bool false] 48) = w0 at *
  generalize w.heap.size = a at *
  have HF := hide (free_nil w0 t)
  refine HF.out.mono ?_
  rintro e w1 ⟨rfl, hw⟩
  rw [hw]
  clear hw w1 HF
  have HF := hide (sn_free HZ.out t h64)
  rw [show st [] t = 0 from rfl, show mustE 0 3 = 17 by decide, show (decide ((0 : Int) = 3) && !false) = false by decide, show freeL [] false t = [] by simp [freeL, st]] at HF
  unfold ptr at HF
  go_wp2_with fail
  refine HF.out.mono ?_
  rintro e w1 ⟨rfl, h1, -⟩
  have H1 := hide h1
  have HA := hide (awake_any w1)
  clear h1 HF HZ
  go_wp2_with fail
  refine HA.out.mono ?_
  rintro e w2 ⟨rfl, t2⟩
  have H2 := hide (H1.out.next (t2.alloc (.cells #[.int .i64 t] 3)))
  clear t2 HA H1
  have HB := hide (add_nil (w2.alloc (.cells #[.int .i64 t] 3)) (.slice (some ⟨w2.heap.size, 0, none⟩) 1 1))
  go_wp2_with fail
  refine HB.out.mono ?_
  rintro e w3 ⟨rfl, t3⟩
  have H3 := hide (H2.out.next (t3.alloc (.cells #[.int .i64 t] 3)))
  have HB := hide (end_nil (w3.alloc (.cells #[.int .i64 t] 3)) (some ⟨w3.heap.size, 0, none⟩) 1 1 [t] (one_new w3 t h64) (by omega))
  clear t3 H2
  go_wp2_with fail
  refine HB.out.mono ?_
  rintro e w4 ⟨rfl, t4⟩
  have H4 := hide (H3.out.next t4)
  have HB := hide (state_nil w4 t)
  clear t4 H3
  go_wp2_with fail
  refine HB.out.mono ?_
  rintro e w5 ⟨rfl, hw⟩
  rw [hw]
  clear hw w5
  have HB := hide (in_nil w4 0)
  go_wp2_with fail
  refine HB.out.mono ?_
  rintro e w5 ⟨rfl, hw⟩
  rw [hw]
  clear hw w5
  have HB := hide (resume_nil w4)
  go_wp2_with fail
  refine HB.out.mono ?_
  rintro e w5 ⟨rfl, hw⟩
  rw [hw]
  clear hw w5
  have HB := hide (poll_nil w4 t)
  go_wp2_with fail
  refine HB.out.mono ?_
  rintro e w5 ⟨rfl, hw⟩
  rw [hw]
  clear hw w5
  have HB := hide (arm_nil w4)
  go_wp2_with fail
  refine HB.out.mono ?_
  rintro e w5 ⟨rfl, hw⟩
  rw [hw]
  clear hw w5
  have HB := hide (armed_nil w4)
  go_wp2_with fail
  refine HB.out.mono ?_
  rintro e w5 ⟨rfl, hw⟩
  rw [hw]
  clear hw w5
  have HB := hide (reached_nil w4)
  go_wp2_with fail
  refine HB.out.mono ?_
  rintro e w5 ⟨rfl, hw⟩
  rw [hw]
  clear hw w5
  have HB := hide (hold_nil w4 t)
  go_wp2_with fail
  refine HB.out.mono ?_
  rintro e w5 ⟨rfl, hw⟩
  rw [hw]
  clear hw w5
  have HP := hide (sn_poll H4.out t h64)
  rw [show polls [] false t = false by simp [polls], show pollL [] false t = [] by simp [pollL, polls]] at HP
  unfold ptr at HP
  go_wp2_with fail
  refine HP.out.mono ?_
  rintro e w5 ⟨rfl, h5, -⟩
  have HC := hide (sn_add (h5.next ((Turned.refl [] w5).alloc (.cells #[.int .i64 t] 3))) (some ⟨w5.heap.size, 0, none⟩) 1 1 [t] (one_new w5 t h64) (by simp))
  rw [show ((addR false [] [t]).2 : Int) = 1 by simp [addR, cntR, cntF, isNew, st]] at HC
  unfold ptr at HC
  clear h5 HP H4
  go_wp2_with fail
  refine HC.out.mono ?_
  rintro e w6 ⟨rfl, h6, -⟩
  have HT := hide h6.turn
  clear h6 HC
  go_wp2_with fail
  go_ret
  exact ⟨rfl, HT.out⟩

set_option maxRecDepth 100000 in
theorem safeNil_lifted (os : Os) (started : os.Started) (H : Type) (enc : TypeId × Value → H) :
    ReturnsInHanded {} Try.checked os 5 .any (Rows.safeNilSpec.pre6 enc Try.prog Try.f5 Rows.safeNilRow.domain false) (Rows.safeNilSpec.post enc Try.prog Try.f5 false true false false) := by
  refine returnsInHanded_of_change (C := Try.checked) own started (by kernel_rfl) Try.func5
    (ChangeSpec.witness6 (enc := enc) (C := Try.checked) false ⟨#[], #[.int .i64 0], []⟩ 8 (by kernel_rfl) (by kernel_rfl) (by kernel_rfl) (by kernel_rfl)) ?_
  intro W base args ds gs before hval0 hW hcnd _
  have hval : ∀ (j : Nat) t v, Try.f5.params[j]? = some t → args[j]? = some v → Value.okWide Try.prog W .any base t v := hval0
  have hW' := hW
  obtain ⟨p, q, hA0, hV, rfl, hfz, hnd⟩ := hW
  have hA : DataW.TrodAll enc Try.prog W 0 (fun _ => true) true Try.f5.params.toList args.toList ds p := hA0
  rw [Try.params5] at hA hval
  obtain ⟨v0, vs0, d0, ds0, p0, q0, hargs, rfl, rfl, h0, r0⟩ := trodAll_cons hA
  obtain ⟨rfl, rfl, rfl⟩ := trodAll_nil r0
  obtain rfl : args = #[v0] := by cases args; simp_all
  obtain ⟨rfl, rfl⟩ := trodVars_none hV
  obtain ⟨a0, rfl, rfl, rfl, w0⟩ := open_int Try.underlying3 (hval 0 3 v0 rfl rfl) h0
  clear hA0 hval0
  refine (safeNil_walk a0 W w0).mono fun e W' ⟨he, ht⟩ => ?_
  subst he
  have bel : Below W.heap.size W W' := ht.below0
  exact ⟨_, rfl, _, _, _, [], _, [], hW', trodAll_mk1 (shut_bool Try.underlying4 _), (trodAll_cons_mk (shut_int Try.underlying3 w0) trodAll_mk0), rfl, bel.frame _, fun h => by cases h⟩

theorem safeNil_over : Rows.safeNilRow.holds Try.pinned (OpenSpec.ofChange Rows.safeNilSpec) :=
  OpenClaim.holds_of_wide 5 Try.f5 rfl rfl rfl rfl rfl rfl rfl ⟨rfl, rfl, rfl, rfl, rfl⟩ rfl rfl rfl rfl rfl (by kernel_rfl) Try.func5 (by kernel_rfl)
    (of_decide_eq_true (by kernel_rfl)) (by unfold Func.isWrapper; first | (rw [if_pos (by decide +kernel)]; kernel_rfl) | (rw [if_neg (by decide +kernel)]; exact ⟨rfl, rfl⟩))
    (fun os started H enc _ => safeNil_lifted os started H enc)

theorem safeNil_holds : Rows.SafeNilSaid := safeNil_over
end Go.Proofs.Ytclfeafmlngpnaa
