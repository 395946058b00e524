/-
  GangNil: of no gang and no share nothing comes, and a zero one has no workers and no parts: true for every number of a worker.
-/
import Derived.Test.YtpaiehieddicmaaGangAwake
import Derived.Test.YtpaiehieddicmaaLawKit
namespace Go.Proofs.Ytpaiehieddicmaa
open Go.ChangeShapes Go.WideShapes Go.ChangeAt Go.RowKit
set_option linter.unusedVariables false

set_option maxRecDepth 100000 in
theorem garrive_zero (w : World) (p : Nat) (x : Int) (h : w.heap[p]? = some (.cells #[.slice none 0 0, .slice none 0 0, .int .i64 0] 49)) :
    Calls Try.prog 11 #[ptr p, .int .i64 x] w fun e w' => e = .returned (.tuple #[.bool false, .int .i64 17]) ∧ ∃ n, w' = w.drewN n := by
  have c0 : w.cell? ⟨p, 0, none⟩ = some (.slice none 0 0) := by rw [cell_of_heap h]; rfl
  have c1 : w.cell? ⟨p, 1, none⟩ = some (.slice none 0 0) := by rw [cell_of_heap h]; rfl
  have HC := hide (fun m => index_any (w.drewN m) none 0 0 [] x (IRd.nil _ _) (by omega))
  rw [show idxI [] x = -1 from rfl] at HC
  clear h
  unfold ptr
  go_enter Try.func11, Try.ntmps11
  go_wp2_with fail
  go_quiet ((go_at_call 23; exact Calls.quiet_of_same (HC.out _)))
  go_wp2_with fail
  go_ret2
  exact ⟨rfl, _, rfl⟩

set_option maxRecDepth 100000 in
theorem ggoes_zero (w : World) (p : Nat) (x : Int) (h : w.heap[p]? = some (.cells #[.slice none 0 0, .slice none 0 0, .int .i64 0] 49)) :
    Calls Try.prog 16 #[ptr p, .int .i64 x] w fun e w' => e = .returned (.bool false) ∧ ∃ n, w' = w.drewN n := by
  have c0 : w.cell? ⟨p, 0, none⟩ = some (.slice none 0 0) := by rw [cell_of_heap h]; rfl
  have c1 : w.cell? ⟨p, 1, none⟩ = some (.slice none 0 0) := by rw [cell_of_heap h]; rfl
  have HC := hide (fun m => contains_any (w.drewN m) none 0 0 [] x (IRd.nil _ _) (by omega))
  rw [show decide (x ∈ ([] : List Int)) = false by simp] at HC
  clear h
  unfold ptr
  go_enter Try.func16, Try.ntmps16
  go_wp2_with fail
  go_quiet ((go_at_call 26; exact Calls.quiet_of_same (HC.out _)))
  go_wp2_with fail
  go_ret
  exact ⟨rfl, _, rfl⟩

set_option maxHeartbeats 4000000 in
set_option maxRecDepth 100000 in
theorem gangNil_walk (t : Int) (w : World) (ht : (Lit.int .i64 t).wf = true) :
    Calls Try.prog 6 #[.int .i64 t] w fun e w' => e = .returned (.bool true) ∧ Turned [] w w' := by
  have HT := hide (((Turned.refl [] w).alloc (.cells #[.slice none 0 0, .slice none 0 0, .int .i64 0] 49)).alloc (.cells #[.pointer none, .int .i64 0, .int .i64 0] 51))
  have HZ := hide (show ((w.alloc (.cells #[.slice none 0 0, .slice none 0 0, .int .i64 0] 49)).alloc (.cells #[.pointer none, .int .i64 0, .int .i64 0] 51)).heap[w.heap.size]? = some (.cells #[.slice none 0 0, .slice none 0 0, .int .i64 0] 49) from by
    rw [Below.heap_alloc _ _ _ (by simp), heap_alloc_new])
  have HY := hide (show ((w.alloc (.cells #[.slice none 0 0, .slice none 0 0, .int .i64 0] 49)).alloc (.cells #[.pointer none, .int .i64 0, .int .i64 0] 51)).heap[w.heap.size + 1]? = some (.cells #[.pointer none, .int .i64 0, .int .i64 0] 51) from by
    have := heap_alloc_new (w.alloc (.cells #[.slice none 0 0, .slice none 0 0, .int .i64 0] 49)) (.cells #[.pointer none, .int .i64 0, .int .i64 0] 51)
    simpa using this)
  clear ht
  go_enter Try.func6, Try.ntmps6
  go_wp2_with fail
  generalize (w.alloc (.cells #[.slice none 0 0, .slice none 0 0, .int .i64 0] 49)).alloc (.cells #[.pointer none, .int .i64 0, .int .i64 0] 51) = w0 at *
  generalize w.heap.size + 1 = y at *
  generalize w.heap.size = z at *
  have KZ := hide (fun (w' : World) (h : Turned [] w0 w') => show w'.heap[z]? = some (.cells #[.slice none 0 0, .slice none 0 0, .int .i64 0] 49) from (h.block z (lt_of_heap HZ.out) (by simp)).trans HZ.out)
  have KY := hide (fun (w' : World) (h : Turned [] w0 w') => show w'.heap[y]? = some (.cells #[.pointer none, .int .i64 0, .int .i64 0] 51) from (h.block y (lt_of_heap HY.out) (by simp)).trans HY.out)
  clear HZ HY
  have HF := hide (garrive_nil w0 t)
  refine HF.out.mono ?_
  rintro e w1 ⟨rfl, hw⟩
  rw [hw]
  clear hw w1 HF
  have HF := hide (garrive_zero w0 z t (KZ.out _ (Turned.refl _ _)))
  unfold ptr at HF
  go_wp2_with fail
  refine HF.out.mono ?_
  rintro e w1 ⟨rfl, n1, hw⟩
  have T1 := hide (show Turned [] w0 w1 by rw [hw]; exact (Turned.refl _ _).drewN n1)
  clear hw HF
  have HF := hide (snext_none w1 (.pointer none) (.inl rfl))
  go_wp2_with fail
  refine HF.out.mono ?_
  rintro e w2 ⟨rfl, n2, hw⟩
  have T2 := hide (show Turned [] w0 w2 by rw [hw]; exact T1.out.drewN n2)
  clear hw HF T1
  have HF := hide (snext_none w2 (ptr y) (.inr ⟨y, rfl, KY.out _ T2.out⟩))
  unfold ptr at HF
  go_wp2_with fail
  refine HF.out.mono ?_
  rintro e w3 ⟨rfl, n3, hw⟩
  have T3 := hide (show Turned [] w0 w3 by rw [hw]; exact T2.out.drewN n3)
  clear hw HF T2
  have HF := hide (snew_nil w3 0 (by omega) 1)
  go_wp2_with fail
  refine HF.out.mono ?_
  rintro e w4 ⟨rfl, hw⟩
  rw [hw]
  clear hw w4 HF
  have T4 := hide (T3.out.alloc (.cells #[.int .i64 1] 3))
  have HF := hide (sreset_none (w3.alloc (.cells #[.int .i64 1] 3)) (.pointer none) (.slice (some ⟨w3.heap.size, 0, none⟩) 1 1) (.inl rfl))
  clear T3
  go_wp2_with fail
  refine HF.out.mono ?_
  rintro e w5 ⟨rfl, n5, hw⟩
  have T5 := hide (show Turned [] w0 w5 by rw [hw]; exact T4.out.drewN n5)
  clear hw HF T4
  have T6 := hide (T5.out.alloc (.cells #[.int .i64 1] 3))
  have HF := hide (sreset_none (w5.alloc (.cells #[.int .i64 1] 3)) (ptr y) (.slice (some ⟨w5.heap.size, 0, none⟩) 1 1) (.inr ⟨y, rfl, KY.out _ T6.out⟩))
  unfold ptr at HF
  clear T5
  go_wp2_with fail
  refine HF.out.mono ?_
  rintro e w7 ⟨rfl, n7, hw⟩
  have T7 := hide (show Turned [] w0 w7 by rw [hw]; exact T6.out.drewN n7)
  clear hw HF T6
  have HF := hide (awake_any w7)
  go_wp2_with fail
  refine HF.out.mono ?_
  rintro e w8 ⟨rfl, t8⟩
  have T8 := hide (T7.out.trans t8)
  clear t8 HF T7
  have HF := hide (gphase_nil w8)
  go_wp2_with fail
  refine HF.out.mono ?_
  rintro e w9 ⟨rfl, hw⟩
  rw [hw]
  clear hw w9 HF
  have HF := hide (gwaits_nil w8)
  go_wp2_with fail
  refine HF.out.mono ?_
  rintro e w9 ⟨rfl, hw⟩
  rw [hw]
  clear hw w9 HF
  have HF := hide (staken_none w8 (.pointer none) (.inl rfl))
  go_wp2_with fail
  refine HF.out.mono ?_
  rintro e w10 ⟨rfl, n10, hw⟩
  have T10 := hide (show Turned [] w0 w10 by rw [hw]; exact T8.out.drewN n10)
  clear hw HF T8
  have HF := hide (staken_none w10 (ptr y) (.inr ⟨y, rfl, KY.out _ T10.out⟩))
  unfold ptr at HF
  go_wp2_with fail
  refine HF.out.mono ?_
  rintro e w11 ⟨rfl, n11, hw⟩
  have T11 := hide (show Turned [] w0 w11 by rw [hw]; exact T10.out.drewN n11)
  clear hw HF T10
  have HF := hide (ggoes_nil w11 t)
  go_wp2_with fail
  refine HF.out.mono ?_
  rintro e w12 ⟨rfl, n12, hw⟩
  have T12 := hide (show Turned [] w0 w12 by rw [hw]; exact T11.out.drewN n12)
  clear hw HF T11
  have HF := hide (ggoes_zero w12 z t (KZ.out _ T12.out))
  unfold ptr at HF
  go_wp2_with fail
  refine HF.out.mono ?_
  rintro e w13 ⟨rfl, n13, hw⟩
  have T13 := hide (show Turned [] w w13 by rw [hw]; exact (HT.out.trans T12.out).drewN n13)
  clear hw HF T12
  go_wp2_with fail
  go_ret
  exact ⟨rfl, T13.out⟩

set_option maxRecDepth 100000 in
theorem gangNil_lifted (os : Os) (started : os.Started) (H : Type) (enc : TypeId × Value → H) :
    ReturnsInHanded {} Try.checked os 6 .any (Rows.gangNilSpec.pre6 enc Try.prog Try.f6 Rows.gangNilRow.domain false) (Rows.gangNilSpec.post enc Try.prog Try.f6 false true false false) := by
  refine returnsInHanded_of_change (C := Try.checked) own started (by kernel_rfl) Try.func6
    (ChangeSpec.witness6 (enc := enc) (C := Try.checked) false ⟨#[], #[.int .i64 0], []⟩ 8 (by kernel_rfl) (by kernel_rfl) (by kernel_rfl) (by kernel_rfl)) ?_
  intro W base args ds gs before hval0 hW hcnd _
  have hval : ∀ (j : Nat) t v, Try.f6.params[j]? = some t → args[j]? = some v → Value.okWide Try.prog W .any base t v := hval0
  have hW' := hW
  obtain ⟨p, q, hA0, hV, rfl, hfz, hnd⟩ := hW
  have hA : DataW.TrodAll enc Try.prog W 0 (fun _ => true) true Try.f6.params.toList args.toList ds p := hA0
  rw [Try.params6] at hA hval
  obtain ⟨v0, vs0, d0, ds0, p0, q0, hargs, rfl, rfl, h0, r0⟩ := trodAll_cons hA
  obtain ⟨rfl, rfl, rfl⟩ := trodAll_nil r0
  obtain rfl : args = #[v0] := by cases args; simp_all
  obtain ⟨rfl, rfl⟩ := trodVars_none hV
  obtain ⟨a0, rfl, rfl, rfl, w0⟩ := open_int Try.underlying3 (hval 0 3 v0 rfl rfl) h0
  clear hA0 hval0
  refine (gangNil_walk a0 W w0).mono fun e W' ⟨he, ht⟩ => ?_
  subst he
  have bel : Below W.heap.size W W' := ht.below0
  exact ⟨_, rfl, _, _, _, [], _, [], hW', trodAll_mk1 (shut_bool Try.underlying4 _), (trodAll_cons_mk (shut_int Try.underlying3 w0) trodAll_mk0), rfl, bel.frame _, fun h => by cases h⟩

theorem gangNil_over : Rows.gangNilRow.holds Try.pinned (OpenSpec.ofChange Rows.gangNilSpec) :=
  OpenClaim.holds_of_wide 6 Try.f6 rfl rfl rfl rfl rfl rfl rfl ⟨rfl, rfl, rfl, rfl, rfl⟩ rfl rfl rfl rfl rfl (by kernel_rfl) Try.func6 (by kernel_rfl)
    (of_decide_eq_true (by kernel_rfl)) (by unfold Func.isWrapper; first | (rw [if_pos (by decide +kernel)]; kernel_rfl) | (rw [if_neg (by decide +kernel)]; exact ⟨rfl, rfl⟩))
    (fun os started H enc _ => gangNil_lifted os started H enc)

theorem gangNil_holds : Rows.GangNilSaid := gangNil_over
end Go.Proofs.Ytpaiehieddicmaa
