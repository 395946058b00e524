/-
  SumsNil: of no object nothing comes (Result ErrArg, Step End, Done true); New needs a memory with a cell. Whatever the number of the worker.
-/
import Derived.Test.YtdjeilombaclmaaSumsAwake
namespace Go.Proofs.Ytdjeilombaclmaa
open Go.ChangeShapes Go.WideShapes Go.ChangeAt Go.RowKit
set_option linter.unusedVariables false

theorem snew_short (w : World) (p q : Nat) (s : Int) (pt : Int) (h : Mem w p q [] s) :
    Calls Try.prog 21 #[.pointer (some ⟨p, 0, none⟩), .int .i64 0, .int .i64 pt] w fun e w' => e = .returned (.tuple #[.pointer none, .int .i64 1]) ∧ w' = w := by
  have HL := hide (len_mem p q [] s w h)
  clear h
  go_enter Try.func21, Try.ntmps21
  go_wp2_with fail
  refine HL.out.mono ?_
  rintro e w' ⟨rfl, rfl⟩
  go_wp2_with fail
  go_ret2
  exact ⟨rfl, rfl⟩

set_option maxRecDepth 100000 in
/-- Without a cell. -/
theorem snew_bad3 (w : World) (cv : Value) (hc : ∀ w', Turned [] w w' → Calls Try.prog 21 #[cv, .int .i64 0, .int .i64 0] w' fun e w'' => e = .returned (.tuple #[.pointer none, .int .i64 1]) ∧ w'' = w') :
    Calls Try.prog 13 #[cv, .slice none 0 0, .int .i64 1, .int .i64 1] w fun e w' => e = .returned (.tuple #[.pointer none, .int .i64 1]) ∧ Turned [] w w' := by
  have HG := hide (gnew_ok 1 (by omega) (by omega) w)
  rw [show ((1 : Nat) : Int) = 1 from rfl] at HG
  unfold ptr at HG
  have HC := hide hc
  clear hc
  go_enter Try.func13, Try.ntmps13
  go_wp2_with fail
  refine HG.out.mono ?_
  rintro e w1 ⟨rfl, -, t1⟩
  have T1 := hide t1
  have HC1 := hide (HC.out w1 t1)
  clear HG t1 HC
  go_wp2_with fail
  refine HC1.out.mono ?_
  rintro e w2 ⟨rfl, rfl⟩
  go_wp2_with fail
  go_ret2
  exact ⟨rfl, T1.out⟩

set_option maxRecDepth 100000 in
theorem sumsNil_walk (t : Int) (w : World) (ht : (Lit.int .i64 t).wf = true) :
    Calls Try.prog 5 #[.int .i64 t] w fun e w' => e = .returned (.bool true) ∧ Turned [] w w' := by
  have HF := hide (sresult_nil w)
  go_enter Try.func5, Try.ntmps5
  go_wp2_with fail
  refine HF.out.mono ?_
  rintro e w1 ⟨rfl, rfl⟩
  clear HF
  have HF := hide (snew_bad3 w1 (.pointer none) (fun w' _ => snew_nil w' 0 (by omega) 0))
  go_wp2_with fail
  refine HF.out.mono ?_
  rintro e w2 ⟨rfl, t2⟩
  have T2 := hide t2
  clear HF t2
  have HC := hide (new_any 0 w2)
  rw [show (min (max (0 : Int) 0) 65536).toNat = 0 by decide] at HC
  go_wp2_with fail
  refine HC.out.mono ?_
  rintro e w3 ⟨rfl, hM, t3, -⟩
  have HF := hide (snew_bad3 w3 (.pointer (some ⟨w2.heap.size + 1, 0, none⟩)) (fun w' t => snew_short w' _ _ 0 0 (hM.turned t (by simp) (by simp))))
  have T3 := hide (T2.out.trans t3)
  clear hM t3 T2 HC
  go_wp2_with fail
  refine HF.out.mono ?_
  rintro e w4 ⟨rfl, t4⟩
  have T4 := hide (T3.out.trans t4)
  clear HF t4 T3
  have HF := hide (awake12 w4)
  go_wp2_with fail
  refine HF.out.mono ?_
  rintro e w5 ⟨rfl, t5⟩
  have T5 := hide (T4.out.trans t5)
  clear HF t5 T4
  have HF := hide (sstep_nil w5 t)
  go_wp2_with fail
  refine HF.out.mono ?_
  rintro e w6 ⟨rfl, rfl⟩
  clear HF
  have HF := hide (sdone_nil w6)
  go_wp2_with fail
  refine HF.out.mono ?_
  rintro e w7 ⟨rfl, rfl⟩
  clear HF
  go_wp2_with fail
  go_ret
  exact ⟨rfl, T5.out⟩

set_option maxRecDepth 100000 in
theorem sumsNil_lifted (os : Os) (started : os.Started) (H : Type) (enc : TypeId × Value → H) :
    ReturnsInHanded {} Try.checked os 5 .any (Rows.sumsNilSpec.pre6 enc Try.prog Try.f5 Rows.sumsNilRow.domain false) (Rows.sumsNilSpec.post enc Try.prog Try.f5 false true false false) := by
  refine returnsInHanded_of_change (C := Try.checked) own started (by kernel_rfl) Try.func5
    (ChangeSpec.witness6 (enc := enc) (C := Try.checked) false ⟨#[], #[.int .i64 0], []⟩ 8 (by kernel_rfl) (by kernel_rfl) (by kernel_rfl) (by kernel_rfl)) ?_
  intro W base args ds gs before hval0 hW hcnd _
  have hval : ∀ (j : Nat) t v, Try.f5.params[j]? = some t → args[j]? = some v → Value.okWide Try.prog W .any base t v := hval0
  have hW' := hW
  obtain ⟨p, q, hA0, hV, rfl, hfz, hnd⟩ := hW
  have hA : DataW.TrodAll enc Try.prog W 0 (fun _ => true) true Try.f5.params.toList args.toList ds p := hA0
  rw [Try.params5] at hA hval
  obtain ⟨v0, vs0, d0, ds0, p0, q0, hargs, rfl, rfl, h0, r0⟩ := trodAll_cons hA
  obtain ⟨rfl, rfl, rfl⟩ := trodAll_nil r0
  obtain rfl : args = #[v0] := by cases args; simp_all
  obtain ⟨rfl, rfl⟩ := trodVars_none hV
  obtain ⟨a0, rfl, rfl, rfl, w0⟩ := open_int Try.underlying3 (hval 0 3 v0 rfl rfl) h0
  clear hA0 hval0
  refine (sumsNil_walk a0 W w0).mono fun e W' ⟨he, ht⟩ => ?_
  subst he
  have bel : Below W.heap.size W W' := ht.below0
  exact ⟨_, rfl, _, _, _, [], _, [], hW', trodAll_mk1 (shut_bool Try.underlying4 _), (trodAll_cons_mk (shut_int Try.underlying3 w0) trodAll_mk0), rfl, bel.frame _, fun h => by cases h⟩

theorem sumsNil_over : Rows.sumsNilRow.holds Try.pinned (OpenSpec.ofChange Rows.sumsNilSpec) :=
  OpenClaim.holds_of_wide 5 Try.f5 rfl rfl rfl rfl rfl rfl rfl ⟨rfl, rfl, rfl, rfl, rfl⟩ rfl rfl rfl rfl rfl (by kernel_rfl) Try.func5 (by kernel_rfl)
    (of_decide_eq_true (by kernel_rfl)) (by unfold Func.isWrapper; first | (rw [if_pos (by decide +kernel)]; kernel_rfl) | (rw [if_neg (by decide +kernel)]; exact ⟨rfl, rfl⟩))
    (fun os started H enc _ => sumsNil_lifted os started H enc)

theorem sumsNil_holds : Rows.SumsNilSaid := sumsNil_over
end Go.Proofs.Ytdjeilombaclmaa
