/-
  The statement ClassesHeaders is proved: for every two numbers and every word the law returns true; no condition.
-/
import Derived.Test.YtcnclecdainneaaClassesAwake
import Derived.Test.YtcnclecdainneaaLawKit
namespace Go.Proofs.Ytcnclecdainneaa
open Go.RowKit Go.ChangeShapes Go.WideShapes Go.ChangeAt
set_option linter.unusedVariables false

theorem parts_head (k n : Int) (w : World) :
    Calls Try.prog 21 #[.int .i64 (headOf k n)] w fun e w' => e = .returned (.tuple #[.int .i64 (bits .and .i64 k 16777215), .int .i64 (bits .and .i64 n 4294967295), .bool true]) ∧ w' = w := by
  have e1 : partC (headOf k n) = k % 16777216 := by unfold partC headOf; omega
  have e2 : partL (headOf k n) = n % 4294967296 := by unfold partL headOf; omega
  have h1 := parts_yes (headOf k n) w (by unfold isHead; rw [e1, e2]; unfold headOf; simp)
  rw [e1, e2] at h1
  rw [and24, and32]
  exact h1

set_option maxRecDepth 100000 in
theorem classesHeaders_walk (k n h : Int) (w : World) (hwk : (Lit.int .i64 k).wf = true) (hwn : (Lit.int .i64 n).wf = true) (hwh : (Lit.int .i64 h).wf = true) :
    Calls Try.prog 4 #[.int .i64 k, .int .i64 n, .int .i64 h] w fun e w' => e = .returned (.bool true) ∧ Turned [] w w' := by
  clear hwk hwn hwh
  have H1 := hide (fun w => header_any k n w)
  have H2 := hide (fun w => parts_head k n w)
  have H3 := hide (fun w => rheader_any k n w)
  generalize headOf k n = y at *
  cases hh : isHead h with
  | true =>
    have H4 := hide (fun w => parts_yes h w hh)
    have H5 := hide (fun w => rparts_yes h w hh)
    have H6 := hide (fun w => header_any (partC h) (partL h) w)
    rw [show headOf (partC h) (partL h) = h by simpa [isHead] using hh] at H6
    generalize partC h = a at *
    generalize partL h = b at *
    clear hh
    go_enter Try.func4, Try.ntmps4
    go_wp2_with fail
    refine (awake_true _).mono ?_
    rintro e w1 ⟨rfl, ht1⟩
    have HT := hide ht1
    clear ht1
    go_wp2_with fail
    refine (H1.out _).mono ?_
    rintro e w2 ⟨rfl, rfl⟩
    go_wp2_with fail
    refine (H2.out _).mono ?_
    rintro e w3 ⟨rfl, rfl⟩
    go_wp2_with fail
    refine (H4.out _).mono ?_
    rintro e w4 ⟨rfl, rfl⟩
    go_wp2_with fail
    refine (H5.out _).mono ?_
    rintro e w5 ⟨rfl, rfl⟩
    go_wp2_with fail
    refine (H3.out _).mono ?_
    rintro e w6 ⟨rfl, rfl⟩
    go_wp2_with fail
    refine (H6.out _).mono ?_
    rintro e w7 ⟨rfl, rfl⟩
    go_wp2_with fail
    go_ret
    exact ⟨rfl, HT.out⟩
  | false =>
    have H4 := hide (fun w => parts_no h w hh)
    have H5 := hide (fun w => rparts_no h w hh)
    clear hh
    go_enter Try.func4, Try.ntmps4
    go_wp2_with fail
    refine (awake_true _).mono ?_
    rintro e w1 ⟨rfl, ht1⟩
    have HT := hide ht1
    clear ht1
    go_wp2_with fail
    refine (H1.out _).mono ?_
    rintro e w2 ⟨rfl, rfl⟩
    go_wp2_with fail
    refine (H2.out _).mono ?_
    rintro e w3 ⟨rfl, rfl⟩
    go_wp2_with fail
    refine (H4.out _).mono ?_
    rintro e w4 ⟨rfl, rfl⟩
    go_wp2_with fail
    refine (H5.out _).mono ?_
    rintro e w5 ⟨rfl, rfl⟩
    go_wp2_with fail
    refine (H3.out _).mono ?_
    rintro e w6 ⟨rfl, rfl⟩
    go_wp2_with fail
    go_ret
    exact ⟨rfl, HT.out⟩

set_option maxRecDepth 100000 in
theorem classesHeaders_lifted (os : Os) (started : os.Started) (H : Type) (enc : TypeId × Value → H) :
    ReturnsInHanded {} Try.checked os 4 .any (Rows.classesHeadersSpec.pre6 enc Try.prog Try.f4 Rows.classesHeadersRow.domain false) (Rows.classesHeadersSpec.post enc Try.prog Try.f4 false true false false) := by
  refine returnsInHanded_of_change (C := Try.checked) own started (by kernel_rfl) Try.func4
    (ChangeSpec.witness6 (enc := enc) (C := Try.checked) false ⟨#[], #[.int .i64 0, .int .i64 0, .int .i64 0], []⟩ 8 (by kernel_rfl) (by kernel_rfl) (by kernel_rfl) (by kernel_rfl)) ?_
  intro W base args ds gs before hval0 hW hcnd _
  have hval : ∀ (j : Nat) t v, Try.f4.params[j]? = some t → args[j]? = some v → Value.okWide Try.prog W .any base t v := hval0
  have hW' := hW
  obtain ⟨p, q, hA0, hV, rfl, hfz, hnd⟩ := hW
  have hA : DataW.TrodAll enc Try.prog W 0 (fun _ => true) true Try.f4.params.toList args.toList ds p := hA0
  rw [Try.params4] at hA hval
  obtain ⟨v0, vs0, d0, ds0, p0, q0, hargs, rfl, rfl, h0, r0⟩ := trodAll_cons hA
  obtain ⟨v1, vs1, d1, ds1, p1, q1, rfl, rfl, rfl, h1, r1⟩ := trodAll_cons r0
  obtain ⟨v2, vs2, d2, ds2, p2, q2, rfl, rfl, rfl, h2, r2⟩ := trodAll_cons r1
  obtain ⟨rfl, rfl, rfl⟩ := trodAll_nil r2
  obtain rfl : args = #[v0, v1, v2] := by cases args; simp_all
  obtain ⟨rfl, rfl⟩ := trodVars_none hV
  obtain ⟨a0, rfl, rfl, rfl, w0⟩ := open_int Try.underlying3 (hval 0 3 v0 rfl rfl) h0
  obtain ⟨a1, rfl, rfl, rfl, w1⟩ := open_int Try.underlying3 (hval 1 3 v1 rfl rfl) h1
  obtain ⟨a2, rfl, rfl, rfl, w2⟩ := open_int Try.underlying2 (hval 2 2 v2 rfl rfl) h2
  clear hA0 hval0
  refine (classesHeaders_walk a0 a1 a2 W w0 w1 w2).mono fun e W' ⟨he, ht⟩ => ?_
  subst he
  have bel : Below W.heap.size W W' := ht.below0
  exact ⟨_, rfl, _, _, _, [], _, [], hW', trodAll_mk1 (shut_bool Try.underlying4 _), (trodAll_cons_mk (shut_int Try.underlying3 w0) (trodAll_cons_mk (shut_int Try.underlying3 w1) (trodAll_cons_mk (shut_int Try.underlying2 w2) trodAll_mk0))), rfl, bel.frame _, fun h => by cases h⟩

theorem classesHeaders_over : Rows.classesHeadersRow.holds Try.pinned (OpenSpec.ofChange Rows.classesHeadersSpec) :=
  OpenClaim.holds_of_wide 4 Try.f4 rfl rfl rfl rfl rfl rfl rfl ⟨rfl, rfl, rfl, rfl, rfl⟩ rfl rfl rfl rfl rfl (by kernel_rfl) Try.func4 (by kernel_rfl)
    (of_decide_eq_true (by kernel_rfl)) (by unfold Func.isWrapper; first | (rw [if_pos (by decide +kernel)]; kernel_rfl) | (rw [if_neg (by decide +kernel)]; exact ⟨rfl, rfl⟩))
    (fun os started H enc _ => classesHeaders_lifted os started H enc)

theorem classesHeaders_holds : Rows.ClassesHeadersSaid := classesHeaders_over
end Go.Proofs.Ytcnclecdainneaa
