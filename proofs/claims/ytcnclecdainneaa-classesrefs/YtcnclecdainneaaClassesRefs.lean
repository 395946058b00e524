/-
  The statement ClassesRefs is proved: for every list of classes and every two numbers the law returns true and the list reads as before; no condition.
-/
import Derived.Test.YtcnclecdainneaaClassesAwake
import Derived.Test.YtcnclecdainneaaClassesOpen
namespace Go.Proofs.Ytcnclecdainneaa
open Go.RowKit Go.ChangeShapes Go.WideShapes Go.ChangeAt
set_option linter.unusedVariables false

/-- An object that may not be has neither size nor references; one that may has both. -/
theorem size_refs (cs : List Cls) (k n : Int) : (∃ e, (e = 11 ∨ e = 12) ∧ sizeOf cs k n = (0, e) ∧ refsOf cs k n = 0) ∨ ∃ R N : Nat, sizeOf cs k n = ((N : Int), 0) ∧ refsOf cs k n = (R : Int) ∧ R < N ∧ N ≤ 65536 ∧ (k = 0 → R = 0) := by
  unfold sizeOf refsOf told
  cases hc : clsAt cs k with
  | none => exact .inl ⟨12, .inr rfl, rfl, rfl⟩
  | some c =>
    by_cases hn : 0 ≤ n ∧ n ≤ c.most
    · right
      obtain ⟨h1, h2, h3⟩ := clsAt_few hc hn
      obtain ⟨R, hR⟩ := Int.eq_ofNat_of_zero_le h1
      obtain ⟨V, hV⟩ := Int.eq_ofNat_of_zero_le h2
      refine ⟨R, R + V + 1, ?_, ?_, by omega, by omega, fun h0 => ?_⟩
      · simp only [if_pos hn, gSize, hR, hV]
        rw [show 1 + (R : Int) + (V : Int) = ((R + V + 1 : Nat) : Int) by omega]
      · simp only [if_pos hn, gRefs, hR]
      · rcases clsAt_may hc with ⟨rfl, _⟩ | ⟨_, h4, _⟩
        · have h5 : (⟨0, 0, 3⟩ : Cls).rN n = 0 := rfl
          omega
        · omega
    · left
      simp only [if_neg hn]
      exact ⟨11, .inl rfl, rfl, trivial⟩

set_option maxRecDepth 100000 in
set_option maxHeartbeats 4000000 in
theorem classesRefs_walk (a : Option Addr) (len cap : Nat) (cs : List Cls) (k n : Int) (w : World) (h : CRd w a len cs) (hwk : (Lit.int .i64 k).wf = true) (hwn : (Lit.int .i64 n).wf = true) :
    Calls Try.prog 5 #[.slice a len cap, .int .i64 k, .int .i64 n] w fun e w' => e = .returned (.bool true) ∧ Turned [] w w' := by
  have hin : In64 n := wf_range hwn
  have H := hide h
  have HSz := hide (fun w h => sizes_any a len cap cs k n w hin h)
  have HRs := hide (fun w h => refs_any a len cap cs k n w hin h)
  have HRf := hide (fun x w h => ref_any a len cap cs k n x w hin h)
  clear h hwk hwn hin
  rcases size_refs cs k n with ⟨e, he, h1, h2⟩ | ⟨R, N, h1, h2, h3, h3b, h4⟩
  · rw [h1] at HSz
    rw [h2] at HRs
    simp only [Int.toNat_zero] at HRs
    have hne : ¬ (e = 0) := by omega
    clear h1 h2 he HRf
    go_enter Try.func5, Try.ntmps5
    go_wp2_with fail
    refine (awake_true _).mono ?_
    rintro e w1 ⟨rfl, ht1⟩
    have HT := hide ht1
    clear ht1
    go_wp2_with fail
    refine (HSz.out _ (H.out.turned HT.out)).mono ?_
    rintro e w2 ⟨rfl, ht2⟩
    have HT2 := hide (HT.out.trans ht2)
    clear ht2 HT HSz
    go_wp2_with fail
    refine (HRs.out _ (H.out.turned HT2.out)).mono ?_
    rintro e w3 ⟨g, cp, rfl, -, ht3⟩
    have HT3 := hide (HT2.out.trans ht3)
    clear ht3 HT2 HRs
    go_wp2_with fail
    go_ret
    exact ⟨rfl, HT3.out⟩
  · rw [h1] at HSz
    rw [h2] at HRs HRf
    simp only [Int.toNat_natCast] at HRs
    have HK := hide h4
    clear h1 h2 h4
    go_enter Try.func5, Try.ntmps5
    go_wp2_with fail
    refine (awake_true _).mono ?_
    rintro e w1 ⟨rfl, ht1⟩
    have HT := hide ht1
    clear ht1
    go_wp2_with fail
    refine (HSz.out _ (H.out.turned HT.out)).mono ?_
    rintro e w2 ⟨rfl, ht2⟩
    have HT2 := hide (HT.out.trans ht2)
    clear ht2 HT HSz
    go_wp2_with fail
    refine (HRs.out _ (H.out.turned HT2.out)).mono ?_
    rintro e w3 ⟨g, cp, rfl, hrd, ht3⟩
    have HT3 := hide (HT2.out.trans ht3)
    have HRd := hide hrd
    clear ht3 HT2 HRs hrd
    go_wp2_with fail
    go_loopw [11, 12] (fun q i wr => ∃ (j : Nat), j ≤ R ∧ i = .int .i64 j ∧ q = .int .i64 j ∧ Hid (IRd wr (some ⟨g, 0, none⟩) R (rowTo R)) ∧ Hid (Turned [] w wr)) (fun _ i _ => R - (intOf i).toNat)
    case atStart => exact ⟨0, Nat.zero_le _, rfl, rfl, HRd, HT3⟩
    case round =>
      obtain ⟨j, hj, rfl, rfl, HR, HTr⟩ := hrel
      by_cases hlt : j < R
      · obtain ⟨b, off, hb, c0⟩ := HR.out.cell j _ (rowTo_get hlt)
        simp only [Option.some.injEq, Addr.mk.injEq] at hb
        obtain ⟨rfl, rfl, -⟩ := hb
        rw [Nat.zero_add] at c0
        have HR2 := hide (HRf.out ((j : Int) + 1) _ (H.out.turned HTr.out))
        rw [show decide (0 < (j : Int) + 1 ∧ (j : Int) + 1 ≤ (R : Int)) = true by simp; omega] at HR2
        go_wp2_with fail
        refine HR2.out.mono ?_
        rintro e w4 ⟨rfl, ht4⟩
        have HT4 := hide (HTr.out.trans ht4)
        have HR4 := hide (HR.out.turned ht4)
        have c4 := (ht4.cell (block_lt c0) (by simp)).trans c0
        clear ht4 HTr HR2 c0 HR
        go_wp2_with fail
        go_roundw
        case rel => exact ⟨j + 1, by omega, by go_num, by go_num, HR4, HT4⟩
        case measure => simp [intOf]; omega
      · have hjR : j = R := by omega
        subst hjR
        have HR0 := hide (HRf.out 0 _ (H.out.turned HTr.out))
        rw [show decide ((0 : Int) < 0 ∧ 0 ≤ (j : Int)) = false by simp] at HR0
        have HRN := hide (fun w h => HRf.out (N : Int) w h)
        rw [show decide (0 < (N : Int) ∧ (N : Int) ≤ (j : Int)) = false by simp; omega] at HRN
        clear HRf
        by_cases hk0 : k = 0
        · have hj0 : j = 0 := HK.out hk0
          subst hk0 hj0
          go_wp2_with fail
          refine HR0.out.mono ?_
          rintro e w4 ⟨rfl, ht4⟩
          have HT4 := hide (HTr.out.trans ht4)
          clear ht4 HTr HR0
          go_wp2_with fail
          refine (HRN.out _ (H.out.turned HT4.out)).mono ?_
          rintro e w5 ⟨rfl, ht5⟩
          have HT5 := hide (HT4.out.trans ht5)
          clear ht5 HT4 HRN
          go_wp2_with fail
          go_ret
          exact ⟨rfl, HT5.out⟩
        · go_wp2_with fail
          refine HR0.out.mono ?_
          rintro e w4 ⟨rfl, ht4⟩
          have HT4 := hide (HTr.out.trans ht4)
          clear ht4 HTr HR0
          go_wp2_with fail
          refine (HRN.out _ (H.out.turned HT4.out)).mono ?_
          rintro e w5 ⟨rfl, ht5⟩
          have HT5 := hide (HT4.out.trans ht5)
          clear ht5 HT4 HRN
          go_wp2_with fail
          go_ret
          exact ⟨rfl, HT5.out⟩

set_option maxRecDepth 100000 in
theorem classesRefs_lifted (os : Os) (started : os.Started) (H : Type) (enc : TypeId × Value → H) :
    ReturnsInHanded {} Try.checked os 5 .any (Rows.classesRefsSpec.pre6 enc Try.prog Try.f5 Rows.classesRefsRow.domain false) (Rows.classesRefsSpec.post enc Try.prog Try.f5 false true false false) := by
  refine returnsInHanded_of_change (C := Try.checked) own started (by kernel_rfl) Try.func5
    (ChangeSpec.witness6 (enc := enc) (C := Try.checked) false ⟨#[], #[.slice none 0 0, .int .i64 0, .int .i64 0], []⟩ 8 (by kernel_rfl) (by kernel_rfl) (by kernel_rfl) (by kernel_rfl)) ?_
  intro W base args ds gs before hval0 hW hcnd _
  have hval : ∀ (j : Nat) t v, Try.f5.params[j]? = some t → args[j]? = some v → Value.okWide Try.prog W .any base t v := hval0
  have hW' := hW
  obtain ⟨p, q, hA0, hV, rfl, hfz, hnd⟩ := hW
  have hA : DataW.TrodAll enc Try.prog W 0 (fun _ => true) true Try.f5.params.toList args.toList ds p := hA0
  rw [Try.params5] at hA hval
  obtain ⟨v0, vs0, d0, ds0, p0, q0, hargs, rfl, rfl, h0, r0⟩ := trodAll_cons hA
  obtain ⟨v1, vs1, d1, ds1, p1, q1, rfl, rfl, rfl, h1, r1⟩ := trodAll_cons r0
  obtain ⟨v2, vs2, d2, ds2, p2, q2, rfl, rfl, rfl, h2, r2⟩ := trodAll_cons r1
  obtain ⟨rfl, rfl, rfl⟩ := trodAll_nil r2
  obtain rfl : args = #[v0, v1, v2] := by cases args; simp_all
  obtain ⟨rfl, rfl⟩ := trodVars_none hV
  obtain ⟨a0, len0, cap0, rfl⟩ := okWide_slice Try.underlying22 (hval 0 22 v0 rfl rfl)
  have k0 := h0
  have lt0 : ∀ x ∈ p0, x.block < W.heap.size := by obtain ⟨m, hm⟩ := k0; exact DataW.trod_lt m _ _ _ hm
  obtain ⟨z0, w0⟩ := open_classes h0
  obtain ⟨a1, rfl, rfl, rfl, w1⟩ := open_int Try.underlying3 (hval 1 3 v1 rfl rfl) h1
  obtain ⟨a2, rfl, rfl, rfl, w2⟩ := open_int Try.underlying3 (hval 2 3 v2 rfl rfl) h2
  clear hA0 hval0
  refine (classesRefs_walk a0 len0 cap0 z0 a1 a2 W w0 w1 w2).mono fun e W' ⟨he, ht⟩ => ?_
  subst he
  have bel : Below W.heap.size W W' := ht.below0
  exact ⟨_, rfl, _, _, _, [], _, [], hW', trodAll_mk1 (shut_bool Try.underlying4 _), (trodAll_cons_mk (Below.trod laidOut (by kernel_rfl) (of_decide_eq_true (by kernel_rfl)) k0 bel lt0) (trodAll_cons_mk (shut_int Try.underlying3 w1) (trodAll_cons_mk (shut_int Try.underlying3 w2) trodAll_mk0))), rfl, bel.frame _, fun h => by cases h⟩

theorem classesRefs_over : Rows.classesRefsRow.holds Try.pinned (OpenSpec.ofChange Rows.classesRefsSpec) :=
  OpenClaim.holds_of_wide 5 Try.f5 rfl rfl rfl rfl rfl rfl rfl ⟨rfl, rfl, rfl, rfl, rfl⟩ rfl rfl rfl rfl rfl (by kernel_rfl) Try.func5 (by kernel_rfl)
    (of_decide_eq_true (by kernel_rfl)) (by unfold Func.isWrapper; first | (rw [if_pos (by decide +kernel)]; kernel_rfl) | (rw [if_neg (by decide +kernel)]; exact ⟨rfl, rfl⟩))
    (fun os started H enc _ => classesRefs_lifted os started H enc)

theorem classesRefs_holds : Rows.ClassesRefsSaid := classesRefs_over
end Go.Proofs.Ytcnclecdainneaa
