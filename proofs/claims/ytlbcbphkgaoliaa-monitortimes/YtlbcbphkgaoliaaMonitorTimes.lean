/-
  The statement MonitorTimes is proved: for every n and o the law returns true.
-/
import Derived.Test.YtlbcbphkgaoliaaMonPick
import Derived.Deep.Cut
import Derived.Deep.CutRange
import Derived.Deep.LoopGhost
namespace Go.Proofs.Ytlbcbphkgaoliaa
open Go.RowKit Go.ChangeShapes Go.WideShapes Go.ChangeAt
set_option linter.unusedVariables false
set_option linter.unusedSimpArgs false
set_option maxHeartbeats 4000000 in
set_option maxRecDepth 100000 in
theorem monitorTimes_walk (n o : Int) (w : World) (hwn : (Lit.int .i64 n).wf = true) (hwo : (Lit.int .i64 o).wf = true) :
    Calls Try.prog 7 #[.int .i64 n, .int .i64 o] w fun e w' => e = .returned (.bool true) ∧ Turned [] w w' := by
  have HO : Hid (I64 o) := hide (i64_wf hwo)
  have HN := hide hwn
  clear hwn hwo
  go_enter Try.func7, Try.ntmps7
  go_wp2_with fail
  refine (awake_call w).mono ?_
  rintro e w1 ⟨rfl, t1⟩
  have HT1 := hide t1
  obtain ⟨p, hp⟩ : ∃ p, p = w1.heap.size := ⟨_, rfl⟩
  have K : Hid (Calls Try.prog 10 #[] w1 fun e w' => e = .returned (.pointer (some ⟨p, 0, none⟩)) ∧ Solo w.heap.size w' p 0 o Mon.zero (fun _ => false) ∧ Turned [] w1 w') := hide (by subst hp; exact new_solo o w1 t1.size)
  clear t1 hp
  go_wp2_with fail
  refine (K.out).mono ?_
  rintro e w2 ⟨rfl, h2, t2⟩
  have H2 := hide h2
  have B2 : Hid (Bel w.heap.size w w2) := hide ((HT1.out.trans t2).bel (Nat.le_refl _) (fun k hk => by cases hk))
  clear h2 t2 K HT1
  by_cases ho : o = 0
  · go_wp2_with fail
    go_ret
    exact ⟨rfl, Turned.of_below B2.out.b⟩
  have HO0 := hide ho
  go_wp2_with fail
  refine (lpick_any n 50 w2 HN.out (by omega)).mono ?_
  rintro e w3 ⟨⟨r, rfl, hr⟩, rfl⟩
  clear ho
  go_wp2_with fail
  have hm0 : (1 + (r : Int)) = ((r + 1 : Nat) : Int) := by omega
  rw [hm0]
  obtain ⟨m, hm⟩ : ∃ m : Nat, m = r + 1 := ⟨_, rfl⟩
  rw [← hm]
  have hm1 : 1 ≤ m := by omega
  have hm2 : m ≤ 50 := by omega
  clear hr hm hm0
  have H3 : Hid (Solo w.heap.size w3 p 0 o (tM 0) (fun _ => false)) := H2
  clear H2
  go_loopw [8] (fun i wr => ∃ (j : Nat), j ≤ m ∧ i = .int .i64 j ∧ Hid (Solo w.heap.size wr p (2 * j) o (tM j) (fun _ => false)) ∧ Hid (Bel w.heap.size w wr)) (fun i _ => m - (intOf i).toNat)
  case atStart => exact ⟨0, Nat.zero_le _, rfl, H3, B2⟩
  case round =>
    obtain ⟨j, hj, rfl, HI, HB⟩ := hrel
    by_cases hlt : j < m
    · go_wp2_with fail
      refine (t_enter (by omega) HO.out HO0.out (by omega) HI.out).mono ?_
      rintro e wn ⟨rfl, hs, hb⟩
      have HI2 : Hid (Solo w.heap.size wn p (2 * (j + 1)) o (tM (j + 1)) (fun _ => false)) := hs
      have HB2 := hide (HB.out.trans hb)
      clear hs hb HI HB H3
      go_wp2_with fail
      go_roundw
      case rel => exact ⟨j + 1, by omega, by go_num, HI2, HB2⟩
      case measure => simp [intOf]; omega
    · have hjm : j = m := by omega
      subst hjm
      clear H3 B2
      go_wp2_with fail
      refine (t_other hm2 (by omega) HO.out HO0.out (by omega) HI.out).mono ?_
      rintro e w4 ⟨rfl, hs, hb⟩
      have H4 : Hid (Solo w.heap.size w4 p (2 * j + 2 + 3 * (j - j)) o (tQ j) (tS j)) := hide (hs.mono (by omega))
      have B4 := hide (HB.out.trans hb)
      clear hs hb HI HB
      go_wp2_with fail
      go_loopw [13] (fun i wr => ∃ (a : Nat), a ≤ j ∧ i = .int .i64 a ∧ Hid (Solo w.heap.size wr p (2 * j + 2 + 3 * (j - a)) o (tQ a) (tS a)) ∧ Hid (Bel w.heap.size w wr)) (fun i _ => (intOf i).toNat)
      case atStart => exact ⟨j, Nat.le_refl _, rfl, H4, B4⟩
      case round =>
        obtain ⟨a, ha, rfl, HI, HB⟩ := hrel
        clear H4 B4
        cases a with
        | zero =>
          go_wp2_with fail
          refine (holder_solo HO.out HI.out).mono ?_
          rintro e w5 ⟨rfl, t5⟩
          have H5 := hide (HI.out.turned t5)
          have B5 := hide (HB.out.trans (t5.bel HB.out.b.size (fun k hk => by cases hk)))
          clear t5 HI HB
          have HH := hide (held_any 2 i2 H5.out.tb)
          rw [show tS 0 2 = false from rfl] at HH
          rw [show (tQ 0).h = 2 from rfl, show (tQ 0).t = 1 from rfl]
          go_wp2_with fail
          refine (HH.out).mono ?_
          rintro e w6 ⟨rfl, t6⟩
          have HE := hide (B5.out.trans (t6.bel B5.out.b.size (fun k hk => by cases hk)))
          clear t6 HH H5 B5
          go_wp2_with fail
          go_ret
          exact ⟨rfl, Turned.of_below HE.out.b⟩
        | succ a =>
          have e1 : (tQ (a + 1)).h = 1 := by unfold tQ; rw [if_neg (by omega)]
          have e2 : (tQ (a + 1)).t = ((a + 1 : Nat) : Int) := by unfold tQ; rw [if_neg (by omega)]
          have hpos : (0 : Int) < ((a + 1 : Nat) : Int) := by omega
          go_wp2_with fail
          refine (holder_solo HO.out HI.out).mono ?_
          rintro e w5 ⟨rfl, t5⟩
          have H5 := hide (HI.out.turned t5)
          have B5 := hide (HB.out.trans (t5.bel HB.out.b.size (fun k hk => by cases hk)))
          clear t5 HI HB
          rw [e1, e2]
          clear e1 e2
          go_wp2_with fail
          refine (t_exit (by omega) HO.out HO0.out (by omega) H5.out).mono ?_
          rintro e w6 ⟨rfl, hs, hb⟩
          have H6 : Hid (Solo w.heap.size w6 p (2 * j + 2 + 3 * (j - a)) o (tQ a) (tS a)) := hide (hs.mono (by omega))
          have B6 := hide (B5.out.trans hb)
          clear hs hb H5 B5
          by_cases h0 : a = 0
          · subst h0
            rw [if_pos rfl]
            go_wp2_with fail
            go_roundw
            case rel => exact ⟨0, by omega, by go_num, H6, B6⟩
            case measure => simp [intOf]
          · rw [if_neg h0]
            have h1 : ¬ (((a + 1 : Nat) : Int) = 1) := by omega
            have h2 : ¬ ((a : Int) + 1 = 1) := by omega
            go_wp2_with fail
            go_roundw
            case rel => exact ⟨a, by omega, by go_num, H6, B6⟩
            case measure => simp [intOf]; try omega

set_option maxRecDepth 100000 in
theorem monitorTimes_lifted (os : Os) (started : os.Started) (H : Type) (enc : TypeId × Value → H) :
    ReturnsInHanded {} Try.checked os 7 .any (Rows.monitorTimesSpec.pre6 enc Try.prog Try.f7 Rows.monitorTimesRow.domain false) (Rows.monitorTimesSpec.post enc Try.prog Try.f7 false true false false) := by
  refine returnsInHanded_of_change (C := Try.checked) own started (by kernel_rfl) Try.func7
    (ChangeSpec.witness6 (enc := enc) (C := Try.checked) false ⟨#[], #[.int .i64 0, .int .i64 0], []⟩ 8 (by kernel_rfl) (by kernel_rfl) (by kernel_rfl) (by kernel_rfl)) ?_
  intro W base args ds gs before hval0 hW hcnd _
  have hval : ∀ (j : Nat) t v, Try.f7.params[j]? = some t → args[j]? = some v → Value.okWide Try.prog W .any base t v := hval0
  have hW' := hW
  obtain ⟨p, q, hA0, hV, rfl, hfz, hnd⟩ := hW
  have hA : DataW.TrodAll enc Try.prog W 0 (fun _ => true) true Try.f7.params.toList args.toList ds p := hA0
  rw [Try.params7] at hA hval
  obtain ⟨v0, vs0, d0, ds0, p0, q0, hargs, rfl, rfl, h0, r0⟩ := trodAll_cons hA
  obtain ⟨v1, vs1, d1, ds1, p1, q1, rfl, rfl, rfl, h1, r1⟩ := trodAll_cons r0
  obtain ⟨rfl, rfl, rfl⟩ := trodAll_nil r1
  obtain rfl : args = #[v0, v1] := by cases args; simp_all
  obtain ⟨rfl, rfl⟩ := trodVars_none hV
  obtain ⟨a0, rfl, rfl, rfl, w0⟩ := open_int Try.underlying3 (hval 0 3 v0 rfl rfl) h0
  obtain ⟨a1, rfl, rfl, rfl, w1⟩ := open_int Try.underlying2 (hval 1 2 v1 rfl rfl) h1
  clear hA0 hval0
  refine (monitorTimes_walk a0 a1 W w0 w1).mono fun e W' ⟨he, ht⟩ => ?_
  subst he
  have bel : Below W.heap.size W W' := ht.below0
  exact ⟨_, rfl, _, _, _, [], _, [], hW', trodAll_mk1 (shut_bool Try.underlying4 _), (trodAll_cons_mk (shut_int Try.underlying3 w0) (trodAll_cons_mk (shut_int Try.underlying2 w1) trodAll_mk0)), rfl, bel.frame _, fun h => by cases h⟩

theorem monitorTimes_over : Rows.monitorTimesRow.holds Try.pinned (OpenSpec.ofChange Rows.monitorTimesSpec) :=
  OpenClaim.holds_of_wide 7 Try.f7 rfl rfl rfl rfl rfl rfl rfl ⟨rfl, rfl, rfl, rfl, rfl⟩ rfl rfl rfl rfl rfl (by kernel_rfl) Try.func7 (by kernel_rfl)
    (of_decide_eq_true (by kernel_rfl)) (by unfold Func.isWrapper; first | (rw [if_pos (by decide +kernel)]; kernel_rfl) | (rw [if_neg (by decide +kernel)]; exact ⟨rfl, rfl⟩))
    (fun os started H enc _ => monitorTimes_lifted os started H enc)

theorem monitorTimes_holds : Rows.MonitorTimesSaid := monitorTimes_over

end Go.Proofs.Ytlbcbphkgaoliaa
