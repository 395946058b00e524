/-
  The statement MonitorLine is proved: for every n and o the law returns true.
-/
import Derived.Test.YtlbcbphkgaoliaaMonLine
import Derived.Deep.Cut
import Derived.Deep.CutRange
import Derived.Deep.LoopGhost
namespace Go.Proofs.Ytlbcbphkgaoliaa
open Go.RowKit Go.ChangeShapes Go.WideShapes Go.ChangeAt
set_option linter.unusedVariables false
set_option linter.unusedSimpArgs false
set_option maxHeartbeats 4000000 in
set_option maxRecDepth 100000 in
theorem monitorLine_walk (n o : Int) (w : World) (hwn : (Lit.int .i64 n).wf = true) (hwo : (Lit.int .i64 o).wf = true) :
    Calls Try.prog 8 #[.int .i64 n, .int .i64 o] w fun e w' => e = .returned (.bool true) ∧ Turned [] w w' := by
  have HO : Hid (I64 o) := hide (i64_wf hwo)
  have HN := hide hwn
  clear hwn hwo
  go_enter Try.func8, Try.ntmps8
  go_wp2_with fail
  refine (awake_call w).mono ?_
  rintro e w1 ⟨rfl, t1⟩
  have HT1 := hide t1
  obtain ⟨p, hp⟩ : ∃ p, p = w1.heap.size := ⟨_, rfl⟩
  have K : Hid (Calls Try.prog 10 #[] w1 fun e w' => e = .returned (.pointer (some ⟨p, 0, none⟩)) ∧ Solo w.heap.size w' p 0 o Mon.zero (fun _ => false) ∧ Turned [] w1 w') := hide (by subst hp; exact new_solo o w1 t1.size)
  clear t1 hp
  go_wp2_with fail
  refine (K.out).mono ?_
  rintro e w2 ⟨rfl, h2, t2⟩
  have H2 := hide h2
  have B2 : Hid (Bel w.heap.size w w2) := hide ((HT1.out.trans t2).bel (Nat.le_refl _) (fun k hk => by cases hk))
  clear h2 t2 K HT1
  by_cases ho : o = 0
  · go_wp2_with fail
    go_ret
    exact ⟨rfl, Turned.of_below B2.out.b⟩
  have HO0 := hide ho
  go_wp2_with fail
  refine (lpick_any n 30 w2 HN.out (by omega)).mono ?_
  rintro e w3 ⟨⟨r, rfl, hr⟩, rfl⟩
  clear ho
  go_wp2_with fail
  have hm0 : (1 + (r : Int)) = ((r + 1 : Nat) : Int) := by omega
  rw [hm0]
  obtain ⟨m, hm⟩ : ∃ m : Nat, m = r + 1 := ⟨_, rfl⟩
  rw [← hm]
  have hm1 : 1 ≤ m := by omega
  have hm2 : m ≤ 30 := by omega
  clear hr hm hm0
  have H3 : Hid (Solo w.heap.size w3 p (2 * 0) o (lM 0 0) (lS 0 0)) := hide (by
    have h1 : lM 0 0 = Mon.zero := rfl
    have h2 : lS 0 0 = fun _ => false := by funext z; unfold lS; rw [decide_eq_false]; omega
    rw [h1, h2]
    exact H2.out)
  clear H2
  go_loopw [8] (fun i wr => ∃ (j : Nat), j ≤ m ∧ i = .int .i64 ((j + 1 : Nat) : Int) ∧ Hid (Solo w.heap.size wr p (2 * j) o (lM 0 j) (lS 0 j)) ∧ Hid (Bel w.heap.size w wr)) (fun i _ => m + 1 - (intOf i).toNat)
  case atStart => exact ⟨0, Nat.zero_le _, rfl, H3, B2⟩
  case round =>
    obtain ⟨j, hj, rfl, HI, HB⟩ := hrel
    clear H3 B2
    by_cases hlt : j < m
    · have hle : ((j + 1 : Nat) : Int) ≤ (m : Int) := by omega
      go_wp2_with fail
      refine (l_enter (by omega) HO.out HO0.out (by omega) HI.out).mono ?_
      rintro e wn ⟨rfl, hs, hb⟩
      have HI2 : Hid (Solo w.heap.size wn p (2 * (j + 1)) o (lM 0 (j + 1)) (lS 0 (j + 1))) := hs
      have HB2 := hide (HB.out.trans hb)
      clear hs hb HI HB
      by_cases h0 : j = 0
      · subst h0
        rw [show decide (0 = 0) = true from rfl]
        go_wp2_with fail
        go_roundw
        case rel => exact ⟨1, by omega, by go_num, HI2, HB2⟩
        case measure => simp [intOf]; try omega
      · rw [show decide (j = 0) = false by simp [h0]]
        have h1 : ¬ (((j + 1 : Nat) : Int) = 1) := by omega
        have h2 : ¬ ((j : Int) + 1 = 1) := by omega
        go_wp2_with fail
        go_roundw
        case rel => exact ⟨j + 1, by omega, by go_num, HI2, HB2⟩
        case measure => simp [intOf]; try omega
    · have hjm : j = m := by omega
      subst hjm
      have hle : ¬ ((j + 1 : Nat) : Int) ≤ (j : Int) := by omega
      go_wp2_with fail
      have H4 : Hid (Solo w.heap.size wr p (2 * j + 3 * 0) o (lM 0 j) (lS 0 j)) := HI
      have B4 := HB
      clear HI HB hle
      go_loopw [11] (fun i wr => ∃ (a : Nat), a ≤ j ∧ i = .int .i64 ((a + 1 : Nat) : Int) ∧ Hid (Solo w.heap.size wr p (2 * j + 3 * a) o (lM a j) (lS a j)) ∧ Hid (Bel w.heap.size w wr)) (fun i _ => j + 1 - (intOf i).toNat)
      case atStart => exact ⟨0, Nat.zero_le _, rfl, H4, B4⟩
      case round =>
        obtain ⟨a, ha, rfl, HI, HB⟩ := hrel
        clear H4 B4
        by_cases hla : a < j
        · have hle : ((a + 1 : Nat) : Int) ≤ (j : Int) := by omega
          go_wp2_with fail
          refine (l_exit hla (by omega) HO.out HO0.out (by omega) HI.out).mono ?_
          rintro e w6 ⟨rfl, hs, hb⟩
          have H6 : Hid (Solo w.heap.size w6 p (2 * j + 3 * (a + 1)) o (lM (a + 1) j) (lS (a + 1) j)) := hide (hs.mono (by omega))
          have B6 := hide (HB.out.trans hb)
          clear hs hb HI HB
          by_cases h0 : a + 1 = j
          · rw [if_pos h0]
            have h1 : ((a + 1 : Nat) : Int) = (j : Int) := by omega
            have h2 : (a : Int) + 1 = (j : Int) := by omega
            go_wp2_with fail
            go_roundw
            case rel => exact ⟨a + 1, by omega, by go_num, H6, B6⟩
            case measure => simp [intOf]; try omega
          · rw [if_neg h0]
            have h1 : ¬ (((a + 1 : Nat) : Int) = (j : Int)) := by omega
            have h2 : ¬ ((a : Int) + 1 = (j : Int)) := by omega
            go_wp2_with fail
            go_roundw
            case rel => exact ⟨a + 1, by omega, by go_num, H6, B6⟩
            case measure => simp [intOf]; try omega
        · have haj : a = j := by omega
          subst haj
          have hle : ¬ ((a + 1 : Nat) : Int) ≤ (a : Int) := by omega
          have hz : lM a a = Mon.zero := lM_out (by omega)
          rw [hz] at HI
          go_wp2_with fail
          refine (objects_solo (by omega) HI.out).mono ?_
          rintro e w5 ⟨ad, c, rfl, t5⟩
          have HE := hide (HB.out.trans (t5.bel HB.out.b.size (fun k hk => by cases hk)))
          clear t5 HI HB
          rw [show (if Mon.zero.gone = true then 0 else 1) = 0 from rfl]
          go_wp2_with fail
          go_ret
          exact ⟨rfl, Turned.of_below HE.out.b⟩

set_option maxRecDepth 100000 in
theorem monitorLine_lifted (os : Os) (started : os.Started) (H : Type) (enc : TypeId × Value → H) :
    ReturnsInHanded {} Try.checked os 8 .any (Rows.monitorLineSpec.pre6 enc Try.prog Try.f8 Rows.monitorLineRow.domain false) (Rows.monitorLineSpec.post enc Try.prog Try.f8 false true false false) := by
  refine returnsInHanded_of_change (C := Try.checked) own started (by kernel_rfl) Try.func8
    (ChangeSpec.witness6 (enc := enc) (C := Try.checked) false ⟨#[], #[.int .i64 0, .int .i64 0], []⟩ 8 (by kernel_rfl) (by kernel_rfl) (by kernel_rfl) (by kernel_rfl)) ?_
  intro W base args ds gs before hval0 hW hcnd _
  have hval : ∀ (j : Nat) t v, Try.f8.params[j]? = some t → args[j]? = some v → Value.okWide Try.prog W .any base t v := hval0
  have hW' := hW
  obtain ⟨p, q, hA0, hV, rfl, hfz, hnd⟩ := hW
  have hA : DataW.TrodAll enc Try.prog W 0 (fun _ => true) true Try.f8.params.toList args.toList ds p := hA0
  rw [Try.params8] at hA hval
  obtain ⟨v0, vs0, d0, ds0, p0, q0, hargs, rfl, rfl, h0, r0⟩ := trodAll_cons hA
  obtain ⟨v1, vs1, d1, ds1, p1, q1, rfl, rfl, rfl, h1, r1⟩ := trodAll_cons r0
  obtain ⟨rfl, rfl, rfl⟩ := trodAll_nil r1
  obtain rfl : args = #[v0, v1] := by cases args; simp_all
  obtain ⟨rfl, rfl⟩ := trodVars_none hV
  obtain ⟨a0, rfl, rfl, rfl, w0⟩ := open_int Try.underlying3 (hval 0 3 v0 rfl rfl) h0
  obtain ⟨a1, rfl, rfl, rfl, w1⟩ := open_int Try.underlying2 (hval 1 2 v1 rfl rfl) h1
  clear hA0 hval0
  refine (monitorLine_walk a0 a1 W w0 w1).mono fun e W' ⟨he, ht⟩ => ?_
  subst he
  have bel : Below W.heap.size W W' := ht.below0
  exact ⟨_, rfl, _, _, _, [], _, [], hW', trodAll_mk1 (shut_bool Try.underlying4 _), (trodAll_cons_mk (shut_int Try.underlying3 w0) (trodAll_cons_mk (shut_int Try.underlying2 w1) trodAll_mk0)), rfl, bel.frame _, fun h => by cases h⟩

theorem monitorLine_over : Rows.monitorLineRow.holds Try.pinned (OpenSpec.ofChange Rows.monitorLineSpec) :=
  OpenClaim.holds_of_wide 8 Try.f8 rfl rfl rfl rfl rfl rfl rfl ⟨rfl, rfl, rfl, rfl, rfl⟩ rfl rfl rfl rfl rfl (by kernel_rfl) Try.func8 (by kernel_rfl)
    (of_decide_eq_true (by kernel_rfl)) (by unfold Func.isWrapper; first | (rw [if_pos (by decide +kernel)]; kernel_rfl) | (rw [if_neg (by decide +kernel)]; exact ⟨rfl, rfl⟩))
    (fun os started H enc _ => monitorLine_lifted os started H enc)

theorem monitorLine_holds : Rows.MonitorLineSaid := monitorLine_over

end Go.Proofs.Ytlbcbphkgaoliaa
