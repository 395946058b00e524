/-
  The statement MonitorTold is proved: for every n and ones the law returns true.
-/
import Derived.Test.YtlbcbphkgaoliabMonToldP
import Derived.Deep.Cut
import Derived.Deep.CutRange
import Derived.Deep.LoopGhost
namespace Go.Proofs.Ytlbcbphkgaoliab
open Go.RowKit Go.ChangeShapes Go.WideShapes Go.ChangeAt
set_option linter.unusedVariables false
set_option linter.unusedSimpArgs false
/-- Aside, where nobody is. -/
theorem aside_none17 {B p n : Nat} {w : World} {y : Int} {h t : Int} {q : List (Int × Int)} {S : Int → Bool} (hy : I64 y) (hs : Solo B w p n y ⟨h, t, q, []⟩ S) : Calls Try.prog 10 #[.pointer (some ⟨p, 0, none⟩), .int .i64 y] w fun e w' => ∃ g, e = .returned (.slice (some ⟨g, 0, none⟩) 0 0) ∧ Turned [] w w' :=
  (aside_solo hy (by simp) hs).mono (fun e w' ⟨g, h1, _, h2, _⟩ => ⟨g, h1, h2⟩)
set_option maxHeartbeats 4000000 in
set_option maxRecDepth 100000 in
theorem monitorTold_walk (n o : Int) (w : World) (hwn : (Lit.int .i64 n).wf = true) (hwo : (Lit.int .i64 o).wf = true) :
    Calls Try.prog 3 #[.int .i64 n, .int .i64 o] w fun e w' => e = .returned (.bool true) ∧ Turned [] w w' := by
  have HN := hide hwn
  have HW := hide hwo
  have H7 : Hid (I64 7) := hide ⟨by decide, by decide⟩
  have H70 : Hid ((7 : Int) ≠ 0) := hide (by decide)
  clear hwn hwo
  go_enter Try.func3, Try.ntmps3
  go_wp2_with fail
  refine (awake_call w).mono ?_
  rintro e w1 ⟨rfl, t1⟩
  have HT1 := hide t1
  obtain ⟨p, hp⟩ : ∃ p, p = w1.heap.size := ⟨_, rfl⟩
  have K : Hid (Calls Try.prog 5 #[] w1 fun e w' => e = .returned (.pointer (some ⟨p, 0, none⟩)) ∧ Solo w.heap.size w' p 0 7 Mon.zero (fun _ => false) ∧ Turned [] w1 w') := hide (by subst hp; exact new_solo 7 w1 t1.size)
  clear t1 hp
  go_wp2_with fail
  refine (K.out).mono ?_
  rintro e w2 ⟨rfl, h2, t2⟩
  have H2 := hide h2
  have B2 : Hid (Bel w.heap.size w w2) := hide ((HT1.out.trans t2).bel (Nat.le_refl _) (fun k hk => by cases hk))
  clear h2 t2 K HT1
  go_wp2_with fail
  refine (lpick_any n 20 w2 HN.out (by omega)).mono ?_
  rintro e w3 ⟨⟨r, rfl, hr⟩, rfl⟩
  go_wp2_with fail
  have hm0 : (1 + (r : Int)) = ((r + 1 : Nat) : Int) := by omega
  rw [hm0]
  obtain ⟨k, hk⟩ : ∃ k : Nat, k = r + 1 := ⟨_, rfl⟩
  rw [← hk]
  have hk1 : 1 ≤ k := by omega
  have hk2 : k ≤ 20 := by omega
  clear hr hk hm0
  have H3 : Hid (Solo w.heap.size w3 p (7 * 0) 7 (aM 0) (aS 0)) := hide (by
    have h2 : aS 0 = fun _ => false := by funext z; unfold aS; rw [decide_eq_false]; omega
    rw [aM_zero, h2]
    exact H2.out)
  clear H2
  go_loopw [8] (fun i wr => ∃ (j : Nat), j ≤ k ∧ i = .int .i64 ((j + 1 : Nat) : Int) ∧ Hid (Solo w.heap.size wr p (7 * j) 7 (aM j) (aS j)) ∧ Hid (Bel w.heap.size w wr)) (fun i _ => k + 1 - (intOf i).toNat)
  case atStart => exact ⟨0, Nat.zero_le _, rfl, H3, B2⟩
  case round =>
    obtain ⟨j, hj, rfl, HI, HB⟩ := hrel
    clear H3 B2
    by_cases hlt : j < k
    · have hle : ((j + 1 : Nat) : Int) ≤ (k : Int) := by omega
      go_wp2_with fail
      refine (a_enter1 (by omega) H7.out H70.out (by omega) HI.out).mono ?_
      rintro e wa ⟨rfl, hs, hb⟩
      have HIa := hide hs
      have HBa := hide (HB.out.trans hb)
      clear hs hb HI HB
      go_wp2_with fail
      refine (a_enter2 (by omega) H7.out H70.out (by omega) HIa.out).mono ?_
      rintro e wb ⟨rfl, hs, hb⟩
      have HIb := hide hs
      have HBb := hide (HBa.out.trans hb)
      clear hs hb HIa HBa
      go_wp2_with fail
      refine (a_wait (by omega) H7.out H70.out (by omega) HIb.out).mono ?_
      rintro e wn ⟨rfl, hs, hb⟩
      have HI2 : Hid (Solo w.heap.size wn p (7 * (j + 1)) 7 (aM (j + 1)) (aS (j + 1))) := hide (hs.mono (by omega))
      have HB2 := hide (HBb.out.trans hb)
      clear hs hb HIb HBb
      go_wp2_with fail
      go_roundw
      case rel => exact ⟨j + 1, by omega, by go_num, HI2, HB2⟩
      case measure => simp [intOf]; try omega
    · have hjk : j = k := by omega
      subst hjk
      have hle : ¬ ((j + 1 : Nat) : Int) ≤ (j : Int) := by omega
      go_wp2_with fail
      clear hle
      refine (a_ninety (by omega) H7.out H70.out (by omega) HI.out).mono ?_
      rintro e w4 ⟨rfl, hs, hb⟩
      have H4 : Hid (Solo w.heap.size w4 p (7 * j + 2 + 3 * 0) 7 (nM 0 j) (aS j)) := hide hs
      have B4 := hide (HB.out.trans hb)
      clear hs hb HI HB
      go_wp2_with fail
      have hj1 : ((j : Int) + 1) = ((j + 1 : Nat) : Int) := by omega
      first | rw [hj1] | skip
      refine (lpick_any o (j + 1) w4 HW.out (by omega)).mono ?_
      rintro e w5 ⟨⟨m, rfl, hm⟩, rfl⟩
      have hmj : m ≤ j := by omega
      clear hm hj1
      go_wp2_with fail
      go_loopw [12] (fun i wr => ∃ (a : Nat), a ≤ m ∧ i = .int .i64 (a : Int) ∧ Hid (Solo w.heap.size wr p (7 * j + 2 + 3 * a) 7 (nM a j) (aS j)) ∧ Hid (Bel w.heap.size w wr)) (fun i _ => m - (intOf i).toNat)
      case atStart => exact ⟨0, Nat.zero_le _, rfl, H4, B4⟩
      case round =>
        obtain ⟨a, ha, rfl, HI, HB⟩ := hrel
        clear H4 B4
        by_cases hla : a < m
        · go_wp2_with fail
          refine (n_one (by omega) (by omega) H7.out H70.out (by omega) HI.out).mono ?_
          rintro e w6 ⟨rfl, hs, hb⟩
          have H6 : Hid (Solo w.heap.size w6 p (7 * j + 2 + 3 * (a + 1)) 7 (nM (a + 1) j) (aS j)) := hide (hs.mono (by omega))
          have B6 := hide (HB.out.trans hb)
          clear hs hb HI HB
          go_wp2_with fail
          go_roundw
          case rel => exact ⟨a + 1, by omega, by go_num, H6, B6⟩
          case measure => simp [intOf]; try omega
        · have ham : a = m := by omega
          subst ham
          go_wp2_with fail
          have hsub : ((j - a : Nat) : Int) = (j : Int) - (a : Int) := by omega
          have NA := hide (n_all (by omega) hmj H7.out H70.out (by omega) HI.out)
          rw [hsub] at NA
          clear hsub
          refine (NA.out).mono ?_
          rintro e w7 ⟨rfl, hs, hb⟩
          have H8 := hide hs
          have B8 := hide (HB.out.trans hb)
          clear hs hb HI HB NA
          have hd1 : (0 : Int) ≤ (j : Int) - (a : Int) := by omega
          have hd2 : (j : Int) - (a : Int) ≤ 20 := by omega
          go_wp2_with fail
          refine (aside_none17 H7.out H8.out).mono ?_
          rintro e w8 ⟨ga, rfl, t8⟩
          have H9 := hide (H8.out.turned t8)
          have B9 := hide (B8.out.trans (t8.bel B8.out.b.size (fun k hk => by cases hk)))
          clear t8 H8 B8
          go_wp2_with fail
          refine (o_first (by omega) (by omega) H7.out H70.out (by omega) H9.out).mono ?_
          rintro e w9 ⟨rfl, hs, hb⟩
          have HA : Hid (Solo w.heap.size w9 p (7 * j + 2 + 3 * a + 3 + 3 + 6 * 0) 7 (oM 0 j) (oS 0 j)) := hide (hs.mono (by omega))
          have BA := hide (B9.out.trans hb)
          clear hs hb H9 B9 hd1 hd2
          go_wp2_with fail
          go_loopw [17, 19] (fun lt i wr => ∃ (b : Nat), b ≤ j ∧ i = .int .i64 ((b + 1 : Nat) : Int) ∧ lt = .int .i64 (if b < j then ((b + 1 : Nat) : Int) else 0) ∧ Hid (Solo w.heap.size wr p (7 * j + 2 + 3 * a + 3 + 3 + 6 * b) 7 (oM b j) (oS b j)) ∧ Hid (Bel w.heap.size w wr)) (fun _ i _ => j + 1 - (intOf i).toNat)
          case atStart => exact ⟨0, Nat.zero_le _, rfl, by rw [if_pos (by omega)]; rfl, HA, BA⟩
          case round =>
            obtain ⟨b, hb1, rfl, rfl, HI, HB⟩ := hrel
            clear HA BA
            by_cases hlb : b < j
            · rw [if_pos hlb]
              have hle : ((b + 1 : Nat) : Int) ≤ (j : Int) := by omega
              have e1 : (oM b j).h = ((b + 1 : Nat) : Int) := by rw [oM_in hlb]
              have e2 : (oM b j).t = 2 := by rw [oM_in hlb]
              have HS := hide (holder_solo H7.out HI.out)
              rw [e1, e2] at HS
              clear e1 e2
              go_wp2_with fail
              refine (HS.out).mono ?_
              rintro e w10 ⟨rfl, t10⟩
              have HC := hide (HI.out.turned t10)
              have BC := hide (HB.out.trans (t10.bel HB.out.b.size (fun k hk => by cases hk)))
              clear t10 HI HB HS
              go_wp2_with fail
              refine (o_exit1 hlb (by omega) H7.out H70.out (by omega) HC.out).mono ?_
              rintro e w11 ⟨rfl, hs, hb⟩
              have HD := hide hs
              have BD := hide (BC.out.trans hb)
              clear hs hb HC BC
              go_wp2_with fail
              obtain ⟨v, hv⟩ : ∃ v : Int, v = if b + 1 < j then ((b + 1 + 1 : Nat) : Int) else 0 := ⟨_, rfl⟩
              have HV := hide hv
              have OE := hide (o_exit2 hlb (by omega) H7.out H70.out (by omega) HD.out)
              rw [← hv] at OE
              clear hv
              refine (OE.out).mono ?_
              rintro e w12 ⟨rfl, hs, hb⟩
              have HF : Hid (Solo w.heap.size w12 p (7 * j + 2 + 3 * a + 3 + 3 + 6 * (b + 1)) 7 (oM (b + 1) j) (oS (b + 1) j)) := hide (hs.mono (by omega))
              have BF := hide (BD.out.trans hb)
              clear hs hb HD BD OE
              go_wp2_with fail
              go_roundw
              case rel => exact ⟨b + 1, by omega, by go_num, by rw [HV.out], HF, BF⟩
              case measure => simp [intOf]; try omega
            · have hbj : b = j := by omega
              subst hbj
              rw [if_neg hlb]
              have hle : ¬ ((b + 1 : Nat) : Int) ≤ (b : Int) := by omega
              have hz : oM b b = Mon.zero := oM_out (by omega)
              rw [hz] at HI
              have OS := hide (objects_solo (by omega) HI.out)
              rw [show (if Mon.zero.gone = true then 0 else 1) = 0 from rfl] at OS
              clear hz
              go_wp2_with fail
              refine (OS.out).mono ?_
              rintro e w13 ⟨ad, c, rfl, t13⟩
              have HE := hide (HB.out.trans (t13.bel HB.out.b.size (fun k hk => by cases hk)))
              clear t13 HI HB OS
              go_wp2_with fail
              go_ret
              exact ⟨rfl, Turned.of_below HE.out.b⟩

set_option maxRecDepth 100000 in
theorem monitorTold_lifted (os : Os) (started : os.Started) (H : Type) (enc : TypeId × Value → H) :
    ReturnsInHanded {} Try.checked os 3 .any (Rows.monitorToldSpec.pre6 enc Try.prog Try.f3 Rows.monitorToldRow.domain false) (Rows.monitorToldSpec.post enc Try.prog Try.f3 false true false false) := by
  refine returnsInHanded_of_change (C := Try.checked) own started (by kernel_rfl) Try.func3
    (ChangeSpec.witness6 (enc := enc) (C := Try.checked) false ⟨#[], #[.int .i64 0, .int .i64 0], []⟩ 8 (by kernel_rfl) (by kernel_rfl) (by kernel_rfl) (by kernel_rfl)) ?_
  intro W base args ds gs before hval0 hW hcnd _
  have hval : ∀ (j : Nat) t v, Try.f3.params[j]? = some t → args[j]? = some v → Value.okWide Try.prog W .any base t v := hval0
  have hW' := hW
  obtain ⟨p, q, hA0, hV, rfl, hfz, hnd⟩ := hW
  have hA : DataW.TrodAll enc Try.prog W 0 (fun _ => true) true Try.f3.params.toList args.toList ds p := hA0
  rw [Try.params3] at hA hval
  obtain ⟨v0, vs0, d0, ds0, p0, q0, hargs, rfl, rfl, h0, r0⟩ := trodAll_cons hA
  obtain ⟨v1, vs1, d1, ds1, p1, q1, rfl, rfl, rfl, h1, r1⟩ := trodAll_cons r0
  obtain ⟨rfl, rfl, rfl⟩ := trodAll_nil r1
  obtain rfl : args = #[v0, v1] := by cases args; simp_all
  obtain ⟨rfl, rfl⟩ := trodVars_none hV
  obtain ⟨a0, rfl, rfl, rfl, w0⟩ := open_int Try.underlying3 (hval 0 3 v0 rfl rfl) h0
  obtain ⟨a1, rfl, rfl, rfl, w1⟩ := open_int Try.underlying3 (hval 1 3 v1 rfl rfl) h1
  clear hA0 hval0
  refine (monitorTold_walk a0 a1 W w0 w1).mono fun e W' ⟨he, ht⟩ => ?_
  subst he
  have bel : Below W.heap.size W W' := ht.below0
  exact ⟨_, rfl, _, _, _, [], _, [], hW', trodAll_mk1 (shut_bool Try.underlying4 _), (trodAll_cons_mk (shut_int Try.underlying3 w0) (trodAll_cons_mk (shut_int Try.underlying3 w1) trodAll_mk0)), rfl, bel.frame _, fun h => by cases h⟩

theorem monitorTold_over : Rows.monitorToldRow.holds Try.pinned (OpenSpec.ofChange Rows.monitorToldSpec) :=
  OpenClaim.holds_of_wide 3 Try.f3 rfl rfl rfl rfl rfl rfl rfl ⟨rfl, rfl, rfl, rfl, rfl⟩ rfl rfl rfl rfl rfl (by kernel_rfl) Try.func3 (by kernel_rfl)
    (of_decide_eq_true (by kernel_rfl)) (by unfold Func.isWrapper; first | (rw [if_pos (by decide +kernel)]; kernel_rfl) | (rw [if_neg (by decide +kernel)]; exact ⟨rfl, rfl⟩))
    (fun os started H enc _ => monitorTold_lifted os started H enc)

theorem monitorTold_holds : Rows.MonitorToldSaid := monitorTold_over

end Go.Proofs.Ytlbcbphkgaoliab
