/-
  SafeAgain: as often as it is armed, reached, and all go on, each thread that was parked runs again: true for every number of threads and of times.
-/
import Derived.Test.YtclfeafmlngpnaaSafeAgainP
import Derived.Test.YtclfeafmlngpnaaLawKit
import Derived.Deep.Cut
import Derived.Deep.CutBlock
import Derived.Deep.CutRange
import Derived.Deep.DeepCutAuto
namespace Go.Proofs.Ytclfeafmlngpnaa
open Go.ChangeShapes Go.WideShapes Go.ChangeAt Go.RowKit Go.Maps
set_option linter.unusedVariables false

theorem tmod20 (x : Int) : -19 ≤ x.tmod 20 ∧ x.tmod 20 ≤ 19 := by
  have h1 := Int.tmod_lt_of_pos x (show (0 : Int) < 20 by omega)
  have h2 := Int.lt_tmod_of_pos x (show (0 : Int) < 20 by omega)
  omega

set_option maxHeartbeats 4000000 in
set_option maxRecDepth 100000 in
theorem safeAgain_walk (x y : Int) (w : World) (hx : (Lit.int .i64 x).wf = true) (hy : (Lit.int .i64 y).wf = true) :
    Calls Try.prog 7 #[.int .i64 x, .int .i64 y] w fun e w' => e = .returned (.bool true) ∧ Turned [] w w' := by
  have HAw := hide (awake_any w)
  have hxm := tmod20 x
  have hym := tmod20 y
  clear hx hy
  go_enter Try.func7, Try.ntmps7
  go_wp2_with fail
  refine HAw.out.mono ?_
  rintro e w1 ⟨rfl, t1⟩
  have HN := hide (sn_new w w1 t1)
  unfold ptr at HN
  clear t1 HAw
  go_wp2_with fail
  refine HN.out.mono ?_
  rintro e w2 ⟨rfl, h2, -⟩
  have H2 := hide h2
  clear h2 HN
  generalize w1.heap.size = a at *
  go_upto_if 21 with fail
  go_cut [7] (fun v wc => ∃ n : Nat, v = .int .i64 n ∧ n ≤ 19 ∧ Aside (wc = w2))
  case first =>
    generalize x.tmod 20 = r at *
    by_cases hr : r < 0
    · go_wp2_with fail
      go_meet
      case rel => exact ⟨(-r).toNat, by rw [Int.toNat_of_nonneg (by omega)], by omega, rfl⟩
    · go_wp2_with fail
      go_meet
      case rel => exact ⟨r.toNat, by rw [Int.toNat_of_nonneg (by omega)], by omega, rfl⟩
  case rest =>
    obtain ⟨n, rfl, hn, HWc⟩ := hcut
    have hWc := HWc.out
    subst hWc
    clear HWc hxm
    obtain ⟨w3, hw3⟩ : ∃ w3, w3 = wc := ⟨_, rfl⟩
    subst hw3
    go_upto_if 27 with fail
    go_cut [8] (fun v wc => ∃ k : Nat, v = .int .i64 k ∧ k ≤ 19 ∧ Aside (wc = w3))
    case first =>
      generalize y.tmod 20 = r at *
      by_cases hr : r < 0
      · go_wp2_with fail
        go_meet
        case rel => exact ⟨(-r).toNat, by rw [Int.toNat_of_nonneg (by omega)], by omega, rfl⟩
      · go_wp2_with fail
        go_meet
        case rel => exact ⟨r.toNat, by rw [Int.toNat_of_nonneg (by omega)], by omega, rfl⟩
    case rest =>
      obtain ⟨m, rfl, hm, HWc⟩ := hcut
      have hWc := HWc.out
      subst hWc
      clear HWc hym
      have H3 : Hid (Sn w wc a (mix 0 0) false) := H2
      clear H2
      go_wp2_with fail
      go_loopw [9] (fun s9 wr => ∃ (i : Nat), i ≤ n + 1 ∧ s9 = .int .i64 i ∧ Hid (Sn w wr a (mix 0 i) false)) (fun s9 _ => n + 1 - (intOf s9).toNat)
      case atStart => exact ⟨0, by omega, rfl, H3⟩
      case round =>
        obtain ⟨i, hi, rfl, HI⟩ := hrel
        by_cases hin : i ≤ n
        · have e1 : (i : Int) ≤ (n : Int) := by omega
          have HA := hide (sn_add (HI.out.next ((Turned.refl [] wr).alloc (.cells #[.int .i64 (i : Int)] 3))) (some ⟨wr.heap.size, 0, none⟩) 1 1 [(i : Int)] (one_new wr i (in64_small (by omega))) (by rw [mix_length]; omega))
          rw [mix_add i (by omega)] at HA
          unfold ptr at HA
          go_wp2_with fail
          refine HA.out.mono ?_
          rintro e w4 ⟨rfl, h4, -⟩
          have H4 := hide h4
          clear h4 HA HI
          go_wp2_with fail
          go_roundw
          case rel => exact ⟨i + 1, by omega, by go_num, H4⟩
          case measure => simp [intOf]; omega
        · have hie : i = n + 1 := by omega
          have e1 : ¬ (i : Int) ≤ (n : Int) := by omega
          subst hie
          obtain ⟨wb, hwb⟩ : ∃ wb, wb = wr := ⟨_, rfl⟩
          subst hwb
          go_wp2_with fail
          go_loopw [10] (fun s10 wr => ∃ (j : Nat), j ≤ m ∧ s10 = .int .i64 j ∧ Hid (Sn w wr a (mix 0 (n + 1)) false)) (fun s10 _ => m - (intOf s10).toNat)
          case atStart => exact ⟨0, by omega, rfl, HI⟩
          case round =>
            obtain ⟨j, hj, rfl, HJ⟩ := hrel
            by_cases hjm : j < m
            · have HA := hide (sn_arm HJ.out)
              unfold ptr at HA
              go_wp2_with fail
              refine HA.out.mono ?_
              rintro e w5 ⟨rfl, h5, -⟩
              have H5 := hide h5
              clear h5 HA HJ
              go_wp2_with fail
              obtain ⟨wd, hwd⟩ : ∃ wd, wd = wr := ⟨_, rfl⟩
              subst hwd
              go_loopw [12] (fun s12 wr => ∃ (t : Nat), t ≤ n + 1 ∧ s12 = .int .i64 t ∧ Hid (Sn w wr a (mix t (n + 1)) true)) (fun s12 _ => n + 1 - (intOf s12).toNat)
              case atStart => exact ⟨0, by omega, rfl, H5⟩
              case round =>
                obtain ⟨t, ht, rfl, HT⟩ := hrel
                by_cases htn : t ≤ n
                · have e2 : (t : Int) ≤ (n : Int) := by omega
                  have HP := hide (sn_poll HT.out t (in64_small (by omega)))
                  rw [mix_polls t (n + 1) (by omega) (by omega), mix_poll t (n + 1) (by omega) (by omega)] at HP
                  unfold ptr at HP
                  go_wp2_with fail
                  refine HP.out.mono ?_
                  rintro e w6 ⟨rfl, h6, -⟩
                  have H6 := hide h6
                  clear h6 HP HT
                  go_wp2_with fail
                  go_roundw
                  case rel => exact ⟨t + 1, by omega, by go_num, H6⟩
                  case measure => simp [intOf]; omega
                · have hte : t = n + 1 := by omega
                  have e2 : ¬ (t : Int) ≤ (n : Int) := by omega
                  subst hte
                  obtain ⟨q1, q2, q3⟩ := mix_resume (n + 1) (by omega)
                  have HR := hide (sn_resume HT.out)
                  rw [q2, q3] at HR
                  unfold ptr at HR
                  go_wp2_with fail
                  refine HR.out.mono ?_
                  rintro e w6 ⟨v, rfl, r6, h6, -⟩
                  obtain ⟨ao, cap, rfl⟩ := r6.size
                  rw [q1]
                  have HI6 := hide (sn_in (h6.next ((Turned.refl [] w6).alloc (.cells #[.int .i64 1] 3))) (some ⟨w6.heap.size, 0, none⟩) 1 1 [1] (one_new w6 1 (in64_small (by omega))) (by omega))
                  unfold ptr at HI6
                  clear r6 h6 HR HT q1 q2 q3
                  go_wp2_with fail
                  refine HI6.out.mono ?_
                  rintro e w7 ⟨v, rfl, r7, h7, -⟩
                  obtain ⟨ao2, cap2, rfl⟩ := r7.size
                  rw [mix_in]
                  have HA7 := hide (sn_armed h7)
                  have H7 := hide h7
                  unfold ptr at HA7
                  clear r7 h7 HI6
                  go_wp2_with fail
                  refine HA7.out.mono ?_
                  rintro e w8 ⟨rfl, hw⟩
                  rw [hw]
                  clear hw w8 HA7
                  go_wp2_with fail
                  go_roundw
                  case rel => exact ⟨j + 1, by omega, by go_num, H7⟩
                  case measure => simp [intOf]; omega
            · have hjl : j = m := by omega
              subst hjl
              have HT := hide HJ.out.turn
              go_wp2_with fail
              go_ret
              exact ⟨rfl, HT.out⟩

set_option maxRecDepth 100000 in
theorem safeAgain_lifted (os : Os) (started : os.Started) (H : Type) (enc : TypeId × Value → H) :
    ReturnsInHanded {} Try.checked os 7 .any (Rows.safeAgainSpec.pre6 enc Try.prog Try.f7 Rows.safeAgainRow.domain false) (Rows.safeAgainSpec.post enc Try.prog Try.f7 false true false false) := by
  refine returnsInHanded_of_change (C := Try.checked) own started (by kernel_rfl) Try.func7
    (ChangeSpec.witness6 (enc := enc) (C := Try.checked) false ⟨#[], #[.int .i64 0, .int .i64 0], []⟩ 8 (by kernel_rfl) (by kernel_rfl) (by kernel_rfl) (by kernel_rfl)) ?_
  intro W base args ds gs before hval0 hW hcnd _
  have hval : ∀ (j : Nat) t v, Try.f7.params[j]? = some t → args[j]? = some v → Value.okWide Try.prog W .any base t v := hval0
  have hW' := hW
  obtain ⟨p, q, hA0, hV, rfl, hfz, hnd⟩ := hW
  have hA : DataW.TrodAll enc Try.prog W 0 (fun _ => true) true Try.f7.params.toList args.toList ds p := hA0
  rw [Try.params7] at hA hval
  obtain ⟨v0, vs0, d0, ds0, p0, q0, hargs, rfl, rfl, h0, r0⟩ := trodAll_cons hA
  obtain ⟨v1, vs1, d1, ds1, p1, q1, rfl, rfl, rfl, h1, r1⟩ := trodAll_cons r0
  obtain ⟨rfl, rfl, rfl⟩ := trodAll_nil r1
  obtain rfl : args = #[v0, v1] := by cases args; simp_all
  obtain ⟨rfl, rfl⟩ := trodVars_none hV
  obtain ⟨a0, rfl, rfl, rfl, w0⟩ := open_int Try.underlying3 (hval 0 3 v0 rfl rfl) h0
  obtain ⟨a1, rfl, rfl, rfl, w1⟩ := open_int Try.underlying3 (hval 1 3 v1 rfl rfl) h1
  clear hA0 hval0
  refine (safeAgain_walk a0 a1 W w0 w1).mono fun e W' ⟨he, ht⟩ => ?_
  subst he
  have bel : Below W.heap.size W W' := ht.below0
  exact ⟨_, rfl, _, _, _, [], _, [], hW', trodAll_mk1 (shut_bool Try.underlying4 _), (trodAll_cons_mk (shut_int Try.underlying3 w0) (trodAll_cons_mk (shut_int Try.underlying3 w1) trodAll_mk0)), rfl, bel.frame _, fun h => by cases h⟩

theorem safeAgain_over : Rows.safeAgainRow.holds Try.pinned (OpenSpec.ofChange Rows.safeAgainSpec) :=
  OpenClaim.holds_of_wide 7 Try.f7 rfl rfl rfl rfl rfl rfl rfl ⟨rfl, rfl, rfl, rfl, rfl⟩ rfl rfl rfl rfl rfl (by kernel_rfl) Try.func7 (by kernel_rfl)
    (of_decide_eq_true (by kernel_rfl)) (by unfold Func.isWrapper; first | (rw [if_pos (by decide +kernel)]; kernel_rfl) | (rw [if_neg (by decide +kernel)]; exact ⟨rfl, rfl⟩))
    (fun os started H enc _ => safeAgain_lifted os started H enc)

theorem safeAgain_holds : Rows.SafeAgainSaid := safeAgain_over
end Go.Proofs.Ytclfeafmlngpnaa
