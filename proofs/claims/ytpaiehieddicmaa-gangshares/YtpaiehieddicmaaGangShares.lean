/-
  GangShares: each part is taken once, and nothing else is; reset, all are there again: true for every number of parts and of asks, and every parts that it is reset to.
-/
import Derived.Test.YtpaiehieddicmaaGangKit
import Derived.Deep.Cut
import Derived.Deep.CutBlock
import Derived.Deep.CutRange
import Derived.Deep.DeepCutAuto
import Derived.Deep.LoopGhost
namespace Go.Proofs.Ytpaiehieddicmaa
open Go.ChangeShapes Go.WideShapes Go.ChangeAt Go.RowKit
set_option linter.unusedVariables false

theorem sn_low {w0 w : World} {a p q : Nat} {l : List Int} {s : Int} {k : Nat} {pt : Int} (h : Sn w0 w a p q l s k pt) (ao : Option Addr) (len cap : Nat) (rs : List Int) (hr : IRd w ao len rs) (hlen : len ≤ 9223372036854775807) (hb : anyB rs = true) :
    Calls Try.prog 22 #[ptr a, .slice ao len cap] w fun e w' => e = .returned (.tuple #[]) ∧ Sn w0 w' a p q l s k pt ∧ Turned [] w w' := by
  refine (sreset_low w a p q l s k pt h.1 ao len cap rs hr hlen hb).mono ?_
  rintro e w' ⟨rfl, h1, h2⟩
  exact ⟨rfl, ⟨h1, h.2.1.trans h2, h.2.2⟩, h2⟩

set_option maxHeartbeats 4000000 in
set_option maxRecDepth 100000 in
theorem gangShares_walk (x y : Int) (ao : Option Addr) (len cap : Nat) (zs : List Int) (w : World) (hx : (Lit.int .i64 x).wf = true) (hy : (Lit.int .i64 y).wf = true) (hz : IsRow .i64 w ao len cap zs) :
    Calls Try.prog 5 #[.int .i64 x, .int .i64 y, .slice ao len cap] w fun e w' => e = .returned (.bool true) ∧ Turned [] w w' := by
  obtain ⟨hrd, hlen, -⟩ := isRow_ird hz
  have hyr := wf_range hy
  have HR := hide hrd
  have HAw := hide (awake_any w)
  generalize zs.take len = rs at *
  clear hrd hz hx hy
  go_enter Try.func5, Try.ntmps5
  go_wp2_with fail
  refine HAw.out.mono ?_
  rintro e w0 ⟨rfl, t0⟩
  have T0 := hide t0
  have HNew := hide (new_any 3 w0)
  rw [show (min (max (3 : Int) 0) 65536).toNat = 3 by decide] at HNew
  clear t0 HAw
  go_wp2_with fail
  refine HNew.out.mono ?_
  rintro e w1 ⟨rfl, hM, t1, -⟩
  have HM := hide hM
  have T1 := hide t1
  clear hM t1 HNew
  go_upto_if 23 with fail
  go_cut [0] (fun s0 wc => ∃ pt : Int, s0 = .int .i64 pt ∧ pt ≤ 200 ∧ Aside (wc = w1))
  case first =>
    by_cases hp : 200 < x
    · go_wp2_with fail
      go_meet
      case rel => exact ⟨200, rfl, by omega, rfl⟩
    · go_wp2_with fail
      go_meet
      case rel => exact ⟨x, rfl, by omega, rfl⟩
  case rest =>
    obtain ⟨pt, rfl, hpt, hwc⟩ := hcut
    have hwc' := hwc.out
    subst hwc'
    clear hwc
    obtain ⟨w1, hw1⟩ : ∃ w1, w1 = wc := ⟨_, rfl⟩
    subst hw1
    by_cases hp0 : pt < 0
    · have HS := hide (snew_low w1 _ _ _ 0 2 pt HM.out (by simp) (by simp) hp0)
      unfold ptr at HS
      have HT := hide (T0.out.trans T1.out)
      clear T0 T1 HM
      go_wp2_with fail
      refine HS.out.mono ?_
      rintro e w2 ⟨rfl, hw2⟩
      rw [hw2]
      clear hw2 w2 HS
      go_wp2_with fail
      go_ret
      exact ⟨rfl, HT.out⟩
    · have HS := hide (sn_new w w0 T0.out 3 2 pt (by omega) (by omega) (by omega) w1 HM.out T1.out)
      unfold ptr at HS
      clear HM T0 T1
      generalize w0.heap.size + 1 = p at *
      generalize w0.heap.size = q at *
      go_wp2_with fail
      refine HS.out.mono ?_
      rintro e w2 ⟨rfl, h2⟩
      have H2 := hide (show Sn w w2 w1.heap.size p q [0, 0, ((0 : Nat) : Int)] ((0 : Nat) : Int) 2 pt from h2)
      clear h2 HS
      generalize w1.heap.size = a at *
      go_upto_if 50 with fail
      go_cut [11] (fun s11 wc => ∃ n : Nat, s11 = .int .i64 (n : Int) ∧ n < 300 ∧ Aside (wc = w2))
      case first =>
        have ta : -300 < y.tmod 300 ∧ y.tmod 300 < 300 := tmod_bounds y 300 (by omega)
        by_cases hneg : y.tmod 300 < 0
        · go_wp2_with fail
          go_meet
          case rel => exact ⟨(-(y.tmod 300)).toNat, by congr 1; omega, by omega, rfl⟩
        · go_wp2_with fail
          go_meet
          case rel => exact ⟨(y.tmod 300).toNat, by congr 1; omega, by omega, rfl⟩
      case rest =>
        obtain ⟨n, rfl, hn, hwc⟩ := hcut
        have hwc' := hwc.out
        subst hwc'
        clear hwc hyr
        obtain ⟨w2, hw2⟩ : ∃ w2, w2 = wc := ⟨_, rfl⟩
        subst hw2
        go_wp2_with fail
        go_loopg [0, 12] 3 (fun gg s0 s12 wr => ∃ (tn : Nat) (pt : Int) (s : Nat), s0 = .int .i64 pt ∧ s12 = .int .i64 (tn : Int) ∧ tn ≤ 2 ∧ 2 - tn ≤ gg ∧ 0 ≤ pt ∧ s = tn * n ∧ Aside (Sn w wr a p q [0, 0, 0] (s : Int) 2 pt))
        case atStart => exact ⟨0, pt, 0, rfl, rfl, by omega, by omega, by omega, by omega, H2.out⟩
        case round =>
          obtain ⟨tn, pt, s, rfl, rfl, htn, hgg, hpt0, hs, hsn⟩ := hrel
          have S1 := hide hsn.out
          have hs600 : s ≤ 600 := by
            rw [hs]
            have : tn * n ≤ 2 * 300 := Nat.mul_le_mul htn (by omega)
            omega
          have HSn := hide hs
          clear hsn H2 hs hpt hp0
          by_cases htt : tn < 2
          · have e1 : (tn : Int) < 2 := by omega
            have HSt := hide (steps_mem p q _ _ wr S1.out.1.mem)
            go_wp2_with fail
            refine HSt.out.mono ?_
            rintro e w4 ⟨rfl, hw4⟩
            rw [hw4]
            clear hw4 w4 HSt
            go_wp2_with fail
            go_loopg [14] 301 (fun gg s14 wr => ∃ (i : Nat), s14 = .int .i64 (i : Int) ∧ i ≤ n ∧ n - i ≤ gg ∧ Aside (Sn w wr a p q [0, 0, (i : Int)] ((s + i : Nat) : Int) 2 pt))
            case atStart => exact ⟨0, rfl, by omega, by omega, S1.out⟩
            case round =>
              obtain ⟨i, rfl, hi, hgg2, hsn⟩ := hrel
              have S2 := hide hsn.out
              clear hsn S1
              by_cases hin : i < n
              · have e2 : (i : Int) < (n : Int) := by omega
                have HX := hide (sn_next S2.out (i : Int) rfl (by omega) (by omega))
                unfold ptr at HX
                by_cases hip : (i : Int) < pt
                · rw [if_pos hip, decide_eq_true hip] at HX
                  go_wp2_with fail
                  refine HX.out.mono ?_
                  rintro e w5 ⟨rfl, h5, -⟩
                  have S5 := hide (show Sn w w5 a p q [0, 0, ((i + 1 : Nat) : Int)] ((s + (i + 1) : Nat) : Int) 2 pt from by rw [show ((s + (i + 1) : Nat) : Int) = ((s + i : Nat) : Int) + 1 by omega]; exact h5)
                  clear h5 HX S2
                  go_wp2_with fail
                  go_roundg (n - (i + 1))
                  case measure => omega
                  case rel => exact ⟨i + 1, by go_num, by omega, Nat.le_refl _, S5.out⟩
                · rw [if_neg hip, decide_eq_false hip] at HX
                  go_wp2_with fail
                  refine HX.out.mono ?_
                  rintro e w5 ⟨rfl, h5, -⟩
                  have S5 := hide (show Sn w w5 a p q [0, 0, ((i + 1 : Nat) : Int)] ((s + (i + 1) : Nat) : Int) 2 pt from by rw [show ((s + (i + 1) : Nat) : Int) = ((s + i : Nat) : Int) + 1 by omega]; exact h5)
                  clear h5 HX S2
                  go_wp2_with fail
                  go_roundg (n - (i + 1))
                  case measure => omega
                  case rel => exact ⟨i + 1, by go_num, by omega, Nat.le_refl _, S5.out⟩
              · have hie : i = n := by omega
                subst hie
                have e2 : ¬ (i : Int) < (i : Int) := by omega
                go_upto_if 93 with fail
                go_cut [17] (fun s17 wc => s17 = .int .i64 (min (i : Int) pt) ∧ Aside (wc = wr))
                case first =>
                  by_cases hip : pt < (i : Int)
                  · go_wp2_with fail
                    go_meet
                    case rel => exact ⟨by congr 1; omega, rfl⟩
                  · go_wp2_with fail
                    go_meet
                    case rel => exact ⟨by congr 1; omega, rfl⟩
                case rest =>
                  obtain ⟨rfl, hwc⟩ := hcut
                  have hwc' := hwc.out
                  subst hwc'
                  clear hwc
                  obtain ⟨wr, hwr⟩ : ∃ wr, wr = wc := ⟨_, rfl⟩
                  subst hwr
                  have HX := hide (sn_taken S2.out (i : Int) rfl (by omega) hpt0)
                  unfold ptr at HX
                  generalize hmm : min (i : Int) pt = mm at *
                  have HMm := hide hmm
                  clear hmm
                  go_wp2_with fail
                  refine HX.out.mono ?_
                  rintro e w5 ⟨rfl, h5, -⟩
                  have S5 := hide h5
                  clear h5 HX S2
                  have HSt := hide (steps_mem p q _ _ w5 S5.out.1.mem)
                  rw [show ((s + i : Nat) : Int) = (s : Int) + (i : Int) by omega] at HSt
                  go_wp2_with fail
                  refine HSt.out.mono ?_
                  rintro e w6 ⟨rfl, hw6⟩
                  rw [hw6]
                  clear hw6 w6 HSt
                  by_cases hany : anyB rs = true
                  · have HX := hide (sn_low S5.out ao len cap rs (HR.out.turned0 S5.out.turn) hlen hany)
                    unfold ptr at HX
                    have HAny := hide hany
                    clear hany
                    go_wp2_with fail
                    refine HX.out.mono ?_
                    rintro e w6 ⟨rfl, h6, -⟩
                    have S6 := hide h6
                    clear h6 HX S5
                    go_wp2_with fail
                    go_loopg [18, 19] (len + 1) (fun gg s18 s19 wr => ∃ (j : Nat), s18 = .bool (anyB (rs.take j)) ∧ s19 = .int .i64 (j : Int) ∧ j ≤ len ∧ len - j ≤ gg ∧ Aside (wr = w6))
                    case atStart => exact ⟨0, by simp [anyB], rfl, by omega, by omega, rfl⟩
                    case round =>
                      obtain ⟨j, rfl, rfl, hj, hgg3, hwr⟩ := hrel
                      have hwr' := hwr.out
                      subst hwr'
                      clear hwr
                      by_cases hjl : j < len
                      · have e3 : (j : Int) < (len : Int) := by omega
                        obtain ⟨z, hzz⟩ : ∃ z, rs[j]? = some z := ⟨_, List.getElem?_eq_getElem (by have := HR.out.size; omega)⟩
                        obtain ⟨bg, bo, hao, cz⟩ := (HR.out.turned0 S6.out.turn).cell j z hzz
                        subst hao
                        have HA := hide (show anyB (rs.take (j + 1)) = (anyB (rs.take j) || decide (z < 0)) by rw [take_snoc hzz, anyB_snoc])
                        clear hzz
                        generalize anyB (rs.take j) = ab at *
                        cases ab
                        · by_cases hz0 : z < 0
                          · go_wp2_with fail
                            go_roundg (len - (j + 1))
                            case measure => omega
                            case rel => exact ⟨j + 1, by rw [HA.out, decide_eq_true hz0]; rfl, by go_num, by omega, Nat.le_refl _, rfl⟩
                          · go_wp2_with fail
                            go_roundg (len - (j + 1))
                            case measure => omega
                            case rel => exact ⟨j + 1, by rw [HA.out, decide_eq_false (by omega)]; rfl, by go_num, by omega, Nat.le_refl _, rfl⟩
                        · go_wp2_with fail
                          go_roundg (len - (j + 1))
                          case measure => omega
                          case rel => exact ⟨j + 1, by rw [HA.out]; rfl, by go_num, by omega, Nat.le_refl _, rfl⟩
                      · have e3 : ¬ (j : Int) < (len : Int) := by omega
                        have hall : rs.take j = rs := List.take_of_length_le (by have := HR.out.size; omega)
                        rw [hall]
                        rw [HAny.out]
                        obtain ⟨w6, hw6⟩ : ∃ w6, w6 = wr := ⟨_, rfl⟩
                        subst hw6
                        have HX := hide (sn_taken S6.out (i : Int) rfl (by omega) hpt0)
                        unfold ptr at HX
                        rw [HMm.out] at HX
                        go_wp2_with fail
                        refine HX.out.mono ?_
                        rintro e w7 ⟨rfl, h7, -⟩
                        have HT := hide h7.turn
                        clear h7 HX S6
                        go_wp2_with fail
                        go_ret
                        exact ⟨rfl, HT.out⟩
                  · have hany' : anyB rs = false := by cases hh : anyB rs; rfl; exact absurd hh hany
                    have HX := hide (sn_reset S5.out ao len cap rs (HR.out.turned0 S5.out.turn) hlen hany')
                    unfold ptr at HX
                    have HAny := hide hany'
                    clear hany hany'
                    go_wp2_with fail
                    refine HX.out.mono ?_
                    rintro e w6 ⟨rfl, h6, -⟩
                    have S6 := hide (show Sn w w6 a p q [0, 0, 0] ((s + i : Nat) : Int) 2 (resP pt rs) from h6)
                    clear h6 HX S5
                    go_wp2_with fail
                    go_loopg [18, 19] (len + 1) (fun gg s18 s19 wr => ∃ (j : Nat), s18 = .bool (anyB (rs.take j)) ∧ s19 = .int .i64 (j : Int) ∧ j ≤ len ∧ len - j ≤ gg ∧ Aside (wr = w6))
                    case atStart => exact ⟨0, by simp [anyB], rfl, by omega, by omega, rfl⟩
                    case round =>
                      obtain ⟨j, rfl, rfl, hj, hgg3, hwr⟩ := hrel
                      have hwr' := hwr.out
                      subst hwr'
                      clear hwr
                      by_cases hjl : j < len
                      · have e3 : (j : Int) < (len : Int) := by omega
                        obtain ⟨z, hzz⟩ : ∃ z, rs[j]? = some z := ⟨_, List.getElem?_eq_getElem (by have := HR.out.size; omega)⟩
                        obtain ⟨bg, bo, hao, cz⟩ := (HR.out.turned0 S6.out.turn).cell j z hzz
                        subst hao
                        have HA := hide (show anyB (rs.take (j + 1)) = (anyB (rs.take j) || decide (z < 0)) by rw [take_snoc hzz, anyB_snoc])
                        clear hzz
                        generalize anyB (rs.take j) = ab at *
                        cases ab
                        · by_cases hz0 : z < 0
                          · go_wp2_with fail
                            go_roundg (len - (j + 1))
                            case measure => omega
                            case rel => exact ⟨j + 1, by rw [HA.out, decide_eq_true hz0]; rfl, by go_num, by omega, Nat.le_refl _, rfl⟩
                          · go_wp2_with fail
                            go_roundg (len - (j + 1))
                            case measure => omega
                            case rel => exact ⟨j + 1, by rw [HA.out, decide_eq_false (by omega)]; rfl, by go_num, by omega, Nat.le_refl _, rfl⟩
                        · go_wp2_with fail
                          go_roundg (len - (j + 1))
                          case measure => omega
                          case rel => exact ⟨j + 1, by rw [HA.out]; rfl, by go_num, by omega, Nat.le_refl _, rfl⟩
                      · have e3 : ¬ (j : Int) < (len : Int) := by omega
                        have hall : rs.take j = rs := List.take_of_length_le (by have := HR.out.size; omega)
                        rw [hall]
                        rw [HAny.out]
                        obtain ⟨w6, hw6⟩ : ∃ w6, w6 = wr := ⟨_, rfl⟩
                        subst hw6
                        go_upto_if 134 with fail
                        go_cut [0] (fun s0 wc => s0 = .int .i64 (resP pt rs) ∧ Aside (wc = w6))
                        case first =>
                          by_cases hl0 : 0 < len
                          · obtain ⟨z, hzz⟩ : ∃ z, rs[len - 1]? = some z := ⟨_, List.getElem?_eq_getElem (by have := HR.out.size; omega)⟩
                            have hrz : resP pt rs = z := by
                              unfold resP
                              rw [List.getLastD_eq_getLast?, List.getLast?_eq_getElem?, HR.out.size, hzz]; rfl
                            obtain ⟨bg, bo, hao, cz⟩ := (HR.out.turned0 S6.out.turn).cell (len - 1) z hzz
                            subst hao
                            clear hzz
                            go_wp2_with fail
                            go_meet
                            case rel => exact ⟨by rw [hrz], rfl⟩
                          · have hrz : resP pt rs = pt := by
                              have : rs = [] := List.eq_nil_of_length_eq_zero (by have := HR.out.size; omega)
                              rw [this]; rfl
                            go_wp2_with fail
                            go_meet
                            case rel => exact ⟨by rw [hrz], rfl⟩
                        case rest =>
                          obtain ⟨rfl, hwc⟩ := hcut
                          have hwc' := hwc.out
                          subst hwc'
                          clear hwc
                          obtain ⟨w6, hw6⟩ : ∃ w6, w6 = wc := ⟨_, rfl⟩
                          subst hw6
                          have hr0 : 0 ≤ resP pt rs := by
                            unfold resP
                            rw [List.getLastD_eq_getLast?]
                            cases hh : rs.getLast? with
                            | none => exact hpt0
                            | some z =>
                              have hm := List.mem_of_getLast? hh
                              have h9 := HAny.out
                              simp only [anyB, List.any_eq_false] at h9
                              have := h9 z hm
                              simpa using this
                          have HX := hide (sn_taken S6.out 0 rfl (by omega) hr0)
                          unfold ptr at HX
                          generalize resP pt rs = pt2 at *
                          rw [show min (0 : Int) pt2 = 0 by omega] at HX
                          go_wp2_with fail
                          refine HX.out.mono ?_
                          rintro e w7 ⟨rfl, h7, -⟩
                          have S7 := hide h7
                          clear h7 HX S6
                          go_wp2_with fail
                          go_roundg (2 - (tn + 1))
                          case measure => omega
                          case rel => exact ⟨tn + 1, pt2, s + i, rfl, by go_num, by omega, Nat.le_refl _, hr0, by rw [HSn.out, Nat.add_mul]; omega, S7.out⟩
          · have e1 : ¬ (tn : Int) < 2 := by omega
            have HT := hide S1.out.turn
            clear S1
            go_wp2_with fail
            go_ret
            exact ⟨rfl, HT.out⟩

set_option maxRecDepth 100000 in
theorem gangShares_lifted (os : Os) (started : os.Started) (H : Type) (enc : TypeId × Value → H) :
    ReturnsInHanded {} Try.checked os 5 .any (Rows.gangSharesSpec.pre6 enc Try.prog Try.f5 Rows.gangSharesRow.domain false) (Rows.gangSharesSpec.post enc Try.prog Try.f5 false true false false) := by
  refine returnsInHanded_of_change (C := Try.checked) own started (by kernel_rfl) Try.func5
    (ChangeSpec.witness6 (enc := enc) (C := Try.checked) false ⟨#[], #[.int .i64 0, .int .i64 0, .slice none 0 0], []⟩ 8 (by kernel_rfl) (by kernel_rfl) (by kernel_rfl) (by kernel_rfl)) ?_
  intro W base args ds gs before hval0 hW hcnd _
  have hval : ∀ (j : Nat) t v, Try.f5.params[j]? = some t → args[j]? = some v → Value.okWide Try.prog W .any base t v := hval0
  have hW' := hW
  obtain ⟨p, q, hA0, hV, rfl, hfz, hnd⟩ := hW
  have hA : DataW.TrodAll enc Try.prog W 0 (fun _ => true) true Try.f5.params.toList args.toList ds p := hA0
  rw [Try.params5] at hA hval
  obtain ⟨v0, vs0, d0, ds0, p0, q0, hargs, rfl, rfl, h0, r0⟩ := trodAll_cons hA
  obtain ⟨v1, vs1, d1, ds1, p1, q1, rfl, rfl, rfl, h1, r1⟩ := trodAll_cons r0
  obtain ⟨v2, vs2, d2, ds2, p2, q2, rfl, rfl, rfl, h2, r2⟩ := trodAll_cons r1
  obtain ⟨rfl, rfl, rfl⟩ := trodAll_nil r2
  obtain rfl : args = #[v0, v1, v2] := by cases args; simp_all
  obtain ⟨rfl, rfl⟩ := trodVars_none hV
  obtain ⟨a0, rfl, rfl, rfl, w0⟩ := open_int Try.underlying3 (hval 0 3 v0 rfl rfl) h0
  obtain ⟨a1, rfl, rfl, rfl, w1⟩ := open_int Try.underlying3 (hval 1 3 v1 rfl rfl) h1
  obtain ⟨a2, len2, cap2, rfl⟩ := okWide_slice Try.underlying22 (hval 2 22 v2 rfl rfl)
  have k2 := h2
  have lt2 : ∀ x ∈ p2, x.block < W.heap.size := by obtain ⟨m, hm⟩ := k2; exact DataW.trod_lt m _ _ _ hm
  obtain ⟨z2, w2⟩ : ∃ zs, IsRow .i64 W a2 len2 cap2 zs := by
    obtain ⟨fuel, hf⟩ := h2
    rcases open_ints Try.underlying22 Try.underlying3 (by kernel_rfl) hf with ⟨hcs, _⟩ | ⟨x, l, c, zs, hcs, _, hl, hm, hz, _, hcell, hwz⟩
    · simp [Value.cells] at hcs
      obtain ⟨rfl, rfl, rfl⟩ := hcs
      exact ⟨[], .inl ⟨rfl, rfl, rfl, rfl⟩⟩
    · simp [Value.cells] at hcs
      obtain ⟨rfl, rfl, rfl⟩ := hcs
      exact ⟨zs, .inr ⟨_, rfl, hl, hm, by simpa using hz, hcell, hwz⟩⟩
  clear hA0 hval0
  refine (gangShares_walk a0 a1 a2 len2 cap2 z2 W w0 w1 w2).mono fun e W' ⟨he, ht⟩ => ?_
  subst he
  have bel : Below W.heap.size W W' := ht.below0
  exact ⟨_, rfl, _, _, _, [], _, [], hW', trodAll_mk1 (shut_bool Try.underlying4 _), (trodAll_cons_mk (shut_int Try.underlying3 w0) (trodAll_cons_mk (shut_int Try.underlying3 w1) (trodAll_cons_mk (Below.trod laidOut (by kernel_rfl) (of_decide_eq_true (by kernel_rfl)) k2 bel lt2) trodAll_mk0))), rfl, bel.frame _, fun h => by cases h⟩

theorem gangShares_over : Rows.gangSharesRow.holds Try.pinned (OpenSpec.ofChange Rows.gangSharesSpec) :=
  OpenClaim.holds_of_wide 5 Try.f5 rfl rfl rfl rfl rfl rfl rfl ⟨rfl, rfl, rfl, rfl, rfl⟩ rfl rfl rfl rfl rfl (by kernel_rfl) Try.func5 (by kernel_rfl)
    (of_decide_eq_true (by kernel_rfl)) (by unfold Func.isWrapper; first | (rw [if_pos (by decide +kernel)]; kernel_rfl) | (rw [if_neg (by decide +kernel)]; exact ⟨rfl, rfl⟩))
    (fun os started H enc _ => gangShares_lifted os started H enc)

theorem gangShares_holds : Rows.GangSharesSaid := gangShares_over
end Go.Proofs.Ytpaiehieddicmaa
