/-
  GangRounds: where all arrive, in whatever order, as often as told, the phase is as many; the last one of each is told so, and nobody else: true for every number of workers and phases and every order.
-/
import Derived.Test.YtpaiehieddicmaaGangPart
import Derived.Deep.Cut
import Derived.Deep.CutBlock
import Derived.Deep.CutRange
import Derived.Deep.DeepCutAuto
import Derived.Deep.LoopGhost
namespace Go.Proofs.Ytpaiehieddicmaa
open Go.ChangeShapes Go.WideShapes Go.ChangeAt Go.RowKit
set_option linter.unusedVariables false

theorem wrap_small {z : Int} (h : -1000000 ≤ z ∧ z ≤ 1000000) : wrap64 z = z := by unfold wrap64; omega

set_option maxHeartbeats 8000000 in
set_option maxRecDepth 100000 in
theorem gangRounds_walk (x y : Int) (ao : Option Addr) (len cap : Nat) (zs : List Int) (w : World) (hx : (Lit.int .i64 x).wf = true) (hy : (Lit.int .i64 y).wf = true) (hz : IsRow .i64 w ao len cap zs) :
    Calls Try.prog 8 #[.int .i64 x, .int .i64 y, .slice ao len cap] w fun e w' => e = .returned (.bool true) ∧ Turned [] w w' := by
  obtain ⟨hrd, hlen, h64⟩ := isRow_ird hz
  have hxr := wf_range hx
  have hyr := wf_range hy
  have HO := hide hrd
  have HO64 := hide h64
  have HAw := hide (awake_any w)
  generalize zs.take len = ol at *
  clear hrd hz hx hy h64
  go_enter Try.func8, Try.ntmps8
  go_wp2_with fail
  refine HAw.out.mono ?_
  rintro e w0 ⟨rfl, t0⟩
  have T0 := hide t0
  clear t0 HAw
  go_upto_if 24 with fail
  go_cut [8] (fun s8 wc => ∃ n : Nat, s8 = .int .i64 (n : Int) ∧ n ≤ 19 ∧ Aside (wc = w0))
  case first =>
    have ta : -20 < x.tmod 20 ∧ x.tmod 20 < 20 := tmod_bounds x 20 (by omega)
    by_cases hneg : x.tmod 20 < 0
    · go_wp2_with fail
      go_meet
      case rel => exact ⟨(-(x.tmod 20)).toNat, by congr 1; omega, by omega, rfl⟩
    · go_wp2_with fail
      go_meet
      case rel => exact ⟨(x.tmod 20).toNat, by congr 1; omega, by omega, rfl⟩
  case rest =>
    obtain ⟨n1, rfl, hn1, hwc⟩ := hcut
    have hwc' := hwc.out
    subst hwc'
    clear hwc hxr
    obtain ⟨w0, hw0⟩ : ∃ w0, w0 = wc := ⟨_, rfl⟩
    subst hw0
    go_upto_if 32 with fail
    go_cut [9] (fun s9 wc => ∃ n : Nat, s9 = .int .i64 (n : Int) ∧ n ≤ 9 ∧ Aside (wc = w0))
    case first =>
      have ta : -10 < y.tmod 10 ∧ y.tmod 10 < 10 := tmod_bounds y 10 (by omega)
      by_cases hneg : y.tmod 10 < 0
      · go_wp2_with fail
        go_meet
        case rel => exact ⟨(-(y.tmod 10)).toNat, by congr 1; omega, by omega, rfl⟩
      · go_wp2_with fail
        go_meet
        case rel => exact ⟨(y.tmod 10).toNat, by congr 1; omega, by omega, rfl⟩
    case rest =>
      obtain ⟨kk, rfl, hkk, hwc⟩ := hcut
      have hwc' := hwc.out
      subst hwc'
      clear hwc hyr
      obtain ⟨w0, hw0⟩ : ∃ w0, w0 = wc := ⟨_, rfl⟩
      subst hw0
      obtain ⟨n, hn⟩ : ∃ n : Nat, n = n1 + 1 := ⟨_, rfl⟩
      have HNew := hide (gn_new w w0 T0.out n (by omega) (by omega))
      unfold ptr at HNew
      have hn20 : 1 ≤ n ∧ n ≤ 20 := by omega
      rw [show ((n : Nat) : Int) = (n1 : Int) + 1 by omega] at HNew
      go_wp2_with fail
      refine HNew.out.mono ?_
      rintro e w2 ⟨rfl, h2, -⟩
      have H2 := hide h2
      have HB := hide (show w0.heap.size + 1 < w2.heap.size ∧ w0.heap.size < w2.heap.size ∧ w.heap.size ≤ w2.heap.size from ⟨h2.1.ltp, h2.1.ltq, h2.turn.size⟩)
      clear h2 HNew T0
      rw [show (n1 : Int) + 1 = (n : Int) by omega]
      clear hn hn1
      generalize w0.heap.size + 1 = p at *
      generalize w0.heap.size = q at *
      obtain ⟨B, hBw⟩ : ∃ B, B = w2.heap.size := ⟨_, rfl⟩
      rw [← hBw] at HB
      have HBW := hide (show B ≤ w2.heap.size by omega)
      clear hBw
      obtain ⟨i0, hi, hi0⟩ := Option.map_eq_some_iff.1 infoInt
      simp only [Prod.mk.injEq] at hi0
      obtain ⟨hz0, hz1, hz2⟩ := hi0
      go_wp2_with fail
      go_loopg [12] 10 (fun gg s12 wr => ∃ (pp : Nat) (ws : List Int), s12 = .int .i64 (pp : Int) ∧ pp ≤ kk ∧ kk - pp ≤ gg ∧ Aside (Gn w wr p q n ws 0 pp) ∧ Aside (B ≤ wr.heap.size))
      case atStart => exact ⟨0, _, rfl, by omega, by omega, H2.out, HBW.out⟩
      case round =>
        obtain ⟨pp, ws, rfl, hpp, hgg, hgn, hbw⟩ := hrel
        have G1 := hide hgn.out
        have B1 := hide hbw.out
        clear hgn hbw H2 HBW
        by_cases hpk : pp < kk
        · have e1 : (pp : Int) < (kk : Int) := by omega
          go_wp2_with fail
          go_loopg [13, 14] 21 (fun gg s13 s14 wr => ∃ (i : Nat) (v : Value), v = s13 ∧ s14 = .int .i64 (i : Int) ∧ i ≤ n ∧ n - i ≤ gg ∧ Aside (Row wr B v (ids i)) ∧ Aside (Gn w wr p q n ws 0 pp) ∧ Aside (B ≤ wr.heap.size))
          case atStart => exact ⟨0, _, rfl, rfl, by omega, by omega, row_nil _ _, G1.out, B1.out⟩
          case round =>
            obtain ⟨i, v, rfl, rfl, hin, hgg2, hrow, hgn, hbw⟩ := hrel
            have R2 := hide hrow.out
            have G2 := hide hgn.out
            have B2 := hide hbw.out
            clear hrow hgn hbw G1 B1
            by_cases hlt : i < n
            · have e2 : (i : Int) < (n : Int) := by omega
              have R3 := hide (R2.out.t0 ((Turned.refl [] wr).alloc (.cells #[.int .i64 (i : Int)] 3)))
              have G3 := hide (G2.out.next ((Turned.refl [] wr).alloc (.cells #[.int .i64 (i : Int)] 3)))
              have I3 := hide (ird_one wr (i : Int))
              have B3 := hide (show B ≤ (wr.alloc (.cells #[.int .i64 (i : Int)] 3)).heap.size by have := B2.out; simp; omega)
              clear R2 G2
              go_wp2_with (at_builtin; refine wpList_append_part rfl _ _ rfl B _ _ rfl R3.out _ _ _ [(i : Int)] rfl I3.out (by intro e; cases e) (by rw [ids_length]; omega) B3.out ?_; intro v' w5 hr5 hg5)
              have R5 := hide (show Row w5 B v' (ids (i + 1)) by rw [ids_succ]; exact hr5)
              have G5 := hide (G3.out.grown R3.out hg5 HB.out)
              have B5 := hide (Nat.le_trans B3.out hg5.size)
              clear hr5 hg5 R3 G3 B3 I3 B2
              go_wp2_with fail
              go_roundg (n - (i + 1))
              case measure => omega
              case rel => exact ⟨i + 1, _, rfl, by go_num, by omega, Nat.le_refl _, R5.out, G5.out, B5.out⟩
            · have hie : i = n := by omega
              subst hie
              have e2 : ¬ (i : Int) < (i : Int) := by omega
              have S2 := hide (Beh.start (show 0 < i by omega) (pp : Int) ws)
              generalize ids i = l0 at *
              go_wp2_with fail
              go_loopg [13, 15] 21 (fun gg s13 s15 wr => ∃ (j : Nat) (v : Value) (lst ws : List Int) (came : Nat) (ph : Int), v = s13 ∧ s15 = .int .i64 (j : Int) ∧ j ≤ i ∧ i - j ≤ gg ∧ Aside (Row wr B v lst) ∧ Aside (Gn w wr p q i ws came ph) ∧ Aside (B ≤ wr.heap.size) ∧ Aside (Beh i (pp : Int) j lst ws came ph))
              case atStart => exact ⟨0, _, _, _, _, _, rfl, rfl, by omega, by omega, R2.out, G2.out, B2.out, S2.out⟩
              case round =>
                obtain ⟨j, v, lst, ws, came, ph, rfl, rfl, hj, hgg3, hrow, hgn, hbw, hbeh⟩ := hrel
                have R3 := hide hrow.out
                have G3 := hide hgn.out
                have B3 := hide hbw.out
                have S3 := hide hbeh.out
                clear hrow hgn hbw hbeh R2 G2 B2 S2
                by_cases hji : j < i
                · have e3 : (j : Int) < (i : Int) := by omega
                  go_upto_if 68 with fail
                  go_cut [16] (fun s16 wc => ∃ z : Int, s16 = .int .i64 z ∧ Aside (-9223372036854775808 ≤ z ∧ z ≤ 9223372036854775807) ∧ Aside (wc = wr))
                  case first =>
                    by_cases hj2 : j < len
                    · have e4 : (j : Int) < (len : Int) := by omega
                      obtain ⟨z, hzz⟩ : ∃ z, ol[j]? = some z := ⟨_, List.getElem?_eq_getElem (by have := HO.out.size; omega)⟩
                      obtain ⟨bg, bo, hao, cz⟩ := (HO.out.turned0 G3.out.turn).cell j z hzz
                      subst hao
                      have hz64 := HO64.out z (List.mem_of_getElem? hzz)
                      clear hzz
                      go_wp2_with fail
                      go_meet
                      case rel => exact ⟨z, rfl, hz64, rfl⟩
                    · have e4 : ¬ (j : Int) < (len : Int) := by omega
                      go_wp2_with fail
                      go_meet
                      case rel => exact ⟨0, rfl, ⟨by omega, by omega⟩, rfl⟩
                  case rest =>
                    obtain ⟨z, rfl, hz64, hwc⟩ := hcut
                    have hwc' := hwc.out
                    subst hwc'
                    clear hwc
                    obtain ⟨wr, hwr⟩ : ∃ wr, wr = wc := ⟨_, rfl⟩
                    subst hwr
                    go_upto_if 74 with fail
                    go_cut [16] (fun s16 wc => ∃ k : Nat, s16 = .int .i64 (k : Int) ∧ Aside (wc = wr))
                    case first =>
                      obtain ⟨q1, q2⟩ := hz64.out
                      by_cases hz0 : z < 0
                      · have e4 : wrap64 (z + 1) = z + 1 := by unfold wrap64; omega
                        have e5 : wrap64 (-(z + 1)) = -(z + 1) := by unfold wrap64; omega
                        go_wp2_with fail
                        go_meet
                        case rel => exact ⟨(-(z + 1)).toNat, by rw [Int.toNat_of_nonneg (by omega)], rfl⟩
                      · go_wp2_with fail
                        go_meet
                        case rel => exact ⟨z.toNat, by rw [Int.toNat_of_nonneg (by omega)], rfl⟩
                    case rest =>
                      obtain ⟨zn, rfl, hwc⟩ := hcut
                      have hwc' := hwc.out
                      subst hwc'
                      clear hwc hz64
                      obtain ⟨wr, hwr⟩ : ∃ wr, wr = wc := ⟨_, rfl⟩
                      subst hwr
                      obtain ⟨m, hm⟩ : ∃ m, m = lst.length := ⟨_, rfl⟩
                      have hm2 : m = i - j := by have := S3.out.1; omega
                      have hm0 : 0 < m := by omega
                      have hm20 : m ≤ 20 := by omega
                      have HM2 := hide hm2
                      clear hm2
                      obtain ⟨g, cp, rfl, -, -, hcp, hcell, -⟩ := ownsRow_open R3.out (by omega)
                      rw [← hm]
                      obtain ⟨k, hkm, HMod⟩ : ∃ k, k < m ∧ Hid (((zn : Int)).tmod (m : Int) = (k : Int)) := ⟨zn % m, Nat.mod_lt _ hm0, by show _ = _; exact (Int.ofNat_tmod zn m).symm⟩
                      have hm1 : ¬ (m : Int) = 0 := by omega
                      obtain ⟨t, ht⟩ : ∃ t, lst[k]? = some t := ⟨_, List.getElem?_eq_getElem (by omega)⟩
                      have hc1 := hcell k (.int .i64 t) (by simp [ht])
                      have HF := hide (fun w' (h : Row w' B (.slice (some ⟨g, 0, none⟩) lst.length cp) lst) => row_front h (k := k) (by omega))
                      have HBk := hide (fun w' (h : Row w' B (.slice (some ⟨g, 0, none⟩) lst.length cp) lst) => row_back h (k := k + 1) (by omega) (by omega))
                      have HX := hide (gn_arrive G3.out t (by have := S3.out.2; omega))
                      unfold ptr at HX
                      have HTk := hide ht
                      have hk20 : (k : Int) ≤ 20 := by omega
                      have e8 : (k : Int) < (m : Int) := by omega
                      have HM := hide hm
                      clear ht hcell hm hcp
                      have hmod := HMod.out
                      clear HMod
                      go_upto_region 29 with fail
                      clear hmod hm1
                      go_wp2_with fail
                      refine HX.out.mono ?_
                      rintro e w6 ⟨b, er, ws', came', ph', rfl, h6, t6, ha⟩
                      obtain ⟨rfl, hbb, hS6⟩ := S3.out.step hji HTk.out ha
                      have HBb := hide hbb
                      clear hbb
                      have G6 := hide h6
                      have R6 := hide (R3.out.gang t6 ⟨HB.out.1, HB.out.2.1⟩)
                      have S6 := hide hS6
                      have B6 := hide (Nat.le_trans B3.out t6.size)
                      obtain ⟨ao1, c1, hs1, hi1, hn1⟩ := HF.out w6 R6.out
                      obtain ⟨ao2, c2, hs2, hi2, hn2⟩ := HBk.out w6 R6.out
                      rw [← HM.out] at hs1 hs2 hi2
                      rw [show ((k + 1 : Nat) : Int) = (k : Int) + 1 by omega] at hs2
                      have HS1 := hide hs1
                      have HS2 := hide hs2
                      have HI1 := hide hi1
                      have HI2 := hide hi2
                      have HN1 := hide hn1
                      have HN2 := hide hn2
                      have HB1 := hide (show ([] : List Int).length + k ≤ 17592186044416 by simp; omega)
                      have HB2 := hide (show (lst.take k).length + (m - (k + 1)) ≤ 17592186044416 by rw [List.length_take]; omega)
                      have HE6 := hide (show wrap64 ((k : Int) + 1) = (k : Int) + 1 from wrap_small (by omega))
                      clear h6 t6 ha hS6 hi1 hi2 hn1 hn2 HX HF HBk G3 R3 S3 B3 hc1 e8
                      clear hs1 hs2
                      go_upto_region 30 with fail
                      go_cut [100] (fun s100 wc => s100 = .bool false ∧ Aside (wc = w6))
                      case first =>
                        cases b
                        · have hjb : ¬ (j : Int) = (i : Int) - 1 := of_decide_eq_false HBb.out.symm
                          go_wp2_with fail
                          go_meet
                          case rel => exact ⟨by go_num, rfl⟩
                        · have hjb : (j : Int) = (i : Int) - 1 := of_decide_eq_true HBb.out.symm
                          go_wp2_with fail
                          go_meet
                          case rel => exact ⟨by go_num, rfl⟩
                      case rest =>
                        obtain ⟨rfl, hwc⟩ := hcut
                        have hwc' := hwc.out
                        subst hwc'
                        clear hwc
                        obtain ⟨w6, hw6⟩ : ∃ w6, w6 = wc := ⟨_, rfl⟩
                        subst hw6
                        have hs1 := HS1.out
                        go_upto_region 33 with fail
                        go_upto_region 34 with (at_builtin; refine wpList_append_part rfl _ _ rfl B _ _ rfl (row_nil _ _) _ _ _ (lst.take k) rfl HI1.out HN1.out HB1.out B6.out ?_; intro v7 w7 hr7 hg7; have HR7 := hide hr7; have HG7 := hide hg7; clear hr7 hg7)
                        have HKM := hide (And.intro hkm (And.intro hm20 hm0))
                        have HJJ := hide (And.intro hj (And.intro hji (And.intro hgg3 hn20)))
                        clear hs1 hk20 hkm hm20 hm0 e3 hj hji hgg3 hn20
                        have hs2 := HS2.out
                        have e6 := HE6.out
                        have TG7 := hide (turned_grown0 HG7.out)
                        have G7 := hide (G6.out.next TG7.out)
                        have B7 := hide (Nat.le_trans B6.out TG7.out.size)
                        go_upto_region 22 with (at_builtin; refine wpList_append_part rfl _ _ rfl B _ _ rfl HR7.out _ _ _ (lst.drop (k + 1)) rfl (HI2.out.turned0 TG7.out) HN2.out HB2.out B7.out ?_; intro v8 w8 hr8 hg8; have HR8 := hide hr8; have HG8 := hide hg8; clear hr8 hg8)
                        clear e6 hs2
                        obtain ⟨hj, hji, hgg3, hn20⟩ := HJJ.out
                        have G8 := hide (G7.out.grown HR7.out HG8.out HB.out)
                        have B8 := hide (Nat.le_trans B7.out HG8.out.size)
                        clear G6 G7 R6 B6 B7 HR7 TG7 HG7 HI1 HI2 HN1 HN2 HB1 HB2
                        go_wp2_with fail
                        go_roundg (i - (j + 1))
                        case measure => omega
                        case rel => exact ⟨j + 1, _, _, _, _, _, rfl, by go_num, by omega, Nat.le_refl _, HR8.out, G8.out, B8.out, S6.out⟩
                · have hje : j = i := by omega
                  subst hje
                  have e3 : ¬ (j : Int) < (j : Int) := by omega
                  obtain ⟨hc0, hph⟩ : came = 0 ∧ ph = (pp : Int) + 1 := by
                    rcases S3.out.2 with h | h
                    · omega
                    · exact h.2
                  subst hc0 hph
                  have HPh := hide (gphase_any wr p q ws 0 _ G3.out.1)
                  have HWt := hide (gwaits_any wr p q ws 0 _ G3.out.1)
                  rw [show srt (ws.take 0) = [] by simp [srt]] at HWt
                  unfold ptr at HPh HWt
                  clear R3 S3
                  go_wp2_with fail
                  refine HPh.out.mono ?_
                  rintro e w5 ⟨rfl, hw5⟩
                  rw [hw5]
                  clear hw5 w5 HPh
                  go_wp2_with fail
                  refine HWt.out.mono ?_
                  rintro e w6 ⟨v6, rfl, r6, t6⟩
                  obtain ⟨ao6, cp6, rfl, -⟩ := r6.rd
                  have G6 := hide (G3.out.next t6)
                  have B6 := hide (Nat.le_trans B3.out t6.size)
                  clear r6 t6 HWt G3 B3
                  go_wp2_with fail
                  go_roundg (kk - (pp + 1))
                  case measure => omega
                  case rel => exact ⟨pp + 1, ws, by go_num, by omega, Nat.le_refl _, G6.out, B6.out⟩
        · have hpe : pp = kk := by omega
          subst hpe
          have e1 : ¬ (pp : Int) < (pp : Int) := by omega
          have HPh := hide (gphase_any wr p q ws 0 _ G1.out.1)
          unfold ptr at HPh
          have HT := hide G1.out.turn
          clear G1 B1
          go_wp2_with fail
          refine HPh.out.mono ?_
          rintro e w5 ⟨rfl, hw5⟩
          rw [hw5]
          clear hw5 w5 HPh
          go_wp2_with fail
          go_ret
          exact ⟨rfl, HT.out⟩

set_option maxRecDepth 100000 in
theorem gangRounds_lifted (os : Os) (started : os.Started) (H : Type) (enc : TypeId × Value → H) :
    ReturnsInHanded {} Try.checked os 8 .any (Rows.gangRoundsSpec.pre6 enc Try.prog Try.f8 Rows.gangRoundsRow.domain false) (Rows.gangRoundsSpec.post enc Try.prog Try.f8 false true false false) := by
  refine returnsInHanded_of_change (C := Try.checked) own started (by kernel_rfl) Try.func8
    (ChangeSpec.witness6 (enc := enc) (C := Try.checked) false ⟨#[], #[.int .i64 0, .int .i64 0, .slice none 0 0], []⟩ 8 (by kernel_rfl) (by kernel_rfl) (by kernel_rfl) (by kernel_rfl)) ?_
  intro W base args ds gs before hval0 hW hcnd _
  have hval : ∀ (j : Nat) t v, Try.f8.params[j]? = some t → args[j]? = some v → Value.okWide Try.prog W .any base t v := hval0
  have hW' := hW
  obtain ⟨p, q, hA0, hV, rfl, hfz, hnd⟩ := hW
  have hA : DataW.TrodAll enc Try.prog W 0 (fun _ => true) true Try.f8.params.toList args.toList ds p := hA0
  rw [Try.params8] at hA hval
  obtain ⟨v0, vs0, d0, ds0, p0, q0, hargs, rfl, rfl, h0, r0⟩ := trodAll_cons hA
  obtain ⟨v1, vs1, d1, ds1, p1, q1, rfl, rfl, rfl, h1, r1⟩ := trodAll_cons r0
  obtain ⟨v2, vs2, d2, ds2, p2, q2, rfl, rfl, rfl, h2, r2⟩ := trodAll_cons r1
  obtain ⟨rfl, rfl, rfl⟩ := trodAll_nil r2
  obtain rfl : args = #[v0, v1, v2] := by cases args; simp_all
  obtain ⟨rfl, rfl⟩ := trodVars_none hV
  obtain ⟨a0, rfl, rfl, rfl, w0⟩ := open_int Try.underlying3 (hval 0 3 v0 rfl rfl) h0
  obtain ⟨a1, rfl, rfl, rfl, w1⟩ := open_int Try.underlying3 (hval 1 3 v1 rfl rfl) h1
  obtain ⟨a2, len2, cap2, rfl⟩ := okWide_slice Try.underlying22 (hval 2 22 v2 rfl rfl)
  have k2 := h2
  have lt2 : ∀ x ∈ p2, x.block < W.heap.size := by obtain ⟨m, hm⟩ := k2; exact DataW.trod_lt m _ _ _ hm
  obtain ⟨z2, w2⟩ : ∃ zs, IsRow .i64 W a2 len2 cap2 zs := by
    obtain ⟨fuel, hf⟩ := h2
    rcases open_ints Try.underlying22 Try.underlying3 (by kernel_rfl) hf with ⟨hcs, _⟩ | ⟨x, l, c, zs, hcs, _, hl, hm, hz, _, hcell, hwz⟩
    · simp [Value.cells] at hcs
      obtain ⟨rfl, rfl, rfl⟩ := hcs
      exact ⟨[], .inl ⟨rfl, rfl, rfl, rfl⟩⟩
    · simp [Value.cells] at hcs
      obtain ⟨rfl, rfl, rfl⟩ := hcs
      exact ⟨zs, .inr ⟨_, rfl, hl, hm, by simpa using hz, hcell, hwz⟩⟩
  clear hA0 hval0
  refine (gangRounds_walk a0 a1 a2 len2 cap2 z2 W w0 w1 w2).mono fun e W' ⟨he, ht⟩ => ?_
  subst he
  have bel : Below W.heap.size W W' := ht.below0
  exact ⟨_, rfl, _, _, _, [], _, [], hW', trodAll_mk1 (shut_bool Try.underlying4 _), (trodAll_cons_mk (shut_int Try.underlying3 w0) (trodAll_cons_mk (shut_int Try.underlying3 w1) (trodAll_cons_mk (Below.trod laidOut (by kernel_rfl) (of_decide_eq_true (by kernel_rfl)) k2 bel lt2) trodAll_mk0))), rfl, bel.frame _, fun h => by cases h⟩

theorem gangRounds_over : Rows.gangRoundsRow.holds Try.pinned (OpenSpec.ofChange Rows.gangRoundsSpec) :=
  OpenClaim.holds_of_wide 8 Try.f8 rfl rfl rfl rfl rfl rfl rfl ⟨rfl, rfl, rfl, rfl, rfl⟩ rfl rfl rfl rfl rfl (by kernel_rfl) Try.func8 (by kernel_rfl)
    (of_decide_eq_true (by kernel_rfl)) (by unfold Func.isWrapper; first | (rw [if_pos (by decide +kernel)]; kernel_rfl) | (rw [if_neg (by decide +kernel)]; exact ⟨rfl, rfl⟩))
    (fun os started H enc _ => gangRounds_lifted os started H enc)

theorem gangRounds_holds : Rows.GangRoundsSaid := gangRounds_over
end Go.Proofs.Ytpaiehieddicmaa
