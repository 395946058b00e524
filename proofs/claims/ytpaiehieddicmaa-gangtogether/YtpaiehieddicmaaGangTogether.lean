/-
  GangTogether: how often two workers have arrived is never further apart than 1: true for every number of workers and every script.
-/
import Derived.Test.YtpaiehieddicmaaGangKit
import Derived.Deep.Cut
import Derived.Deep.CutBlock
import Derived.Deep.CutRange
import Derived.Deep.DeepCutAuto
import Derived.Deep.LoopGhost
namespace Go.Proofs.Ytpaiehieddicmaa
open Go.ChangeShapes Go.WideShapes Go.ChangeAt Go.RowKit
set_option linter.unusedVariables false

theorem zero11 : (#[.int .i64 0, .int .i64 0, .int .i64 0, .int .i64 0, .int .i64 0, .int .i64 0, .int .i64 0, .int .i64 0, .int .i64 0, .int .i64 0, .int .i64 0] : Array Value) = ((List.replicate 11 (0 : Int)).map (Value.int .i64)).toArray := by kernel_rfl

/-- How often each has arrived. -/
def Tim (n : Nat) (ws : List Int) (came : Nat) (ph : Int) (l : List Int) : Prop := l.length = 11 ∧ ∀ k : Nat, k < n → l[k]? = some (ph + if (k : Int) ∈ ws.take came then 1 else 0)

/-- The gang and the array. -/
structure Tog (w0 w : World) (p q O n : Nat) (ws : List Int) (came : Nat) (ph : Int) (l : List Int) : Prop where
  gn : Gn w0 w p q n ws came ph
  tm : Har w O 38 l
  ti : Tim n ws came ph l
  new : w0.heap.size ≤ O ∧ O ≠ p ∧ O ≠ q

theorem Tim.arrive {n : Nat} {ws ws' : List Int} {came came' : Nat} {ph ph' x : Int} {b : Bool} {l : List Int} (h : Tim n ws came ph l) (ha : Arr n ws came ph x b 0 ws' came' ph') (hn : n ≤ 10) :
    0 ≤ x ∧ x < n ∧ l[x.toNat]? = some ph ∧ Tim n ws' came' ph' (l.set x.toNat (ph + 1)) ∧ b = decide (ph < ph') ∧ ph ≤ ph' ∧ ph' ≤ ph + 1 := by
  have hl := h.1
  cases ha with
  | more hx hm hc hs =>
    have hx0 : l[x.toNat]? = some ph := by
      rw [h.2 x.toNat (by omega), Int.toNat_of_nonneg hx.1, if_neg hm]; simp
    refine ⟨hx.1, hx.2, hx0, ⟨by simpa using hl, fun k hk => ?_⟩, by simp, by omega, by omega⟩
    by_cases hkx : k = x.toNat
    · subst hkx
      rw [List.getElem?_set_self (by omega), if_pos]
      rw [hs, Int.toNat_of_nonneg hx.1]
      exact .inl rfl
    · rw [List.getElem?_set_ne (by omega), h.2 k hk]
      congr 2
      by_cases hkm : (k : Int) ∈ ws.take came
      · rw [if_pos hkm, if_pos ((hs _).2 (.inr hkm))]
      · rw [if_neg hkm, if_neg]
        rw [hs]
        rintro (e | e)
        · omega
        · exact hkm e
  | last hx hm hc hs =>
    have hx0 : l[x.toNat]? = some ph := by
      rw [h.2 x.toNat (by omega), Int.toNat_of_nonneg hx.1, if_neg hm]; simp
    refine ⟨hx.1, hx.2, hx0, ⟨by simpa using hl, fun k hk => ?_⟩, by rw [decide_eq_true]; omega, by omega, by omega⟩
    by_cases hkx : k = x.toNat
    · subst hkx
      rw [List.getElem?_set_self (by omega)]
      simp
    · rw [List.getElem?_set_ne (by omega), h.2 k hk]
      rcases hs k (by omega) with e | e
      · omega
      · rw [if_pos e]; simp

theorem Arr.same {n : Nat} {ws ws' : List Int} {came came' : Nat} {ph ph' x er : Int} {b : Bool} (ha : Arr n ws came ph x b er ws' came' ph') (he : er ≠ 0) : ws' = ws ∧ came' = came ∧ ph' = ph := by
  cases ha with
  | task h => exact ⟨rfl, rfl, rfl⟩
  | state h hm => exact ⟨rfl, rfl, rfl⟩
  | more h hm hc hs => exact absurd rfl he
  | last h hm hc hs => exact absurd rfl he
theorem Arr.err {n : Nat} {ws ws' : List Int} {came came' : Nat} {ph ph' x er : Int} {b : Bool} (ha : Arr n ws came ph x b er ws' came' ph') : 0 ≤ er ∧ er ≤ 17 := by cases ha <;> omega

set_option maxHeartbeats 4000000 in
set_option maxRecDepth 100000 in
theorem gangTogether_walk (x : Int) (ao : Option Addr) (len cap : Nat) (zs : List Int) (w : World) (hx : (Lit.int .i64 x).wf = true) (hz : IsRow .i64 w ao len cap zs) :
    Calls Try.prog 4 #[.int .i64 x, .slice ao len cap] w fun e w' => e = .returned (.bool true) ∧ Turned [] w w' := by
  obtain ⟨hrd, hlen, -⟩ := isRow_ird hz
  have hxr := wf_range hx
  have HR := hide hrd
  have HAw := hide (awake_any w)
  generalize zs.take len = ps at *
  clear hrd hz hx
  go_enter Try.func4, Try.ntmps4
  go_wp2_with fail
  refine HAw.out.mono ?_
  rintro e w0 ⟨rfl, t0⟩
  have T0 := hide t0
  clear t0 HAw
  go_upto_if 22 with fail
  go_cut [6] (fun s6 wc => ∃ n : Nat, s6 = .int .i64 (n : Int) ∧ n ≤ 9 ∧ Aside (wc = w0))
  case first =>
    have ta : -10 < x.tmod 10 ∧ x.tmod 10 < 10 := tmod_bounds x 10 (by omega)
    by_cases hneg : x.tmod 10 < 0
    · go_wp2_with fail
      go_meet
      case rel => exact ⟨(-(x.tmod 10)).toNat, by congr 1; omega, by omega, rfl⟩
    · go_wp2_with fail
      go_meet
      case rel => exact ⟨(x.tmod 10).toNat, by congr 1; omega, by omega, rfl⟩
  case rest =>
    obtain ⟨n1, rfl, hn1, hwc⟩ := hcut
    have hwc' := hwc.out
    subst hwc'
    clear hwc hxr
    obtain ⟨w0, hw0⟩ : ∃ w0, w0 = wc := ⟨_, rfl⟩
    subst hw0
    obtain ⟨n, hn⟩ : ∃ n : Nat, n = n1 + 1 := ⟨_, rfl⟩
    have HNew := hide (gn_new w w0 T0.out n (by omega) (by omega))
    unfold ptr at HNew
    have hn10 : 1 ≤ n ∧ n ≤ 10 := by omega
    rw [show ((n : Nat) : Int) = (n1 : Int) + 1 by omega] at HNew
    go_wp2_with fail
    refine HNew.out.mono ?_
    rintro e w2 ⟨rfl, h2, -⟩
    have H2 := hide h2
    have HL2 := hide (show w0.heap.size + 1 < w2.heap.size from h2.1.ltp)
    clear h2 HNew
    rw [show (n1 : Int) + 1 = (n : Int) by omega]
    clear hn hn1
    go_wp2_with fail
    have P0 := hide (show Tog w (w2.alloc (.cells #[.int .i64 0, .int .i64 0, .int .i64 0, .int .i64 0, .int .i64 0, .int .i64 0, .int .i64 0, .int .i64 0, .int .i64 0, .int .i64 0, .int .i64 0] 38)) (w0.heap.size + 1) w0.heap.size w2.heap.size n (ids n) 0 0 (List.replicate 11 0) from
      ⟨H2.out.next ((Turned.refl _ _).alloc _), by unfold Har; rw [← zero11]; exact heap_alloc_new _ _, ⟨by simp, fun k hk => by rw [List.getElem?_replicate, if_pos (by omega)]; simp⟩, by have := T0.out.size; have := HL2.out; omega⟩)
    clear H2 HL2 T0
    generalize w2.alloc (.cells #[.int .i64 0, .int .i64 0, .int .i64 0, .int .i64 0, .int .i64 0, .int .i64 0, .int .i64 0, .int .i64 0, .int .i64 0, .int .i64 0, .int .i64 0] 38) = w3 at *
    generalize w2.heap.size = O at *
    generalize w0.heap.size + 1 = p at *
    generalize w0.heap.size = q at *
    go_loopg [10] 201 (fun gg s10 wr => ∃ (j : Nat) (ws : List Int) (came : Nat) (ph : Int) (l : List Int), s10 = .int .i64 (j : Int) ∧ j ≤ 200 ∧ 201 - j ≤ gg ∧ 0 ≤ ph ∧ ph ≤ j ∧ Aside (Tog w wr p q O n ws came ph l))
    case atStart => exact ⟨0, _, _, _, _, rfl, by omega, by omega, by omega, by omega, P0.out⟩
    case round =>
      obtain ⟨j, ws, came, ph, l, rfl, hj, hgg, hp0, hp1, hsp⟩ := hrel
      have P1 := hide hsp.out
      clear hsp P0
      go_upto_region 11 with fail
      go_cut [45] (fun s45 wc => ∃ bb : Bool, s45 = .bool bb ∧ Aside (bb = true → j < len ∧ j < 200) ∧ Aside (wc = wr))
      case first =>
        by_cases hjl2 : j < len
        · have e1 : (j : Int) < (len : Int) := by omega
          by_cases hjl3 : j < 200
          · have e2 : (j : Int) < 200 := by omega
            go_wp2_with fail
            go_meet
            case rel => exact ⟨true, by go_num, fun _ => ⟨hjl2, hjl3⟩, rfl⟩
          · have e2 : ¬ ((j : Int) < 200) := by omega
            go_wp2_with fail
            go_meet
            case rel => exact ⟨false, by go_num, fun h => (by cases h), rfl⟩
        · have e1 : ¬ ((j : Int) < (len : Int)) := by omega
          go_wp2_with fail
          go_meet
          case rel => exact ⟨false, by go_num, fun h => (by cases h), rfl⟩
      case rest =>
        obtain ⟨bb, rfl, hbb, hwc⟩ := hcut
        have hwc' := hwc.out
        subst hwc'
        have HBB := hide hbb.out
        clear hwc hbb
        obtain ⟨wr, hwr⟩ : ∃ wr, wr = wc := ⟨_, rfl⟩
        subst hwr
        cases bb
        · have HT := hide P1.out.gn.turn
          clear P1 HBB
          go_wp2_with fail
          go_ret
          exact ⟨rfl, HT.out⟩
        · obtain ⟨hjl, hj2⟩ := HBB.out rfl
          clear HBB
          obtain ⟨z, hzz⟩ : ∃ z, ps[j]? = some z := ⟨_, List.getElem?_eq_getElem (by have := HR.out.size; omega)⟩
          obtain ⟨bg, bo, hao, cz⟩ := (HR.out.turned0 P1.out.gn.turn).cell j z hzz
          subst hao
          have HPh := hide (gphase_any wr p q ws came ph P1.out.gn.1)
          have HX := hide (gn_arrive P1.out.gn z (by omega))
          unfold ptr at HPh HX
          clear hzz
          go_wp2_with fail
          refine HPh.out.mono ?_
          rintro e w4 ⟨rfl, hw4⟩
          rw [hw4]
          clear hw4 w4 HPh cz
          go_wp2_with fail
          refine HX.out.mono ?_
          rintro e w5 ⟨b, er, ws', came', ph', rfl, h5, t5, ha⟩
          have herr := ha.err
          have HA := hide ha
          have G5 := hide h5
          have K5 := hide (P1.out.tm.turned t5 (by simp [P1.out.new.2.1, P1.out.new.2.2]))
          clear h5 t5 ha HX
          by_cases her : er = 0
          · subst her
            obtain ⟨hz0, hz1, hl0, htim, hb, hph1, hph2⟩ := P1.out.ti.arrive HA.out (by omega)
            subst hb
            obtain ⟨k, rfl⟩ := Int.eq_ofNat_of_zero_le hz0
            rw [Int.toNat_natCast] at hl0 htim
            have c5 := K5.out.at hl0
            have f5 := K5.out.fz k
            have e2 : ¬ ((k : Int) < 0) := by omega
            have e3 : ¬ ((n : Int) ≤ (k : Int)) := by omega
            have P6 := hide (show Tog w (w5.setCell ⟨O, k, none⟩ (.int .i64 (ph + 1))) p q O n ws' came' ph' (l.set k (ph + 1)) from
              ⟨G5.out.other ((Turned.refl [O] _).setCell (p := ⟨O, k, none⟩) (.inl (by simp)) _) (by simp [P1.out.new.2.1.symm]) (by simp [P1.out.new.2.2.symm]) (fun i hi => by simp at hi; subst hi; exact P1.out.new.1), K5.out.put k _, htim, P1.out.new⟩)
            have hl1 := P6.out.ti.2 0 (by omega)
            have c6 := P6.out.tm.at hl1
            have hv0 : (if ((0 : Nat) : Int) ∈ ws'.take came' then (1 : Int) else 0) = 0 ∨ (if ((0 : Nat) : Int) ∈ ws'.take came' then (1 : Int) else 0) = 1 := by split <;> simp
            generalize (if ((0 : Nat) : Int) ∈ ws'.take came' then (1 : Int) else 0) = v0 at *
            have hkn : k < 11 := by omega
            clear hl0 htim hl1 G5 K5 HA
            go_wp2_with fail
            generalize w5.setCell ⟨O, k, none⟩ (.int .i64 (ph + 1)) = w6 at *
            generalize l.set k (ph + 1) = l6 at *
            generalize (decide ((k : Int) < 0) || decide (n ≤ k)) = bz1
            generalize decide (n ≤ k) = bz2
            generalize decide ((k : Int) < 0) = bz3
            clear c5 f5 c6 e2 e3 hz0 hz1 hkn herr P1
            go_loopg [15, 16] 11 (fun gg s15 s16 wr => ∃ (m : Nat) (v : Int), s15 = .int .i64 v ∧ s16 = .int .i64 (m : Int) ∧ m ≤ n ∧ n - m ≤ gg ∧ ph' ≤ v ∧ v ≤ ph' + 1 ∧ Aside (∀ i y, i < m → l6[i]? = some y → v ≤ y) ∧ Aside (Tog w wr p q O n ws' came' ph' l6))
            case atStart => exact ⟨0, ph' + v0, rfl, rfl, by omega, by omega, by omega, by omega, fun i y hi => by omega, P6.out⟩
            case round =>
              obtain ⟨m, v, rfl, rfl, hm, hgg2, hv1, hv2, hmin, hsp⟩ := hrel
              have HM := hide hmin.out
              have P7 := hide hsp.out
              clear hmin hsp
              by_cases hmn : m < n
              · have e1 : (m : Int) < (n : Int) := by omega
                obtain ⟨y, hy⟩ : ∃ y, l6[m]? = some y := ⟨_, P7.out.ti.2 m hmn⟩
                have hyr : ph' ≤ y ∧ y ≤ ph' + 1 := by
                  have h8 := P7.out.ti.2 m hmn
                  rw [hy] at h8
                  injection h8 with h8
                  split at h8 <;> omega
                have c7 := P7.out.tm.at hy
                have HY := hide hy
                have hm11 : m < 11 := by omega
                clear hy
                by_cases hyv : y < v
                · go_wp2_with fail
                  go_roundg (n - (m + 1))
                  case measure => omega
                  case rel => exact ⟨m + 1, y, rfl, by go_num, by omega, Nat.le_refl _, hyr.1, hyr.2, fun i u hi hu => by
                    by_cases him : i = m
                    · subst him; rw [HY.out] at hu; cases hu; exact Int.le_refl _
                    · have := HM.out i u (by omega) hu; omega, P7.out⟩
                · go_wp2_with fail
                  go_roundg (n - (m + 1))
                  case measure => omega
                  case rel => exact ⟨m + 1, v, rfl, by go_num, by omega, Nat.le_refl _, hv1, hv2, fun i u hi hu => by
                    by_cases him : i = m
                    · subst him; rw [HY.out] at hu; cases hu; omega
                    · have := HM.out i u (by omega) hu; omega, P7.out⟩
              · have e1 : ¬ (m : Int) < (n : Int) := by omega
                have hvp : v = ph' := by
                  obtain ⟨i, hi, hni⟩ := P7.out.gn.2.1.one
                  have h8 := P7.out.ti.2 i hi
                  rw [if_neg hni] at h8
                  have := HM.out i _ (by omega) h8
                  omega
                subst hvp
                clear HM P6
                go_wp2_with fail
                go_loopg [17] 11 (fun gg s17 wr => ∃ (m : Nat), s17 = .int .i64 (m : Int) ∧ m ≤ n ∧ n - m ≤ gg ∧ Aside (Tog w wr p q O n ws' came' v l6))
                case atStart => exact ⟨0, rfl, by omega, by omega, P7.out⟩
                case round =>
                  obtain ⟨m, rfl, hm, hgg3, hsp⟩ := hrel
                  have P8 := hide hsp.out
                  clear hsp P7
                  by_cases hmn : m < n
                  · have e1 : (m : Int) < (n : Int) := by omega
                    obtain ⟨y, hy⟩ : ∃ y, l6[m]? = some y := ⟨_, P8.out.ti.2 m hmn⟩
                    have hyr : v ≤ y ∧ y ≤ v + 1 := by
                      have h8 := P8.out.ti.2 m hmn
                      rw [hy] at h8
                      injection h8 with h8
                      split at h8 <;> omega
                    have c7 := P8.out.tm.at hy
                    have hm11 : m < 11 := by omega
                    have e2 : ¬ (v + 1 < y) := by omega
                    clear hy
                    go_wp2_with fail
                    go_roundg (n - (m + 1))
                    case measure => omega
                    case rel => exact ⟨m + 1, by go_num, by omega, Nat.le_refl _, P8.out⟩
                  · have e1 : ¬ (m : Int) < (n : Int) := by omega
                    have HPh := hide (gphase_any wr p q ws' came' v P8.out.gn.1)
                    unfold ptr at HPh
                    go_wp2_with fail
                    refine HPh.out.mono ?_
                    rintro e w9 ⟨rfl, hw9⟩
                    rw [hw9]
                    clear hw9 w9
                    go_wp2_with fail
                    refine HPh.out.mono ?_
                    rintro e w9 ⟨rfl, hw9⟩
                    rw [hw9]
                    clear hw9 w9
                    go_wp2_with fail
                    go_roundg (201 - (j + 1))
                    case measure => omega
                    case rel => exact ⟨j + 1, _, _, _, _, by go_num, by omega, Nat.le_refl _, by omega, by omega, P8.out⟩
          · obtain ⟨rfl, rfl, rfl⟩ := HA.out.same her
            go_wp2_with fail
            go_roundg (201 - (j + 1))
            case measure => omega
            case rel => exact ⟨j + 1, _, _, _, _, by go_num, by omega, Nat.le_refl _, hp0, by omega, ⟨G5.out, K5.out, P1.out.ti, P1.out.new⟩⟩

set_option maxRecDepth 100000 in
theorem gangTogether_lifted (os : Os) (started : os.Started) (H : Type) (enc : TypeId × Value → H) :
    ReturnsInHanded {} Try.checked os 4 .any (Rows.gangTogetherSpec.pre6 enc Try.prog Try.f4 Rows.gangTogetherRow.domain false) (Rows.gangTogetherSpec.post enc Try.prog Try.f4 false true false false) := by
  refine returnsInHanded_of_change (C := Try.checked) own started (by kernel_rfl) Try.func4
    (ChangeSpec.witness6 (enc := enc) (C := Try.checked) false ⟨#[], #[.int .i64 0, .slice none 0 0], []⟩ 8 (by kernel_rfl) (by kernel_rfl) (by kernel_rfl) (by kernel_rfl)) ?_
  intro W base args ds gs before hval0 hW hcnd _
  have hval : ∀ (j : Nat) t v, Try.f4.params[j]? = some t → args[j]? = some v → Value.okWide Try.prog W .any base t v := hval0
  have hW' := hW
  obtain ⟨p, q, hA0, hV, rfl, hfz, hnd⟩ := hW
  have hA : DataW.TrodAll enc Try.prog W 0 (fun _ => true) true Try.f4.params.toList args.toList ds p := hA0
  rw [Try.params4] at hA hval
  obtain ⟨v0, vs0, d0, ds0, p0, q0, hargs, rfl, rfl, h0, r0⟩ := trodAll_cons hA
  obtain ⟨v1, vs1, d1, ds1, p1, q1, rfl, rfl, rfl, h1, r1⟩ := trodAll_cons r0
  obtain ⟨rfl, rfl, rfl⟩ := trodAll_nil r1
  obtain rfl : args = #[v0, v1] := by cases args; simp_all
  obtain ⟨rfl, rfl⟩ := trodVars_none hV
  obtain ⟨a0, rfl, rfl, rfl, w0⟩ := open_int Try.underlying3 (hval 0 3 v0 rfl rfl) h0
  obtain ⟨a1, len1, cap1, rfl⟩ := okWide_slice Try.underlying22 (hval 1 22 v1 rfl rfl)
  have k1 := h1
  have lt1 : ∀ x ∈ p1, x.block < W.heap.size := by obtain ⟨m, hm⟩ := k1; exact DataW.trod_lt m _ _ _ hm
  obtain ⟨z1, w1⟩ : ∃ zs, IsRow .i64 W a1 len1 cap1 zs := by
    obtain ⟨fuel, hf⟩ := h1
    rcases open_ints Try.underlying22 Try.underlying3 (by kernel_rfl) hf with ⟨hcs, _⟩ | ⟨x, l, c, zs, hcs, _, hl, hm, hz, _, hcell, hwz⟩
    · simp [Value.cells] at hcs
      obtain ⟨rfl, rfl, rfl⟩ := hcs
      exact ⟨[], .inl ⟨rfl, rfl, rfl, rfl⟩⟩
    · simp [Value.cells] at hcs
      obtain ⟨rfl, rfl, rfl⟩ := hcs
      exact ⟨zs, .inr ⟨_, rfl, hl, hm, by simpa using hz, hcell, hwz⟩⟩
  clear hA0 hval0
  refine (gangTogether_walk a0 a1 len1 cap1 z1 W w0 w1).mono fun e W' ⟨he, ht⟩ => ?_
  subst he
  have bel : Below W.heap.size W W' := ht.below0
  exact ⟨_, rfl, _, _, _, [], _, [], hW', trodAll_mk1 (shut_bool Try.underlying4 _), (trodAll_cons_mk (shut_int Try.underlying3 w0) (trodAll_cons_mk (Below.trod laidOut (by kernel_rfl) (of_decide_eq_true (by kernel_rfl)) k1 bel lt1) trodAll_mk0)), rfl, bel.frame _, fun h => by cases h⟩

theorem gangTogether_over : Rows.gangTogetherRow.holds Try.pinned (OpenSpec.ofChange Rows.gangTogetherSpec) :=
  OpenClaim.holds_of_wide 4 Try.f4 rfl rfl rfl rfl rfl rfl rfl ⟨rfl, rfl, rfl, rfl, rfl⟩ rfl rfl rfl rfl rfl (by kernel_rfl) Try.func4 (by kernel_rfl)
    (of_decide_eq_true (by kernel_rfl)) (by unfold Func.isWrapper; first | (rw [if_pos (by decide +kernel)]; kernel_rfl) | (rw [if_neg (by decide +kernel)]; exact ⟨rfl, rfl⟩))
    (fun os started H enc _ => gangTogether_lifted os started H enc)

theorem gangTogether_holds : Rows.GangTogetherSaid := gangTogether_over
end Go.Proofs.Ytpaiehieddicmaa
