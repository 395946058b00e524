/-
  PlanNothing: where nothing lives all is free, but for what the waste lets stay; where all lives nothing moves. For every number of words, any region and any waste.
-/
import Derived.Test.YtcckflcjjgckoaaDoorPlanNothingP
import Derived.Test.YtcckflcjjgckoaaDoorMarkLaid
import Derived.Test.YtcckflcjjgckoaaDoorCards
import Derived.Test.YtcckflcjjgckoaaDoorTie
import Derived.SevenTiedAt
import Derived.BigQuiet
namespace Go.Proofs.YtcckflcjjgckoaaDoor
open Go.ChangeShapes Go.WideShapes Go.ChangeAt Go.RowKit Bt
set_option linter.unusedVariables false
set_option linter.unusedSimpArgs false

theorem tmod_bounds (a : Int) (k : Int) (h : 0 < k) : -k < a.tmod k ∧ a.tmod k < k := ⟨Int.lt_tmod_of_pos a h, Int.tmod_lt_of_pos a h⟩
theorem plan_var (w : World) (P : PN) (lq aq wq tq : Nat) : Pb (w.alloc (.cells (plC P (slc lq P.R) (slc aq P.R) (slc wq P.R) (slc tq P.R)) 30)) w.heap.size P (slc lq P.R) (slc aq P.R) (slc wq P.R) (slc tq P.R) := pb_new _ _ _ _ _ _
theorem ownsRow_slice {w : World} {B : Nat} {e : TypeId} {size : Nat} {v : Value} {n : Nat} {xs : List Value} (h : w.ownsRow B e size v n xs) : ∃ ao cap, v = .slice ao n cap := by
  rcases h.2 with ⟨hv, h0⟩ | ⟨g, cap, cur, hv, _⟩
  · subst h0; exact ⟨_, _, hv⟩
  · exact ⟨_, _, hv⟩
theorem tdiv_nat (a b : Nat) : (a : Int).tdiv (b : Int) = ((a / b : Nat) : Int) := by rfl

set_option maxHeartbeats 4000000 in
set_option maxRecDepth 100000 in
theorem planNothing_walk (x y z : Int) (w : World) (hx : (Lit.int .i64 x).wf = true) (hy : (Lit.int .i64 y).wf = true) (hz : (Lit.int .i64 z).wf = true) (hT : Tab w) :
    Calls Tryd.prog 6 #[.int .i64 x, .int .i64 y, .int .i64 z] w fun e w' => e = .returned (.bool true) ∧ Turned [] w w' := by
  have hxr := wf_range hx
  have hyr := wf_range hy
  have hzr := wf_range hz
  have HTb := hide hT
  have HAw := hide (awake13 w hT)
  clear hx hy hz hT
  go_enter Tryd.func6, Tryd.ntmps6
  go_wp2_with fail
  refine (HAw.out).mono ?_
  rintro e w2 ⟨rfl, ht1⟩
  have HT2 := hide ht1
  clear ht1 HAw
  go_upto_if 26 with fail
  go_cut [8] (fun s wc => ∃ n : Nat, s = .int .i64 (n : Int) ∧ n ≤ 199 ∧ Aside (wc = w2))
  case first =>
    have ta : -200 < x.tmod 200 ∧ x.tmod 200 < 200 := tmod_bounds x 200 (by omega)
    by_cases hneg : x.tmod 200 < 0
    · go_wp2_with fail
      go_meet
      case rel => exact ⟨(-(x.tmod 200)).toNat, by congr 1; omega, by omega, rfl⟩
    · go_wp2_with fail
      go_meet
      case rel => exact ⟨(x.tmod 200).toNat, by congr 1; omega, by omega, rfl⟩
  case rest =>
    obtain ⟨n, rfl, hn, hwc⟩ := hcut
    have hwc' := hwc.out
    subst hwc'
    clear hwc hxr
    obtain ⟨w2, hw2⟩ : ∃ w2, w2 = wc := ⟨_, rfl⟩
    subst hw2
    go_upto_if 30 with fail
    go_cut [9] (fun s wc => ∃ n : Nat, s = .int .i64 (n : Int) ∧ n ≤ 39 ∧ Aside (wc = w2))
    case first =>
      have ta : -40 < y.tmod 40 ∧ y.tmod 40 < 40 := tmod_bounds y 40 (by omega)
      by_cases hneg : y.tmod 40 < 0
      · go_wp2_with fail
        go_meet
        case rel => exact ⟨(-(y.tmod 40)).toNat, by congr 1; omega, by omega, rfl⟩
      · go_wp2_with fail
        go_meet
        case rel => exact ⟨(y.tmod 40).toNat, by congr 1; omega, by omega, rfl⟩
    case rest =>
      obtain ⟨k, rfl, hk, hwc⟩ := hcut
      have hwc' := hwc.out
      subst hwc'
      clear hwc hyr
      obtain ⟨w2, hw2⟩ : ∃ w2, w2 = wc := ⟨_, rfl⟩
      subst hw2
      go_upto_if 34 with fail
      go_cut [10] (fun s wc => ∃ n : Nat, s = .int .i64 (n : Int) ∧ n ≤ 299 ∧ Aside (wc = w2))
      case first =>
        have ta : -300 < z.tmod 300 ∧ z.tmod 300 < 300 := tmod_bounds z 300 (by omega)
        by_cases hneg : z.tmod 300 < 0
        · go_wp2_with fail
          go_meet
          case rel => exact ⟨(-(z.tmod 300)).toNat, by congr 1; omega, by omega, rfl⟩
        · go_wp2_with fail
          go_meet
          case rel => exact ⟨(z.tmod 300).toNat, by congr 1; omega, by omega, rfl⟩
      case rest =>
        obtain ⟨v, rfl, hv, hwc⟩ := hcut
        have hwc' := hwc.out
        subst hwc'
        clear hwc hzr
        obtain ⟨w2, hw2⟩ : ∃ w2, w2 = wc := ⟨_, rfl⟩
        subst hw2
        have HNw := hide (new_any (n : Int) w2 (by unfold In64; omega) (HTb.out.turned HT2.out (by simp)))
        rw [show kp 65536 (n : Int) = n by unfold kp; omega] at HNw
        go_wp2_with fail
        refine (HNw.out).mono ?_
        rintro e w3 ⟨p, q, rfl, hb3, hp0, hq0, ht3⟩
        have HB3 : Hid (Bts w3 p q n (sidesOf S0)) := hide hb3
        have HT3 := hide (HT2.out.trans ht3)
        have HPQ := hide (show w.heap.size ≤ p ∧ w.heap.size ≤ q by have := HT2.out.size; omega)
        clear hb3 ht3 HT2 HNw hp0 hq0
        have HMk := hide (make_ok p n S0 0 n (k + 1) v w3 HB3.out.brd (Bl.none n) (by omega) (by omega) (by omega) (by omega) (by omega) (noCut0 S0) (noCutN (Bl.none n)))
        rw [show ((0 : Nat) : Int) = 0 from rfl, show ((k + 1 : Nat) : Int) = (k : Int) + 1 from by omega] at HMk
        go_wp2_with fail
        refine (HMk.out).mono ?_
        rintro e w4 ⟨P, lq, aq, wq, tq, rfl, hmP, hpl, ht4⟩
        obtain ⟨e1, e2, e3⟩ := makes_none hmP (by omega) (by omega)
        have hV5 := plan_var w4 P lq aq wq tq
        have hU5 := (Turned.refl [] w4).alloc (.cells (plC P (slc lq P.R) (slc aq P.R) (slc wq P.R) (slc tq P.R)) 30)
        have HV5 := hide hV5
        have HT5 := hide ((HT3.out.trans ht4).trans hU5)
        have HB5 := hide ((HB3.out.turned0 ht4).turned0 hU5)
        clear hmP hpl ht4 hV5 hU5 HMk HT3 HB3
        unfold plC slc at HV5 HT5 HB5 ⊢
        have HEE := hide e2
        rw [e2] at HV5 HT5 HB5 ⊢
        generalize hRR : P.R = R at *
        obtain ⟨D, hDD⟩ : ∃ D, D = P.d := ⟨_, rfl⟩
        have HDD := hide hDD
        rw [← hDD] at HV5 HT5 HB5 e1 ⊢
        have HE1 := hide e1
        have HE3 := hide e3
        clear e1 e2 e3 hRR hDD
        have hD3 : D ≤ 200 := by
          have h1 := HE1.out
          split at h1
          · omega
          · have := Nat.div_mul_le_self v (k + 1); omega
        have HQ1 : Hid (¬ n ≤ v → wrap64 (wrap64 ((v : Int) / ((k : Int) + 1)) * ((k : Int) + 1)) = (D : Int)) := hide (fun hnv => by
          have h1 := HE1.out
          rw [if_neg hnv] at h1
          rw [h1]
          exact quo_mul v k (by omega))
        have HQ2 : Hid (IntKind.i64.wrap (((n : Int) + k) / ((k : Int) + 1)) = (R : Int)) := hide (by rw [HE3.out]; exact quo_up n k (by omega))
        have HQ3 : Hid ((R : Int) = ((n : Int) + k) / ((k : Int) + 1)) := hide (by rw [HE3.out, Int.natCast_ediv]; rfl)
        have HDn : Hid (n ≤ v → D = n) := hide (fun h => by have h1 := HE1.out; rw [if_pos h] at h1; exact h1)
        clear HE1 HE3
        go_upto_if 57 with fail
        generalize w4.alloc (.cells #[Value.int .i64 P.f, Value.int .i64 P.t, Value.int .i64 P.k, Value.int .i64 D, Value.int .i64 D, .slice (some ⟨lq, 0, none⟩) R R, .slice (some ⟨aq, 0, none⟩) R R, .slice (some ⟨wq, 0, none⟩) R R, .slice (some ⟨tq, 0, none⟩) R R] 30) = w5 at *
        generalize w4.heap.size = pb at *
        go_cut [14] (fun s wc => s = .int .i64 (D : Int) ∧ Aside (wc = w5))
        case first =>
          by_cases hnv : n ≤ v
          · have hnvi : (n : Int) ≤ v := by omega
            go_wp2_with fail
            go_meet
            case rel => exact ⟨by rw [HDn.out hnv], rfl⟩
          · have hnvi : ¬ (n : Int) ≤ v := by omega
            go_wp2_with fail
            go_meet
            case rel => exact ⟨by rw [HQ1.out hnv], rfl⟩
        case rest =>
          obtain ⟨rfl, hwc⟩ := hcut
          have hwc' := hwc.out
          subst hwc'
          clear hwc HQ1 HDn
          obtain ⟨w5, hw5⟩ : ∃ w5, w5 = wc := ⟨_, rfl⟩
          subst hw5
          obtain ⟨c0, c1, c2, c3, c4, c5, c6, c7, c8⟩ := HV5.out.cs
          rw [← HDD.out] at c3
          rw [HEE.out, ← HDD.out] at c4
          clear c0 c1 c2 c6 c7 c8
          have hk0 : ¬ ((k : Int) + 1 = 0) := by omega
          have HW5 := hide (fun m => HT5.out.drewN m)
          go_upto_region 16 with fail
          go_cut [84] (fun s wc => s = .bool false ∧ Aside (∃ m, wc = w5.drewN m))
          case first =>
            go_quiet (fail)
            go_wp2_with fail
            go_meet
            case rel => exact ⟨by (simp; exact HQ3.out), ⟨nq, rfl⟩⟩
          case rest =>
            obtain ⟨rfl, hwc⟩ := hcut
            have HB6 : Hid (Bts wc p q n (sidesOf (S1 0))) := hide (by rw [S1_0]; obtain ⟨m, hm⟩ := hwc.out; rw [hm]; exact HB5.out.drewN m)
            have HT6 : Hid (Turned [] w wc) := hide (by obtain ⟨m, hm⟩ := hwc.out; rw [hm]; exact HT5.out.drewN m)
            clear hwc HB5 HT5 HV5 HW5 HQ2 c3 c4 c5 hk0 HEE HDD hD3
            obtain ⟨w6, hw6⟩ : ∃ w6, w6 = wc := ⟨_, rfl⟩
            subst hw6
            go_wp2_with fail
            go_loopw [15] (fun ii wr => ∃ i : Nat, i ≤ n ∧ ii = .int .i64 i ∧ Hid (Bts wr p q n (sidesOf (S1 i))) ∧ Hid (Turned [] w wr)) (fun i _ => n - (intOf i).toNat)
            case atStart => exact ⟨0, by omega, rfl, HB6, HT6⟩
            case round =>
              obtain ⟨i, hi, rfl, HB, HTr⟩ := hrel
              clear HB6 HT6
              by_cases hlt : i < n
              · have hlti : (i : Int) < n := by omega
                have HMa := hide (mark_any p q n (S1 i) (i : Int) 1 wr HB.out (S1_bl n i hi) (by unfold In64; omega))
                rw [S1_mark n i hlt] at HMa
                go_wp2_with fail
                refine (HMa.out).mono ?_
                rintro e w7 ⟨rfl, hb7, ht7⟩
                have HB7 := hide hb7
                have HT7 := hide (HTr.out.trans_new ht7 (fun i hi => by simp at hi; subst hi; exact .inr HPQ.out.2))
                clear hb7 ht7 HB HTr HMa
                go_wp2_with fail
                go_roundw
                case rel => exact ⟨i + 1, by omega, by go_num, HB7, HT7⟩
                case measure => simp [intOf]; omega
              · have hin : i = n := by omega
                subst hin
                have hdd : decide ((i : Int) < (i : Int)) = false := decide_eq_false (by omega)
                have HMk := hide (make_ok p i (S1 i) 0 i (k + 1) 0 wr HB.out.brd (S1_bl i i (Nat.le_refl _)) (by omega) (by omega) (by omega) (by omega) (by omega) (noCut0 (S1 i)) (noCutN (S1_bl i i (Nat.le_refl _))))
                rw [show ((0 : Nat) : Int) = 0 from rfl, show ((k + 1 : Nat) : Int) = (k : Int) + 1 from by omega] at HMk
                go_wp2_with fail
                refine (HMk.out).mono ?_
                rintro e w8 ⟨Q, lr, ar, wr2, tr, rfl, hmQ, hpl, ht8⟩
                obtain ⟨f1, f2⟩ := makes_full hmQ (by omega) (by omega)
                have hf0 := hmQ.f_
                have hV9 := plan_var w8 Q lr ar wr2 tr
                have hU9 := (Turned.refl [] w8).alloc (.cells (plC Q (slc lr Q.R) (slc ar Q.R) (slc wr2 Q.R) (slc tr Q.R)) 30)
                have HGz : Hid (i = 0 → ∀ w', Turned [] wr w' → Calls Tryd.prog 17 #[.agg (plC Q (slc lr Q.R) (slc ar Q.R) (slc wr2 Q.R) (slc tr Q.R)), .pointer (some ⟨p, 0, none⟩)] w' fun e w'' => e = .returned (.slice none 0 0) ∧ Turned [] w' w'') := hide (fun h0 w' t => by subst h0; exact gaps_zero p _ Q _ _ _ _ w' (HB.out.turned0 t).brd)
                have HGp : Hid (0 < i → ∀ w', Turned [] wr w' → Calls Tryd.prog 17 #[.agg (plC Q (slc lr Q.R) (slc ar Q.R) (slc wr2 Q.R) (slc tr Q.R)), .pointer (some ⟨p, 0, none⟩)] w' fun e w'' => ∃ ao cap, e = .returned (.slice ao 0 cap) ∧ Turned [] w' w'') := hide (fun h0 w' t => by
                  refine (gaps_any p i (S1 i) Q _ _ _ _ w' (HB.out.turned0 t).brd (S1_bl i i (Nat.le_refl _)) (by omega) h0 (by omega)).mono ?_
                  rintro e w'' ⟨v, rfl, L, x, hL, _, _, ho, ht⟩
                  rw [hf0] at hL
                  have hL0 := gaps_full (show Q.d ≤ i by omega) hL
                  subst hL0
                  obtain ⟨ao, cap, rfl⟩ := ownsRow_slice ho
                  exact ⟨ao, cap, rfl, ht⟩)
                have HGa : Hid (∀ w', Turned [] wr w' → Calls Tryd.prog 17 #[.agg (plC Q (slc lr Q.R) (slc ar Q.R) (slc wr2 Q.R) (slc tr Q.R)), .pointer (some ⟨p, 0, none⟩)] w' fun e w'' => ∃ ao cap, e = .returned (.slice ao 0 cap) ∧ Turned [] w' w'') := hide (fun w' t => by
                  by_cases h0 : i = 0
                  · refine (HGz.out h0 w' t).mono ?_
                    rintro e w'' ⟨rfl, ht⟩
                    exact ⟨none, 0, rfl, ht⟩
                  · exact HGp.out (by omega) w' t)
                have HV9 := hide hV9
                have HT9 := hide ((HTr.out.trans ht8).trans hU9)
                have HU9 := hide (ht8.trans hU9)
                clear HGz HGp hmQ hpl ht8 hV9 hU9 HMk HB HTr hf0
                unfold plC slc at HV9 HT9 HU9 HGa ⊢
                rw [f1, f2] at HV9 HT9 HU9 HGa ⊢
                have HFF := hide (And.intro f1 f2)
                generalize hRR : Q.R = R2 at *
                clear f1 f2 hRR
                go_upto_region 23 with fail
                generalize w8.alloc (.cells #[Value.int .i64 Q.f, Value.int .i64 Q.t, Value.int .i64 Q.k, Value.int .i64 i, Value.int .i64 i, .slice (some ⟨lr, 0, none⟩) R2 R2, .slice (some ⟨ar, 0, none⟩) R2 R2, .slice (some ⟨wr2, 0, none⟩) R2 R2, .slice (some ⟨tr, 0, none⟩) R2 R2] 30) = w9 at *
                generalize w8.heap.size = pb2 at *
                obtain ⟨c0, c1, c2, c3, c4, c5, c6, c7, c8⟩ := HV9.out.cs
                rw [HFF.out.1] at c3
                rw [HFF.out.2] at c4
                go_wp2_with fail
                refine (HGa.out _ HU9.out).mono ?_
                rintro e w10 ⟨ao, cap, rfl, ht10⟩
                have HT10 := hide (HT9.out.trans ht10)
                clear ht10 HT9 HU9 HGa HV9 c0 c1 c2 c3 c4 c5 c6 c7 c8
                go_wp2_with fail
                go_ret
                exact ⟨by simp, HT10.out⟩

set_option maxRecDepth 100000 in
theorem planNothing_lifted (os : Os) (started : os.Started) (H : Type) (enc : TypeId × Value → H) :
    ReturnsInHanded {} Tryd.checked os 6 .any (fun w args => (Rows.planNothingSpec.pre enc Tryd.prog Tryd.f6 [] false w args ∧ laidMetH Tryd.prog laidTab w) ∧ sizedMet enc Tryd.prog Tryd.f6 (OpenSpec.ofChange Rows.planNothingSpec) false w args)
      (Rows.planNothingSpec.post enc Tryd.prog Tryd.f6 false true false false) := by
  refine returnsInHanded_of_change_and (C := Tryd.checked) (X := fun w _ => laidMetH Tryd.prog laidTab w) (fun _ _ _ hh h => h.of_heap hh) own started (by kernel_rfl) Tryd.func6
    (ChangeSpec.witness_shaped (enc := enc) (C := Tryd.checked) (os := os) (X := fun w _ => laidMetH Tryd.prog laidTab w) false (World.doorLaid Tryd.prog 400 os) #[.int .i64 0, .int .i64 0, .int .i64 0] 8 rfl (World.shaped_of_RefB (by kernel_rfl) (by kernel_rfl)) (by kernel_rfl) (by kernel_rfl) (by kernel_rfl) (door_met os _)) ?_
  intro W base args ds gs before hval0 hW _ _ hL _
  have hTab := tab_of hL
  have hval : ∀ (j : Nat) t v, Tryd.f6.params[j]? = some t → args[j]? = some v → Value.okWide Tryd.prog W .any base t v := hval0
  have hW' := hW
  obtain ⟨p, q, hA0, hV, rfl, hfz, hnd⟩ := hW
  have hA : DataW.TrodAll enc Tryd.prog W 0 (fun _ => true) true Tryd.f6.params.toList args.toList ds p := hA0
  rw [Tryd.params6] at hA hval
  obtain ⟨v0, vs0, d0, ds0, p0, q0, hargs, rfl, rfl, h0, r0⟩ := trodAll_cons hA
  obtain ⟨v1, vs1, d1, ds1, p1, q1, rfl, rfl, rfl, h1, r1⟩ := trodAll_cons r0
  obtain ⟨v2, vs2, d2, ds2, p2, q2, rfl, rfl, rfl, h2, r2⟩ := trodAll_cons r1
  obtain ⟨rfl, rfl, rfl⟩ := trodAll_nil r2
  obtain rfl : args = #[v0, v1, v2] := by cases args; simp_all
  obtain ⟨rfl, rfl⟩ := trodVars_none hV
  obtain ⟨a0, rfl, rfl, rfl, w0⟩ := open_int Tryd.underlying3 (hval 0 3 v0 rfl rfl) h0
  obtain ⟨a1, rfl, rfl, rfl, w1⟩ := open_int Tryd.underlying3 (hval 1 3 v1 rfl rfl) h1
  obtain ⟨a2, rfl, rfl, rfl, w2⟩ := open_int Tryd.underlying3 (hval 2 3 v2 rfl rfl) h2
  simp only [List.append_nil] at hW'
  clear hA0 hval0
  refine (planNothing_walk a0 a1 a2 W w0 w1 w2 hTab).mono fun e W' ⟨he, ht⟩ => ?_
  subst he
  have bel : Below W.heap.size W W' := ht.below0
  exact ⟨_, rfl, _, _, _, [], _, [], hW', trodAll_mk1 (shut_bool Tryd.underlying4 _), (trodAll_cons_mk (shut_int Tryd.underlying3 w0) (trodAll_cons_mk (shut_int Tryd.underlying3 w1) (trodAll_cons_mk (shut_int Tryd.underlying3 w2) trodAll_mk0))), rfl, bel.frame _, fun h => by cases h⟩

theorem planNothing_over : Rows.planNothingRow.holds Tryd.pinned (OpenSpec.ofChange Rows.planNothingSpec) :=
  OpenClaim.holds_of_wide 6 Tryd.f6 rfl rfl rfl rfl rfl rfl rfl ⟨rfl, rfl, rfl, rfl, rfl⟩ rfl rfl rfl rfl rfl (by kernel_rfl) Tryd.func6 (by kernel_rfl)
    (of_decide_eq_true (by kernel_rfl)) (by unfold Func.isWrapper; first | (rw [if_pos (by decide +kernel)]; kernel_rfl) | (rw [if_neg (by decide +kernel)]; exact ⟨rfl, rfl⟩))
    (fun os started H enc _ => planNothing_lifted os started H enc)

theorem planNothing_holds : Rows.PlanNothingSaid := planNothing_over

theorem planNothing_card : Rows.PlanNothingCardSaid :=
  Claim7.holds_tied_plain_at .later [] [.data] true _ false
    planNothing_holds (fun _ h => by cases h) (by kernel_rfl) (fun _ h => by cases h) planNothing_row_tie rfl ⟨rfl, rfl⟩ (by kernel_rfl) rfl
    (fun f fn hf hfn => by
      obtain rfl : f = 6 := Option.some.inj ((show Tryd.prog.funcNamed "ballast/ballastlaw13.PlanNothing" = some 6 by kernel_rfl).symm.trans hf) |>.symm
      obtain rfl : fn = Tryd.f6 := (Option.some.inj (Tryd.func6.symm.trans hfn)).symm
      exact ⟨by kernel_rfl, fun j t ht => by
        rw [Tryd.params6] at ht
        have h3 : t ∈ [3, 3, 3] := by
          have h4 := Array.mem_of_getElem? ht
          simpa using h4
        have h5 : ∀ u, u ∈ [3, 3, 3] → Tryd.prog.wantsStandIn u = false := by
          intro u hu
          simp only [List.mem_cons, List.not_mem_nil, or_false] at hu
          rcases hu with rfl | rfl | rfl <;> kernel_rfl
        exact h5 t h3⟩)
    (by kernel_rfl)

end Go.Proofs.YtcckflcjjgckoaaDoor
