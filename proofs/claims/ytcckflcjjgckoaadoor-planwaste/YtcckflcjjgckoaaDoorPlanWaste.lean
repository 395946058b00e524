/-
  PlanWaste: the more waste may be, the more stays and the less is gained; with as much as there are words all stays. For every list of blocks, any region and any two wastes.
-/
import Derived.Test.YtcckflcjjgckoaaDoorPlanLawP
import Derived.Test.YtcckflcjjgckoaaDoorMarkLaid
import Derived.Test.YtcckflcjjgckoaaDoorCards
import Derived.Test.YtcckflcjjgckoaaDoorTie
import Derived.SevenTiedAt
namespace Go.Proofs.YtcckflcjjgckoaaDoor
open Go.ChangeShapes Go.WideShapes Go.ChangeAt Go.RowKit Bt
set_option linter.unusedVariables false
set_option linter.unusedSimpArgs false

theorem tmod_bounds (a : Int) (k : Int) (h : 0 < k) : -k < a.tmod k ∧ a.tmod k < k := ⟨Int.lt_tmod_of_pos a h, Int.tmod_lt_of_pos a h⟩
set_option maxRecDepth 100000 in
theorem open_two {H : Type} {enc : TypeId × Value → H} {W : World} {base : Nat} {v : Value} {d : DataW H} {p : List MemPlace} {sp : Nat → Bool}
    (hv : Value.okWide Tryd.prog W .any base 43 v) (h : DataW.Trod enc Tryd.prog W 0 sp true 43 v d p) : ∃ x y : Int, v = .agg #[.int .i64 x, .int .i64 y] ∧ In64 x ∧ In64 y := by
  obtain ⟨cs, rfl, hsz, _⟩ : ∃ cs, v = .agg cs ∧ cs.size = Tryd.prog.cellsOf 43 ∧ Row.okWide Tryd.prog W .any base 43 cs := by
    simpa [Value.okWide, Tryd.underlying43] using hv
  rw [cellsTwo] at hsz
  obtain ⟨c0, c1, rfl⟩ : ∃ c0 c1, cs = #[c0, c1] := by
    obtain ⟨l⟩ := cs
    rcases l with _ | ⟨c0, _ | ⟨c1, _ | ⟨c2, l⟩⟩⟩
    · simp at hsz
    · simp at hsz
    · exact ⟨c0, c1, rfl⟩
    · simp at hsz
  obtain ⟨fuel, hf⟩ := h
  obtain ⟨xs, m, -, -, -, hxl, hel⟩ := DataW.trod_array Tryd.underlying43 hf
  have e0 := hel 0 (by decide)
  have e1 := hel 1 (by decide)
  rw [cellsInt] at e0 e1
  rw [List.getElem?_eq_getElem (by omega)] at e0 e1
  obtain ⟨x0, q0, -, w0⟩ := DataW.trod_int Tryd.underlying3 e0
  obtain ⟨x1, q1, -, w1⟩ := DataW.trod_int Tryd.underlying3 e1
  simp [Value.cells] at q0 q1
  exact ⟨x0, x1, by rw [q0, q1], wf_range w0, wf_range w1⟩

/-- A plan that lies in a variable: its block, its numbers. -/
theorem plan_var (w : World) (P : PN) (lq aq wq tq : Nat) : Pb (w.alloc (.cells (plC P (slc lq P.R) (slc aq P.R) (slc wq P.R) (slc tq P.R)) 30)) w.heap.size P (slc lq P.R) (slc aq P.R) (slc wq P.R) (slc tq P.R) := pb_new _ _ _ _ _ _

set_option maxHeartbeats 4000000 in
set_option maxRecDepth 100000 in
theorem planWaste_walk (ao : Option Addr) (len cap : Nat) (cs : List (Int × Int)) (x y z : Int) (w : World) (h : TwRd w ao len cs) (hx : (Lit.int .i64 x).wf = true) (hyz : In64 y ∧ In64 z) (hT : Tab w) :
    Calls Tryd.prog 5 #[.slice ao len cap, .int .i64 x, .agg #[.int .i64 y, .int .i64 z]] w fun e w' => e = .returned (.bool true) ∧ Turned [] w w' := by
  have hxr := wf_range hx
  obtain ⟨hyr, hzr⟩ := hyz
  unfold In64 at hyr hzr
  obtain ⟨w0, hw0⟩ : ∃ w0, w0 = w.alloc (.cells #[.int .i64 y, .int .i64 z] 43) := ⟨_, rfl⟩
  have hT0 : Turned [] w w0 := by rw [hw0]; exact (Turned.refl [] w).alloc _
  have hb0 : w0.heap[w.heap.size]? = some (.cells #[.int .i64 y, .int .i64 z] 43) := by rw [hw0]; exact heap_alloc_new _ _
  have HTb := hide hT
  have HO := hide h
  have HT0 := hide hT0
  have HX0 := hide hb0
  have HAw := hide (awake13 w0 (hT.turned hT0 (by simp)))
  clear h hT hT0 hb0 hx
  obtain ⟨bq, hbq⟩ : ∃ bq, bq = w.heap.size := ⟨_, rfl⟩
  rw [← hbq] at HX0
  go_enter Tryd.func5, Tryd.ntmps5
  go_wp2_with fail
  rw [← hw0, ← hbq]
  clear hw0 hbq
  refine (HAw.out).mono ?_
  rintro e w1 ⟨rfl, ht1⟩
  have HT1 := hide (HT0.out.trans ht1)
  have HX1 : Hid (w1.heap[bq]? = some (.cells #[.int .i64 y, .int .i64 z] 43)) := hide (by rw [ht1.block bq (lt_of_heap HX0.out) (by simp)]; exact HX0.out)
  have HM := hide (marks_any 150 ao len cap cs w1 (by omega) (HO.out.turned HT1.out) (HTb.out.turned HT1.out (by simp)))
  clear ht1 HT0 HX0 HAw
  go_wp2_with fail
  refine (HM.out).mono ?_
  rintro e w2 ⟨p, q, p2, rfl, hb2, hp0, hq0, ht2⟩
  have HB2 := hide hb2
  have HBl := hide (mkS_bl 150 cs (min len 60))
  have HT2 := hide (HT1.out.trans ht2)
  have HX2 : Hid (w2.heap[bq]? = some (.cells #[.int .i64 y, .int .i64 z] 43)) := hide (by rw [ht2.block bq (lt_of_heap HX1.out) (by simp)]; exact HX1.out)
  clear hb2 hp0 hq0 ht2 HT1 HX1 HM
  generalize mkS 150 cs (min len 60) = S at *
  go_upto_if 28 with fail
  go_cut [10] (fun s10 wc => ∃ n : Nat, s10 = .int .i64 (n : Int) ∧ n ≤ 39 ∧ Aside (wc = w2))
  case first =>
    have ta : -40 < x.tmod 40 ∧ x.tmod 40 < 40 := tmod_bounds x 40 (by omega)
    by_cases hneg : x.tmod 40 < 0
    · go_wp2_with fail
      go_meet
      case rel => exact ⟨(-(x.tmod 40)).toNat, by congr 1; omega, by omega, rfl⟩
    · go_wp2_with fail
      go_meet
      case rel => exact ⟨(x.tmod 40).toNat, by congr 1; omega, by omega, rfl⟩
  case rest =>
    obtain ⟨k, rfl, hk, hwc⟩ := hcut
    have hwc' := hwc.out
    subst hwc'
    clear hwc hxr
    obtain ⟨w2, hw2⟩ : ∃ w2, w2 = wc := ⟨_, rfl⟩
    subst hw2
    have c0 : w2.cell? ⟨bq, 0, none⟩ = some (.int .i64 y) := by rw [cell_of_heap HX2.out]; rfl
    have c1 : w2.cell? ⟨bq, 1, none⟩ = some (.int .i64 z) := by rw [cell_of_heap HX2.out]; rfl
    go_upto_if 38 with fail
    go_cut [11] (fun s11 wc => ∃ n : Nat, s11 = .int .i64 (n : Int) ∧ n ≤ 99 ∧ Aside (wc = w2))
    case first =>
      have ta : -100 < y.tmod 100 ∧ y.tmod 100 < 100 := tmod_bounds y 100 (by omega)
      by_cases hneg : y.tmod 100 < 0
      · go_wp2_with fail
        go_meet
        case rel => exact ⟨(-(y.tmod 100)).toNat, by congr 1; omega, by omega, rfl⟩
      · go_wp2_with fail
        go_meet
        case rel => exact ⟨(y.tmod 100).toNat, by congr 1; omega, by omega, rfl⟩
    case rest =>
      obtain ⟨v, rfl, hv, hwc⟩ := hcut
      have hwc' := hwc.out
      subst hwc'
      clear hwc hyr
      obtain ⟨w2, hw2⟩ : ∃ w2, w2 = wc := ⟨_, rfl⟩
      subst hw2
      go_upto_if 42 with fail
      go_cut [12] (fun s12 wc => ∃ n : Nat, s12 = .int .i64 (n : Int) ∧ n ≤ 99 ∧ Aside (wc = w2))
      case first =>
        have ta : -100 < z.tmod 100 ∧ z.tmod 100 < 100 := tmod_bounds z 100 (by omega)
        by_cases hneg : z.tmod 100 < 0
        · go_wp2_with fail
          go_meet
          case rel => exact ⟨(-(z.tmod 100)).toNat, by congr 1; omega, by omega, rfl⟩
        · go_wp2_with fail
          go_meet
          case rel => exact ⟨(z.tmod 100).toNat, by congr 1; omega, by omega, rfl⟩
      case rest =>
        obtain ⟨m, rfl, hm, hwc⟩ := hcut
        have hwc' := hwc.out
        subst hwc'
        clear hwc hzr c0 c1
        obtain ⟨w2, hw2⟩ : ∃ w2, w2 = wc := ⟨_, rfl⟩
        subst hw2
        have HMk := hide (fun (w' : World) (t : Turned [] w2 w') (v : Nat) (hv : v ≤ 1000000) => make_ok p 150 S 0 150 (k + 1) v w' (HB2.out.turned0 t).brd HBl.out (by omega) (by omega) (by omega) (by omega) hv (noCut0 S) (noCutN HBl.out))
        rw [show ((0 : Nat) : Int) = 0 from rfl, show ((150 : Nat) : Int) = 150 from rfl, show ((k + 1 : Nat) : Int) = (k : Int) + 1 from by omega] at HMk
        have HM1 := hide (fun w' t => HMk.out w' t v (by omega))
        have HM2 := hide (fun w' t => HMk.out w' t (v + m) (by omega))
        have HM3 := hide (fun w' t => HMk.out w' t 150 (by omega))
        rw [show ((v + m : Nat) : Int) = (v : Int) + m from by omega] at HM2
        rw [show ((150 : Nat) : Int) = 150 from rfl] at HM3
        clear HMk
        go_wp2_with fail
        refine (HM1.out _ (Turned.refl _ _)).mono ?_
        rintro e w3 ⟨P, lqP, aqP, wqP, tqP, rfl, hmP, -, ht3⟩
        have HMP := hide hmP
        have HVP := hide (plan_var w3 P lqP aqP wqP tqP)
        have HU4 := hide ((ht3).alloc (.cells (plC P (slc lqP P.R) (slc aqP P.R) (slc wqP P.R) (slc tqP P.R)) 30))
        have hS3 := hide ((Turned.refl [] w3).alloc (.cells (plC P (slc lqP P.R) (slc aqP P.R) (slc wqP P.R) (slc tqP P.R)) 30))
        clear hmP ht3
        unfold plC slc at HVP HU4 hS3 ⊢
        generalize P.R = RP at *
        go_wp2_with fail
        generalize w3.alloc (.cells #[Value.int .i64 P.f, Value.int .i64 P.t, Value.int .i64 P.k, Value.int .i64 P.d, Value.int .i64 P.e, .slice (some ⟨lqP, 0, none⟩) RP RP, .slice (some ⟨aqP, 0, none⟩) RP RP, .slice (some ⟨wqP, 0, none⟩) RP RP, .slice (some ⟨tqP, 0, none⟩) RP RP] 30) = w4 at *
        generalize w3.heap.size = pbP at *
        refine (HM2.out _ HU4.out).mono ?_
        rintro e w5 ⟨Q, lqQ, aqQ, wqQ, tqQ, rfl, hmP, -, ht5⟩
        have HMQ := hide hmP
        have HVQ := hide (plan_var w5 Q lqQ aqQ wqQ tqQ)
        have HU6 := hide ((HU4.out.trans ht5).alloc (.cells (plC Q (slc lqQ Q.R) (slc aqQ Q.R) (slc wqQ Q.R) (slc tqQ Q.R)) 30))
        have hS5 := hide ((Turned.refl [] w5).alloc (.cells (plC Q (slc lqQ Q.R) (slc aqQ Q.R) (slc wqQ Q.R) (slc tqQ Q.R)) 30))
        have HVP5 := hide (HVP.out.turned0 ht5)
        clear hmP ht5
        have HVP6 := hide (HVP5.out.turned0 hS5.out)
        clear HVP HVP5
        unfold plC slc at HVQ HU6 hS5 HVP6 ⊢
        generalize Q.R = RQ at *
        go_wp2_with fail
        generalize w5.alloc (.cells #[Value.int .i64 Q.f, Value.int .i64 Q.t, Value.int .i64 Q.k, Value.int .i64 Q.d, Value.int .i64 Q.e, .slice (some ⟨lqQ, 0, none⟩) RQ RQ, .slice (some ⟨aqQ, 0, none⟩) RQ RQ, .slice (some ⟨wqQ, 0, none⟩) RQ RQ, .slice (some ⟨tqQ, 0, none⟩) RQ RQ] 30) = w6 at *
        generalize w5.heap.size = pbQ at *
        refine (HM3.out _ HU6.out).mono ?_
        rintro e w7 ⟨A, lqA, aqA, wqA, tqA, rfl, hmP, -, ht7⟩
        have HMA := hide hmP
        have HVA := hide (plan_var w7 A lqA aqA wqA tqA)
        have HU8 := hide ((HU6.out.trans ht7).alloc (.cells (plC A (slc lqA A.R) (slc aqA A.R) (slc wqA A.R) (slc tqA A.R)) 30))
        have hS7 := hide ((Turned.refl [] w7).alloc (.cells (plC A (slc lqA A.R) (slc aqA A.R) (slc wqA A.R) (slc tqA A.R)) 30))
        have HVP7 := hide (HVP6.out.turned0 ht7)
        have HVQ7 := hide (HVQ.out.turned0 ht7)
        clear hmP ht7
        obtain ⟨i1, i2⟩ := makes_more HBl.out HMP.out HMQ.out (by omega) (by omega) (by omega) (by omega) (by omega) (noCutN HBl.out)
        obtain ⟨i3, i4⟩ := makes_all HBl.out HMA.out (fun x hx => Nat.le_trans (dead_le _ _ _) hx) (by omega) (by omega) (by omega)
        have j1 : (P.d : Int) ≤ Q.d := by omega
        have j2 : (P.e : Int) ≤ Q.e := by omega
        obtain ⟨d0, d1, d2, d3, d4, d5, d6, d7, d8⟩ := HVP7.out.cs
        obtain ⟨e0, e1, e2, e3, e4, e5, e6, e7, e8⟩ := HVQ7.out.cs
        have l1 := HVP7.out.lt
        have l2 := HVQ7.out.lt
        have HTE := hide (HT2.out.trans HU8.out)
        clear d0 d1 d2 d5 d6 d7 d8 e0 e1 e2 e5 e6 e7 e8 HVP6 HVP7 HVQ HVQ7 HVA HMP HMQ HMA HM1 HM2 HM3 HU4 HU6 HU8 hS3 hS5 hS7
        unfold plC slc at HTE ⊢
        rw [i3, i4] at HTE ⊢
        clear i1 i2 i3 i4 hk hv hm
        generalize A.R = RA at *
        generalize P.d = Pd at *
        generalize Q.d = Qd at *
        generalize P.e = Pe at *
        generalize Q.e = Qe at *
        go_wp2_with fail
        go_ret
        exact ⟨by simp [j1, j2], HTE.out⟩

set_option maxRecDepth 100000 in
theorem planWaste_lifted (os : Os) (started : os.Started) (H : Type) (enc : TypeId × Value → H) :
    ReturnsInHanded {} Tryd.checked os 5 .any (fun w args => (Rows.planWasteSpec.pre enc Tryd.prog Tryd.f5 [] false w args ∧ laidMetH Tryd.prog laidTab w) ∧ sizedMet enc Tryd.prog Tryd.f5 (OpenSpec.ofChange Rows.planWasteSpec) false w args)
      (Rows.planWasteSpec.post enc Tryd.prog Tryd.f5 false true false false) := by
  refine returnsInHanded_of_change_and (C := Tryd.checked) (X := fun w _ => laidMetH Tryd.prog laidTab w) (fun _ _ _ hh h => h.of_heap hh) own started (by kernel_rfl) Tryd.func5
    (ChangeSpec.witness_shaped (enc := enc) (C := Tryd.checked) (os := os) (X := fun w _ => laidMetH Tryd.prog laidTab w) false (World.doorLaid Tryd.prog 400 os) #[.slice none 0 0, .int .i64 0, .agg #[.int .i64 0, .int .i64 0]] 8 rfl (World.shaped_of_RefB (by kernel_rfl) (by kernel_rfl)) (by kernel_rfl) (by kernel_rfl) (by kernel_rfl) (door_met os _)) ?_
  intro W base args ds gs before hval0 hW _ _ hL _
  have hTab := tab_of hL
  have hval : ∀ (j : Nat) t v, Tryd.f5.params[j]? = some t → args[j]? = some v → Value.okWide Tryd.prog W .any base t v := hval0
  have hW' := hW
  obtain ⟨p, q, hA0, hV, rfl, hfz, hnd⟩ := hW
  have hA : DataW.TrodAll enc Tryd.prog W 0 (fun _ => true) true Tryd.f5.params.toList args.toList ds p := hA0
  rw [Tryd.params5] at hA hval
  obtain ⟨v0, vs0, d0, ds0, p0, q0, hargs, rfl, rfl, h0, r0⟩ := trodAll_cons hA
  obtain ⟨v1, vs1, d1, ds1, p1, q1, rfl, rfl, rfl, h1, r1⟩ := trodAll_cons r0
  obtain ⟨v2, vs2, d2, ds2, p2, q2, rfl, rfl, rfl, h2, r2⟩ := trodAll_cons r1
  obtain ⟨rfl, rfl, rfl⟩ := trodAll_nil r2
  obtain rfl : args = #[v0, v1, v2] := by cases args; simp_all
  obtain ⟨rfl, rfl⟩ := trodVars_none hV
  obtain ⟨a0, len0, cap0, rfl⟩ := okWide_slice Tryd.underlying22 (hval 0 22 v0 rfl rfl)
  have k0 := h0
  have lt0 : ∀ x ∈ p0, x.block < W.heap.size := by obtain ⟨m, hm⟩ := k0; exact DataW.trod_lt m _ _ _ hm
  obtain ⟨z0, w0⟩ := open_pairs h0
  obtain ⟨a1, rfl, rfl, rfl, w1⟩ := open_int Tryd.underlying3 (hval 1 3 v1 rfl rfl) h1
  have k2 := h2
  have lt2 : ∀ x ∈ p2, x.block < W.heap.size := by obtain ⟨m, hm⟩ := k2; exact DataW.trod_lt m _ _ _ hm
  obtain ⟨a20, a21, rfl, w2⟩ := open_two (hval 2 43 v2 rfl rfl) h2
  simp only [List.append_nil] at hW'
  clear hA0 hval0
  refine (planWaste_walk a0 len0 cap0 z0 a1 a20 a21 W w0 w1 w2 hTab).mono fun e W' ⟨he, ht⟩ => ?_
  subst he
  have bel : Below W.heap.size W W' := ht.below0
  exact ⟨_, rfl, _, _, _, [], _, [], hW', trodAll_mk1 (shut_bool Tryd.underlying4 _), (trodAll_cons_mk (Below.trod laidOut (by kernel_rfl) (of_decide_eq_true (by kernel_rfl)) k0 bel lt0) (trodAll_cons_mk (shut_int Tryd.underlying3 w1) (trodAll_cons_mk (Below.trod laidOut (by kernel_rfl) (of_decide_eq_true (by kernel_rfl)) k2 bel lt2) trodAll_mk0))), rfl, bel.frame _, fun h => by cases h⟩

theorem planWaste_over : Rows.planWasteRow.holds Tryd.pinned (OpenSpec.ofChange Rows.planWasteSpec) :=
  OpenClaim.holds_of_wide 5 Tryd.f5 rfl rfl rfl rfl rfl rfl rfl ⟨rfl, rfl, rfl, rfl, rfl⟩ rfl rfl rfl rfl rfl (by kernel_rfl) Tryd.func5 (by kernel_rfl)
    (of_decide_eq_true (by kernel_rfl)) (by unfold Func.isWrapper; first | (rw [if_pos (by decide +kernel)]; kernel_rfl) | (rw [if_neg (by decide +kernel)]; exact ⟨rfl, rfl⟩))
    (fun os started H enc _ => planWaste_lifted os started H enc)

theorem planWaste_holds : Rows.PlanWasteSaid := planWaste_over

theorem planWaste_card : Rows.PlanWasteCardSaid :=
  Claim7.holds_tied_plain_at .later [] [.data] true _ false
    planWaste_holds (fun _ h => by cases h) (by kernel_rfl) (fun _ h => by cases h) planWaste_row_tie rfl ⟨rfl, rfl⟩ (by kernel_rfl) rfl
    (fun f fn hf hfn => by
      obtain rfl : f = 5 := Option.some.inj ((show Tryd.prog.funcNamed "ballast/ballastlaw13.PlanWaste" = some 5 by kernel_rfl).symm.trans hf) |>.symm
      obtain rfl : fn = Tryd.f5 := (Option.some.inj (Tryd.func5.symm.trans hfn)).symm
      exact ⟨by kernel_rfl, fun j t ht => by
        rw [Tryd.params5] at ht
        have h3 : t ∈ [22, 3, 43] := by
          have h4 := Array.mem_of_getElem? ht
          simpa using h4
        have h5 : ∀ u, u ∈ [22, 3, 43] → Tryd.prog.wantsStandIn u = false := by
          intro u hu
          simp only [List.mem_cons, List.not_mem_nil, or_false] at hu
          rcases hu with rfl | rfl | rfl <;> kernel_rfl
        exact h5 t h3⟩)
    (by kernel_rfl)

end Go.Proofs.YtcckflcjjgckoaaDoor
