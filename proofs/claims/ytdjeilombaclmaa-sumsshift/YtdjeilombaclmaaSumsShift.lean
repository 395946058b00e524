/-
  (Text by SumsLaws.gen.py.) SumsShift: a value more ahead of all adds itself to each sum, and to the sum of all (modulo 2^64). Any values (of which the first 200 count), any value.
-/
import Derived.Test.YtdjeilombaclmaaSumsKit
namespace Go.Proofs.Ytdjeilombaclmaa
open Go.ChangeShapes Go.WideShapes Go.ChangeAt Go.RowKit
set_option linter.unusedVariables false

theorem rw_one (w : World) (v : Int) : Rw (w.alloc (.cells #[.int .i64 v] 2)) w.heap.size (.slice (some ⟨w.heap.size, 0, none⟩) 1 1) [v] :=
  ⟨rfl, .inr ⟨w.heap.size, 1, #[.int .i64 v], rfl, Nat.le_refl _, heap_alloc_new _ _, by simp, by unfold maxLen; omega, by simp, by simp⟩⟩

set_option maxRecDepth 100000 in
theorem sumsShift_walk (a : Option Addr) (len cap : Nat) (zs : List Int) (v : Int) (w : World) (h : IsRow .i64 w a len cap zs) (hv0 : (Lit.int .i64 v).wf = true) :
    Calls Try.prog 7 #[.slice a len cap, .int .i64 v] w fun e w' => e = .returned (.bool true) ∧ Turned [] w w' := by
  obtain ⟨hr, hlen, hlc, hcc, hcn0⟩ := isRow_rd h
  have hvr := wf_range hv0
  have hcn := hide hcn0
  have HA := hide (awake12 w)
  clear h hv0 hcn0
  by_cases hl : 200 < len
  · have hsl := cut_first a len cap 200 hl hlc hcc
    have hlz : (200 : Int) < (len : Int) := by omega
    have V := hide (hr.first (m := 200) (by omega))
    generalize (zs.take len).take 200 = vals at *
    clear hr
    rw [show ((200 : Nat) : Int) = 200 from rfl] at hsl
    go_enter Try.func7, Try.ntmps7
    go_wp2_with fail
    refine HA.out.mono ?_
    rintro e w1 ⟨rfl, t1⟩
    have T1 := hide t1
    clear t1 HA
    have HS1 := hide V.out.size
    have HRW := hide (rw_one w1 v)
    have HVA := hide ((V.out.turned0 T1.out).turned0 ((Turned.refl [] w1).alloc (.cells #[.int .i64 v] 2)))
    have hz1 : w1.heap.size ≤ (w1.alloc (.cells #[.int .i64 v] 2)).heap.size := by simp
    go_wp2_with (at_builtin; refine wpList_append64 rfl _ _ rfl w1.heap.size (.slice (some ⟨w1.heap.size, 0, none⟩) 1 1) [v] rfl HRW.out a 200 cap vals rfl HVA.out hcn.out (by show 1 + 200 ≤ 17592186044416; omega) hz1 ?_; intro v' w2 hown hgr)
    have T2 := hide (show Turned [] w w2 from (T1.out.alloc _).grown hgr (fun q hq => by
      simp [Value.ownBlock] at hq
      have := T1.out.size
      exact .inr (by omega)))
    obtain ⟨am, cm, rfl, rm, -, -⟩ := hown.rd
    obtain ⟨mm, hmm⟩ : ∃ mm, mm = 200 + 1 := ⟨_, rfl⟩
    have hml : ([v] ++ vals).length = mm := by have := HS1.out; simp; omega
    have hmb : mm ≤ 301 := by omega
    have HMM := hide hmm
    rw [hml] at rm ⊢
    have RM := hide rm
    clear hown hgr rm HRW HVA hz1 hml hmm T1
    have HP := hide (splain_any w2 a 200 cap vals (V.out.turned0 T2.out) (by omega))
    go_wp2_with fail
    refine HP.out.mono ?_
    rintro e w3 ⟨rfl, r3, t3⟩
    have R3 := hide r3
    have T3 := hide (T2.out.trans t3)
    have HP2 := hide (splain_any w3 am mm cm ([v] ++ vals) (RM.out.turned0 t3) (by omega))
    clear r3 t3 T2 RM HP
    generalize w2.heap.size = g1 at *
    go_wp2_with fail
    refine HP2.out.mono ?_
    rintro e w4 ⟨rfl, r4, t4⟩
    have R4 := hide r4
    have R34 := hide (R3.out.turned0 t4)
    have T4 := hide (T3.out.trans t4)
    clear r4 t4 T3 R3 HP2
    generalize w3.heap.size = g2 at *
    have hpre : ∀ i, wrap64 (pre ([v] ++ vals) (i + 1)) = wrap64 (wrap64 (pre vals i) + v) := fun i => by
      rw [wrap_add]
      congr 1
      simp [pre]
      omega
    have HPre := hide hpre
    rw [show pre ([v] ++ vals) mm = pre ([v] ++ vals) (200 + 1) by rw [HMM.out], hpre 200]
    have hb0 : w4.cell? ⟨g2, 0, none⟩ = some (.int .i64 0) := by
      obtain ⟨g', off', e, hc⟩ := R4.out.cell 0 0 (by rw [preL_get (by simp), pre_zero, wrap0])
      cases e
      simpa using hc
    have hr := wrap64_range (pre vals 200)
    have hm0 : 0 < mm := by have := HMM.out; omega
    have HC1 := hide (show ∀ i, i < 200 → w4.cell? ⟨g1, i, none⟩ = some (.int .i64 (wrap64 (pre vals i))) from fun i hi => by
      obtain ⟨g', off', e, hc⟩ := R34.out.cell i _ (preL_get (by have := HS1.out; omega))
      cases e
      simpa using hc)
    have HC2 := hide (show ∀ i, i < 200 → w4.cell? ⟨g2, i + 1, none⟩ = some (.int .i64 (wrap64 (wrap64 (pre vals i) + v))) from fun i hi => by
      obtain ⟨g', off', e, hc⟩ := R4.out.cell (i + 1) _ (preL_get (by have := HS1.out; simp; omega))
      cases e
      rw [HPre.out] at hc
      simpa using hc)
    clear hpre HPre R4 R34
    generalize wrap64 (pre vals 200) = x at *
    go_wp2_with fail
    go_loopw [11] (fun i wr => ∃ (j q : Nat), j ≤ 200 ∧ i = .int .i64 j ∧ Hid (wr = w4.drewN q)) (fun i _ => 200 - (intOf i).toNat)
    case atStart => exact ⟨0, 0, Nat.zero_le _, rfl, rfl⟩
    case round =>
      obtain ⟨j, q, hj, rfl, HW⟩ := hrel
      have hw := HW.out
      clear HW
      subst hw
      by_cases hlt : j < 200
      · have c1 := HC1.out j hlt
        have c2 := HC2.out j hlt
        have hr2 := wrap64_range (pre vals j)
        have hjm : j + 1 < mm := by have := HMM.out; omega
        generalize wrap64 (pre vals j) = y at *
        go_wp2_with fail
        go_quiet (fail)
        go_wp2_with fail
        go_roundw
        case rel => exact ⟨j + 1, _, by omega, by go_num, rfl⟩
        case measure => simp [intOf]; omega
      · go_wp2_with fail
        go_ret
        exact ⟨rfl, T4.out.drewN _⟩
  · have hlz : ¬ (200 : Int) < (len : Int) := by omega
    have V := hide hr
    generalize zs.take len = vals at *
    clear hr
    go_enter Try.func7, Try.ntmps7
    go_wp2_with fail
    refine HA.out.mono ?_
    rintro e w1 ⟨rfl, t1⟩
    have T1 := hide t1
    clear t1 HA
    have HS1 := hide V.out.size
    have HRW := hide (rw_one w1 v)
    have HVA := hide ((V.out.turned0 T1.out).turned0 ((Turned.refl [] w1).alloc (.cells #[.int .i64 v] 2)))
    have hz1 : w1.heap.size ≤ (w1.alloc (.cells #[.int .i64 v] 2)).heap.size := by simp
    go_wp2_with (at_builtin; refine wpList_append64 rfl _ _ rfl w1.heap.size (.slice (some ⟨w1.heap.size, 0, none⟩) 1 1) [v] rfl HRW.out a len cap vals rfl HVA.out hcn.out (by show 1 + len ≤ 17592186044416; omega) hz1 ?_; intro v' w2 hown hgr)
    have T2 := hide (show Turned [] w w2 from (T1.out.alloc _).grown hgr (fun q hq => by
      simp [Value.ownBlock] at hq
      have := T1.out.size
      exact .inr (by omega)))
    obtain ⟨am, cm, rfl, rm, -, -⟩ := hown.rd
    obtain ⟨mm, hmm⟩ : ∃ mm, mm = len + 1 := ⟨_, rfl⟩
    have hml : ([v] ++ vals).length = mm := by have := HS1.out; simp; omega
    have hmb : mm ≤ 301 := by omega
    have HMM := hide hmm
    rw [hml] at rm ⊢
    have RM := hide rm
    clear hown hgr rm HRW HVA hz1 hml hmm T1
    have HP := hide (splain_any w2 a len cap vals (V.out.turned0 T2.out) (by omega))
    go_wp2_with fail
    refine HP.out.mono ?_
    rintro e w3 ⟨rfl, r3, t3⟩
    have R3 := hide r3
    have T3 := hide (T2.out.trans t3)
    have HP2 := hide (splain_any w3 am mm cm ([v] ++ vals) (RM.out.turned0 t3) (by omega))
    clear r3 t3 T2 RM HP
    generalize w2.heap.size = g1 at *
    go_wp2_with fail
    refine HP2.out.mono ?_
    rintro e w4 ⟨rfl, r4, t4⟩
    have R4 := hide r4
    have R34 := hide (R3.out.turned0 t4)
    have T4 := hide (T3.out.trans t4)
    clear r4 t4 T3 R3 HP2
    generalize w3.heap.size = g2 at *
    have hpre : ∀ i, wrap64 (pre ([v] ++ vals) (i + 1)) = wrap64 (wrap64 (pre vals i) + v) := fun i => by
      rw [wrap_add]
      congr 1
      simp [pre]
      omega
    have HPre := hide hpre
    rw [show pre ([v] ++ vals) mm = pre ([v] ++ vals) (len + 1) by rw [HMM.out], hpre len]
    have hb0 : w4.cell? ⟨g2, 0, none⟩ = some (.int .i64 0) := by
      obtain ⟨g', off', e, hc⟩ := R4.out.cell 0 0 (by rw [preL_get (by simp), pre_zero, wrap0])
      cases e
      simpa using hc
    have hr := wrap64_range (pre vals len)
    have hm0 : 0 < mm := by have := HMM.out; omega
    have HC1 := hide (show ∀ i, i < len → w4.cell? ⟨g1, i, none⟩ = some (.int .i64 (wrap64 (pre vals i))) from fun i hi => by
      obtain ⟨g', off', e, hc⟩ := R34.out.cell i _ (preL_get (by have := HS1.out; omega))
      cases e
      simpa using hc)
    have HC2 := hide (show ∀ i, i < len → w4.cell? ⟨g2, i + 1, none⟩ = some (.int .i64 (wrap64 (wrap64 (pre vals i) + v))) from fun i hi => by
      obtain ⟨g', off', e, hc⟩ := R4.out.cell (i + 1) _ (preL_get (by have := HS1.out; simp; omega))
      cases e
      rw [HPre.out] at hc
      simpa using hc)
    clear hpre HPre R4 R34
    generalize wrap64 (pre vals len) = x at *
    go_wp2_with fail
    go_loopw [11] (fun i wr => ∃ (j q : Nat), j ≤ len ∧ i = .int .i64 j ∧ Hid (wr = w4.drewN q)) (fun i _ => len - (intOf i).toNat)
    case atStart => exact ⟨0, 0, Nat.zero_le _, rfl, rfl⟩
    case round =>
      obtain ⟨j, q, hj, rfl, HW⟩ := hrel
      have hw := HW.out
      clear HW
      subst hw
      by_cases hlt : j < len
      · have c1 := HC1.out j hlt
        have c2 := HC2.out j hlt
        have hr2 := wrap64_range (pre vals j)
        have hjm : j + 1 < mm := by have := HMM.out; omega
        generalize wrap64 (pre vals j) = y at *
        go_wp2_with fail
        go_quiet (fail)
        go_wp2_with fail
        go_roundw
        case rel => exact ⟨j + 1, _, by omega, by go_num, rfl⟩
        case measure => simp [intOf]; omega
      · go_wp2_with fail
        go_ret
        exact ⟨rfl, T4.out.drewN _⟩

set_option maxRecDepth 100000 in
theorem sumsShift_lifted (os : Os) (started : os.Started) (H : Type) (enc : TypeId × Value → H) :
    ReturnsInHanded {} Try.checked os 7 .any (Rows.sumsShiftSpec.pre6 enc Try.prog Try.f7 Rows.sumsShiftRow.domain false) (Rows.sumsShiftSpec.post enc Try.prog Try.f7 false true false false) := by
  refine returnsInHanded_of_change (C := Try.checked) own started (by kernel_rfl) Try.func7
    (ChangeSpec.witness6 (enc := enc) (C := Try.checked) false ⟨#[], #[.slice none 0 0, .int .i64 0], []⟩ 8 (by kernel_rfl) (by kernel_rfl) (by kernel_rfl) (by kernel_rfl)) ?_
  intro W base args ds gs before hval0 hW hcnd _
  have hval : ∀ (j : Nat) t v, Try.f7.params[j]? = some t → args[j]? = some v → Value.okWide Try.prog W .any base t v := hval0
  have hW' := hW
  obtain ⟨p, q, hA0, hV, rfl, hfz, hnd⟩ := hW
  have hA : DataW.TrodAll enc Try.prog W 0 (fun _ => true) true Try.f7.params.toList args.toList ds p := hA0
  rw [Try.params7] at hA hval
  obtain ⟨v0, vs0, d0, ds0, p0, q0, hargs, rfl, rfl, h0, r0⟩ := trodAll_cons hA
  obtain ⟨v1, vs1, d1, ds1, p1, q1, rfl, rfl, rfl, h1, r1⟩ := trodAll_cons r0
  obtain ⟨rfl, rfl, rfl⟩ := trodAll_nil r1
  obtain rfl : args = #[v0, v1] := by cases args; simp_all
  obtain ⟨rfl, rfl⟩ := trodVars_none hV
  obtain ⟨a0, len0, cap0, rfl⟩ := okWide_slice Try.underlying22 (hval 0 22 v0 rfl rfl)
  have k0 := h0
  have lt0 : ∀ x ∈ p0, x.block < W.heap.size := by obtain ⟨m, hm⟩ := k0; exact DataW.trod_lt m _ _ _ hm
  obtain ⟨z0, w0⟩ : ∃ zs, IsRow .i64 W a0 len0 cap0 zs := by
    obtain ⟨fuel, hf⟩ := h0
    rcases open_ints Try.underlying22 Try.underlying2 (by kernel_rfl) hf with ⟨hcs, _⟩ | ⟨x, l, c, zs, hcs, _, hl, hm, hz, _, hcell, hwz⟩
    · simp [Value.cells] at hcs
      obtain ⟨rfl, rfl, rfl⟩ := hcs
      exact ⟨[], .inl ⟨rfl, rfl, rfl, rfl⟩⟩
    · simp [Value.cells] at hcs
      obtain ⟨rfl, rfl, rfl⟩ := hcs
      exact ⟨zs, .inr ⟨_, rfl, hl, hm, by simpa using hz, hcell, hwz⟩⟩
  obtain ⟨a1, rfl, rfl, rfl, w1⟩ := open_int Try.underlying2 (hval 1 2 v1 rfl rfl) h1
  clear hA0 hval0
  refine (sumsShift_walk a0 len0 cap0 z0 a1 W w0 w1).mono fun e W' ⟨he, ht⟩ => ?_
  subst he
  have bel : Below W.heap.size W W' := ht.below0
  exact ⟨_, rfl, _, _, _, [], _, [], hW', trodAll_mk1 (shut_bool Try.underlying4 _), (trodAll_cons_mk (Below.trod laidOut (by kernel_rfl) (of_decide_eq_true (by kernel_rfl)) k0 bel lt0) (trodAll_cons_mk (shut_int Try.underlying2 w1) trodAll_mk0)), rfl, bel.frame _, fun h => by cases h⟩

theorem sumsShift_over : Rows.sumsShiftRow.holds Try.pinned (OpenSpec.ofChange Rows.sumsShiftSpec) :=
  OpenClaim.holds_of_wide 7 Try.f7 rfl rfl rfl rfl rfl rfl rfl ⟨rfl, rfl, rfl, rfl, rfl⟩ rfl rfl rfl rfl rfl (by kernel_rfl) Try.func7 (by kernel_rfl)
    (of_decide_eq_true (by kernel_rfl)) (by unfold Func.isWrapper; first | (rw [if_pos (by decide +kernel)]; kernel_rfl) | (rw [if_neg (by decide +kernel)]; exact ⟨rfl, rfl⟩))
    (fun os started H enc _ => sumsShift_lifted os started H enc)

theorem sumsShift_holds : Rows.SumsShiftSaid := sumsShift_over
end Go.Proofs.Ytdjeilombaclmaa
