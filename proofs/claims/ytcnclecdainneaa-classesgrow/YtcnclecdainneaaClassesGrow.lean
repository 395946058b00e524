/-
  The statement ClassesGrow is proved: for every list of classes and every two numbers the law returns true and the list reads as before; no condition.
-/
import Derived.Test.YtcnclecdainneaaClassesAwake
import Derived.Test.YtcnclecdainneaaClassesOpen
namespace Go.Proofs.Ytcnclecdainneaa
open Go.RowKit Go.ChangeShapes Go.WideShapes Go.ChangeAt
set_option linter.unusedVariables false

theorem tmod_bounds (a m : Int) (hm : 0 < m) : -m < a.tmod m ∧ a.tmod m < m := by
  have h1 := Int.tmod_lt_of_pos a hm
  have h2 := Int.tmod_lt_of_pos (-a) hm
  rw [Int.neg_tmod] at h2
  omega

theorem checkOf_or (cs : List Cls) : checkOf cs = 12 ∨ checkOf cs = 0 ∧ ∀ c, c ∈ cs → c.may = true := by
  unfold checkOf
  by_cases h2 : cs.length ≤ 16 ∧ ∀ c, c ∈ cs → c.may = true
  · rw [if_pos h2]; exact .inr ⟨rfl, h2.2⟩
  · rw [if_neg h2]; exact .inl rfl
theorem clsAt_in {cs : List Cls} {i : Nat} {c : Cls} (h : cs[i]? = some c) (hm : c.may = true) : clsAt cs ((i : Int) + 1) = some c := by
  unfold clsAt
  rw [if_neg (by omega), if_neg (by omega), show ((i : Int) + 1 - 1).toNat = i by omega, h]
  simp [hm]
theorem sizeOf_plain {cs : List Cls} {i : Nat} {c : Cls} (h : cs[i]? = some c) (hm : c.may = true) (ha : c.a = 0) : sizeOf cs ((i : Int) + 1) 0 = (1 + c.r + c.w, 0) ∧ ∀ m : Nat, sizeOf cs ((i : Int) + 1) ((m : Int) + 1) = (0, 11) := by
  have h1 := clsAt_in h hm
  constructor
  · simp [sizeOf, told, h1, Cls.most, Cls.rN, Cls.wN, ha, gSize]
  · intro m
    simp [sizeOf, told, h1, Cls.most, ha]
theorem sizeOf_array {cs : List Cls} {i : Nat} {c : Cls} (h : cs[i]? = some c) (hm : c.may = true) (ha : ¬ c.a = 0) (m : Nat) (hm2 : m ≤ 1024) : sizeOf cs ((i : Int) + 1) (m : Int) = ((m : Int) + 1, 0) := by
  have h1 := clsAt_in h hm
  have h2 : c.a = 1 ∨ c.a = 2 := by simp [Cls.may] at hm; omega
  have h3 : (m : Int) ≤ 1024 := by omega
  rcases h2 with h2 | h2
  · simp [sizeOf, told, h1, Cls.most, Cls.rN, Cls.wN, h2, gSize, h3]; omega
  · simp [sizeOf, told, h1, Cls.most, Cls.rN, Cls.wN, h2, gSize, h3]; omega

set_option maxRecDepth 100000 in
set_option maxHeartbeats 4000000 in
theorem classesGrow_walk (a : Option Addr) (len cap : Nat) (cs : List Cls) (k n : Int) (w : World) (h : CRd w a len cs) (hwk : (Lit.int .i64 k).wf = true) (hwn : (Lit.int .i64 n).wf = true) :
    Calls Try.prog 8 #[.slice a len cap, .int .i64 k, .int .i64 n] w fun e w' => e = .returned (.bool true) ∧ Turned [] w w' := by
  have HL := hide h.size
  have hr := h.room
  have H := hide h
  have hra := wf_range hwn
  have hrk := wf_range hwk
  clear h hwk hwn
  go_enter Try.func8, Try.ntmps8
  go_wp2_with fail
  refine (awake_true _).mono ?_
  rintro e w1 ⟨rfl, ht1⟩
  have HT := hide ht1
  clear ht1
  go_wp2_with fail
  all_goals as_aux_lemma =>
    have ta : -1024 < n.tmod 1024 ∧ n.tmod 1024 < 1024 := tmod_bounds n 1024 (by omega)
    obtain ⟨nI, hnI⟩ : ∃ nI, nI = (if n.tmod 1024 < 0 then wrap64 (-n.tmod 1024) else n.tmod 1024) := ⟨_, rfl⟩
    have hn12 : 0 ≤ nI ∧ nI < 1024 := by rw [hnI]; unfold wrap64; split <;> omega
    obtain ⟨m, rfl⟩ := Int.eq_ofNat_of_zero_le hn12.1
    first
      | (have e1 : wrap64 (-n.tmod 1024) = (m : Int) := by rw [hnI, if_pos (by assumption)]); rw [e1]
      | (have e1 : n.tmod 1024 = (m : Int) := by rw [hnI, if_neg (by omega)]); rw [e1]
    clear e1 hnI ta
    try generalize decide (n.tmod 1024 < 0) = bA
    try generalize decide ((m : Int) < 0) = bC
    try generalize n.tmod 1024 = bE at *
    have HC := hide (check_any a len cap cs w1 (H.out.turned HT.out))
    rcases checkOf_or cs with h12 | ⟨h0, hall⟩
    · rw [h12] at HC
      clear h12
      refine HC.out.mono ?_
      rintro e w2 ⟨rfl, ht2⟩
      have HT2 := hide (HT.out.trans ht2)
      clear ht2 HC HT
      go_wp2_with fail
      go_ret
      exact ⟨rfl, HT2.out⟩
    · rw [h0] at HC
      have HA := hide hall
      clear h0 hall
      refine HC.out.mono ?_
      rintro e w2 ⟨rfl, ht2⟩
      have HT2 := hide (HT.out.trans ht2)
      clear ht2 HC HT
      by_cases hk1 : k < 1
      · go_wp2_with fail
        go_ret
        exact ⟨rfl, HT2.out⟩
      · by_cases hk2 : (len : Int) < k
        · go_wp2_with fail
          go_ret
          exact ⟨rfl, HT2.out⟩
        · obtain ⟨i, rfl⟩ : ∃ i : Nat, k = (i : Int) + 1 := ⟨(k - 1).toNat, by omega⟩
          obtain ⟨c, hc⟩ : ∃ c, cs[i]? = some c := ⟨_, List.getElem?_eq_getElem (by have := HL.out; omega)⟩
          have hmay := HA.out c (List.mem_of_getElem? hc)
          have e3 : wrap64 ((i : Int) + 1 - 1) = (i : Int) := by unfold wrap64; omega
          have e4 : wrap64 ((m : Int) + 1) = (m : Int) + 1 := by unfold wrap64; omega
          have e5 : wrap64 ((m : Int) + 1 + 1) = (m : Int) + 1 + 1 := by unfold wrap64; omega
          have HS1 := hide (fun w h => sizes_any a len cap cs ((i : Int) + 1) (m : Int) w (by unfold In64; omega) h)
          have HS2 := hide (fun w h => sizes_any a len cap cs ((i : Int) + 1) ((m : Int) + 1) w (by unfold In64; omega) h)
          have HCI := hide hc
          by_cases ha : c.a = 0
          · obtain ⟨s1, s2⟩ := sizeOf_plain hc hmay ha
            rw [s2 m] at HS2
            have HA0 := hide ha
            by_cases hm0 : m = 0
            · have e6 : ((m : Int) == 0) = true := by simp [hm0]
              rw [show sizeOf cs ((i : Int) + 1) (m : Int) = (1 + c.r + c.w, 0) by rw [hm0]; exact s1] at HS1
              clear s1 s2 hm0 ha hc hmay
              go_wp2_with fail
              refine (HS1.out _ (H.out.turned HT2.out)).mono ?_
              rintro e w3 ⟨rfl, ht3⟩
              have HT3 := hide (HT2.out.trans ht3)
              clear ht3 HS1 HT2
              go_wp2_with fail
              refine (HS2.out _ (H.out.turned HT3.out)).mono ?_
              rintro e w4 ⟨rfl, ht4⟩
              have HT4 := hide (HT3.out.trans ht4)
              obtain ⟨b, off, rfl, -, -, c2⟩ := (H.out.turned HT4.out).cell i c HCI.out
              rw [HA0.out] at c2
              clear ht4 HS2 HT3
              go_wp2_with fail
              go_ret
              exact ⟨rfl, HT4.out⟩
            · have e6 : ((m : Int) == 0) = false := by simp [hm0]
              rw [show sizeOf cs ((i : Int) + 1) (m : Int) = (0, 11) by rw [show (m : Int) = ((m - 1 : Nat) : Int) + 1 by omega]; exact s2 _] at HS1
              clear s1 s2 hm0 ha hc hmay
              go_wp2_with fail
              refine (HS1.out _ (H.out.turned HT2.out)).mono ?_
              rintro e w3 ⟨rfl, ht3⟩
              have HT3 := hide (HT2.out.trans ht3)
              clear ht3 HS1 HT2
              go_wp2_with fail
              refine (HS2.out _ (H.out.turned HT3.out)).mono ?_
              rintro e w4 ⟨rfl, ht4⟩
              have HT4 := hide (HT3.out.trans ht4)
              obtain ⟨b, off, rfl, -, -, c2⟩ := (H.out.turned HT4.out).cell i c HCI.out
              rw [HA0.out] at c2
              clear ht4 HS2 HT3
              go_wp2_with fail
              go_ret
              exact ⟨rfl, HT4.out⟩
          · have s1 := sizeOf_array hc hmay ha m (by omega)
            have s2 := sizeOf_array hc hmay ha (m + 1) (by omega)
            rw [show ((m + 1 : Nat) : Int) = (m : Int) + 1 by omega] at s2
            have e6 : (c.a == 0) = false := by simp [ha]
            rw [s1] at HS1
            rw [s2] at HS2
            clear s1 s2 ha hc hmay
            go_wp2_with fail
            refine (HS1.out _ (H.out.turned HT2.out)).mono ?_
            rintro e w3 ⟨rfl, ht3⟩
            have HT3 := hide (HT2.out.trans ht3)
            clear ht3 HS1 HT2
            go_wp2_with fail
            refine (HS2.out _ (H.out.turned HT3.out)).mono ?_
            rintro e w4 ⟨rfl, ht4⟩
            have HT4 := hide (HT3.out.trans ht4)
            obtain ⟨b, off, rfl, -, -, c2⟩ := (H.out.turned HT4.out).cell i c HCI.out
            clear ht4 HS2 HT3
            go_wp2_with fail
            go_ret
            exact ⟨rfl, HT4.out⟩

set_option maxRecDepth 100000 in
theorem classesGrow_lifted (os : Os) (started : os.Started) (H : Type) (enc : TypeId × Value → H) :
    ReturnsInHanded {} Try.checked os 8 .any (Rows.classesGrowSpec.pre6 enc Try.prog Try.f8 Rows.classesGrowRow.domain false) (Rows.classesGrowSpec.post enc Try.prog Try.f8 false true false false) := by
  refine returnsInHanded_of_change (C := Try.checked) own started (by kernel_rfl) Try.func8
    (ChangeSpec.witness6 (enc := enc) (C := Try.checked) false ⟨#[], #[.slice none 0 0, .int .i64 0, .int .i64 0], []⟩ 8 (by kernel_rfl) (by kernel_rfl) (by kernel_rfl) (by kernel_rfl)) ?_
  intro W base args ds gs before hval0 hW hcnd _
  have hval : ∀ (j : Nat) t v, Try.f8.params[j]? = some t → args[j]? = some v → Value.okWide Try.prog W .any base t v := hval0
  have hW' := hW
  obtain ⟨p, q, hA0, hV, rfl, hfz, hnd⟩ := hW
  have hA : DataW.TrodAll enc Try.prog W 0 (fun _ => true) true Try.f8.params.toList args.toList ds p := hA0
  rw [Try.params8] at hA hval
  obtain ⟨v0, vs0, d0, ds0, p0, q0, hargs, rfl, rfl, h0, r0⟩ := trodAll_cons hA
  obtain ⟨v1, vs1, d1, ds1, p1, q1, rfl, rfl, rfl, h1, r1⟩ := trodAll_cons r0
  obtain ⟨v2, vs2, d2, ds2, p2, q2, rfl, rfl, rfl, h2, r2⟩ := trodAll_cons r1
  obtain ⟨rfl, rfl, rfl⟩ := trodAll_nil r2
  obtain rfl : args = #[v0, v1, v2] := by cases args; simp_all
  obtain ⟨rfl, rfl⟩ := trodVars_none hV
  obtain ⟨a0, len0, cap0, rfl⟩ := okWide_slice Try.underlying22 (hval 0 22 v0 rfl rfl)
  have k0 := h0
  have lt0 : ∀ x ∈ p0, x.block < W.heap.size := by obtain ⟨m, hm⟩ := k0; exact DataW.trod_lt m _ _ _ hm
  obtain ⟨z0, w0⟩ := open_classes h0
  obtain ⟨a1, rfl, rfl, rfl, w1⟩ := open_int Try.underlying3 (hval 1 3 v1 rfl rfl) h1
  obtain ⟨a2, rfl, rfl, rfl, w2⟩ := open_int Try.underlying3 (hval 2 3 v2 rfl rfl) h2
  clear hA0 hval0
  refine (classesGrow_walk a0 len0 cap0 z0 a1 a2 W w0 w1 w2).mono fun e W' ⟨he, ht⟩ => ?_
  subst he
  have bel : Below W.heap.size W W' := ht.below0
  exact ⟨_, rfl, _, _, _, [], _, [], hW', trodAll_mk1 (shut_bool Try.underlying4 _), (trodAll_cons_mk (Below.trod laidOut (by kernel_rfl) (of_decide_eq_true (by kernel_rfl)) k0 bel lt0) (trodAll_cons_mk (shut_int Try.underlying3 w1) (trodAll_cons_mk (shut_int Try.underlying3 w2) trodAll_mk0))), rfl, bel.frame _, fun h => by cases h⟩

theorem classesGrow_over : Rows.classesGrowRow.holds Try.pinned (OpenSpec.ofChange Rows.classesGrowSpec) :=
  OpenClaim.holds_of_wide 8 Try.f8 rfl rfl rfl rfl rfl rfl rfl ⟨rfl, rfl, rfl, rfl, rfl⟩ rfl rfl rfl rfl rfl (by kernel_rfl) Try.func8 (by kernel_rfl)
    (of_decide_eq_true (by kernel_rfl)) (by unfold Func.isWrapper; first | (rw [if_pos (by decide +kernel)]; kernel_rfl) | (rw [if_neg (by decide +kernel)]; exact ⟨rfl, rfl⟩))
    (fun os started H enc _ => classesGrow_lifted os started H enc)

theorem classesGrow_holds : Rows.ClassesGrowSaid := classesGrow_over
end Go.Proofs.Ytcnclecdainneaa
