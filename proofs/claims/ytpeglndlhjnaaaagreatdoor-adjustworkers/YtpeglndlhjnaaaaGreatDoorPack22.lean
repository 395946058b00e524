/-
  Texts of the proof, several in one: DocPlanB, DocPlanC, PlanWhere, PlanMade, PlanClos, PlanTakes0, PlanPack, PlanMake, PlanLawP, PlanSlidesP, PlanTakesP, DocPlanP, DocPlanD0.
-/
import Derived.Test.YtpeglndlhjnaaaaGreatDoorPack21
import Derived.Deep.Cut
import Derived.Deep.CutBlock
import Derived.Deep.CutRange
import Derived.Deep.DeepCutAuto
import Derived.Deep.LoopGhost
import Derived.Test.YtpeglndlhjnaaaaGreatDoorPack1
/-
  The document's plan (ballastref13): regions, Span, Region, Goal.
-/
namespace Go.Proofs.YtpeglndlhjnaaaaGreatDoor
open Go.RowKit Bt
set_option linter.unusedVariables false
set_option linter.unusedSimpArgs false

theorem ret1 {a b : Int} (h : a = b) : Ending.returned (.int .i64 a) = .returned (.int .i64 b) := by rw [h]
theorem ret2 {a b c d : Int} (h : a = c ∧ b = d) : Ending.returned (.tuple #[.int .i64 a, .int .i64 b]) = .returned (.tuple #[.int .i64 c, .int .i64 d]) := by rw [h.1, h.2]
theorem div_up {D k : Nat} (hk : 1 ≤ k) (hD : 1 ≤ D) : (D - 1) / k + 1 = if 0 < D % k then D / k + 1 else D / k := by
  obtain ⟨D, rfl⟩ : ∃ E, D = E + 1 := ⟨D - 1, by omega⟩
  rw [Nat.add_sub_cancel]
  have h0 := Nat.div_add_mod (D + 1) k
  generalize (D + 1) / k = q at *
  generalize hr : (D + 1) % k = r at *
  have hrk : r < k := by rw [← hr]; exact Nat.mod_lt _ (by omega)
  by_cases h : 0 < r
  · rw [if_pos h]
    congr 1
    apply Nat.div_eq_of_lt_le
    · rw [Nat.mul_comm]; omega
    · rw [Nat.mul_comm, Nat.mul_succ]; omega
  · rw [if_neg h]
    have hq : 1 ≤ q := by
      rcases Nat.eq_zero_or_pos q with h1 | h1
      · subst h1; omega
      · exact h1
    obtain ⟨q, rfl⟩ : ∃ z, q = z + 1 := ⟨q - 1, by omega⟩
    rw [Nat.mul_succ] at h0
    congr 1
    apply Nat.div_eq_of_lt_le
    · rw [Nat.mul_comm]; omega
    · rw [Nat.mul_comm, Nat.mul_succ]; omega

theorem rregions13 (P : PN) (h : P.Ok) (l a wt tk : Value) (w : World) :
    Calls Tryz.prog 76 #[.agg (plC P l a wt tk)] w fun e w' => e = .returned (.int .i64 (P.R : Nat)) ∧ Turned [] w w' := by
  obtain ⟨f, t, k, d, e⟩ := P
  have h1 := h.le
  have h2 := h.few
  have h3 := h.k1
  have h4 := h.kk
  simp only at h1 h2 h3 h4
  obtain ⟨R, hR⟩ : ∃ R, R = PN.R ⟨f, t, k, d, e⟩ := ⟨_, rfl⟩
  rw [← hR]
  unfold PN.R at hR
  simp only at hR
  unfold plC
  by_cases h0 : f < t
  · rw [if_pos h0, div_up h3 (by omega)] at hR
    have hc : ((t : Int) - f) / k = (((t - f) / k : Nat) : Int) := by
      rw [Int.natCast_ediv]
      congr 1
      omega
    have hm : ((t : Int) - f) % k = (((t - f) % k : Nat) : Int) := by
      rw [Int.natCast_emod]
      congr 1
      omega
    have hle := Nat.div_le_self (t - f) k
    generalize (t - f) / k = Q at *
    generalize (t - f) % k = M at *
    by_cases hM : 0 < M
    · rw [if_pos hM] at hR
      subst hR
      have h5 : (0 : Int) < (M : Int) := by omega
      clear hM h
      go_enter Tryz.func76, Tryz.ntmps76
      go_wp2_with fail
      go_ret
      exact ⟨by simp, (Turned.refl _ _).alloc _⟩
    · rw [if_neg hM] at hR
      subst hR
      have h5 : ¬ (0 : Int) < (M : Int) := by omega
      clear hM h
      go_enter Tryz.func76, Tryz.ntmps76
      go_wp2_with fail
      go_ret
      exact ⟨by simp, (Turned.refl _ _).alloc _⟩
  · rw [if_neg h0] at hR
    subst hR
    have h00 : (t : Int) ≤ f := by omega
    clear h
    go_enter Tryz.func76, Tryz.ntmps76
    go_wp2_with fail
    go_ret
    exact ⟨rfl, (Turned.refl _ _).alloc _⟩

theorem rspan13 (P : PN) (h : P.Ok) (l a wt tk : Value) (r : Nat) (hr : r < P.R) (w : World) :
    Calls Tryz.prog 77 #[.agg (plC P l a wt tk), .int .i64 (r : Int)] w fun e w' => e = .returned (.tuple #[.int .i64 (P.ed r : Nat), .int .i64 (P.ed (r + 1) : Nat)]) ∧ Turned [] w w' := by
  have HR := hide (fun w => rregions13 P h l a wt tk w)
  have hF := PN.R_few h
  have e1 := PN.ed_eq h hr
  have e2 := PN.lt_R h hr
  have e3 : P.ed (r + 1) = P.ed r + min P.k (P.t - P.ed r) := by
    unfold PN.ed
    rw [Nat.succ_mul]
    omega
  have h2 := h.few
  have h4 := h.kk
  have h3 := h.k1
  have hle := PN.ed_le P r
  generalize P.ed (r + 1) = E2 at *
  generalize P.ed r = E1 at *
  generalize hRR : P.R = R at *
  obtain ⟨f, t, k, d, e⟩ := P
  simp only at h2 h3 h4 e1 e2 e3 hle
  have HB := hide (pb_new w ⟨f, t, k, d, e⟩ l a wt tk)
  have HT := hide ((Turned.refl [] w).alloc (.cells (plC ⟨f, t, k, d, e⟩ l a wt tk) 42))
  unfold plC at HR HB HT ⊢
  simp only at HR HB HT ⊢
  have hri : (r : Int) < R := by omega
  have hm : (r : Int) * (k : Int) = (E1 : Int) - f := by
    rw [e1, Int.natCast_add, Int.natCast_mul]
    generalize (r : Int) * (k : Int) = z
    omega
  have HM := hide (show wrap64 ((r : Int) * (k : Int)) = (E1 : Int) - f ∧ IntKind.i64.wrap ((r : Int) * (k : Int)) = (E1 : Int) - f from by
    rw [hm, IntKind.wrap_i64]
    unfold wrap64
    omega)
  have hm1 := HM.out.1
  have hm2 : wrap64 ((f : Int) + ((E1 : Int) - f)) = E1 := by unfold wrap64; omega
  have hk3 : ∀ b, b = decide ((k : Int) < (t : Int) - E1) → ((if b then (E1 : Int) + k else t) = E2) := by
    intro b hb
    subst hb
    by_cases hh : (k : Int) < (t : Int) - E1
    · rw [decide_eq_true hh, if_pos rfl]; omega
    · rw [decide_eq_false hh, if_neg (by simp)]; omega
  have HK := hide (hk3 _ rfl)
  have HE := hide (show f ≤ E1 ∧ E1 ≤ t ∧ t ≤ 65536 ∧ k ≤ 65536 from ⟨by rw [e1]; exact Nat.le_add_right _ _, hle, h2, h4⟩)
  clear hRR h hr e1 e2 e3 hm HM h2 h3 h4 hle hF hk3
  go_enter Tryz.func77, Tryz.ntmps77
  go_wp2_with fail
  generalize w.alloc (.cells #[Value.int .i64 f, Value.int .i64 t, Value.int .i64 k, Value.int .i64 d, Value.int .i64 e, l, a, wt, tk] 42) = w0 at *
  generalize w.heap.size = q at *
  refine (HR.out _).mono ?_
  rintro e1 w1 ⟨rfl, ht1⟩
  obtain ⟨c0, c1, c2, c3, c4, c5, c6, c7, c8⟩ := (HB.out.turned0 ht1).cs
  have HT1 := hide (HT.out.trans ht1)
  clear ht1 HB HT
  go_upto_region 4 with fail
  have he := HE.out
  clear hm1
  rw [hm2]
  clear hm2
  by_cases hh : (k : Int) < (t : Int) - E1
  · have H2 : Hid (((E1 : Int) + k) = E2) := hide (by have := HK.out; rw [decide_eq_true hh, if_pos rfl] at this; exact this)
    go_wp2_with fail
    go_ret2
    exact ⟨congrArg (fun z => Ending.returned (.tuple #[.int .i64 (E1 : Int), .int .i64 z])) H2.out, HT1.out⟩
  · have H2 : Hid ((t : Int) = E2) := hide (by have := HK.out; rw [decide_eq_false hh, if_neg (by simp)] at this; exact this)
    go_wp2_with fail
    go_ret2
    exact ⟨congrArg (fun z => Ending.returned (.tuple #[.int .i64 (E1 : Int), .int .i64 z])) H2.out, HT1.out⟩

theorem rregion13 (P : PN) (h : P.Ok) (l a wt tk : Value) (x : Int) (w : World) :
    Calls Tryz.prog 81 #[.agg (plC P l a wt tk), .int .i64 x] w fun e w' => e = .returned (.int .i64 (rgI P x)) ∧ Turned [] w w' := by
  obtain ⟨r, hr⟩ : ∃ r, r = rgI P x := ⟨_, rfl⟩
  rw [← hr]
  unfold rgI PN.reg at hr
  have h1 := h.le
  have h2 := h.few
  have h3 := h.k1
  have h4 := h.kk
  obtain ⟨f, t, k, d, e⟩ := P
  simp only at h1 h2 h3 h4 hr
  unfold plC
  simp only
  clear h
  by_cases h0 : (f : Int) ≤ x ∧ x < t
  · rw [if_pos h0] at hr
    have hc : r = (x - f) / k := by
      rw [hr, Int.natCast_ediv]
      congr 1
      omega
    have h01 : ¬ x < (f : Int) := by omega
    have h02 : ¬ (t : Int) ≤ x := by omega
    clear hr
    go_enter Tryz.func81, Tryz.ntmps81
    go_wp2_with fail
    go_ret
    exact ⟨by first | rfl | exact ret1 hc.symm, (Turned.refl _ _).alloc _⟩
  · rw [if_neg h0] at hr
    subst hr
    by_cases hf : x < (f : Int)
    · go_enter Tryz.func81, Tryz.ntmps81
      go_wp2_with fail
      go_ret
      exact ⟨rfl, (Turned.refl _ _).alloc _⟩
    · have hx : (t : Int) ≤ x := by omega
      go_enter Tryz.func81, Tryz.ntmps81
      go_wp2_with fail
      go_ret
      exact ⟨rfl, (Turned.refl _ _).alloc _⟩

theorem rgoal13 (P : PN) (h : P.Ok) (l a wt tk : Value) (r : Nat) (hr : r < P.R) (w : World) :
    Calls Tryz.prog 80 #[.agg (plC P l a wt tk), .int .i64 (r : Int)] w fun e w' => e = .returned (.tuple #[.int .i64 (gF P r : Nat), .int .i64 (gT P r : Nat)]) ∧ Turned [] w w' := by
  have HR := hide (fun w => rspan13 P h l a wt tk r hr w)
  obtain ⟨A, hA⟩ : ∃ A, A = gF P r := ⟨_, rfl⟩
  obtain ⟨B, hB⟩ : ∃ B, B = gT P r := ⟨_, rfl⟩
  rw [← hA, ← hB]
  unfold gF at hA
  unfold gT at hB
  generalize P.ed (r + 1) = E2 at *
  generalize P.ed r = E1 at *
  clear h hr
  obtain ⟨f, t, k, d, e⟩ := P
  simp only at HR hA hB
  have HA := hide hA
  have HBB := hide hB
  clear hA hB
  have HB := hide (pb_new w ⟨f, t, k, d, e⟩ l a wt tk)
  have HT := hide ((Turned.refl [] w).alloc (.cells (plC ⟨f, t, k, d, e⟩ l a wt tk) 42))
  unfold plC at HR HB HT ⊢
  simp only at HR HB HT ⊢
  go_enter Tryz.func80, Tryz.ntmps80
  go_wp2_with fail
  generalize w.alloc (.cells #[Value.int .i64 f, Value.int .i64 t, Value.int .i64 k, Value.int .i64 d, Value.int .i64 e, l, a, wt, tk] 42) = w0 at *
  generalize w.heap.size = q at *
  refine (HR.out _).mono ?_
  rintro e1 w1 ⟨rfl, ht1⟩
  obtain ⟨c0, c1, c2, c3, c4, c5, c6, c7, c8⟩ := (HB.out.turned0 ht1).cs
  have HT1 := hide (HT.out.trans ht1)
  clear ht1 HB HT HR
  go_upto_region 2 with fail
  by_cases h1n : (E1 : Int) < d
  · have h1 : (E1 : Int) < d := by omega
    by_cases h2n : (e : Int) < E2
    · have h2 : (e : Int) < E2 := h2n
      clear h2n
      by_cases h3n : (e : Int) ≤ d
      · have h3 : (e : Int) ≤ d := by omega
        have HAe : Hid ((0 : Int) = A ∧ (0 : Int) = B) := hide (by
          have a1 := HA.out
          have b1 := HBB.out
          rw [if_neg (by omega)] at a1 b1
          omega)
        clear HA HBB
        go_wp2_with fail
        go_ret2
        exact ⟨(have := ret2 HAe.out; this), HT1.out⟩
      · have h3 : ¬ (e : Int) ≤ d := by omega
        have HAe : Hid ((d : Int) = A ∧ (e : Int) = B) := hide (by
          have a1 := HA.out
          have b1 := HBB.out
          rw [if_pos (by omega)] at a1 b1
          omega)
        clear HA HBB
        go_wp2_with fail
        go_ret2
        exact ⟨(have := ret2 HAe.out; this), HT1.out⟩
    · have h2 : ¬ (e : Int) < E2 := h2n
      clear h2n
      by_cases h3n : (E2 : Int) ≤ d
      · have h3 : (E2 : Int) ≤ d := by omega
        have HAe : Hid ((0 : Int) = A ∧ (0 : Int) = B) := hide (by
          have a1 := HA.out
          have b1 := HBB.out
          rw [if_neg (by omega)] at a1 b1
          omega)
        clear HA HBB
        go_wp2_with fail
        go_ret2
        exact ⟨(have := ret2 HAe.out; this), HT1.out⟩
      · have h3 : ¬ (E2 : Int) ≤ d := by omega
        have HAe : Hid ((d : Int) = A ∧ (E2 : Int) = B) := hide (by
          have a1 := HA.out
          have b1 := HBB.out
          rw [if_pos (by omega)] at a1 b1
          omega)
        clear HA HBB
        go_wp2_with fail
        go_ret2
        exact ⟨(have := ret2 HAe.out; this), HT1.out⟩
  · have h1 : ¬ (E1 : Int) < d := by omega
    by_cases h2n : (e : Int) < E2
    · have h2 : (e : Int) < E2 := h2n
      clear h2n
      by_cases h3n : (e : Int) ≤ E1
      · have h3 : (e : Int) ≤ E1 := by omega
        have HAe : Hid ((0 : Int) = A ∧ (0 : Int) = B) := hide (by
          have a1 := HA.out
          have b1 := HBB.out
          rw [if_neg (by omega)] at a1 b1
          omega)
        clear HA HBB
        go_wp2_with fail
        go_ret2
        exact ⟨(have := ret2 HAe.out; this), HT1.out⟩
      · have h3 : ¬ (e : Int) ≤ E1 := by omega
        have HAe : Hid ((E1 : Int) = A ∧ (e : Int) = B) := hide (by
          have a1 := HA.out
          have b1 := HBB.out
          rw [if_pos (by omega)] at a1 b1
          omega)
        clear HA HBB
        go_wp2_with fail
        go_ret2
        exact ⟨(have := ret2 HAe.out; this), HT1.out⟩
    · have h2 : ¬ (e : Int) < E2 := h2n
      clear h2n
      by_cases h3n : (E2 : Int) ≤ E1
      · have h3 : (E2 : Int) ≤ E1 := by omega
        have HAe : Hid ((0 : Int) = A ∧ (0 : Int) = B) := hide (by
          have a1 := HA.out
          have b1 := HBB.out
          rw [if_neg (by omega)] at a1 b1
          omega)
        clear HA HBB
        go_wp2_with fail
        go_ret2
        exact ⟨(have := ret2 HAe.out; this), HT1.out⟩
      · have h3 : ¬ (E2 : Int) ≤ E1 := by omega
        have HAe : Hid ((E1 : Int) = A ∧ (E2 : Int) = B) := hide (by
          have a1 := HA.out
          have b1 := HBB.out
          rw [if_pos (by omega)] at a1 b1
          omega)
        clear HA HBB
        go_wp2_with fail
        go_ret2
        exact ⟨(have := ret2 HAe.out; this), HT1.out⟩
end Go.Proofs.YtpeglndlhjnaaaaGreatDoor

/-
  The document's plan (ballastref13): Source.
-/
namespace Go.Proofs.YtpeglndlhjnaaaaGreatDoor
open Go.RowKit Bt
set_option linter.unusedVariables false
set_option linter.unusedSimpArgs false

/-- The word that goes to x. -/
def SrcOf (P : PN) (S : Nat → Nat) (x s : Nat) : Prop := P.d ≤ s ∧ s < P.t ∧ live S s = true ∧ cnt (live S) s = cnt (live S) P.d + (x - P.d)
theorem SrcOf.uniq {P : PN} {S : Nat → Nat} {x s s' : Nat} (h : SrcOf P S x s) (h' : SrcOf P S x s') : s = s' := by
  obtain ⟨_, _, a3, a4⟩ := h
  obtain ⟨_, _, b3, b4⟩ := h'
  rcases Nat.lt_trichotomy s s' with h | h | h
  · have := cnt_mono (live S) (show s + 1 ≤ s' by omega)
    rw [cnt_at a3] at this
    omega
  · exact h
  · have := cnt_mono (live S) (show s' + 1 ≤ s by omega)
    rw [cnt_at b3] at this
    omega

set_option maxRecDepth 100000 in
theorem rsource13 (p q n : Nat) (S : Nat → Nat) (P : PN) (h : P.Ok) (l a wt tk : Value) (x : Nat) (w : World) (hb : RB w p q n S) (ht : P.t ≤ n) (hfd : P.f ≤ P.d) (hdt : P.d ≤ P.t) (hx0 : P.d ≤ x) (hx1 : x < P.d + (cnt (live S) P.t - cnt (live S) P.d)) :
    Calls Tryz.prog 82 #[.agg (plC P l a wt tk), .pointer (some ⟨p, 0, none⟩), .int .i64 (x : Int)] w fun e w' => ∃ s : Nat, e = .returned (.int .i64 (s : Int)) ∧ SrcOf P S x s ∧ Turned [] w w' := by
  have hn := hb.few
  have HL := hide (fun (w' : World) (t : Turned [] w w') => rlives13 p q n S w' (hb.turned0 t))
  have h1 := h.few
  have HSr : Hid (∀ s, P.d ≤ s → s < P.t → live S s = true → cnt (live S) s = cnt (live S) P.d + (x - P.d) → SrcOf P S x s) := hide (fun s a b c d => ⟨a, b, c, d⟩)
  have HMd := hide (fun (k : Nat) (hk : P.d ≤ k) => cnt_mono (live S) hk)
  have HMt := hide (cnt_mono (live S) hdt)
  have HSt := hide (fun (k : Nat) (hk : P.d ≤ k) => cnt_step (live S) P.d k hk)
  have HX1 := hide hx1
  obtain ⟨f, t, k, d, e⟩ := P
  simp only at h1 ht hfd hdt hx0 hx1 HSr HMd HMt HSt HX1
  have HB := hide (pb_new w ⟨f, t, k, d, e⟩ l a wt tk)
  have HT := hide ((Turned.refl [] w).alloc (.cells (plC ⟨f, t, k, d, e⟩ l a wt tk) 42))
  unfold plC at HB HT ⊢
  simp only at HB HT ⊢
  clear h hb hx1
  have HSr2 : Hid (∀ s, d ≤ s → s < t → live S s = true → cnt (live S) s = cnt (live S) d + (x - d) → SrcOf ⟨f, t, k, d, e⟩ S x s) := HSr
  clear HSr
  have hnd : n ≤ 65536 := hn
  go_enter Tryz.func82, Tryz.ntmps82
  go_wp2_with fail
  generalize w.alloc (.cells #[Value.int .i64 f, Value.int .i64 t, Value.int .i64 k, Value.int .i64 d, Value.int .i64 e, l, a, wt, tk] 42) = w0 at *
  generalize w.heap.size = bq at *
  refine (HL.out _ HT.out).mono ?_
  rintro e1 w1 ⟨g, rfl, hR, hg, hT⟩
  obtain ⟨c0, c1, c2, c3, c4, c5, c6, c7, c8⟩ := (HB.out.turned0 hT).cs
  have HB1 := hide (HB.out.turned0 hT)
  have HT1 := hide (HT.out.trans hT)
  have HR := hide hR
  clear hR hg hT HL HB HT c1 c2 c3 c4 c5 c6 c7 c8
  go_wp2_with fail
  clear c0
  have hd6 : d ≤ 65536 := by omega
  have hx6 : x ≤ 131072 := by
    have := HX1.out
    have := cnt_le (live S) t
    omega
  go_loopg [8, 9] (t - f) (fun gg s8 s9 wr => ∃ (i m : Nat), f ≤ i ∧ i ≤ t ∧ gg = t - i ∧ s9 = .int .i64 (i : Int) ∧ s8 = .int .i64 (m : Int) ∧ m ≤ i ∧ Hid (m = cnt (live S) i - cnt (live S) d) ∧ Hid (m ≤ x - d) ∧ Hid (Turned [] w1 wr))
  case atStart =>
    have := cnt_mono (live S) hfd
    exact ⟨f, 0, Nat.le_refl _, by omega, rfl, rfl, rfl, Nat.zero_le _, hide (by omega), hide (Nat.zero_le _), hide (Turned.refl _ _)⟩
  case round =>
    obtain ⟨i, m, hfi, hit, rfl, rfl, rfl, hmi, HM, HX, HTr⟩ := hrel
    obtain ⟨c0, c1, c2, c3, c4, c5, c6, c7, c8⟩ := (HB1.out.turned0 HTr.out).cs
    clear c0 c2 c4 c5 c6 c7 c8
    by_cases hlt : i < t
    · have hlti : (i : Int) < (t : Int) := by omega
      have hin : (i : Int) < (n : Int) := by omega
      have cg := (HR.out.turned0 HTr.out).cell (i := i) (by omega)
      obtain ⟨v, hv⟩ : ∃ v, v = live S i := ⟨_, rfl⟩
      have HV := hide hv
      rw [← hv] at cg
      clear hv
      cases v
      · have HM2 : Hid (m = cnt (live S) (i + 1) - cnt (live S) d) := hide (by
          rw [HM.out, cnt_off HV.out.symm])
        go_wp2_with fail
        go_roundg (t - (i + 1))
        case measure => omega
        case rel => exact ⟨i + 1, m, by omega, by omega, rfl, by go_num, rfl, by omega, HM2, HX, HTr⟩
      · by_cases hid : i < d
        · have hidi : (i : Int) < (d : Int) := by omega
          have hidj : ¬ (d : Int) ≤ (i : Int) := by omega
          have hne : ¬ (i : Int) = (x : Int) := by omega
          have hm0 : m = 0 := by
            have := cnt_mono (live S) (show i ≤ d by omega)
            have := HM.out
            omega
          have HM2 : Hid (m = cnt (live S) (i + 1) - cnt (live S) d) := hide (by
            have := cnt_mono (live S) (show i + 1 ≤ d by omega)
            omega)
          clear hm0
          go_wp2_with fail
          go_roundg (t - (i + 1))
          case measure => omega
          case rel => exact ⟨i + 1, m, by omega, by omega, rfl, by go_num, rfl, by omega, HM2, HX, HTr⟩
        · have hidi : ¬ (i : Int) < (d : Int) := by omega
          have hidj : (d : Int) ≤ (i : Int) := by omega
          have HM2 : Hid (m + 1 = cnt (live S) (i + 1) - cnt (live S) d) := hide (by
            have h5 := HSt.out i (by omega)
            rw [h5, ← HV.out, ← HM.out]; rfl)
          by_cases hxm : d + m = x
          · have hxi : (d : Int) + (m : Int) = (x : Int) := by omega
            have HF : Hid (SrcOf ⟨f, t, k, d, e⟩ S x i) := hide (HSr2.out i (by omega) hlt HV.out.symm (by
              have := HM.out
              have := HMd.out i (by omega)
              omega))
            go_wp2_with fail
            go_ret
            exact ⟨i, rfl, HF.out, HT1.out.trans HTr.out⟩
          · have hxi : ¬ (d : Int) + (m : Int) = (x : Int) := by omega
            have HX2 : Hid (m + 1 ≤ x - d) := hide (by have := HX.out; omega)
            go_wp2_with fail
            go_roundg (t - (i + 1))
            case measure => omega
            case rel => exact ⟨i + 1, m + 1, by omega, by omega, rfl, by go_num, by go_num, by omega, HM2, HX2, HTr⟩
    · exfalso
      have h5 : i = t := by omega
      have h6 := HM.out
      have h7 := HX.out
      have h8 := HX1.out
      rw [h5] at h6
      omega
end Go.Proofs.YtpeglndlhjnaaaaGreatDoor

/-
  origin, liveWord, Forward, Source of package plan.
-/
namespace Go.Proofs.YtpeglndlhjnaaaaGreatDoor
open Go.RowKit Bt
set_option linter.unusedVariables false

/-- What lies ahead of each region, in memory. -/
def Ah (w : World) (P : PN) (S : Nat → Nat) (aq : Nat) : Prop := Ri w 3 aq P.R (fun r => (ahR P (live S) r : Nat))
theorem Ah.turned0 {w w' : World} {P : PN} {S : Nat → Nat} {aq : Nat} (h : Ah w P S aq) (t : Turned [] w w') : Ah w' P S aq := Ri.turned0 h t

theorem cell_alloc_old (w : World) (o : Obj) {a : Addr} (ha : a.block < w.heap.size) : (w.alloc o).cell? a = w.cell? a := ((Turned.refl [] w).alloc o).cell ha (by simp)
theorem cell_alloc_new (w : World) (v : Value) (ty : TypeId) : (w.alloc (.cells #[v] ty)).cell? ⟨w.heap.size, 0, none⟩ = some v := by rw [cell_of_heap (heap_alloc_new _ _)]; rfl

set_option maxRecDepth 100000 in
theorem origin_any (P : PN) (h : P.Ok) (S : Nat → Nat) (l wt tk : Value) (aq c : Nat) (x : Nat) (w : World) (ha : Ah w P S aq) (hx : x ≤ 65536) (hd : P.d ≤ 65536) :
    Calls Tryz.prog 106 #[.agg (plC P l (.slice (some ⟨aq, 0, none⟩) P.R c) wt tk), .int .i64 (x : Int)] w fun e w' => ∃ r : Nat, e = .returned (.int .i64 ((r : Int) - 1)) ∧ Finds P.R (fun r => decide ((x : Int) - P.d < ((ahR P (live S) r : Nat) : Int))) r ∧ Turned [] w w' := by
  have hF := PN.R_few h
  obtain ⟨w0, hw0⟩ : ∃ w0, w0 = w.alloc (.cells (plC P l (.slice (some ⟨aq, 0, none⟩) P.R c) wt tk) 42) := ⟨_, rfl⟩
  obtain ⟨w1, hw1⟩ : ∃ w1, w1 = w0.alloc (.cells #[.int .i64 (x : Int)] 3) := ⟨_, rfl⟩
  have ht0 : Turned [] w w0 := by rw [hw0]; exact (Turned.refl [] w).alloc _
  have ht1 : Turned [] w0 w1 := by rw [hw1]; exact (Turned.refl [] w0).alloc _
  have hp : Pb w0 w.heap.size P l (.slice (some ⟨aq, 0, none⟩) P.R c) wt tk := by rw [hw0]; exact pb_new _ _ _ _ _ _
  have hxc : w1.cell? ⟨w0.heap.size, 0, none⟩ = some (.int .i64 (x : Int)) := by rw [hw1]; exact cell_alloc_new _ _ _
  have hs0 : w0.heap.size = w.heap.size + 1 := by rw [hw0]; simp
  have HC := hide (search_origin w.heap.size (w.heap.size + 1) P.R (fun r => decide ((x : Int) - P.d < ((ahR P (live S) r : Nat) : Int))) w1 hF
    (fun i j hij hj hi => by
      have := ahR_mono P (live S) hij
      simp only [decide_eq_true_eq] at hi ⊢
      omega)
    (fun w' ht r hr => origin1_any P l wt tk w.heap.size (w.heap.size + 1) aq P.R c _ x r hr w' ((hp.turned0 ht1).turned0 ht) (by rw [← hs0, ht.cell (block_lt hxc) (by simp)]; exact hxc) (((ha.turned0 ht0).turned0 ht1).turned0 ht) (by omega) (by omega)))
  have HT := hide (ht0.trans ht1)
  have HW1 := hw1
  rw [hw0] at hw1
  have hc := hp.cs.2.2.2.2.2.2.1
  generalize (fun r => decide ((x : Int) - P.d < ((ahR P (live S) r : Nat) : Int))) = G at *
  generalize P.R = R at *
  clear ht0 ht1 hp hxc hs0 ha HW1 hw0 hc h
  obtain ⟨f, t, k, d, e⟩ := P
  unfold plC at hw1 ⊢
  simp only at hw1 ⊢
  go_enter Tryz.func106, Tryz.ntmps106
  go_wp2_with fail
  rw [← hw1]
  refine (HC.out).mono ?_
  rintro e w2 ⟨r, rfl, hr, ht2⟩
  have HT2 := hide (HT.out.trans ht2)
  have HR := hide hr
  have hr1 := hr.le
  clear hr ht2 HT hw1 HC
  go_wp2_with fail
  go_ret
  refine ⟨r, ?_, HR.out, HT2.out⟩
  first | rfl | (congr 2; unfold wrap64; omega)

/-- The region of the word that goes to x. -/
theorem finds_org {P : PN} (h : P.Ok) {S : Nat → Nat} {x r : Nat} (hd : P.f ≤ P.d) (hx : P.d ≤ x) (hR : 0 < P.R) (hf : Finds P.R (fun r => decide ((x : Int) - P.d < ((ahR P (live S) r : Nat) : Int))) r) :
    ∃ s, r = s + 1 ∧ s < P.R ∧ ahR P (live S) s ≤ x - P.d ∧ (s + 1 = P.R ∨ x - P.d < ahR P (live S) (s + 1)) := by
  have h0 : r ≠ 0 := by
    intro e
    subst e
    have := hf.yes hR
    rw [ahR_zero h _ hd] at this
    simp only [decide_eq_true_eq] at this
    omega
  obtain ⟨s, rfl⟩ : ∃ s, r = s + 1 := ⟨r - 1, by omega⟩
  refine ⟨s, rfl, by have := hf.le; omega, ?_, ?_⟩
  · have := hf.no s (by omega)
    simp only [decide_eq_false_iff_not] at this
    omega
  · by_cases h1 : s + 1 < P.R
    · right
      have := hf.yes h1
      simp only [decide_eq_true_eq] at this
      omega
    · left; have := hf.le; omega

set_option maxRecDepth 100000 in
/-- Forward of a live word of the heap. -/
theorem forward_live (ov : Option Addr) (N : Nat) (P : PN) (h : P.Ok) (S : Nat → Nat) (l wt tk : Value) (aq c : Nat) (x : Nat) (w : World) (hb : Brd w ov N (sidesOf S)) (hs : Bl N S) (ha : Ah w P S aq) (hx0 : P.f ≤ x) (hx1 : x < P.t) (ht : P.t ≤ N) (hf : P.f ≤ P.d) (hd : P.d ≤ P.t) (hL : live S x = true) :
    Calls Tryz.prog 91 #[.agg (plC P l (.slice (some ⟨aq, 0, none⟩) P.R c) wt tk), .pointer ov, .int .i64 (x : Int)] w fun e w' => e = .returned (.int .i64 ((if x < P.d then x else P.d + (cnt (live S) x - cnt (live S) P.d) : Nat) : Int)) ∧ Turned [] w w' := by
  have hN := hb.few
  obtain ⟨hr1, hr2, hr3⟩ := PN.reg_in h hx0 hx1
  have HR := hide (fun w => region_any P h l (.slice (some ⟨aq, 0, none⟩) P.R c) wt tk x w)
  rw [show rgI P (x : Int) = ((P.reg x : Nat) : Int) by unfold rgI; rw [if_pos (by omega)]; simp] at HR
  have HV := hide (fun (w' : World) (t : Turned [] w w') => lives_any ov N S x w' (hb.turned t) hs)
  rw [lvI_nat, hL] at HV
  have HM := hide (fun w => moving_in P h l (.slice (some ⟨aq, 0, none⟩) P.R c) wt tk (P.reg x) hr1 w)
  have hcell := Ri.cell ha hr1
  have hF := PN.R_few h
  have HLi := hide (fun (w' : World) (t : Turned [] w w') => live_any ov N S ((max (P.ed (P.reg x)) P.d : Nat) : Int) (x : Int) w' (hb.turned t) hs)
  have hle := PN.ed_le P (P.reg x)
  rw [show kp N ((max (P.ed (P.reg x)) P.d : Nat) : Int) = max (P.ed (P.reg x)) P.d by unfold kp; omega, show kp N (x : Int) = x by unfold kp; omega, cntIn_sub] at HLi
  have hcx := cnt_le (live S) x
  have hsum : P.d ≤ x → P.d + ahR P (live S) (P.reg x) + (cnt (live S) x - cnt (live S) (max (P.ed (P.reg x)) P.d)) = P.d + (cnt (live S) x - cnt (live S) P.d) := by
    intro hdx
    unfold ahR
    by_cases h1 : P.d ≤ P.ed (P.reg x)
    · rw [show max (P.ed (P.reg x)) P.d = P.ed (P.reg x) by omega]
      have := cnt_mono (live S) h1
      have := cnt_mono (live S) hr2
      omega
    · rw [show max (P.ed (P.reg x)) P.d = P.d by omega]
      have := cnt_mono (live S) (show P.ed (P.reg x) ≤ P.d by omega)
      omega
  have hah : ahR P (live S) (P.reg x) ≤ 65536 := by
    unfold ahR
    have := cnt_le (live S) (P.ed (P.reg x))
    omega
  have HB := hide (pb_new w P l (.slice (some ⟨aq, 0, none⟩) P.R c) wt tk)
  have HT := hide ((Turned.refl [] w).alloc (.cells (plC P l (.slice (some ⟨aq, 0, none⟩) P.R c) wt tk) 42))
  have HCe : Hid (w.cell? ⟨aq, P.reg x, none⟩ = some (.int .i64 ((ahR P (live S) (P.reg x) : Nat) : Int))) := hide hcell
  have hu : cnt (live S) x - cnt (live S) (max (P.ed (P.reg x)) P.d) ≤ 65536 := by omega
  generalize cnt (live S) x - cnt (live S) (max (P.ed (P.reg x)) P.d) = u at *
  generalize ahR P (live S) (P.reg x) = ah at *
  generalize max (P.ed (P.reg x)) P.d = M at *
  generalize P.ed (P.reg x + 1) = E2 at *
  generalize hRR : P.R = R at *
  generalize P.reg x = r at *
  generalize cnt (live S) x - cnt (live S) P.d = v at *
  have hri : (r : Int) < R := by omega
  obtain ⟨f, t, k, d, e⟩ := P
  simp only at hx0 hx1 ht hf hd hsum hL ⊢
  unfold plC at HR HM HB HT ⊢
  simp only at HR HM HB HT ⊢
  clear h hb hs ha hr1 hr2 hr3 hle hcx hRR hcell hL
  by_cases hxd : x < d
  · have hxi : (x : Int) < d := by omega
    rw [if_pos hxd]
    go_enter Tryz.func91, Tryz.ntmps91
    go_wp2_with fail
    generalize w.alloc (.cells #[Value.int .i64 f, Value.int .i64 t, Value.int .i64 k, Value.int .i64 d, Value.int .i64 e, l, .slice (some ⟨aq, 0, none⟩) R c, wt, tk] 42) = w0 at *
    generalize w.heap.size = q at *
    refine (HR.out _).mono ?_
    rintro e1 w1 ⟨rfl, ht1⟩
    obtain ⟨c0, c1, c2, c3, c4, c5, c6, c7, c8⟩ := (HB.out.turned0 ht1).cs
    have HB1 := hide (HB.out.turned0 ht1)
    have HT1 := hide (HT.out.trans ht1)
    clear ht1 HB HT
    go_wp2_with fail
    refine (HV.out _ HT1.out).mono ?_
    rintro e1 w2 ⟨rfl, ht2⟩
    clear c0 c1 c2 c3 c4 c5 c6 c7 c8
    obtain ⟨c0, c1, c2, c3, c4, c5, c6, c7, c8⟩ := (HB1.out.turned0 ht2).cs
    have HT2 := hide (HT1.out.trans ht2)
    clear ht2 HB1 HT1
    go_wp2_with fail
    go_ret
    exact ⟨rfl, HT2.out⟩
  · have hxi : ¬ (x : Int) < d := by omega
    rw [if_neg hxd]
    have hsum2 := hsum (by omega)
    go_enter Tryz.func91, Tryz.ntmps91
    go_wp2_with fail
    generalize w.alloc (.cells #[Value.int .i64 f, Value.int .i64 t, Value.int .i64 k, Value.int .i64 d, Value.int .i64 e, l, .slice (some ⟨aq, 0, none⟩) R c, wt, tk] 42) = w0 at *
    generalize w.heap.size = q at *
    refine (HR.out _).mono ?_
    rintro e1 w1 ⟨rfl, ht1⟩
    obtain ⟨c0, c1, c2, c3, c4, c5, c6, c7, c8⟩ := (HB.out.turned0 ht1).cs
    have HB1 := hide (HB.out.turned0 ht1)
    have HT1 := hide (HT.out.trans ht1)
    clear ht1 HB HT
    go_wp2_with fail
    refine (HV.out _ HT1.out).mono ?_
    rintro e1 w2 ⟨rfl, ht2⟩
    clear c0 c1 c2 c3 c4 c5 c6 c7 c8
    obtain ⟨c0, c1, c2, c3, c4, c5, c6, c7, c8⟩ := (HB1.out.turned0 ht2).cs
    have HB2 := hide (HB1.out.turned0 ht2)
    have HT2 := hide (HT1.out.trans ht2)
    clear ht2 HB1 HT1
    go_wp2_with fail
    refine (HM.out _).mono ?_
    rintro e1 w3 ⟨rfl, ht3⟩
    clear c0 c1 c2 c3 c4 c5 c6 c7 c8
    obtain ⟨c0, c1, c2, c3, c4, c5, c6, c7, c8⟩ := (HB2.out.turned0 ht3).cs
    have HB3 := hide (HB2.out.turned0 ht3)
    have HT3 := hide (HT2.out.trans ht3)
    have ca : w3.cell? ⟨aq, r, none⟩ = some (.int .i64 (ah : Int)) := by rw [HT3.out.cell (block_lt HCe.out) (by simp)]; exact HCe.out
    clear ht3 HB2 HT2 c0 c1 c2 c4 c5 c7 c8
    have hw1 : IntKind.i64.wrap ((d : Int) + ah) = (d : Int) + ah := by rw [IntKind.wrap_i64]; omega
    have hw2 : IntKind.i64.wrap ((d : Int) + ah + u) = (d : Int) + ah + u := by rw [IntKind.wrap_i64]; omega
    go_wp2_with fail
    go_region_held3 (fun w' => w'.cell? ⟨q, 3, none⟩ = some (.int .i64 (d : Int)) ∧ w'.cell? ⟨q, 6, none⟩ = some (.slice (some ⟨aq, 0, none⟩) R c) ∧ w'.cell? ⟨aq, r, none⟩ = some (.int .i64 (ah : Int))) (go_keep)
      (first
        | (go_at_call 57; refine (HLi.out _ HT3.out.drew).mono ?_; rintro e w4 ⟨rfl, ht4⟩; have HT4 := hide ((Turned.refl [] w3).drew.trans ht4); have d1 : w4.cell? ⟨q, 3, none⟩ = some (.int .i64 (d : Int)) := (by rw [HT4.out.cell (block_lt c3) (by simp)]; exact c3); have d2 : w4.cell? ⟨q, 6, none⟩ = some (.slice (some ⟨aq, 0, none⟩) R c) := (by rw [HT4.out.cell (block_lt c6) (by simp)]; exact c6); have d3 : w4.cell? ⟨aq, r, none⟩ = some (.int .i64 (ah : Int)) := (by rw [HT4.out.cell (block_lt ca) (by simp)]; exact ca); have HT5 := hide (HT3.out.trans HT4.out); clear ht4))
    go_wp2_with fail
    go_ret
    refine ⟨?_, HT5.out⟩
    rw [← hsum2]
    first | rfl | (congr 2; omega)

/-- Forward of a dead word of the heap. -/
theorem forward_dead (ov : Option Addr) (N : Nat) (P : PN) (h : P.Ok) (S : Nat → Nat) (l wt tk : Value) (aq c : Nat) (x : Nat) (w : World) (hb : Brd w ov N (sidesOf S)) (hs : Bl N S) (hx0 : P.f ≤ x) (hx1 : x < P.t) (hL : live S x = false) :
    Calls Tryz.prog 91 #[.agg (plC P l (.slice (some ⟨aq, 0, none⟩) P.R c) wt tk), .pointer ov, .int .i64 (x : Int)] w fun e w' => e = .returned (.int .i64 0) ∧ Turned [] w w' := by
  obtain ⟨hr1, hr2, hr3⟩ := PN.reg_in h hx0 hx1
  have HR := hide (fun w => region_any P h l (.slice (some ⟨aq, 0, none⟩) P.R c) wt tk x w)
  rw [show rgI P (x : Int) = ((P.reg x : Nat) : Int) by unfold rgI; rw [if_pos (by omega)]; simp] at HR
  have HV := hide (fun (w' : World) (t : Turned [] w w') => lives_any ov N S x w' (hb.turned t) hs)
  rw [lvI_nat, hL] at HV
  have hF := PN.R_few h
  have HB := hide (pb_new w P l (.slice (some ⟨aq, 0, none⟩) P.R c) wt tk)
  have HT := hide ((Turned.refl [] w).alloc (.cells (plC P l (.slice (some ⟨aq, 0, none⟩) P.R c) wt tk) 42))
  generalize hRR : P.R = R at *
  generalize P.reg x = r at *
  have hri : (r : Int) < R := by omega
  obtain ⟨f, t, k, d, e⟩ := P
  unfold plC at HR HB HT ⊢
  simp only at HR HB HT hx0 hx1 ⊢
  clear h hb hs hr1 hr2 hr3 hRR hL
  go_enter Tryz.func91, Tryz.ntmps91
  go_wp2_with fail
  generalize w.alloc (.cells #[Value.int .i64 f, Value.int .i64 t, Value.int .i64 k, Value.int .i64 d, Value.int .i64 e, l, .slice (some ⟨aq, 0, none⟩) R c, wt, tk] 42) = w0 at *
  generalize w.heap.size = q at *
  refine (HR.out _).mono ?_
  rintro e1 w1 ⟨rfl, ht1⟩
  obtain ⟨c0, c1, c2, c3, c4, c5, c6, c7, c8⟩ := (HB.out.turned0 ht1).cs
  have HT1 := hide (HT.out.trans ht1)
  clear ht1 HB HT
  go_wp2_with fail
  refine (HV.out _ HT1.out).mono ?_
  rintro e1 w2 ⟨rfl, ht2⟩
  have HT2 := hide (HT1.out.trans ht2)
  clear ht2 HT1
  go_wp2_with fail
  go_ret
  exact ⟨rfl, HT2.out⟩

/-- What Source tells of a word of the heap. -/
def IsSrc (P : PN) (S : Nat → Nat) (x : Nat) (r : Int) : Prop :=
  (x < P.d ∧ live S x = true ∧ r = x) ∨ (x < P.d ∧ live S x = false ∧ r = -1) ∨ (P.d ≤ x ∧ ∃ s : Nat, P.d ≤ s ∧ s < P.t ∧ live S s = true ∧ cnt (live S) s = cnt (live S) P.d + (x - P.d) ∧ r = s) ∨ (P.d ≤ x ∧ P.d + (cnt (live S) P.t - cnt (live S) P.d) ≤ x ∧ r = -1)

end Go.Proofs.YtpeglndlhjnaaaaGreatDoor

/-
  sums.Plain, and the closures of Make and packed.
-/
namespace Go.Proofs.YtpeglndlhjnaaaaGreatDoor
open Go.RowKit Bt
set_option linter.unusedVariables false
set_option linter.unusedSimpArgs false

def sumN (m : Nat → Nat) : Nat → Nat
  | 0 => 0
  | j + 1 => sumN m j + m j
theorem sumN_mono (m : Nat → Nat) {a b : Nat} (h : a ≤ b) : sumN m a ≤ sumN m b := by
  obtain ⟨d, rfl⟩ := Nat.exists_eq_add_of_le h
  induction d with
  | zero => exact Nat.le_refl _
  | succ d ih =>
    have := ih (by omega)
    show sumN m a ≤ sumN m (a + d) + m (a + d)
    omega
theorem sum_ahead {P : PN} (h : P.Ok) (L : Nat → Bool) (hd : P.f ≤ P.d) (r : Nat) : sumN (mvR P L) r = ahR P L r := by
  induction r with
  | zero => rw [ahR_zero h L hd]; rfl
  | succ r ih => rw [sumN, ih, ahR_succ]
theorem sum_dead {P : PN} (h : P.Ok) (L : Nat → Bool) (r : Nat) : sumN (ddR P L) r = deadTo P L (P.ed r) := by
  induction r with
  | zero => rw [PN.ed_zero h]; simp [sumN, deadTo]
  | succ r ih => rw [sumN, ih, dd_succ h]

set_option maxRecDepth 100000 in
theorem plain13 (w : World) (q n c : Nat) (m : Nat → Nat) (h : Ri w 2 q n (fun i => (m i : Nat))) (hn : n ≤ 65536) (hm : sumN m n ≤ 65536) :
    Calls Tryz.prog 68 #[.slice (some ⟨q, 0, none⟩) n c] w fun e w' => ∃ z, e = .returned (.tuple #[.slice (some ⟨z, 0, none⟩) n n, .int .i64 (sumN m n : Nat)]) ∧ Ri w' 2 z n (fun i => (sumN m i : Nat)) ∧ w.heap.size ≤ z ∧ Turned [] w w' := by
  obtain ⟨i0, hi, hi0⟩ := Option.map_eq_some_iff.1 Tryz.infoI64
  simp only [Prod.mk.injEq] at hi0
  obtain ⟨hz0, hz1, hz2⟩ := hi0
  have hmk : ∀ w : World, (Instr.makeSlice 28 (.int .i64 (n : Int)) (.int .i64 (n : Int))).run Tryz.prog w = .ok (.slice (some ⟨w.heap.size, 0, none⟩) n n) (w.alloc (.cells (madeCells #[Value.int .i64 0] n) 2)) := fun w => by
    have hr := run_make (P := Tryz.prog) w 28 2 i0 (.int .i64 0) Tryz.underlying28 hi hz0 .i64 .i64 n n (by omega) (by omega) (by rw [hz2]; omega) (by omega)
    simp only [hz1, Int.toNat_natCast, Nat.mul_one] at hr
    exact hr
  clear hi hz0 hz1 hz2
  obtain ⟨w1, hw1⟩ : ∃ w1, w1 = w.alloc (.cells (madeCells #[Value.int .i64 0] n) 2) := ⟨_, rfl⟩
  have hT1 : Turned [] w w1 := by rw [hw1]; exact (Turned.refl [] w).alloc _
  obtain ⟨z, hz⟩ : ∃ z, z = w.heap.size := ⟨_, rfl⟩
  have HZ : Hid (Ri w1 2 z n (fun i => ((if i < 0 then sumN m i else 0 : Nat) : Int))) := hide ⟨_, by rw [hw1, hz]; exact heap_alloc_new _ _, fun i hi => by simpa using made_int n i hi⟩
  have HQ := hide (show q < z by rw [hz]; exact h.lt)
  have HZw := hide (show w.heap.size ≤ z by omega)
  have HR := hide (h.turned0 hT1)
  have HT := hide hT1
  clear h hT1
  go_enter Tryz.func68, Tryz.ntmps68
  go_wp2_with fail
  rw [← hw1, ← hz]
  clear hw1 hz hmk
  go_loopw [5, 13] (fun s i wr => ∃ (j : Nat), j ≤ n ∧ i = .int .i64 j ∧ s = .int .i64 (sumN m j : Nat) ∧ Hid (Ri wr 2 z n (fun i => ((if i < j then sumN m i else 0 : Nat) : Int))) ∧ Hid (Ri wr 2 q n (fun i => (m i : Nat))) ∧ Hid (Turned [] w wr)) (fun _ i _ => n - (intOf i).toNat)
  case atStart => exact ⟨0, Nat.zero_le _, rfl, rfl, HZ, HR, HT⟩
  case round =>
    obtain ⟨j, hj, rfl, rfl, HZ2, HR2, HT2⟩ := hrel
    clear HZ HR HT
    by_cases hlt : j < n
    · have c0 := HR2.out.cell hlt
      have c1 : wr.cell? ⟨z, j, none⟩ = some (.int .i64 0) := by
        have := HZ2.out.cell hlt
        simpa using this
      have f1 := HZ2.out.fz j
      have hqz := HQ.out
      have hzl := HZ2.out.lt
      have HS := hide ((HZ2.out.set j (sumN m j : Nat)).congr (g' := fun i => ((if i < j + 1 then sumN m i else 0 : Nat) : Int)) (fun i hi => by
        by_cases hij : i = j
        · subst hij; simp
        · simp only [hij, if_false]
          by_cases h3 : i < j
          · rw [if_pos h3, if_pos (by omega)]
          · rw [if_neg h3, if_neg (by omega)]))
      have HTS : Turned [z] wr (wr.setCell ⟨z, j, none⟩ (.int .i64 (sumN m j : Nat))) := (Turned.refl [z] wr).setCell (p := ⟨z, j, none⟩) (.inl (by simp)) _
      have HRS := hide (HR2.out.turned HTS (by simp; omega))
      have HT3 := hide (HT2.out.setCell (p := ⟨z, j, none⟩) (.inr HZw.out) (.int .i64 (sumN m j : Nat)))
      have hs1 := sumN_mono m (show j + 1 ≤ n by omega)
      have HE := hide (show sumN m j + m j = sumN m (j + 1) from rfl)
      rw [← HE.out] at hs1
      have hsl : sumN m j + m j ≤ 65536 := by omega
      clear HTS HZ2 HR2 HT2 hs1 hm
      generalize sumN m j = sj at *
      generalize m j = mj at *
      go_wp2_with fail
      go_roundw
      case rel => exact ⟨j + 1, by omega, by go_num, by rw [← HE.out]; go_num, HS, HRS, HT3⟩
      case measure => simp [intOf]; omega
    · have hjk : j = n := by omega
      subst hjk
      go_wp2_with fail
      go_ret2
      exact ⟨z, rfl, HZ2.out.congr (fun i hi => by rw [if_pos hi]), HZw.out, HT2.out⟩
end Go.Proofs.YtpeglndlhjnaaaaGreatDoor

/-
  The closures of Make.
-/
namespace Go.Proofs.YtpeglndlhjnaaaaGreatDoor
open Go.RowKit Bt
set_option linter.unusedVariables false
set_option linter.unusedSimpArgs false

set_option maxRecDepth 100000 in
theorem make1_any (ov : Option Addr) (N : Nat) (S : Nat → Nat) (P : PN) (h : P.Ok) (l a wt tk : Value) (bb pb r : Nat) (w : World) (hr : r < P.R) (hb : Brd w ov N (sidesOf S)) (hs : Bl N S) (ht : P.t ≤ N) (cb : w.cell? ⟨bb, 0, none⟩ = some (.pointer ov)) (hp : Pb w pb P l a wt tk) :
    Calls Tryz.prog 61 #[.int .i64 (r : Int), .pointer (some ⟨bb, 0, none⟩), .pointer (some ⟨pb, 0, none⟩)] w fun e w' => e = .returned (.int .i64 (lvR P (live S) r : Nat)) ∧ Turned [] w w' := by
  have hN := hb.few
  have e1 := PN.ed_le P r
  have e2 := PN.ed_le P (r + 1)
  have HSp := hide (fun w => span_in P h l a wt tk r hr w)
  have HL := hide (fun (w' : World) (t : Turned [] w w') => live_any ov N S (P.ed r : Nat) (P.ed (r + 1) : Nat) w' (hb.turned t) hs)
  rw [show kp N ((P.ed r : Nat) : Int) = P.ed r by unfold kp; omega, show kp N ((P.ed (r + 1) : Nat) : Int) = P.ed (r + 1) by unfold kp; omega, cntIn_sub] at HL
  unfold lvR
  have HP := hide hp
  have hpl := hp.lt
  generalize cnt (live S) (P.ed (r + 1)) - cnt (live S) (P.ed r) = u at *
  generalize P.ed r = E1 at *
  generalize P.ed (r + 1) = E2 at *
  obtain ⟨f, t, k, d, e⟩ := P
  obtain ⟨c0, c1, c2, c3, c4, c5, c6, c7, c8⟩ := hp.cs
  unfold plC at HSp
  simp only at *
  clear h hb hs hp hr e1 e2
  have HB := hide cb
  go_enter Tryz.func61, Tryz.ntmps61
  go_wp2_with fail
  go_region_held3 (fun w' => w'.cell? ⟨bb, 0, none⟩ = some (.pointer ov) ∧ w'.cell? ⟨pb, 0, none⟩ = some (.int .i64 (f : Int)) ∧ w'.cell? ⟨pb, 1, none⟩ = some (.int .i64 (t : Int)) ∧ w'.cell? ⟨pb, 2, none⟩ = some (.int .i64 (k : Int)) ∧ w'.cell? ⟨pb, 3, none⟩ = some (.int .i64 (d : Int)) ∧ w'.cell? ⟨pb, 4, none⟩ = some (.int .i64 (e : Int)) ∧ w'.cell? ⟨pb, 5, none⟩ = some l ∧ w'.cell? ⟨pb, 6, none⟩ = some a ∧ w'.cell? ⟨pb, 7, none⟩ = some wt ∧ w'.cell? ⟨pb, 8, none⟩ = some tk) (go_keep)
    (first
      | (go_at_call 62; refine (HSp.out _).mono ?_; rintro e' w2 ⟨rfl, ht2⟩; have HT2 := hide ((Turned.refl [] w).drew.trans ht2); have d9 : w2.cell? ⟨bb, 0, none⟩ = some (.pointer ov) := (by rw [HT2.out.cell (block_lt HB.out) (by simp)]; exact HB.out); obtain ⟨d0, d1, d2, d3, d4, d5, d6, d7, d8⟩ := (HP.out.turned0 HT2.out).cs; simp only at d0 d1 d2 d3 d4; clear ht2)
      | (go_at_call 57; refine (HL.out _ HT2.out).mono ?_; rintro e' w3 ⟨rfl, ht3⟩; have HT3 := hide (HT2.out.trans ht3); have g9 : w3.cell? ⟨bb, 0, none⟩ = some (.pointer ov) := (by rw [HT3.out.cell (block_lt HB.out) (by simp)]; exact HB.out); obtain ⟨g0, g1, g2, g3, g4, g5, g6, g7, g8⟩ := (HP.out.turned0 HT3.out).cs; simp only at g0 g1 g2 g3 g4; clear ht3))
  go_wp2_with fail
  go_ret
  exact ⟨rfl, HT3.out⟩

set_option maxRecDepth 100000 in
theorem make2_any (ov : Option Addr) (N : Nat) (S : Nat → Nat) (P : PN) (h : P.Ok) (l a wt tk : Value) (bb pb r : Nat) (w : World) (hr : r < P.R) (hb : Brd w ov N (sidesOf S)) (hs : Bl N S) (ht : P.t ≤ N) (hdt : P.d ≤ P.t) (cb : w.cell? ⟨bb, 0, none⟩ = some (.pointer ov)) (hp : Pb w pb P l a wt tk) :
    Calls Tryz.prog 66 #[.int .i64 (r : Int), .pointer (some ⟨bb, 0, none⟩), .pointer (some ⟨pb, 0, none⟩)] w fun e w' => e = .returned (.int .i64 (mvR P (live S) r : Nat)) ∧ Turned [] w w' := by
  have hN := hb.few
  have e1 := PN.ed_le P r
  have e2 := PN.ed_le P (r + 1)
  have HSp := hide (fun w => moving_in P h l a wt tk r hr w)
  have HL := hide (fun (w' : World) (t : Turned [] w w') => live_any ov N S (max (P.ed r) P.d : Nat) (P.ed (r + 1) : Nat) w' (hb.turned t) hs)
  rw [show kp N ((max (P.ed r) P.d : Nat) : Int) = max (P.ed r) P.d by unfold kp; omega, show kp N ((P.ed (r + 1) : Nat) : Int) = P.ed (r + 1) by unfold kp; omega, cntIn_sub] at HL
  unfold mvR
  have HP := hide hp
  have hpl := hp.lt
  generalize cnt (live S) (P.ed (r + 1)) - cnt (live S) (max (P.ed r) P.d) = u at *
  generalize max (P.ed r) P.d = E1 at *
  generalize P.ed (r + 1) = E2 at *
  obtain ⟨f, t, k, d, e⟩ := P
  obtain ⟨c0, c1, c2, c3, c4, c5, c6, c7, c8⟩ := hp.cs
  unfold plC at HSp
  simp only at *
  clear h hb hs hp hr e1 e2
  have HB := hide cb
  go_enter Tryz.func66, Tryz.ntmps66
  go_wp2_with fail
  go_region_held3 (fun w' => w'.cell? ⟨bb, 0, none⟩ = some (.pointer ov) ∧ w'.cell? ⟨pb, 0, none⟩ = some (.int .i64 (f : Int)) ∧ w'.cell? ⟨pb, 1, none⟩ = some (.int .i64 (t : Int)) ∧ w'.cell? ⟨pb, 2, none⟩ = some (.int .i64 (k : Int)) ∧ w'.cell? ⟨pb, 3, none⟩ = some (.int .i64 (d : Int)) ∧ w'.cell? ⟨pb, 4, none⟩ = some (.int .i64 (e : Int)) ∧ w'.cell? ⟨pb, 5, none⟩ = some l ∧ w'.cell? ⟨pb, 6, none⟩ = some a ∧ w'.cell? ⟨pb, 7, none⟩ = some wt ∧ w'.cell? ⟨pb, 8, none⟩ = some tk) (go_keep)
    (first
      | (go_at_call 67; refine (HSp.out _).mono ?_; rintro e' w2 ⟨rfl, ht2⟩; have HT2 := hide ((Turned.refl [] w).drew.trans ht2); have d9 : w2.cell? ⟨bb, 0, none⟩ = some (.pointer ov) := (by rw [HT2.out.cell (block_lt HB.out) (by simp)]; exact HB.out); obtain ⟨d0, d1, d2, d3, d4, d5, d6, d7, d8⟩ := (HP.out.turned0 HT2.out).cs; simp only at d0 d1 d2 d3 d4; clear ht2)
      | (go_at_call 57; refine (HL.out _ HT2.out).mono ?_; rintro e' w3 ⟨rfl, ht3⟩; have HT3 := hide (HT2.out.trans ht3); have g9 : w3.cell? ⟨bb, 0, none⟩ = some (.pointer ov) := (by rw [HT3.out.cell (block_lt HB.out) (by simp)]; exact HB.out); obtain ⟨g0, g1, g2, g3, g4, g5, g6, g7, g8⟩ := (HP.out.turned0 HT3.out).cs; simp only at g0 g1 g2 g3 g4; clear ht3))
  go_wp2_with fail
  go_ret
  exact ⟨rfl, HT3.out⟩

theorem make3_any (sb z n c : Nat) (g : Nat → Int) (r : Nat) (w : World) (hr : r < n) (cs : w.cell? ⟨sb, 0, none⟩ = some (.slice (some ⟨z, 0, none⟩) n c)) (hz : Ri w 2 z n g) :
    Calls Tryz.prog 69 #[.int .i64 (r : Int), .pointer (some ⟨sb, 0, none⟩)] w fun e w' => e = .returned (.int .i64 (g r)) ∧ Turned [] w w' := by
  have c0 := hz.cell hr
  have hri : (r : Int) < n := by omega
  clear hz
  go_enter Tryz.func69, Tryz.ntmps69
  go_wp2_with fail
  go_ret
  exact ⟨rfl, Turned.refl _ _⟩
end Go.Proofs.YtpeglndlhjnaaaaGreatDoor

/-
  takes and waits of package plan, with the closures that call them.
-/
namespace Go.Proofs.YtpeglndlhjnaaaaGreatDoor
open Go.RowKit Bt
set_option linter.unusedVariables false
set_option linter.unusedSimpArgs false

/-- The region of the word that goes to x, as origin tells it: found by what lies ahead. -/
theorem finds_cnt {P : PN} {L : Nat → Bool} {x r : Nat} (hf : Finds P.R (fun r => decide ((x : Int) - P.d < ((ahR P L r : Nat) : Int))) r) (hx : P.d ≤ x) : r = cnt (fun r => decide (ahR P L r ≤ x - P.d)) P.R := by
  have h1 : cnt (fun r => decide (ahR P L r ≤ x - P.d)) P.R = cnt (fun r => decide (ahR P L r ≤ x - P.d)) r := by
    refine cnt_stop hf.le fun k hk1 hk2 => ?_
    have h2 := hf.yes (by omega)
    simp only [decide_eq_true_eq] at h2
    have := ahR_mono P L hk1
    rw [decide_eq_false]
    omega
  rw [h1]
  have h4 : ∀ m, m ≤ r → cnt (fun r => decide (ahR P L r ≤ x - P.d)) m = m := by
    intro m
    induction m with
    | zero => intro _; rfl
    | succ m ih =>
      intro hm
      have h5 := hf.no m (by omega)
      simp only [decide_eq_false_iff_not] at h5
      rw [cnt, ih (by omega), decide_eq_true (by omega)]
      rfl
  exact (h4 r (Nat.le_refl _)).symm
/-- How many regions have no more ahead. -/
def orgN (P : PN) (L : Nat → Bool) (x : Nat) : Nat := cnt (fun r => decide (ahR P L r ≤ x - P.d)) P.R
theorem orgN_le (P : PN) (L : Nat → Bool) (x : Nat) : orgN P L x ≤ P.R := cnt_le _ _

theorem origin_eq (P : PN) (h : P.Ok) (S : Nat → Nat) (l wt tk : Value) (aq c : Nat) (x : Nat) (w : World) (ha : Ah w P S aq) (h1 : P.d ≤ x) (hx : x ≤ 65536) :
    Calls Tryz.prog 106 #[.agg (plC P l (.slice (some ⟨aq, 0, none⟩) P.R c) wt tk), .int .i64 (x : Int)] w fun e w' => e = .returned (.int .i64 ((orgN P (live S) x : Int) - 1)) ∧ Turned [] w w' := by
  refine (origin_any P h S l wt tk aq c x w ha hx (by omega)).mono ?_
  rintro e w'' ⟨rr, he, hfi, ht⟩
  exact ⟨by rw [he, finds_cnt hfi h1]; rfl, ht⟩
theorem set_two {w : World} {rq : Nat} {u0 u1 : Value} {T : TypeId} (h : w.heap[rq]? = some (.cells #[u0, u1] T)) (x y : Value) : ((w.setCell ⟨rq, 0, none⟩ x).setCell ⟨rq, 1, none⟩ y).heap[rq]? = some (.cells #[x, y] T) := by
  rw [heap_setCell_at _ _ _ _ _ _ (heap_setCell_at _ _ _ _ _ _ h _)]
  simp
/-- What takes tells. -/
def tkR (P : PN) (L : Nat → Bool) (r s : Nat) : Int := if gF P r = gT P r then 0 else if s = 0 then (orgN P L (gF P r) : Int) - 1 else orgN P L (gT P r - 1)

set_option maxRecDepth 100000 in
theorem takes_any (P : PN) (h : P.Ok) (S : Nat → Nat) (l wt tk : Value) (aq c r : Nat) (w : World) (hr : r < P.R) (ha : Ah w P S aq) (hd : P.d ≤ P.t) :
    Calls Tryz.prog 72 #[.agg (plC P l (.slice (some ⟨aq, 0, none⟩) P.R c) wt tk), .int .i64 (r : Int)] w fun e w' => e = .returned (.agg #[.int .i64 (tkR P (live S) r 0), .int .i64 (tkR P (live S) r 1)]) ∧ Turned [] w w' := by
  have hF := PN.R_few h
  have h2 := h.few
  have HG := hide (fun w => goal_in P h l (.slice (some ⟨aq, 0, none⟩) P.R c) wt tk r hr w)
  have hed := PN.ed_le P (r + 1)
  have hgg : gF P r = gT P r ∨ (P.d ≤ gF P r ∧ gF P r < gT P r ∧ gT P r ≤ 65536) := by
    unfold gF gT
    split
    · right; omega
    · left; rfl
  have HO := hide (fun x (h1 : P.d ≤ x) (h3 : x ≤ 65536) (w' : World) (t : Turned [] w w') => origin_eq P h S l wt tk aq c x w' (ha.turned0 t) h1 h3)
  have hB := pb_new w P l (.slice (some ⟨aq, 0, none⟩) P.R c) wt tk
  have hT := (Turned.refl [] w).alloc (.cells (plC P l (.slice (some ⟨aq, 0, none⟩) P.R c) wt tk) 42)
  unfold tkR
  have HOl := hide (fun x => orgN_le P (live S) x)
  generalize gF P r = A at *
  generalize gT P r = B at *
  generalize orgN P (live S) = O at *
  generalize P.R = R at *
  obtain ⟨f, t, k, d, e⟩ := P
  have HB := hide hB
  have HT := hide hT
  unfold plC at HG HO HB HT ⊢
  simp only at HG HO HB HT hgg hd hed h2 ⊢
  clear h ha hB hT hr hed
  obtain ⟨w1, hw1⟩ : ∃ w1, w1 = (w.alloc (.cells #[Value.int .i64 f, Value.int .i64 t, Value.int .i64 k, Value.int .i64 d, Value.int .i64 e, l, .slice (some ⟨aq, 0, none⟩) R c, wt, tk] 42)).alloc (.cells #[.int .i64 0, .int .i64 0] 139) := ⟨_, rfl⟩
  have hs1 : (w.alloc (.cells #[Value.int .i64 f, Value.int .i64 t, Value.int .i64 k, Value.int .i64 d, Value.int .i64 e, l, .slice (some ⟨aq, 0, none⟩) R c, wt, tk] 42)).heap.size = w.heap.size + 1 := by simp
  have hrb : w1.heap[w.heap.size + 1]? = some (.cells #[.int .i64 0, .int .i64 0] 139) := by rw [hw1, ← hs1]; exact heap_alloc_new _ _
  have hT1 : Turned [] (w.alloc (.cells #[Value.int .i64 f, Value.int .i64 t, Value.int .i64 k, Value.int .i64 d, Value.int .i64 e, l, .slice (some ⟨aq, 0, none⟩) R c, wt, tk] 42)) w1 := by rw [hw1]; exact (Turned.refl [] _).alloc _
  have HB1 := hide (HB.out.turned0 hT1)
  have HT1 := hide (HT.out.trans hT1)
  have HRb := hide hrb
  clear HB HT hT1 hrb hs1
  obtain ⟨rq, hrq⟩ : ∃ rq, rq = w.heap.size + 1 := ⟨_, rfl⟩
  have HQ := hide (show w.heap.size ≤ rq by omega)
  obtain ⟨q, hq⟩ : ∃ q, q = w.heap.size := ⟨_, rfl⟩
  have hqr : q ≠ rq := by omega
  have hqr2 : rq ≠ q := by omega
  rw [← hrq] at HRb
  rw [← hq] at HB1
  by_cases hne : A = B
  · simp only [hne, if_true]
    rw [hne] at HG
    clear hgg
    go_enter Tryz.func72, Tryz.ntmps72
    go_wp2_with fail
    rw [← hw1, ← hrq, ← hq]
    clear hw1 hrq hq
    refine (HG.out _).mono ?_
    rintro e1 w2 ⟨rfl, ht2⟩
    have hr2 : w2.heap[rq]? = some (.cells #[.int .i64 0, .int .i64 0] 139) := by rw [ht2.block rq (lt_of_heap HRb.out) (by simp)]; exact HRb.out
    have r0 : w2.cell? ⟨rq, 0, none⟩ = some (.int .i64 0) := by rw [cell_of_heap hr2]; rfl
    have r1 : w2.cell? ⟨rq, 1, none⟩ = some (.int .i64 0) := by rw [cell_of_heap hr2]; rfl
    have f0 : w2.frozen? ⟨rq, 0, none⟩ = false := by simp [World.frozen?, hr2]
    have f1 : w2.frozen? ⟨rq, 1, none⟩ = false := by simp [World.frozen?, hr2]
    have HT2 := hide (HT1.out.trans ht2)
    have HS := hide (set_two hr2 (.int .i64 0) (.int .i64 0))
    have HT3 := hide ((HT2.out.setCell (p := ⟨rq, 0, none⟩) (.inr HQ.out) (.int .i64 0)).setCell (p := ⟨rq, 1, none⟩) (.inr HQ.out) (.int .i64 0))
    clear ht2 hr2 HB1 HT1
    go_wp2_with fail
    generalize ((w2.setCell ⟨rq, 0, none⟩ (.int .i64 0)).setCell ⟨rq, 1, none⟩ (.int .i64 0)) = w3 at *
    have k0 : w3.cell? ⟨rq, 0, none⟩ = some (.int .i64 0) := by rw [cell_of_heap HS.out]; rfl
    have k1 : w3.cell? ⟨rq, 1, none⟩ = some (.int .i64 0) := by rw [cell_of_heap HS.out]; rfl
    exact bodyPost_ret (v := .agg #[.int .i64 0, .int .i64 0]) (by simp [results, Tryz.results72, go_sem, k0, k1]) rfl ⟨rfl, HT3.out⟩
  · have hgl : d ≤ A ∧ A < B ∧ B ≤ 65536 := by rcases hgg with h1 | h1; exact absurd h1 hne; exact h1
    obtain ⟨hg1, hg2, hg3⟩ := hgl
    simp only [hne, if_false, if_true, Nat.one_ne_zero]
    have HOA := hide (fun w' t => HO.out A hg1 (by omega) w' t)
    have HOB := hide (fun w' t => HO.out (B - 1) (by omega) (by omega) w' t)
    have hoA := HOl.out A
    have hoB := HOl.out (B - 1)
    have hbe : IntKind.i64.wrap ((B : Int) - 1) = ((B - 1 : Nat) : Int) := by rw [IntKind.wrap_i64]; omega
    have hwo : IntKind.i64.wrap ((O (B - 1) : Int) - 1 + 1) = (O (B - 1) : Int) := by rw [IntKind.wrap_i64]; omega
    have hwo2 : IntKind.i64.wrap (O (B - 1) : Int) = (O (B - 1) : Int) := by rw [IntKind.wrap_i64]; omega
    have hnei : ((A : Int) == (B : Int)) = false := by simp; omega
    generalize O A = oA at *
    generalize O (B - 1) = oB at *
    generalize B - 1 = B1 at *
    clear hgg HO HOl hg1 hg2 hg3 hne
    go_enter Tryz.func72, Tryz.ntmps72
    go_wp2_with fail
    rw [← hw1, ← hrq, ← hq]
    clear hw1 hrq hq
    refine (HG.out _).mono ?_
    rintro e1 w2 ⟨rfl, ht2⟩
    have hr2 : w2.heap[rq]? = some (.cells #[.int .i64 0, .int .i64 0] 139) := by rw [ht2.block rq (lt_of_heap HRb.out) (by simp)]; exact HRb.out
    have HT2 := hide (HT1.out.trans ht2)
    have HB2 := hide (HB1.out.turned0 ht2)
    obtain ⟨c0, c1, c2, c3, c4, c5, c6, c7, c8⟩ := HB2.out.cs
    simp only at c0 c1 c2 c3 c4
    have HR2 := hide hr2
    clear ht2 hr2 HB1 HT1 HG HRb
    go_wp2_with fail
    go_region_held3 (fun w' => w'.cell? ⟨q, 0, none⟩ = some (.int .i64 (f : Int)) ∧ w'.cell? ⟨q, 1, none⟩ = some (.int .i64 (t : Int)) ∧ w'.cell? ⟨q, 2, none⟩ = some (.int .i64 (k : Int)) ∧ w'.cell? ⟨q, 3, none⟩ = some (.int .i64 (d : Int)) ∧ w'.cell? ⟨q, 4, none⟩ = some (.int .i64 (e : Int)) ∧ w'.cell? ⟨q, 5, none⟩ = some l ∧ w'.cell? ⟨q, 6, none⟩ = some (.slice (some ⟨aq, 0, none⟩) R c) ∧ w'.cell? ⟨q, 7, none⟩ = some wt ∧ w'.cell? ⟨q, 8, none⟩ = some tk) (go_keep)
      (first
        | (go_at_call 106; have HT3b := HT3; clear HT3b; refine (HOB.out _ HT3.out).mono ?_; rintro e' w4 ⟨rfl, ht4⟩; have HU4 := hide (HU3.out.trans ht4); have HT4 := hide (HT2.out.trans HU4.out); obtain ⟨g0, g1, g2, g3, g4, g5, g6, g7, g8⟩ := (HB2.out.turned0 HU4.out).cs; simp only at g0 g1 g2 g3 g4; have hr4 : w4.heap[rq]? = some (.cells #[.int .i64 0, .int .i64 0] 139) := (by rw [HU4.out.block rq (lt_of_heap HR2.out) (by simp)]; exact HR2.out); have r0 : w4.cell? ⟨rq, 0, none⟩ = some (.int .i64 0) := (by rw [cell_of_heap hr4]; rfl); have r1 : w4.cell? ⟨rq, 1, none⟩ = some (.int .i64 0) := (by rw [cell_of_heap hr4]; rfl); have f0 : w4.frozen? ⟨rq, 0, none⟩ = false := (by simp [World.frozen?, hr4]); have f1 : w4.frozen? ⟨rq, 1, none⟩ = false := (by simp [World.frozen?, hr4]); have HR4 := hide hr4; clear ht4 hr4)
        | (go_at_call 106; refine (HOA.out _ HT2.out.drew).mono ?_; rintro e' w3 ⟨rfl, ht3⟩; have HU3 := hide ((Turned.refl [] w2).drew.trans ht3); have HT3 := hide (HT2.out.trans HU3.out); obtain ⟨d0, d1, d2, d3, d4, d5, d6, d7, d8⟩ := (HB2.out.turned0 HU3.out).cs; simp only at d0 d1 d2 d3 d4; clear ht3))
    have HS := hide (set_two HR4.out (.int .i64 ((oA : Int) - 1)) (.int .i64 (oB : Int)))
    have HT5 := hide ((HT4.out.setCell (p := ⟨rq, 0, none⟩) (.inr HQ.out) (.int .i64 ((oA : Int) - 1))).setCell (p := ⟨rq, 1, none⟩) (.inr HQ.out) (.int .i64 (oB : Int)))
    generalize ((w4.setCell ⟨rq, 0, none⟩ (.int .i64 ((oA : Int) - 1))).setCell ⟨rq, 1, none⟩ (.int .i64 (oB : Int))) = w5 at *
    clear r0 r1 f0 f1 g0 g1 g2 g3 g4 g5 g6 g7 g8 d0 d1 d2 d3 d4 d5 d6 d7 d8 HR4 HT4 HT3 HT2 HU3 HU4
    go_wp2_with fail
    have k0 : w5.cell? ⟨rq, 0, none⟩ = some (.int .i64 ((oA : Int) - 1)) := by rw [cell_of_heap HS.out]; rfl
    have k1 : w5.cell? ⟨rq, 1, none⟩ = some (.int .i64 (oB : Int)) := by rw [cell_of_heap HS.out]; rfl
    exact bodyPost_ret (v := .agg #[.int .i64 ((oA : Int) - 1), .int .i64 (oB : Int)]) (by simp [results, Tryz.results72, go_sem, k0, k1]) rfl ⟨rfl, HT5.out⟩

set_option maxRecDepth 100000 in
theorem make4_any (P : PN) (h : P.Ok) (S : Nat → Nat) (l wt tk : Value) (aq c pb r : Nat) (w : World) (hr : r < P.R) (ha : Ah w P S aq) (hd : P.d ≤ P.t) (hp : Pb w pb P l (.slice (some ⟨aq, 0, none⟩) P.R c) wt tk) :
    Calls Tryz.prog 71 #[.int .i64 (r : Int), .pointer (some ⟨pb, 0, none⟩)] w fun e w' => e = .returned (.agg #[.int .i64 (tkR P (live S) r 0), .int .i64 (tkR P (live S) r 1)]) ∧ Turned [] w w' := by
  obtain ⟨w1, hw1⟩ : ∃ w1, w1 = w.alloc (.cells #[.int .i64 0, .int .i64 0] 139) := ⟨_, rfl⟩
  have hT1 : Turned [] w w1 := by rw [hw1]; exact (Turned.refl [] _).alloc _
  have hrb : w1.heap[w.heap.size]? = some (.cells #[.int .i64 0, .int .i64 0] 139) := by rw [hw1]; exact heap_alloc_new _ _
  have HK := hide (takes_any P h S l wt tk aq c r w1 hr (ha.turned0 hT1) hd)
  obtain ⟨c0, c1, c2, c3, c4, c5, c6, c7, c8⟩ := hp.cs
  have hpl := hp.lt
  generalize tkR P (live S) r 0 = x at *
  generalize tkR P (live S) r 1 = y at *
  generalize P.R = R at *
  obtain ⟨f, t, k, d, e⟩ := P
  unfold plC at HK
  simp only at *
  have HT1 := hide hT1
  have HRb := hide hrb
  clear h ha hp hT1 hrb hr
  obtain ⟨rq, hrq⟩ : ∃ rq, rq = w.heap.size := ⟨_, rfl⟩
  have HQ := hide (show w.heap.size ≤ rq by omega)
  rw [← hrq] at HRb
  go_enter Tryz.func71, Tryz.ntmps71
  go_wp2_with fail
  rw [← hw1, ← hrq]
  clear hw1 hrq
  refine (HK.out).mono ?_
  rintro e1 w2 ⟨rfl, ht2⟩
  have hr2 : w2.heap[rq]? = some (.cells #[.int .i64 0, .int .i64 0] 139) := by rw [ht2.block rq (lt_of_heap HRb.out) (by simp)]; exact HRb.out
  have r0 : w2.cell? ⟨rq, 0, none⟩ = some (.int .i64 0) := by rw [cell_of_heap hr2]; rfl
  have r1 : w2.cell? ⟨rq, 1, none⟩ = some (.int .i64 0) := by rw [cell_of_heap hr2]; rfl
  have f0 : w2.frozen? ⟨rq, 0, none⟩ = false := by simp [World.frozen?, hr2]
  have f1 : w2.frozen? ⟨rq, 1, none⟩ = false := by simp [World.frozen?, hr2]
  have HT2 := hide (HT1.out.trans ht2)
  have HS := hide (set_two hr2 (.int .i64 x) (.int .i64 y))
  have HT3 := hide ((HT2.out.setCell (p := ⟨rq, 0, none⟩) (.inr HQ.out) (.int .i64 x)).setCell (p := ⟨rq, 1, none⟩) (.inr HQ.out) (.int .i64 y))
  clear ht2 hr2 HT1
  go_wp2_with fail
  generalize ((w2.setCell ⟨rq, 0, none⟩ (.int .i64 x)).setCell ⟨rq, 1, none⟩ (.int .i64 y)) = w3 at *
  have k0 : w3.cell? ⟨rq, 0, none⟩ = some (.int .i64 x) := by rw [cell_of_heap HS.out]; rfl
  have k1 : w3.cell? ⟨rq, 1, none⟩ = some (.int .i64 y) := by rw [cell_of_heap HS.out]; rfl
  first
    | exact bodyPost_ret (v := .agg #[.int .i64 x, .int .i64 y]) (by simp [results, Tryz.results71, go_sem, k0, k1]) rfl ⟨rfl, HT3.out⟩
    | exact bodyPost_end (v := .agg #[.int .i64 x, .int .i64 y]) (by simp [results, Tryz.results71, go_sem, k0, k1]) rfl ⟨rfl, HT3.out⟩

/-- What waits tells. -/
def wtR (P : PN) (L : Nat → Bool) (r : Nat) : Nat :=
  if mvR P L r = 0 then 0 else
    if P.reg (P.d + ahR P L r + mvR P L r - 1) = r then P.reg (P.d + ahR P L r + mvR P L r - 1) - P.reg (P.d + ahR P L r) else P.reg (P.d + ahR P L r + mvR P L r - 1) - P.reg (P.d + ahR P L r) + 1

set_option maxRecDepth 100000 in
theorem waits_any (P : PN) (h : P.Ok) (S : Nat → Nat) (l wt tk : Value) (aq c r : Nat) (w : World) (hr : r < P.R) (ha : Ah w P S aq) (hf : P.f ≤ P.d) (hd : P.d ≤ P.t) :
    Calls Tryz.prog 74 #[.agg (plC P l (.slice (some ⟨aq, 0, none⟩) P.R c) wt tk), .int .i64 (r : Int), .int .i64 (mvR P (live S) r : Nat)] w fun e w' => e = .returned (.int .i64 (wtR P (live S) r : Nat)) ∧ Turned [] w w' := by
  have hF := PN.R_few h
  have h2 := h.few
  have HG := hide (fun x w => region_any P h l (.slice (some ⟨aq, 0, none⟩) P.R c) wt tk x w)
  have hcell : w.cell? ⟨aq, r, none⟩ = some (.int .i64 ((ahR P (live S) r : Nat) : Int)) := Ri.cell ha hr
  have hsu := ahR_succ P (live S) r
  have hto : P.d + ahR P (live S) r + mvR P (live S) r ≤ P.t := by
    have h3 := ahR_mono P (live S) (show r + 1 ≤ P.R by omega)
    have h4 : ahR P (live S) P.R ≤ P.t - P.d := by
      unfold ahR
      rw [PN.ed_R h]
      have := cnt_gap (live S) hd
      omega
    omega
  have hB := pb_new w P l (.slice (some ⟨aq, 0, none⟩) P.R c) wt tk
  have hT := (Turned.refl [] w).alloc (.cells (plC P l (.slice (some ⟨aq, 0, none⟩) P.R c) wt tk) 42)
  have hrg : 0 < mvR P (live S) r → rgI P ((P.d : Int) + ahR P (live S) r) = (P.reg (P.d + ahR P (live S) r) : Nat) ∧ rgI P ((P.d : Int) + ahR P (live S) r + mvR P (live S) r - 1) = (P.reg (P.d + ahR P (live S) r + mvR P (live S) r - 1) : Nat) ∧ P.reg (P.d + ahR P (live S) r) ≤ P.reg (P.d + ahR P (live S) r + mvR P (live S) r - 1) ∧ P.reg (P.d + ahR P (live S) r + mvR P (live S) r - 1) < P.R := by
    intro hm
    refine ⟨?_, ?_, PN.reg_mono P (by omega), (PN.reg_in h (by omega) (by omega)).1⟩
    · unfold rgI
      rw [if_pos (by omega), show ((P.d : Int) + ahR P (live S) r).toNat = P.d + ahR P (live S) r by omega]
    · unfold rgI
      rw [if_pos (by omega), show ((P.d : Int) + ahR P (live S) r + mvR P (live S) r - 1).toNat = P.d + ahR P (live S) r + mvR P (live S) r - 1 by omega]
  unfold wtR
  have HC := hide hcell
  have HB := hide hB
  have HT := hide hT
  generalize rgI P = RG at *
  generalize P.reg = rg at *
  generalize ahR P (live S) r = ah at *
  generalize mvR P (live S) r = mv at *
  generalize P.R = R at *
  have hri : (r : Int) < R := by omega
  obtain ⟨f, t, k, d, e⟩ := P
  unfold plC at HG HB HT ⊢
  simp only at HG HB HT hrg hto h2 hd ⊢
  clear h ha hB hT hcell hsu
  by_cases h0 : mv = 0
  · subst h0
    rw [if_pos rfl]
    go_enter Tryz.func74, Tryz.ntmps74
    go_wp2_with fail
    go_ret
    exact ⟨rfl, HT.out⟩
  · rw [if_neg h0]
    obtain ⟨hg1, hg2, hg3, hg4⟩ := hrg (by omega)
    have h0i : ((mv : Int) == 0) = false := by simp; omega
    have HG1 := hide (fun w => HG.out ((d : Int) + ah) w)
    have HG2 := hide (fun w => HG.out ((d : Int) + ah + mv - 1) w)
    rw [hg1] at HG1
    rw [hg2] at HG2
    have hw1 : IntKind.i64.wrap ((d : Int) + ah) = (d : Int) + ah := by rw [IntKind.wrap_i64]; omega
    have hw2 : IntKind.i64.wrap ((d : Int) + ah + mv) = (d : Int) + ah + mv := by rw [IntKind.wrap_i64]; omega
    have hw3 : IntKind.i64.wrap ((d : Int) + ah + mv - 1) = (d : Int) + ah + mv - 1 := by rw [IntKind.wrap_i64]; omega
    clear hg1 hg2 hrg HG h0
    generalize rg (d + ah) = a1 at *
    generalize rg (d + ah + mv - 1) = a2 at *
    obtain ⟨q, hq⟩ : ∃ q, q = w.heap.size := ⟨_, rfl⟩
    go_enter Tryz.func74, Tryz.ntmps74
    go_wp2_with fail
    rw [← hq] at HB ⊢
    generalize w.alloc (.cells #[Value.int .i64 f, Value.int .i64 t, Value.int .i64 k, Value.int .i64 d, Value.int .i64 e, l, .slice (some ⟨aq, 0, none⟩) R c, wt, tk] 42) = w0 at *
    clear hq
    obtain ⟨c0, c1, c2, c3, c4, c5, c6, c7, c8⟩ := HB.out.cs
    simp only at c0 c1 c2 c3 c4
    have ca : w0.cell? ⟨aq, r, none⟩ = some (.int .i64 (ah : Int)) := by rw [HT.out.cell (block_lt HC.out) (by simp)]; exact HC.out
    go_quiet (fail)
    have HU : Turned [] w0 (w0.drewN nq) := (Turned.refl [] w0).drewN nq
    have HB1 := hide (HB.out.turned0 HU)
    have HT1 := hide (HT.out.trans HU)
    clear c0 c1 c2 c3 c4 c5 c6 c7 c8 HU ca HB HT
    generalize w0.drewN nq = w1 at *
    obtain ⟨c0, c1, c2, c3, c4, c5, c6, c7, c8⟩ := HB1.out.cs
    simp only at c0 c1 c2 c3 c4
    clear hto h2 hd hf
    go_wp2_with fail
    go_region_held3 (fun w' => w'.cell? ⟨q, 0, none⟩ = some (.int .i64 (f : Int)) ∧ w'.cell? ⟨q, 1, none⟩ = some (.int .i64 (t : Int)) ∧ w'.cell? ⟨q, 2, none⟩ = some (.int .i64 (k : Int)) ∧ w'.cell? ⟨q, 3, none⟩ = some (.int .i64 (d : Int)) ∧ w'.cell? ⟨q, 4, none⟩ = some (.int .i64 (e : Int)) ∧ w'.cell? ⟨q, 5, none⟩ = some l ∧ w'.cell? ⟨q, 6, none⟩ = some (.slice (some ⟨aq, 0, none⟩) R c) ∧ w'.cell? ⟨q, 7, none⟩ = some wt ∧ w'.cell? ⟨q, 8, none⟩ = some tk) (go_keep)
      (first
        | (go_at_call 84; have HT3b := HT3; clear HT3b; refine (HG2.out _).mono ?_; rintro e' w4 ⟨rfl, ht4⟩; have HU4 := hide (HU3.out.trans ht4); obtain ⟨g0, g1, g2, g3, g4, g5, g6, g7, g8⟩ := (HB1.out.turned0 HU4.out).cs; simp only at g0 g1 g2 g3 g4; have HT4 := hide (HT1.out.trans HU4.out); clear ht4)
        | (go_at_call 84; refine (HG1.out _).mono ?_; rintro e' w3 ⟨rfl, ht3⟩; have HU3 := hide ((Turned.refl [] w1).drew.trans ht3); have HT3 := hide (HT1.out.trans HU3.out); obtain ⟨d0, d1, d2, d3, d4, d5, d6, d7, d8⟩ := (HB1.out.turned0 HU3.out).cs; simp only at d0 d1 d2 d3 d4; clear ht3))
    by_cases hrr : a2 = r
    · have hri2 : ((a2 : Int) == (r : Int)) = true := by simp; omega
      have hsb : ((a2 - a1 : Nat) : Int) = (a2 : Int) - a1 := by omega
      have hws : wrap64 ((a2 : Int) - a1) = (a2 : Int) - a1 := by unfold wrap64; omega
      go_wp2_with fail
      go_ret
      refine ⟨?_, HT4.out⟩
      rw [show ((r - a1 : Nat) : Int) = (r : Int) - a1 by omega]
      rfl
    · have hri2 : ((a2 : Int) == (r : Int)) = false := by simp; omega
      have hsb : ((a2 - a1 + 1 : Nat) : Int) = (a2 : Int) - a1 + 1 := by omega
      have hws : wrap64 ((a2 : Int) - a1) = (a2 : Int) - a1 := by unfold wrap64; omega
      have hws1 : wrap64 ((a2 : Int) - a1 + 1) = (a2 : Int) - a1 + 1 := by unfold wrap64; omega
      go_wp2_with fail
      go_ret
      refine ⟨?_, HT4.out⟩
      rfl

set_option maxRecDepth 100000 in
theorem make5_any (P : PN) (h : P.Ok) (S : Nat → Nat) (l wt tk : Value) (aq c pb mb mq mc r : Nat) (w : World) (hr : r < P.R) (ha : Ah w P S aq) (hf : P.f ≤ P.d) (hd : P.d ≤ P.t) (hp : Pb w pb P l (.slice (some ⟨aq, 0, none⟩) P.R c) wt tk) (cm : w.cell? ⟨mb, 0, none⟩ = some (.slice (some ⟨mq, 0, none⟩) P.R mc)) (hm : Ri w 2 mq P.R (fun r => (mvR P (live S) r : Nat))) :
    Calls Tryz.prog 73 #[.int .i64 (r : Int), .pointer (some ⟨pb, 0, none⟩), .pointer (some ⟨mb, 0, none⟩)] w fun e w' => e = .returned (.int .i64 (wtR P (live S) r : Nat)) ∧ Turned [] w w' := by
  have HK := hide (fun (w' : World) (t : Turned [] w w') => waits_any P h S l wt tk aq c r w' hr (ha.turned0 t) hf hd)
  obtain ⟨c0, c1, c2, c3, c4, c5, c6, c7, c8⟩ := hp.cs
  have HP := hide hp
  have cr : w.cell? ⟨mq, r, none⟩ = some (.int .i64 ((mvR P (live S) r : Nat) : Int)) := hm.cell hr
  have HM := hide cm
  have HC := hide cr
  generalize wtR P (live S) r = x at *
  generalize mvR P (live S) r = mv at *
  generalize P.R = R at *
  have hri : (r : Int) < R := by omega
  obtain ⟨f, t, k, d, e⟩ := P
  unfold plC at HK
  simp only at *
  clear h ha hp hm hr hf hd
  go_enter Tryz.func73, Tryz.ntmps73
  go_wp2_with fail
  go_region_held3 (fun w' => w'.cell? ⟨mb, 0, none⟩ = some (.slice (some ⟨mq, 0, none⟩) R mc) ∧ w'.cell? ⟨mq, r, none⟩ = some (.int .i64 (mv : Int)) ∧ w'.cell? ⟨pb, 0, none⟩ = some (.int .i64 (f : Int)) ∧ w'.cell? ⟨pb, 1, none⟩ = some (.int .i64 (t : Int)) ∧ w'.cell? ⟨pb, 2, none⟩ = some (.int .i64 (k : Int)) ∧ w'.cell? ⟨pb, 3, none⟩ = some (.int .i64 (d : Int)) ∧ w'.cell? ⟨pb, 4, none⟩ = some (.int .i64 (e : Int)) ∧ w'.cell? ⟨pb, 5, none⟩ = some l ∧ w'.cell? ⟨pb, 6, none⟩ = some (.slice (some ⟨aq, 0, none⟩) R c) ∧ w'.cell? ⟨pb, 7, none⟩ = some wt ∧ w'.cell? ⟨pb, 8, none⟩ = some tk) (go_keep)
    (first
      | (go_at_call 74; refine (HK.out _ (Turned.refl [] w).drew).mono ?_; rintro e' w2 ⟨rfl, ht2⟩; have HT2 := hide ((Turned.refl [] w).drew.trans ht2); obtain ⟨d0, d1, d2, d3, d4, d5, d6, d7, d8⟩ := (HP.out.turned0 HT2.out).cs; simp only at d0 d1 d2 d3 d4; have d9 : w2.cell? ⟨mb, 0, none⟩ = some (.slice (some ⟨mq, 0, none⟩) R mc) := (by rw [HT2.out.cell (block_lt HM.out) (by simp)]; exact HM.out); have d10 : w2.cell? ⟨mq, r, none⟩ = some (.int .i64 (mv : Int)) := (by rw [HT2.out.cell (block_lt HC.out) (by simp)]; exact HC.out); clear ht2))
  go_wp2_with fail
  go_ret
  exact ⟨rfl, HT2.out⟩
end Go.Proofs.YtpeglndlhjnaaaaGreatDoor

/-
  packed of package plan: the end of as many regions as may stay.
-/
namespace Go.Proofs.YtpeglndlhjnaaaaGreatDoor
open Go.RowKit Bt
set_option linter.unusedVariables false
set_option linter.unusedSimpArgs false

theorem lvR_le (P : PN) (L : Nat → Bool) (r : Nat) : lvR P L r ≤ P.ed (r + 1) - P.ed r := by
  unfold lvR
  have := cnt_gap L (PN.ed_mono P (show r ≤ r + 1 by omega))
  omega
set_option maxRecDepth 100000 in
theorem packed1_any (P : PN) (h : P.Ok) (L : Nat → Bool) (a wt tk : Value) (lq c pb r : Nat) (w : World) (hr : r < P.R) (hl : Ri w 3 lq P.R (fun r => (lvR P L r : Nat))) (hp : Pb w pb P (.slice (some ⟨lq, 0, none⟩) P.R c) a wt tk) :
    Calls Tryz.prog 104 #[.int .i64 (r : Int), .pointer (some ⟨pb, 0, none⟩)] w fun e w' => e = .returned (.int .i64 (ddR P L r : Nat)) ∧ Turned [] w w' := by
  have HSp := hide (fun w => span_in P h (.slice (some ⟨lq, 0, none⟩) P.R c) a wt tk r hr w)
  have hle := lvR_le P L r
  have hed := PN.ed_mono P (show r ≤ r + 1 by omega)
  have he2 := PN.ed_le P (r + 1)
  have hfew := h.few
  have hcell : w.cell? ⟨lq, r, none⟩ = some (.int .i64 ((lvR P L r : Nat) : Int)) := hl.cell hr
  unfold ddR
  have HP := hide hp
  have HC := hide hcell
  generalize lvR P L r = u at *
  generalize P.ed r = E1 at *
  generalize P.ed (r + 1) = E2 at *
  generalize P.R = R at *
  have hri : (r : Int) < R := by omega
  obtain ⟨f, t, k, d, e⟩ := P
  obtain ⟨c0, c1, c2, c3, c4, c5, c6, c7, c8⟩ := hp.cs
  unfold plC at HSp
  simp only at *
  have hw1 : wrap64 ((E2 : Int) - E1) = (E2 : Int) - E1 := by unfold wrap64; omega
  have hw2 : wrap64 ((E2 : Int) - E1 - u) = ((E2 - E1 - u : Nat) : Int) := by unfold wrap64; omega
  clear h hl hp hr hcell
  go_enter Tryz.func104, Tryz.ntmps104
  go_wp2_with fail
  refine (HSp.out _).mono ?_
  rintro e' w2 ⟨rfl, ht2⟩
  clear c0 c1 c2 c3 c4 c5 c6 c7 c8
  obtain ⟨c0, c1, c2, c3, c4, c5, c6, c7, c8⟩ := (HP.out.turned0 ht2).cs
  have cl : w2.cell? ⟨lq, r, none⟩ = some (.int .i64 (u : Int)) := by rw [ht2.cell (block_lt HC.out) (by simp)]; exact HC.out
  have HT2 := hide ht2
  clear ht2
  go_wp2_with fail
  go_ret
  refine ⟨?_, HT2.out⟩
  clear hw1 hw2
  rw [show ((E2 - E1 - u : Nat) : Int) = (E2 : Int) - E1 - u by omega]
  rfl

set_option maxRecDepth 100000 in
theorem packed_any (P : PN) (h : P.Ok) (L : Nat → Bool) (a wt tk : Value) (lq c waste : Nat) (w : World) (hl : Ri w 3 lq P.R (fun r => (lvR P L r : Nat))) (hw : waste ≤ 1000000) :
    Calls Tryz.prog 64 #[.agg (plC P (.slice (some ⟨lq, 0, none⟩) P.R c) a wt tk), .int .i64 (waste : Int)] w fun e w' => ∃ K, e = .returned (.int .i64 (P.ed K : Nat)) ∧ Packs P L waste K ∧ Turned [] w w' := by
  have hF := PN.R_few h
  have hB := pb_new w P (.slice (some ⟨lq, 0, none⟩) P.R c) a wt tk
  have hT := (Turned.refl [] w).alloc (.cells (plC P (.slice (some ⟨lq, 0, none⟩) P.R c) a wt tk) 42)
  have HE := hide (each_dead w.heap.size P h (.slice (some ⟨lq, 0, none⟩) P.R c) a wt tk (fun r => (ddR P L r : Nat)) _ (fun w' t r hr => packed1_any P h L a wt tk lq c w.heap.size r w' hr (hl.turned0 (hT.trans t)) (hB.turned0 t)))
  have hds : ∀ r, deadTo P L (P.ed r) ≤ 65536 := fun r => by
    unfold deadTo
    have := PN.ed_le P r
    have := h.few
    omega
  have HPl := hide (fun (w' : World) q (hq : Ri w' 2 q P.R (fun i => ((ddR P L i : Nat) : Int))) => plain13 w' q P.R P.R (ddR P L) hq hF (by rw [sum_dead h]; exact hds _))
  have HD := hide (fun r => sum_dead h L r)
  have HDs := hide hds
  have HSp := hide (fun r hr w => span_in P h (.slice (some ⟨lq, 0, none⟩) P.R c) a wt tk r hr w)
  have HR := hide (fun w => regions_any P h (.slice (some ⟨lq, 0, none⟩) P.R c) a wt tk w)
  have HPk : Hid (∀ K, K ≤ P.R → deadTo P L (P.ed K) ≤ waste → (K = P.R ∨ waste < deadTo P L (P.ed K) + ddR P L K) → Packs P L waste K) := hide (fun K h1 h2 h3 => ⟨h1, h2, h3.imp id (fun h4 => by rw [← dd_succ h]; exact h4)⟩)
  have HEz := hide (PN.ed_zero h)
  have HDz : Hid (deadTo P L (P.ed 0) ≤ waste) := hide (by rw [PN.ed_zero h]; simp [deadTo])
  have HDn : Hid (∀ r, deadTo P L (P.ed r) + ddR P L r = deadTo P L (P.ed (r + 1))) := hide (fun r => dd_succ h L r)
  have HB := hide hB
  have HT := hide hT
  generalize hRR : P.R = R at *
  generalize hDD : ddR P L = DD at *
  generalize hPk : Packs P L waste = PK at *
  generalize hdt : (fun r => deadTo P L (P.ed r)) = DT at *
  have hdt' : ∀ r, deadTo P L (P.ed r) = DT r := fun r => by rw [← hdt]
  simp only [hdt'] at HPk HD HDs HDz HDn
  obtain ⟨f, t, k, d, e⟩ := P
  generalize hED : PN.ed ⟨f, t, k, d, e⟩ = ED at *
  unfold plC at HE HR HB HT HSp ⊢
  simp only at HE HR HB HT HSp HEz ⊢
  clear h hl hds hB hT hRR hDD hPk hdt hdt' hED
  go_enter Tryz.func64, Tryz.ntmps64
  go_wp2_with fail
  generalize w.alloc (.cells #[Value.int .i64 f, Value.int .i64 t, Value.int .i64 k, Value.int .i64 d, Value.int .i64 e, .slice (some ⟨lq, 0, none⟩) R c, a, wt, tk] 42) = w0 at *
  generalize w.heap.size = pb at *
  refine (HE.out).mono ?_
  rintro e1 w1 ⟨dq, rfl, hdq, hd1, ht1⟩
  have HDq := hide hdq
  have HB1 := hide (HB.out.turned0 ht1)
  have HT1 := hide (HT.out.trans ht1)
  clear hdq hd1 ht1 HE HB HT
  go_wp2_with fail
  refine (HPl.out _ _ HDq.out).mono ?_
  rintro e1 w2 ⟨sq, rfl, hsq, hs1, ht2⟩
  have HDq2 := hide (HDq.out.turned0 ht2)
  have HSq := hide hsq
  have HB2 := hide (HB1.out.turned0 ht2)
  have HT2 := hide (HT1.out.trans ht2)
  obtain ⟨c0, c1, c2, c3, c4, c5, c6, c7, c8⟩ := HB2.out.cs
  clear hsq hs1 ht2 HDq HB1 HT1 HPl
  go_wp2_with fail
  refine (HR.out _).mono ?_
  rintro e1 w3 ⟨rfl, ht3⟩
  have HDq3 := hide (HDq2.out.turned0 ht3)
  have HSq3 := hide (HSq.out.turned0 ht3)
  have HB3 := hide (HB2.out.turned0 ht3)
  have HT3 := hide (HT2.out.trans ht3)
  clear c0 c1 c2 c3 c4 c5 c6 c7 c8 ht3 HDq2 HSq HB2 HT2 HR
  go_wp2_with fail
  rw [← HEz.out]
  go_loopw [8, 22] (fun en i wr => ∃ (j : Nat), j ≤ R ∧ i = .int .i64 j ∧ en = .int .i64 (ED j : Nat) ∧ Hid (DT j ≤ waste) ∧ Hid (Ri wr 2 dq R (fun i => ((DD i : Nat) : Int))) ∧ Hid (Ri wr 2 sq R (fun i => ((sumN DD i : Nat) : Int))) ∧ Hid (Pb wr pb ⟨f, t, k, d, e⟩ (.slice (some ⟨lq, 0, none⟩) R c) a wt tk) ∧ Hid (Turned [] w wr)) (fun _ i _ => R - (intOf i).toNat)
  case atStart => exact ⟨0, Nat.zero_le _, rfl, rfl, HDz, HDq3, HSq3, HB3, HT3⟩
  case round =>
    obtain ⟨j, hj, rfl, rfl, HM, HD1, HS1, HB4, HT4⟩ := hrel
    clear HDq3 HSq3 HB3 HT3
    by_cases hlt : j < R
    · have k1 := HD1.out.cell hlt
      have k2 := HS1.out.cell hlt
      simp only [HD.out] at k2
      have hji : (j : Int) < R := by omega
      have hs1 := HDs.out j
      have hs2 := HDs.out (j + 1)
      have HN := hide (HDn.out j)
      rw [← HN.out] at hs2
      have hw1 : IntKind.i64.wrap ((DT j : Int) + (DD j : Int)) = (DT j : Int) + (DD j : Int) := by rw [IntKind.wrap_i64]; omega
      have HP1 := hide (HPk.out j hj HM.out)
      have HSj := hide (fun w => HSp.out j hlt w)
      generalize DT j = dt at *
      generalize DD j = dd at *
      by_cases hgt : waste < dt + dd
      · have hgi : (waste : Int) < (dt : Int) + dd := by omega
        have HK := hide (HP1.out (.inr hgt))
        clear hs1 hs2 HP1
        go_wp2_with fail
        go_quiet (fail)
        go_wp2_with fail
        go_ret
        exact ⟨j, rfl, HK.out, HT4.out.drewN _⟩
      · have hgi : ¬ (waste : Int) < (dt : Int) + dd := by omega
        have HM2 := hide (show dt + dd ≤ waste by omega)
        obtain ⟨c0, c1, c2, c3, c4, c5, c6, c7, c8⟩ := HB4.out.cs
        simp only at c0 c1 c2 c3 c4
        clear hs1 hs2 HP1
        go_wp2_with fail
        go_quiet (fail)
        go_wp2_with fail
        refine (HSj.out _).mono ?_
        rintro e1 w5 ⟨rfl, ht5⟩
        have ht6 : Turned [] wr w5 := ((Turned.refl [] wr).drewN _).trans ht5
        have HD5 := hide (HD1.out.turned0 ht6)
        have HS5 := hide (HS1.out.turned0 ht6)
        have HB5 := hide (HB4.out.turned0 ht6)
        have HT5 := hide (HT4.out.trans ht6)
        clear ht5 ht6 c0 c1 c2 c3 c4 c5 c6 c7 c8 k1 k2
        go_wp2_with fail
        go_roundw
        case rel => exact ⟨j + 1, by omega, by go_num, rfl, by rw [← HN.out]; exact HM2, HD5, HS5, HB5, HT5⟩
        case measure => simp [intOf]; omega
    · have hjn : j = R := by omega
      subst hjn
      have HK := hide (HPk.out j hj HM.out (.inl rfl))
      go_wp2_with fail
      go_ret
      exact ⟨j, rfl, HK.out, HT4.out⟩
end Go.Proofs.YtpeglndlhjnaaaaGreatDoor

/-
  Make of package plan.
-/
namespace Go.Proofs.YtpeglndlhjnaaaaGreatDoor
open Go.RowKit Bt
set_option linter.unusedVariables false
set_option linter.unusedSimpArgs false

/-- The numbers of the plan: dense, top. -/
def planOf (f t k D : Nat) (L : Nat → Bool) : PN := ⟨f, t, k, D, D + (cnt L t - cnt L D)⟩
/-- A plan that Make has made: its value, and its lists in memory. -/
structure Pln (w : World) (P : PN) (S : Nat → Nat) (lq aq wq tq : Nat) : Prop where
  lv : Ri w 3 lq P.R (fun r => (lvR P (live S) r : Nat))
  ah : Ah w P S aq
  wt : Ri w 3 wq P.R (fun r => (wtR P (live S) r : Nat))
  tk : Rp w tq P.R (fun r s => tkR P (live S) r s)
theorem Pln.turned0 {w w' : World} {P : PN} {S : Nat → Nat} {lq aq wq tq : Nat} (h : Pln w P S lq aq wq tq) (t : Turned [] w w') : Pln w' P S lq aq wq tq := ⟨h.lv.turned0 t, h.ah.turned0 t, h.wt.turned0 t, h.tk.turned0 t⟩
def slc (q n : Nat) : Value := .slice (some ⟨q, 0, none⟩) n n
/-- What Make tells of numbers that may be: the plan's numbers. -/
structure Makes (S : Nat → Nat) (f t k waste : Nat) (P : PN) : Prop where
  f_ : P.f = f
  t_ : P.t = t
  k_ : P.k = k
  e_ : P.e = P.d + (cnt (live S) t - cnt (live S) P.d)
  d_ : ∃ K, Packs P (live S) waste K ∧ IsPast S (P.ed K) P.d
theorem Makes.dle {n : Nat} {S : Nat → Nat} {f t k waste : Nat} {P : PN} (h : Makes S f t k waste P) (hs : Bl n S) (hc : NoCut S t) : P.d ≤ t := by
  obtain ⟨K, h1, h2⟩ := h.d_
  have h3 := PN.ed_le P K
  rw [h.t_] at h3
  rcases h2 with ⟨a, k1, k2, k3⟩ | ⟨_, k1⟩
  · by_cases h4 : P.d ≤ t
    · exact h4
    · exact absurd (show t < a + S a by omega) (hc a (by omega))
  · omega
theorem Makes.fle {S : Nat → Nat} {f t k waste : Nat} {P : PN} (h : Makes S f t k waste P) (ho : P.Ok) : f ≤ P.d := by
  obtain ⟨K, h1, h2⟩ := h.d_
  have h3 := PN.ed_ge ho K
  rw [h.f_] at h3
  have := h2.ge
  omega

/-- On the way through Make: the plan's block, the boxed bits, the result's block. -/
structure Mk (w wi : World) (ov : Option Addr) (bb pb rb : Nat) (P : PN) (l a wt tk : Value) : Prop where
  t : Turned [] w wi
  b : wi.cell? ⟨bb, 0, none⟩ = some (.pointer ov)
  p : Pb wi pb P l a wt tk
  r : Pb wi rb ⟨0, 0, 0, 0, 0⟩ (.slice none 0 0) (.slice none 0 0) (.slice none 0 0) (.slice none 0 0)
  nb : bb ≠ pb
  nr : rb ≠ pb
  np : w.heap.size ≤ pb
  nq : w.heap.size ≤ rb
section
variable {w wi wj : World} {ov : Option Addr} {bb pb rb : Nat} {P : PN} {l a wt tk : Value}
theorem Mk.turned0 (h : Mk w wi ov bb pb rb P l a wt tk) (t : Turned [] wi wj) : Mk w wj ov bb pb rb P l a wt tk :=
  ⟨h.t.trans t, by rw [t.cell (block_lt h.b) (by simp)]; exact h.b, h.p.turned0 t, h.r.turned0 t, h.nb, h.nr, h.np, h.nq⟩
theorem Pb.fz (h : Pb wi pb P l a wt tk) (i : Nat) : wi.frozen? ⟨pb, i, none⟩ = false := by
  unfold Pb at h
  simp [World.frozen?, h]
theorem Mk.set (h : Mk w wi ov bb pb rb P l a wt tk) (i : Nat) (v : Value) {P' : PN} {l' a' wt' tk' : Value} (he : (plC P l a wt tk).setIfInBounds i v = plC P' l' a' wt' tk') : Mk w (wi.setCell ⟨pb, i, none⟩ v) ov bb pb rb P' l' a' wt' tk' := by
  have t : Turned [pb] wi (wi.setCell ⟨pb, i, none⟩ v) := (Turned.refl [pb] wi).setCell (p := ⟨pb, i, none⟩) (.inl (by simp)) v
  refine ⟨h.t.setCell (p := ⟨pb, i, none⟩) (.inr h.np) v, ?_, ?_, h.r.turned t (by simp; exact h.nr), h.nb, h.nr, h.np, h.nq⟩
  · rw [t.cell (block_lt h.b) (by simpa using h.nb)]; exact h.b
  · unfold Pb
    rw [heap_setCell_at _ _ _ _ _ _ h.p, he]
end
theorem Ri.off {w : World} {ty : TypeId} {q n pb i : Nat} {g : Nat → Int} {v : Value} (h : Ri w ty q n g) (hne : q ≠ pb) : Ri (w.setCell ⟨pb, i, none⟩ v) ty q n g :=
  h.turned ((Turned.refl [pb] w).setCell (p := ⟨pb, i, none⟩) (.inl (by simp)) v) (by simpa using hne)
theorem Rp.off {w : World} {q n pb i : Nat} {g : Nat → Nat → Int} {v : Value} (h : Rp w q n g) (hne : q ≠ pb) : Rp (w.setCell ⟨pb, i, none⟩ v) q n g :=
  h.turned ((Turned.refl [pb] w).setCell (p := ⟨pb, i, none⟩) (.inl (by simp)) v) (by simpa using hne)

def nine (w : World) (rb : Nat) (P : PN) (l a wt tk : Value) : World := ((((((((w.setCell ⟨rb, 0, none⟩ (.int .i64 P.f)).setCell ⟨rb, 1, none⟩ (.int .i64 P.t)).setCell ⟨rb, 2, none⟩ (.int .i64 P.k)).setCell ⟨rb, 3, none⟩ (.int .i64 P.d)).setCell ⟨rb, 4, none⟩ (.int .i64 P.e)).setCell ⟨rb, 5, none⟩ l).setCell ⟨rb, 6, none⟩ a).setCell ⟨rb, 7, none⟩ wt).setCell ⟨rb, 8, none⟩ tk
theorem nine_set {w : World} {rb : Nat} {Q : PN} {u0 u1 u2 u3 : Value} (h : Pb w rb Q u0 u1 u2 u3) (P : PN) (l a wt tk : Value) : Pb (nine w rb P l a wt tk) rb P l a wt tk := by
  unfold nine Pb
  have s : ∀ {w : World} {c : Array Value} (i : Nat) (v : Value), w.heap[rb]? = some (.cells c 42) → (w.setCell ⟨rb, i, none⟩ v).heap[rb]? = some (.cells (c.setIfInBounds i v) 42) := fun i v h => heap_setCell_at _ _ _ _ _ _ h _
  rw [s 8 tk (s 7 wt (s 6 a (s 5 l (s 4 _ (s 3 _ (s 2 _ (s 1 _ (s 0 _ h))))))))]
  simp [plC]
theorem nine_new {w0 w : World} {rb : Nat} {T : List Nat} (h : Turned T w0 w) (hr : w0.heap.size ≤ rb) (P : PN) (l a wt tk : Value) : Turned T w0 (nine w rb P l a wt tk) := by
  unfold nine
  have s : ∀ {w : World} (i : Nat) (v : Value), Turned T w0 w → Turned T w0 (w.setCell ⟨rb, i, none⟩ v) := fun i v h => h.setCell (p := ⟨rb, i, none⟩) (.inr hr) v
  exact s 8 tk (s 7 wt (s 6 a (s 5 l (s 4 _ (s 3 _ (s 2 _ (s 1 _ (s 0 _ h))))))))
theorem nine_turned (w : World) (rb : Nat) (P : PN) (l a wt tk : Value) : Turned [rb] w (nine w rb P l a wt tk) := by
  unfold nine
  have s : ∀ {w' : World} (i : Nat) (v : Value), Turned [rb] w w' → Turned [rb] w (w'.setCell ⟨rb, i, none⟩ v) := fun i v h => h.setCell (p := ⟨rb, i, none⟩) (.inl (by simp)) v
  exact s 8 tk (s 7 wt (s 6 a (s 5 l (s 4 _ (s 3 _ (s 2 _ (s 1 _ (s 0 _ (Turned.refl _ _)))))))))

set_option maxHeartbeats 4000000 in
set_option maxRecDepth 100000 in
theorem make_ok (p N : Nat) (S : Nat → Nat) (f t k waste : Nat) (w : World) (hb : Brd w (some ⟨p, 0, none⟩) N (sidesOf S)) (hs : Bl N S) (hft : f ≤ t) (htN : t ≤ N) (hk : 1 ≤ k) (hk2 : k ≤ 65536) (hw : waste ≤ 1000000) (hcf : NoCut S f) (hct : NoCut S t) :
    Calls Tryz.prog 30 #[.pointer (some ⟨p, 0, none⟩), .int .i64 (f : Int), .int .i64 (t : Int), .int .i64 (k : Int), .int .i64 (waste : Int)] w fun e w' => ∃ P lq aq wq tq, e = .returned (.tuple #[.agg (plC P (slc lq P.R) (slc aq P.R) (slc wq P.R) (slc tq P.R)), .int .i64 0]) ∧ Makes S f t k waste P ∧ Pln w' P S lq aq wq tq ∧ Turned [] w w' := by
  have hN := hb.few
  have hOk : ∀ d e, PN.Ok ⟨f, t, k, d, e⟩ := fun d e => ⟨hft, by show t ≤ 65536; omega, hk, hk2⟩
  have HW := hide (fun (w' : World) (t : Turned [] w w') => words_any (some ⟨p, 0, none⟩) N (sidesOf S) w' (hb.turned t))
  have HCf := hide (fun (w' : World) (t : Turned [] w w') => cut_not (some ⟨p, 0, none⟩) N S f w' (hb.turned t) hs hcf)
  have HCt := hide (fun (w' : World) (tt : Turned [] w w') => cut_not (some ⟨p, 0, none⟩) N S t w' (hb.turned tt) hs hct)
  have HBr := hide hb
  have HBl := hide hs
  have HCT := hide hct
  have HOK := hide hOk
  have hfi : ¬ (t : Int) < f := by omega
  have hti : ¬ (N : Int) < t := by omega
  have hki : ¬ (k : Int) < 1 := by omega
  obtain ⟨w0, hw0⟩ : ∃ w0, w0 = (w.alloc (.cells #[.pointer (some ⟨p, 0, none⟩)] 38)).alloc (.cells #[.int .i64 0, .int .i64 0, .int .i64 0, .int .i64 0, .int .i64 0, .slice none 0 0, .slice none 0 0, .slice none 0 0, .slice none 0 0] 42) := ⟨_, rfl⟩
  have hs1 : (w.alloc (.cells #[.pointer (some ⟨p, 0, none⟩)] 38)).heap.size = w.heap.size + 1 := by simp
  have hT0 : Turned [] w w0 := by rw [hw0]; exact ((Turned.refl [] w).alloc _).alloc _
  have hb0 : w0.cell? ⟨w.heap.size, 0, none⟩ = some (.pointer (some ⟨p, 0, none⟩)) := by
    rw [hw0, cell_alloc_old _ _ (by rw [hs1]; simp)]
    exact cell_alloc_new _ _ _
  have hr0 : Pb w0 (w.heap.size + 1) ⟨0, 0, 0, 0, 0⟩ (.slice none 0 0) (.slice none 0 0) (.slice none 0 0) (.slice none 0 0) := by
    rw [hw0, ← hs1]
    exact heap_alloc_new _ _
  have HT0 := hide hT0
  have HB0 := hide hb0
  have HR0 := hide hr0
  obtain ⟨bb, hbb⟩ : ∃ bb, bb = w.heap.size := ⟨_, rfl⟩
  obtain ⟨rb, hrb⟩ : ∃ rb, rb = w.heap.size + 1 := ⟨_, rfl⟩
  rw [← hbb] at HB0
  rw [← hrb] at HR0
  have HNb := hide (show bb < rb ∧ w.heap.size ≤ bb by omega)
  clear hb hs hcf hct hOk hT0 hb0 hr0 hs1
  have cb := HB0.out
  go_enter Tryz.func30, Tryz.ntmps30
  go_wp2_with fail
  rw [← hw0, ← hrb, ← hbb]
  clear hw0 hrb hbb
  refine (HW.out _ HT0.out).mono ?_
  rintro e1 w1 ⟨rfl, rfl⟩
  go_wp2_with fail
  refine (HCf.out _ HT0.out).mono ?_
  rintro e1 w2 ⟨rfl, ht2⟩
  have HT2 := hide (HT0.out.trans ht2)
  have HB2 : Hid (w2.cell? ⟨bb, 0, none⟩ = some (.pointer (some ⟨p, 0, none⟩))) := hide (by rw [ht2.cell (block_lt HB0.out) (by simp)]; exact HB0.out)
  have HR2 := hide (HR0.out.turned0 ht2)
  clear ht2 cb HT0 HB0 HR0
  have cb := HB2.out
  go_wp2_with fail
  refine (HCt.out _ HT2.out).mono ?_
  rintro e1 w3 ⟨rfl, ht3⟩
  have HT3 := hide (HT2.out.trans ht3)
  have HB3 : Hid (w3.cell? ⟨bb, 0, none⟩ = some (.pointer (some ⟨p, 0, none⟩))) := hide (by rw [ht3.cell (block_lt HB2.out) (by simp)]; exact HB2.out)
  have HR3 := hide (HR2.out.turned0 ht3)
  clear ht3 cb HT2 HB2 HR2 HW HCf HCt
  have cb := HB3.out
  go_upto_region 4 with fail
  rename_i hcc KK aa
  clear hcc hfi hti hki
  have HM4 := hide (show Mk w (w3.alloc (.cells #[.int .i64 (f : Int), .int .i64 (t : Int), .int .i64 (k : Int), .int .i64 0, .int .i64 0, .slice none 0 0, .slice none 0 0, .slice none 0 0, .slice none 0 0] 42)) (some ⟨p, 0, none⟩) bb w3.heap.size rb ⟨f, t, k, 0, 0⟩ (.slice none 0 0) (.slice none 0 0) (.slice none 0 0) (.slice none 0 0) from ⟨HT3.out.alloc _, by rw [cell_alloc_old _ _ (block_lt HB3.out)]; exact HB3.out, heap_alloc_new _ _, HR3.out.turned0 ((Turned.refl [] w3).alloc _), by have := block_lt HB3.out; simp at this; omega, by have := HR3.out.lt; omega, HT3.out.size, by have := HNb.out; omega⟩)
  generalize w3.alloc (.cells #[Value.int .i64 (f : Int), Value.int .i64 (t : Int), Value.int .i64 (k : Int), Value.int .i64 0, Value.int .i64 0, .slice none 0 0, .slice none 0 0, .slice none 0 0, .slice none 0 0] 42) = w4 at *
  generalize w3.heap.size = pb at *
  clear HT3 HB3 HR3 cb HNb
  have HE := hide (each_live bb pb ⟨f, t, k, 0, 0⟩ (HOK.out 0 0) (.slice none 0 0) (.slice none 0 0) (.slice none 0 0) (.slice none 0 0) (fun r => (lvR ⟨f, t, k, 0, 0⟩ (live S) r : Nat)) w4 (fun w' tt r hr => make1_any (some ⟨p, 0, none⟩) N S ⟨f, t, k, 0, 0⟩ (HOK.out 0 0) (.slice none 0 0) (.slice none 0 0) (.slice none 0 0) (.slice none 0 0) bb pb r w' hr (HBr.out.turned (HM4.out.t.trans tt)) HBl.out htN (by rw [tt.cell (block_lt HM4.out.b) (by simp)]; exact HM4.out.b) (HM4.out.p.turned0 tt)))
  have hpl4 := HM4.out.p.lt
  obtain ⟨c0, c1, c2, c3, c4, c5, c6, c7, c8⟩ := HM4.out.p.cs
  simp only [Int.cast_ofNat_Int] at c0 c1 c2 c3 c4
  go_wp2_with fail
  refine (HE.out).mono ?_
  rintro e1 w5 ⟨lq, rfl, hlq, hl0, ht5⟩
  have HM5 := hide (HM4.out.turned0 ht5)
  have HL5 := hide hlq
  have HLn := hide (show lq ≠ pb by omega)
  have HLr := hide (show lq ≠ rb by have := HM4.out.r.lt; omega)
  clear c0 c1 c2 c3 c4 c5 c6 c7 c8
  clear hlq hl0 ht5 HE HM4 hpl4
  generalize hRR : PN.R ⟨f, t, k, 0, 0⟩ = R at *
  obtain ⟨c0, c1, c2, c3, c4, c5, c6, c7, c8⟩ := HM5.out.p.cs
  simp only [Int.cast_ofNat_Int] at c0 c1 c2 c3 c4
  have fz := HM5.out.p.fz 5
  have pl := HM5.out.p.lt
  go_upto_region 5 with fail
  have HM6 := hide (HM5.out.set 5 (.slice (some ⟨lq, 0, none⟩) R R) (P' := ⟨f, t, k, 0, 0⟩) (l' := .slice (some ⟨lq, 0, none⟩) R R) (a' := .slice none 0 0) (wt' := .slice none 0 0) (tk' := .slice none 0 0) rfl)
  have HL6 := hide (HL5.out.off (i := 5) (v := .slice (some ⟨lq, 0, none⟩) R R) HLn.out)
  generalize w5.setCell ⟨pb, 5, none⟩ (.slice (some ⟨lq, 0, none⟩) R R) = w6 at *
  clear c0 c1 c2 c3 c4 c5 c6 c7 c8
  clear HM5 HL5 fz pl
  have HRR : Hid (∀ d e, PN.R ⟨f, t, k, d, e⟩ = R) := hide (fun d e => hRR)
  clear hRR
  have HPk := hide (fun (w' : World) (tt : Turned [] w6 w') => packed_any ⟨f, t, k, 0, 0⟩ (HOK.out 0 0) (live S) (.slice none 0 0) (.slice none 0 0) (.slice none 0 0) lq R waste w' (by rw [HRR.out]; exact HL6.out.turned0 tt) hw)
  rw [HRR.out] at HPk
  unfold plC at HPk
  simp only [Int.cast_ofNat_Int] at HPk
  have HPa := hide (fun (w' : World) (tt : Turned [] w6 w') x => past_any (some ⟨p, 0, none⟩) N S x w' (HBr.out.turned (HM6.out.t.trans tt)) HBl.out)
  have HMd := hide (HM6.out.turned0 ((Turned.refl [] w6).drew))
  obtain ⟨c0, c1, c2, c3, c4, c5, c6, c7, c8⟩ := HMd.out.p.cs
  simp only [Int.cast_ofNat_Int] at c0 c1 c2 c3 c4
  refine wp_region_held_drew (S := (fun w' => w'.cell? ⟨bb, 0, none⟩ = some (.pointer (some ⟨p, 0, none⟩)))) (by kernel_rfl) HMd.out.b (fun hHeld => ?_)
  refine wpAnyH_take (i := 0) (v := ?_) rfl (by kernel_rfl) (by kernel_rfl) (by kernel_rfl) (fun _ _ _ h => h) (Or.inl ⟨by rfl, ?_⟩) (by assumption) ?_
  rotate_left
  · (intro w hSw; (try dsimp only at hSw); go_simp; all_goals with_reducible rfl)
  (try simp only [List.getElem_toArray, List.getElem_cons_succ, List.getElem_cons_zero, Act.put, List.setIfInBounds_toArray, List.set_cons_zero, List.set_cons_succ])
  refine wpAnyH_take (i := 2) (v := ?_) rfl (by kernel_rfl) (by kernel_rfl) (by kernel_rfl) (fun _ _ _ h => h) (Or.inl ⟨by rfl, ?_⟩) (by assumption) ?_
  rotate_left
  · (intro w hSw; (try dsimp only at hSw); go_simp; all_goals with_reducible rfl)
  (try simp only [List.getElem_toArray, List.getElem_cons_succ, List.getElem_cons_zero, Act.put, List.setIfInBounds_toArray, List.set_cons_zero, List.set_cons_succ])
  refine wpAnyH_ready (rs := [1]) (by kernel_rfl) (by simp) ?_
  refine AllReadyH.cons rfl (fun K hK => ?_) AllReadyH.nil
  (try simp only [List.getElem_toArray, List.getElem_cons_succ, List.getElem_cons_zero])
  go_simp
  refine hK.out _ _ ?_ (fun hHeld => ?_)
  · ((try dsimp only); assumption)
  clear hK K
  (try simp only [List.getElem_toArray, List.getElem_cons_succ, List.getElem_cons_zero, Act.put, List.setIfInBounds_toArray, List.set_cons_zero, List.set_cons_succ])
  refine wpAnyH_ready (rs := [3]) (by kernel_rfl) (by simp) ?_
  refine AllReadyH.cons rfl (fun K hK => ?_) AllReadyH.nil
  (try simp only [List.getElem_toArray, List.getElem_cons_succ, List.getElem_cons_zero])
  go_simp
  refine (HPk.out _ (Turned.refl [] w6).drew).mono ?_
  rintro e1 w7 ⟨K0, rfl, hpk, ht7⟩
  have HK0 := hide hpk
  have HU7 := hide ((Turned.refl [] w6).drew.trans ht7)
  have hb7 := (HM6.out.turned0 HU7.out).b
  clear ht7 hpk c0 c1 c2 c3 c4 c5 c6 c7 c8
  refine hK.out _ _ ?_ (fun hHeld => ?_)
  · ((try dsimp only); exact hb7)
  clear hK K
  (try simp only [List.getElem_toArray, List.getElem_cons_succ, List.getElem_cons_zero, Act.put, List.setIfInBounds_toArray, List.set_cons_zero, List.set_cons_succ])
  refine wpAnyH_ready (rs := [4]) (by kernel_rfl) (by simp) ?_
  refine AllReadyH.cons rfl (fun K hK => ?_) AllReadyH.nil
  (try simp only [List.getElem_toArray, List.getElem_cons_succ, List.getElem_cons_zero])
  go_simp
  refine (HPa.out _ HU7.out _).mono ?_
  rintro e1 w8 ⟨D, rfl, hpa, ht8⟩
  have HPD := hide hpa
  have HU8 := hide (HU7.out.trans ht8)
  have HM8 := hide (HM6.out.turned0 HU8.out)
  have HL8 := hide (HL6.out.turned0 HU8.out)
  have hb8 := HM8.out.b
  clear ht8 hpa hb7
  obtain ⟨c0, c1, c2, c3, c4, c5, c6, c7, c8⟩ := HM8.out.p.cs
  simp only [Int.cast_ofNat_Int] at c0 c1 c2 c3 c4
  have fz := HM8.out.p.fz 3
  have pl := HM8.out.p.lt
  refine hK.out _ _ ?_ (fun hHeld => ?_)
  · ((try dsimp only); exact hb8)
  clear hK K
  (try simp only [List.getElem_toArray, List.getElem_cons_succ, List.getElem_cons_zero, Act.put, List.setIfInBounds_toArray, List.set_cons_zero, List.set_cons_succ])
  refine wpAnyH_take (i := 5) (v := ?_) rfl (by kernel_rfl) (by kernel_rfl) (by kernel_rfl) (fun _ _ _ h => h) (Or.inl ⟨by rfl, ?_⟩) (by assumption) ?_
  rotate_left
  · (intro w hSw; (try dsimp only at hSw); go_simp; all_goals with_reducible rfl)
  (try simp only [List.getElem_toArray, List.getElem_cons_succ, List.getElem_cons_zero, Act.put, List.setIfInBounds_toArray, List.set_cons_zero, List.set_cons_succ])
  have HM9 := hide (HM8.out.set 3 (.int .i64 (D : Int)) (P' := ⟨f, t, k, D, 0⟩) (l' := .slice (some ⟨lq, 0, none⟩) R R) (a' := .slice none 0 0) (wt' := .slice none 0 0) (tk' := .slice none 0 0) rfl)
  have HL9 := hide (HL8.out.off (i := 3) (v := .int .i64 (D : Int)) HLn.out)
  have hb9 := HM9.out.b
  refine wpAnyH_ready (rs := [6]) (by kernel_rfl) (by simp) ?_
  refine AllReadyH.cons rfl (fun K hK => ?_) AllReadyH.nil
  (try simp only [List.getElem_toArray, List.getElem_cons_succ, List.getElem_cons_zero])
  go_simp
  refine hK.out _ _ ?_ (fun hHeld => ?_)
  · ((try dsimp only); exact hb9)
  clear hK K
  (try simp only [List.getElem_toArray, List.getElem_cons_succ, List.getElem_cons_zero, Act.put, List.setIfInBounds_toArray, List.set_cons_zero, List.set_cons_succ])
  refine wpAnyH_done (by kernel_rfl) ?_ _
  generalize w8.setCell ⟨pb, 3, none⟩ (.int .i64 (D : Int)) = w9 at *
  clear c0 c1 c2 c3 c4 c5 c6 c7 c8
  clear HM8 HL8 HM6 HL6 HMd HU7 HU8 HPk HPa fz pl hb8 hb9 hHeld
  have hDt : D ≤ t := by
    have h3 := PN.ed_le ⟨f, t, k, 0, 0⟩ K0
    simp only at h3
    rcases HPD.out with ⟨a, k1, k2, k3⟩ | ⟨_, k1⟩
    · by_cases h4 : D ≤ t
      · exact h4
      · exact absurd (show t < a + S a by omega) (HCT.out a (by omega))
    · omega
  have hfD : f ≤ D := by
    have h3 := PN.ed_ge (HOK.out 0 0) K0
    have h4 := HPD.out.ge
    simp only at h3
    omega
  have hRf : R ≤ 65536 := by rw [← HRR.out 0 0]; exact PN.R_few (HOK.out 0 0)
  have HSA : Hid (∀ e r, sumN (mvR ⟨f, t, k, D, 0⟩ (live S)) r = ahR ⟨f, t, k, D, e⟩ (live S) r) := hide (fun e r => sum_ahead (P := ⟨f, t, k, D, 0⟩) (HOK.out D 0) (live S) hfD r)
  have HTo : Hid (sumN (mvR ⟨f, t, k, D, 0⟩ (live S)) R = cnt (live S) t - cnt (live S) D) := hide (by rw [HSA.out 0]; unfold ahR; rw [← HRR.out D 0, PN.ed_R (HOK.out D 0)])
  have hTo6 : sumN (mvR ⟨f, t, k, D, 0⟩ (live S)) R ≤ 65536 := by rw [HTo.out]; have := cnt_gap (live S) hDt; omega
  have HE := hide (each_moved bb pb ⟨f, t, k, D, 0⟩ (HOK.out D 0) (.slice (some ⟨lq, 0, none⟩) R R) (.slice none 0 0) (.slice none 0 0) (.slice none 0 0) (fun r => (mvR ⟨f, t, k, D, 0⟩ (live S) r : Nat)) w9 (fun w' tt r hr => make2_any (some ⟨p, 0, none⟩) N S ⟨f, t, k, D, 0⟩ (HOK.out D 0) (.slice (some ⟨lq, 0, none⟩) R R) (.slice none 0 0) (.slice none 0 0) (.slice none 0 0) bb pb r w' hr (HBr.out.turned (HM9.out.t.trans tt)) HBl.out htN hDt (by rw [tt.cell (block_lt HM9.out.b) (by simp)]; exact HM9.out.b) (HM9.out.p.turned0 tt)))
  rw [HRR.out] at HE
  unfold plC at HE
  simp only [Int.cast_ofNat_Int] at HE
  obtain ⟨c0, c1, c2, c3, c4, c5, c6, c7, c8⟩ := HM9.out.p.cs
  simp only [Int.cast_ofNat_Int] at c0 c1 c2 c3 c4
  go_wp2_with fail
  refine (HE.out).mono ?_
  rintro e1 w10 ⟨mq, rfl, hmq, hm0, ht10⟩
  have HM10 := hide (HM9.out.turned0 ht10)
  have HL10 := hide (HL9.out.turned0 ht10)
  have HMq := hide hmq
  have hmp : mq ≠ pb := by have := HM9.out.p.lt; omega
  clear c0 c1 c2 c3 c4 c5 c6 c7 c8
  clear hmq hm0 ht10 HE HM9 HL9
  obtain ⟨w11, hw11⟩ : ∃ w11, w11 = w10.alloc (.cells #[.slice (some ⟨mq, 0, none⟩) R R] 28) := ⟨_, rfl⟩
  obtain ⟨mb, hmb⟩ : ∃ mb, mb = w10.heap.size := ⟨_, rfl⟩
  have ht11 : Turned [] w10 w11 := by rw [hw11]; exact (Turned.refl [] w10).alloc _
  have hmc : w11.cell? ⟨mb, 0, none⟩ = some (.slice (some ⟨mq, 0, none⟩) R R) := by rw [hw11, hmb]; exact cell_alloc_new _ _ _
  have hmbp : mb ≠ pb := by have := HM10.out.p.lt; omega
  have HM11 := hide (HM10.out.turned0 ht11)
  have HL11 := hide (HL10.out.turned0 ht11)
  have HMq11 := hide (HMq.out.turned0 ht11)
  have HMc := hide hmc
  clear ht11 hmc HM10 HL10 HMq
  have HPl := hide (plain13 w11 mq R R (mvR ⟨f, t, k, D, 0⟩ (live S)) HMq11.out hRf hTo6)
  go_wp2_with fail
  rw [← hw11, ← hmb]
  clear hw11 hmb
  refine (HPl.out).mono ?_
  rintro e1 w12 ⟨sq, rfl, hsq, hs0, ht12⟩
  have HM12 := hide (HM11.out.turned0 ht12)
  have HL12 := hide (HL11.out.turned0 ht12)
  have HMq12 := hide (HMq11.out.turned0 ht12)
  have HMc12 : Hid (w12.cell? ⟨mb, 0, none⟩ = some (.slice (some ⟨mq, 0, none⟩) R R)) := hide (by rw [ht12.cell (block_lt HMc.out) (by simp)]; exact HMc.out)
  have HSq := hide hsq
  clear hsq hs0 ht12 HM11 HL11 HMq11 HMc HPl
  obtain ⟨w13, hw13⟩ : ∃ w13, w13 = w12.alloc (.cells #[.slice (some ⟨sq, 0, none⟩) R R] 28) := ⟨_, rfl⟩
  obtain ⟨sb, hsb⟩ : ∃ sb, sb = w12.heap.size := ⟨_, rfl⟩
  have ht13 : Turned [] w12 w13 := by rw [hw13]; exact (Turned.refl [] w12).alloc _
  have hsc : w13.cell? ⟨sb, 0, none⟩ = some (.slice (some ⟨sq, 0, none⟩) R R) := by rw [hw13, hsb]; exact cell_alloc_new _ _ _
  have HM13 := hide (HM12.out.turned0 ht13)
  have HL13 := hide (HL12.out.turned0 ht13)
  have HMq13 := hide (HMq12.out.turned0 ht13)
  have HSq13 := hide (HSq.out.turned0 ht13)
  have HMc13 : Hid (w13.cell? ⟨mb, 0, none⟩ = some (.slice (some ⟨mq, 0, none⟩) R R)) := hide (by rw [ht13.cell (block_lt HMc12.out) (by simp)]; exact HMc12.out)
  have hpl12 := HM12.out.p.lt
  obtain ⟨c0, c1, c2, c3, c4, c5, c6, c7, c8⟩ := HM12.out.p.cs
  simp only [Int.cast_ofNat_Int] at c0 c1 c2 c3 c4
  clear ht13 HM12 HL12 HMq12 HMc12 HSq
  have HE := hide (each_ahead sb ⟨f, t, k, D, 0⟩ (HOK.out D 0) (.slice (some ⟨lq, 0, none⟩) R R) (.slice none 0 0) (.slice none 0 0) (.slice none 0 0) (fun r => (sumN (mvR ⟨f, t, k, D, 0⟩ (live S)) r : Nat)) w13 (fun w' tt r hr => make3_any sb sq R R _ r w' (by rw [← HRR.out D 0]; exact hr) (by rw [tt.cell (block_lt hsc) (by simp)]; exact hsc) (HSq13.out.turned0 tt)))
  rw [HRR.out] at HE
  unfold plC at HE
  simp only [Int.cast_ofNat_Int] at HE
  clear hsc
  generalize hTT : sumN (mvR ⟨f, t, k, D, 0⟩ (live S)) R = TT at *
  go_wp2_with fail
  rw [← hw13, ← hsb]
  clear hw13 hsb c0 c1 c2 c3 c4 c5 c6 c7 c8
  refine (HE.out).mono ?_
  rintro e1 w14 ⟨aq, rfl, haq, ha0, ht14⟩
  have HM14 := hide (HM13.out.turned0 ht14)
  have HL14 := hide (HL13.out.turned0 ht14)
  have HMq14 := hide (HMq13.out.turned0 ht14)
  have HMc14 : Hid (w14.cell? ⟨mb, 0, none⟩ = some (.slice (some ⟨mq, 0, none⟩) R R)) := hide (by rw [ht14.cell (block_lt HMc13.out) (by simp)]; exact HMc13.out)
  have HAq := hide haq
  have hap : aq ≠ pb := by have := HM13.out.p.lt; omega
  have HAr := hide (show aq ≠ rb by have := HM13.out.r.lt; omega)
  clear haq ha0 ht14 HM13 HL13 HMq13 HMc13 HSq13 HE hpl12
  obtain ⟨c0, c1, c2, c3, c4, c5, c6, c7, c8⟩ := HM14.out.p.cs
  simp only [Int.cast_ofNat_Int] at c0 c1 c2 c3 c4
  have fz := HM14.out.p.fz 6
  have fz4 := HM14.out.p.fz 4
  have pl := HM14.out.p.lt
  obtain ⟨E, hE⟩ : ∃ E, E = D + TT := ⟨_, rfl⟩
  have hwe : wrap64 ((D : Int) + (TT : Int)) = (E : Int) := by unfold wrap64; omega
  have HNum := hide (And.intro hft (And.intro htN (And.intro hDt (And.intro hfD (And.intro hRf (And.intro hN (And.intro hmp (And.intro hmbp (And.intro hap hE)))))))))
  clear hft htN hDt hfD hRf hk hk2 hw hN hmp hmbp hap hTo6 hE
  go_upto_region 10 with fail
  have HM15 := hide (HM14.out.set 6 (.slice (some ⟨aq, 0, none⟩) R R) (P' := ⟨f, t, k, D, 0⟩) (l' := (.slice (some ⟨lq, 0, none⟩) R R)) (a' := (.slice (some ⟨aq, 0, none⟩) R R)) (wt' := (.slice none 0 0)) (tk' := (.slice none 0 0)) rfl)
  have HM16 := hide (HM15.out.set 4 (.int .i64 (E : Int)) (P' := ⟨f, t, k, D, E⟩) (l' := (.slice (some ⟨lq, 0, none⟩) R R)) (a' := (.slice (some ⟨aq, 0, none⟩) R R)) (wt' := (.slice none 0 0)) (tk' := (.slice none 0 0)) rfl)
  have hpn := HNum.out
  obtain ⟨hft, htN, hDt, hfD, hRf, hN, hmp, hmbp, hap, hE⟩ := hpn
  have HL16 := hide ((HL14.out.off (i := 6) (v := (.slice (some ⟨aq, 0, none⟩) R R)) HLn.out).off (i := 4) (v := .int .i64 (E : Int)) HLn.out)
  have HMq16 := hide ((HMq14.out.off (i := 6) (v := (.slice (some ⟨aq, 0, none⟩) R R)) hmp).off (i := 4) (v := .int .i64 (E : Int)) hmp)
  have HAq16 := hide ((HAq.out.off (i := 6) (v := (.slice (some ⟨aq, 0, none⟩) R R)) hap).off (i := 4) (v := .int .i64 (E : Int)) hap)
  have HMc16 : Hid (((w14.setCell ⟨pb, 6, none⟩ (.slice (some ⟨aq, 0, none⟩) R R)).setCell ⟨pb, 4, none⟩ (.int .i64 (E : Int))).cell? ⟨mb, 0, none⟩ = some (.slice (some ⟨mq, 0, none⟩) R R)) := hide (by rw [World.cell?_setCell_far _ _ _ _ (fun e => hmbp e.symm), World.cell?_setCell_far _ _ _ _ (fun e => hmbp e.symm)]; exact HMc14.out)
  generalize (w14.setCell ⟨pb, 6, none⟩ (.slice (some ⟨aq, 0, none⟩) R R)).setCell ⟨pb, 4, none⟩ (.int .i64 (E : Int)) = w16 at *
  clear c0 c1 c2 c3 c4 c5 c6 c7 c8
  clear HM14 HM15 HL14 HMq14 HMc14 HAq fz fz4 pl hwe
  have HA16 : Hid (Ah w16 ⟨f, t, k, D, E⟩ S aq) := hide (by unfold Ah; rw [HRR.out]; exact HAq16.out.congr (fun r hr => by rw [HSA.out E r]))
  clear HAq16
  have HE := hide (each_takes pb ⟨f, t, k, D, E⟩ (HOK.out D E) (.slice (some ⟨lq, 0, none⟩) R R) (.slice (some ⟨aq, 0, none⟩) R R) (.slice none 0 0) (.slice none 0 0) (fun r s => tkR ⟨f, t, k, D, E⟩ (live S) r s) w16 (fun w' tt r hr => by have h5 := make4_any ⟨f, t, k, D, E⟩ (HOK.out D E) S (.slice (some ⟨lq, 0, none⟩) R R) (.slice none 0 0) (.slice none 0 0) aq R pb r w' hr (HA16.out.turned0 tt) hDt; rw [HRR.out] at h5; exact h5 (HM16.out.p.turned0 tt)))
  rw [HRR.out] at HE
  unfold plC at HE
  simp only [Int.cast_ofNat_Int] at HE
  clear hft htN hDt hfD hRf hN hmp hmbp hap hE
  obtain ⟨c0, c1, c2, c3, c4, c5, c6, c7, c8⟩ := HM16.out.p.cs
  simp only [Int.cast_ofNat_Int] at c0 c1 c2 c3 c4
  go_wp2_with fail
  refine (HE.out).mono ?_
  rintro e1 w17 ⟨tq, rfl, htq, ht0, ht17⟩
  have HM17 := hide (HM16.out.turned0 ht17)
  have HL17 := hide (HL16.out.turned0 ht17)
  have HMq17 := hide (HMq16.out.turned0 ht17)
  have HA17 := hide (HA16.out.turned0 ht17)
  have HMc17 : Hid (w17.cell? ⟨mb, 0, none⟩ = some (.slice (some ⟨mq, 0, none⟩) R R)) := hide (by rw [ht17.cell (block_lt HMc16.out) (by simp)]; exact HMc16.out)
  have HTq := hide htq
  have HTn := hide (show tq ≠ pb by have := HM16.out.p.lt; omega)
  have HTr := hide (show tq ≠ rb by have := HM16.out.r.lt; omega)
  clear c0 c1 c2 c3 c4 c5 c6 c7 c8
  clear htq ht0 ht17 HE HM16 HL16 HMq16 HA16 HMc16
  obtain ⟨c0, c1, c2, c3, c4, c5, c6, c7, c8⟩ := HM17.out.p.cs
  simp only [Int.cast_ofNat_Int] at c0 c1 c2 c3 c4
  have fz := HM17.out.p.fz 8
  have pl := HM17.out.p.lt
  go_upto_region 11 with fail
  have HM18 := hide (HM17.out.set 8 (.slice (some ⟨tq, 0, none⟩) R R) (P' := ⟨f, t, k, D, E⟩) (l' := (.slice (some ⟨lq, 0, none⟩) R R)) (a' := (.slice (some ⟨aq, 0, none⟩) R R)) (wt' := (.slice none 0 0)) (tk' := (.slice (some ⟨tq, 0, none⟩) R R)) rfl)
  have HL18 := hide (HL17.out.off (i := 8) (v := (.slice (some ⟨tq, 0, none⟩) R R)) HLn.out)
  have HMq18 := hide (HMq17.out.off (i := 8) (v := (.slice (some ⟨tq, 0, none⟩) R R)) HNum.out.2.2.2.2.2.2.1)
  have HTq18 := hide (HTq.out.off (i := 8) (v := (.slice (some ⟨tq, 0, none⟩) R R)) HTn.out)
  have HA18 : Hid (Ah (w17.setCell ⟨pb, 8, none⟩ (.slice (some ⟨tq, 0, none⟩) R R)) ⟨f, t, k, D, E⟩ S aq) := hide (Ri.off HA17.out HNum.out.2.2.2.2.2.2.2.2.1)
  have HMc18 : Hid ((w17.setCell ⟨pb, 8, none⟩ (.slice (some ⟨tq, 0, none⟩) R R)).cell? ⟨mb, 0, none⟩ = some (.slice (some ⟨mq, 0, none⟩) R R)) := hide (by rw [World.cell?_setCell_far _ _ _ _ (fun e => HNum.out.2.2.2.2.2.2.2.1 e.symm)]; exact HMc17.out)
  generalize w17.setCell ⟨pb, 8, none⟩ (.slice (some ⟨tq, 0, none⟩) R R) = w18 at *
  clear c0 c1 c2 c3 c4 c5 c6 c7 c8
  clear HM17 HL17 HMq17 HA17 HMc17 HTq fz pl
  have HE := hide (each_waits pb mb ⟨f, t, k, D, E⟩ (HOK.out D E) (.slice (some ⟨lq, 0, none⟩) R R) (.slice (some ⟨aq, 0, none⟩) R R) (.slice none 0 0) (.slice (some ⟨tq, 0, none⟩) R R) (fun r => (wtR ⟨f, t, k, D, E⟩ (live S) r : Nat)) w18 (fun w' tt r hr => by have h5 := make5_any ⟨f, t, k, D, E⟩ (HOK.out D E) S (.slice (some ⟨lq, 0, none⟩) R R) (.slice none 0 0) (.slice (some ⟨tq, 0, none⟩) R R) aq R pb mb mq R r w' hr (HA18.out.turned0 tt) HNum.out.2.2.2.1 HNum.out.2.2.1; rw [HRR.out] at h5; exact h5 (HM18.out.p.turned0 tt) (by rw [tt.cell (block_lt HMc18.out) (by simp)]; exact HMc18.out) (HMq18.out.turned0 tt)))
  rw [HRR.out] at HE
  unfold plC at HE
  simp only [Int.cast_ofNat_Int] at HE
  obtain ⟨c0, c1, c2, c3, c4, c5, c6, c7, c8⟩ := HM18.out.p.cs
  simp only [Int.cast_ofNat_Int] at c0 c1 c2 c3 c4
  go_wp2_with fail
  refine (HE.out).mono ?_
  rintro e1 w19 ⟨wq, rfl, hwq, hw0, ht19⟩
  have HM19 := hide (HM18.out.turned0 ht19)
  have HL19 := hide (HL18.out.turned0 ht19)
  have HA19 := hide (HA18.out.turned0 ht19)
  have HTq19 := hide (HTq18.out.turned0 ht19)
  have HWq := hide hwq
  have HWn := hide (show wq ≠ pb by have := HM18.out.p.lt; omega)
  have HWr := hide (show wq ≠ rb by have := HM18.out.r.lt; omega)
  clear c0 c1 c2 c3 c4 c5 c6 c7 c8
  clear hwq hw0 ht19 HE HM18 HL18 HMq18 HA18 HMc18 HTq18
  obtain ⟨c0, c1, c2, c3, c4, c5, c6, c7, c8⟩ := HM19.out.p.cs
  simp only [Int.cast_ofNat_Int] at c0 c1 c2 c3 c4
  have fz := HM19.out.p.fz 7
  have pl := HM19.out.p.lt
  go_upto_region 12 with fail
  have HM20 := hide (HM19.out.set 7 (.slice (some ⟨wq, 0, none⟩) R R) (P' := ⟨f, t, k, D, E⟩) (l' := (.slice (some ⟨lq, 0, none⟩) R R)) (a' := (.slice (some ⟨aq, 0, none⟩) R R)) (wt' := (.slice (some ⟨wq, 0, none⟩) R R)) (tk' := (.slice (some ⟨tq, 0, none⟩) R R)) rfl)
  have HL20 := hide (HL19.out.off (i := 7) (v := (.slice (some ⟨wq, 0, none⟩) R R)) HLn.out)
  have HTq20 := hide (HTq19.out.off (i := 7) (v := (.slice (some ⟨wq, 0, none⟩) R R)) HTn.out)
  have HWq20 := hide (HWq.out.off (i := 7) (v := (.slice (some ⟨wq, 0, none⟩) R R)) HWn.out)
  have HA20 : Hid (Ah (w19.setCell ⟨pb, 7, none⟩ (.slice (some ⟨wq, 0, none⟩) R R)) ⟨f, t, k, D, E⟩ S aq) := hide (Ri.off HA19.out HNum.out.2.2.2.2.2.2.2.2.1)
  generalize w19.setCell ⟨pb, 7, none⟩ (.slice (some ⟨wq, 0, none⟩) R R) = w20 at *
  clear c0 c1 c2 c3 c4 c5 c6 c7 c8
  clear HM19 HL19 HA19 HTq19 HWq fz pl
  obtain ⟨c0, c1, c2, c3, c4, c5, c6, c7, c8⟩ := HM20.out.p.cs
  simp only [Int.cast_ofNat_Int] at c0 c1 c2 c3 c4
  obtain ⟨r0, r1, r2, r3, r4, r5, r6, r7, r8⟩ := HM20.out.r.cs
  simp only [Int.cast_ofNat_Int] at r0 r1 r2 r3 r4
  have hnr := HM20.out.nr
  have z0 := HM20.out.r.fz 0
  have z1 := HM20.out.r.fz 1
  have z2 := HM20.out.r.fz 2
  have z3 := HM20.out.r.fz 3
  have z4 := HM20.out.r.fz 4
  have z5 := HM20.out.r.fz 5
  have z6 := HM20.out.r.fz 6
  have z7 := HM20.out.r.fz 7
  have z8 := HM20.out.r.fz 8
  have rl := HM20.out.r.lt
  go_wp2_with fail
  have h9 := nine_set HM20.out.r ⟨f, t, k, D, E⟩ (.slice (some ⟨lq, 0, none⟩) R R) (.slice (some ⟨aq, 0, none⟩) R R) (.slice (some ⟨wq, 0, none⟩) R R) (.slice (some ⟨tq, 0, none⟩) R R)
  have t9 := nine_turned w20 rb ⟨f, t, k, D, E⟩ (.slice (some ⟨lq, 0, none⟩) R R) (.slice (some ⟨aq, 0, none⟩) R R) (.slice (some ⟨wq, 0, none⟩) R R) (.slice (some ⟨tq, 0, none⟩) R R)
  have HT21 := hide (nine_new HM20.out.t HM20.out.nq ⟨f, t, k, D, E⟩ (.slice (some ⟨lq, 0, none⟩) R R) (.slice (some ⟨aq, 0, none⟩) R R) (.slice (some ⟨wq, 0, none⟩) R R) (.slice (some ⟨tq, 0, none⟩) R R))
  have HL21 := hide (HL20.out.turned t9 (by simpa using HLr.out))
  have HA21 := hide (Ri.turned HA20.out t9 (by simpa using HAr.out))
  have HW21 := hide (HWq20.out.turned t9 (by simpa using HWr.out))
  have HTq21 := hide (HTq20.out.turned t9 (by simpa using HTr.out))
  have H9 := hide h9
  unfold nine at H9 HT21 HL21 HA21 HW21 HTq21
  simp only at H9 HT21 HL21 HA21 HW21 HTq21
  clear h9 t9 HM20 HL20 HA20 HWq20 HTq20 z0 z1 z2 z3 z4 z5 z6 z7 z8 r0 r1 r2 r3 r4 r5 r6 r7 r8 rl hnr c0 c1 c2 c3 c4 c5 c6 c7 c8
  generalize ((((((((w20.setCell ⟨rb, 0, none⟩ (.int .i64 (f : Int))).setCell ⟨rb, 1, none⟩ (.int .i64 (t : Int))).setCell ⟨rb, 2, none⟩ (.int .i64 (k : Int))).setCell ⟨rb, 3, none⟩ (.int .i64 (D : Int))).setCell ⟨rb, 4, none⟩ (.int .i64 (E : Int))).setCell ⟨rb, 5, none⟩ (.slice (some ⟨lq, 0, none⟩) R R)).setCell ⟨rb, 6, none⟩ (.slice (some ⟨aq, 0, none⟩) R R)).setCell ⟨rb, 7, none⟩ (.slice (some ⟨wq, 0, none⟩) R R)).setCell ⟨rb, 8, none⟩ (.slice (some ⟨tq, 0, none⟩) R R) = w21 at *
  obtain ⟨c0, c1, c2, c3, c4, c5, c6, c7, c8⟩ := H9.out.cs
  simp only at c0 c1 c2 c3 c4
  refine bodyPost_ret (v := .tuple #[.agg (plC ⟨f, t, k, D, E⟩ (.slice (some ⟨lq, 0, none⟩) R R) (.slice (some ⟨aq, 0, none⟩) R R) (.slice (some ⟨wq, 0, none⟩) R R) (.slice (some ⟨tq, 0, none⟩) R R)), .int .i64 0]) (by unfold plC; simp [results, Tryz.results30, go_sem, c0, c1, c2, c3, c4, c5, c6, c7, c8]) rfl ⟨⟨f, t, k, D, E⟩, lq, aq, wq, tq, ?_, ⟨rfl, rfl, rfl, ?_, K0, ⟨HK0.out.le, HK0.out.may, HK0.out.most⟩, HPD.out⟩, ⟨?_, HA21.out, ?_, ?_⟩, HT21.out⟩
  · rw [HRR.out]; rfl
  · have h1 := HNum.out.2.2.2.2.2.2.2.2.2
    have h2 := HTo.out
    show E = D + (cnt (live S) t - cnt (live S) D)
    omega
  · rw [HRR.out]; exact HL21.out
  · rw [HRR.out]; exact HW21.out
  · rw [HRR.out]; exact HTq21.out
end Go.Proofs.YtpeglndlhjnaaaaGreatDoor

/-
  What the statements of layer 13 ask of a plan, without memory.
-/
namespace Go.Proofs.YtpeglndlhjnaaaaGreatDoor
open Go.RowKit Bt
set_option linter.unusedVariables false
set_option linter.unusedSimpArgs false

theorem noCut0 (S : Nat → Nat) : NoCut S 0 := fun a h => by omega
theorem noCutN {n : Nat} {S : Nat → Nat} (h : Bl n S) : NoCut S n := fun a h1 h2 => by
  have := h.into a (by omega)
  omega
theorem IsPast.mono {n : Nat} {S : Nat → Nat} (hs : Bl n S) {x y r s : Nat} (hx : IsPast S x r) (hy : IsPast S y s) (h : x ≤ y) : r ≤ s := by
  have h1 := hy.ge
  rcases hx with ⟨a, a1, a2, a3⟩ | ⟨_, a1⟩
  · by_cases h2 : y < a + S a
    · have : IsPast S y (a + S a) := .inl ⟨a, by omega, h2, rfl⟩
      have := IsPast.uniq hs hy this
      omega
    · omega
  · omega
theorem top_mono (L : Nat → Bool) {t d d' : Nat} (h1 : d ≤ d') (h2 : d' ≤ t) : d + (cnt L t - cnt L d) ≤ d' + (cnt L t - cnt L d') := by
  have a := cnt_gap L h1
  have b := cnt_mono L h1
  have c := cnt_mono L h2
  omega
theorem PN.ed_same {P Q : PN} (hf : P.f = Q.f) (ht : P.t = Q.t) (hk : P.k = Q.k) (K : Nat) : P.ed K = Q.ed K := by unfold PN.ed; rw [hf, ht, hk]
theorem PN.R_same {P Q : PN} (hf : P.f = Q.f) (ht : P.t = Q.t) (hk : P.k = Q.k) : P.R = Q.R := by unfold PN.R; rw [hf, ht, hk]
theorem dead_same {P Q : PN} (hf : P.f = Q.f) (L : Nat → Bool) (x : Nat) : deadTo P L x = deadTo Q L x := by unfold deadTo; rw [hf]
theorem Makes.ok {S : Nat → Nat} {f t k waste : Nat} {P : PN} (h : Makes S f t k waste P) (h1 : f ≤ t) (h2 : t ≤ 65536) (h3 : 1 ≤ k) (h4 : k ≤ 65536) : P.Ok :=
  ⟨by rw [h.f_, h.t_]; exact h1, by rw [h.t_]; exact h2, by rw [h.k_]; exact h3, by rw [h.k_]; exact h4⟩

/-- More waste: more stays. -/
theorem makes_more {n : Nat} {S : Nat → Nat} (hs : Bl n S) {f t k v v' : Nat} {P Q : PN} (hP : Makes S f t k v P) (hQ : Makes S f t k v' Q) (hv : v ≤ v') (h1 : f ≤ t) (h2 : t ≤ 65536) (h3 : 1 ≤ k) (h4 : k ≤ 65536) (hc : NoCut S t) : P.d ≤ Q.d ∧ P.e ≤ Q.e := by
  have okP := hP.ok h1 h2 h3 h4
  obtain ⟨K, a1, a2⟩ := hP.d_
  obtain ⟨K', b1, b2⟩ := hQ.d_
  have hf : P.f = Q.f := by rw [hP.f_, hQ.f_]
  have ht : P.t = Q.t := by rw [hP.t_, hQ.t_]
  have hk : P.k = Q.k := by rw [hP.k_, hQ.k_]
  have hKK : K ≤ K' := by
    by_cases h : K ≤ K'
    · exact h
    · exfalso
      have c1 := a1.le
      have c2 := a1.may
      rcases b1.most with c3 | c3
      · rw [← PN.R_same hf ht hk] at c3; omega
      · rw [← PN.ed_same hf ht hk, ← dead_same hf] at c3
        have c4 := deadTo_mono (P := P) (live S) (PN.ed_ge okP (K' + 1)) (PN.ed_mono P (show K' + 1 ≤ K by omega))
        omega
  have hed : P.ed K ≤ Q.ed K' := by rw [← PN.ed_same hf ht hk K']; exact PN.ed_mono P hKK
  have hd := IsPast.mono hs a2 b2 hed
  have hQt := hQ.dle hs hc
  refine ⟨hd, ?_⟩
  rw [hP.e_, hQ.e_]
  exact top_mono (live S) hd hQt
/-- With as much waste as there are words all stays. -/
theorem makes_all {n : Nat} {S : Nat → Nat} (hs : Bl n S) {k v : Nat} {P : PN} (hP : Makes S 0 n k v P) (hv : ∀ x, x ≤ n → deadTo P (live S) x ≤ v) (h2 : n ≤ 65536) (h3 : 1 ≤ k) (h4 : k ≤ 65536) : P.d = n ∧ P.e = n := by
  have okP := hP.ok (Nat.zero_le _) h2 h3 h4
  obtain ⟨K, a1, a2⟩ := hP.d_
  have hK : K = P.R := by
    rcases a1.most with h | h
    · exact h
    · have h5 := PN.ed_le P (K + 1)
      rw [hP.t_] at h5
      have := hv _ h5
      omega
  rw [hK, PN.ed_R okP, hP.t_] at a2
  have hd : P.d = n := IsPast.uniq hs a2 (.inr ⟨noCutN hs, rfl⟩)
  refine ⟨hd, ?_⟩
  rw [hP.e_, hd]
  omega
theorem dead_le (P : PN) (L : Nat → Bool) (x : Nat) : deadTo P L x ≤ x := by unfold deadTo; omega
end Go.Proofs.YtpeglndlhjnaaaaGreatDoor

/-
  Where words go: one-to-one, rising, to no greater place. No Go is walked here.
-/
namespace Go.Proofs.YtpeglndlhjnaaaaGreatDoor
open Go.RowKit Bt
set_option linter.unusedVariables false
set_option linter.unusedSimpArgs false

/-- Where the word i goes. -/
def fwd (P : PN) (L : Nat → Bool) (i : Nat) : Nat := if i < P.d then i else P.d + (cnt L i - cnt L P.d)
theorem fwd_le (P : PN) (L : Nat → Bool) (i : Nat) : fwd P L i ≤ i := by
  unfold fwd
  split
  · exact Nat.le_refl _
  · have := cnt_gap L (show P.d ≤ i by omega)
    omega
theorem fwd_live (P : PN) {L : Nat → Bool} {i : Nat} (h : L i = true) : fwd P L (i + 1) = fwd P L i + 1 := by
  unfold fwd
  by_cases h1 : i < P.d
  · rw [if_pos h1]
    by_cases h2 : i + 1 < P.d
    · rw [if_pos h2]
    · rw [if_neg h2, show i + 1 = P.d by omega]; omega
  · rw [if_neg h1, if_neg (by omega), cnt_at h]
    have := cnt_mono L (show P.d ≤ i by omega)
    omega
theorem fwd_dead (P : PN) {L : Nat → Bool} {i : Nat} : fwd P L i ≤ fwd P L (i + 1) := by
  unfold fwd
  by_cases h1 : i < P.d
  · rw [if_pos h1]
    split
    · omega
    · omega
  · rw [if_neg h1, if_neg (by omega)]
    have := cnt_mono L (show i ≤ i + 1 by omega)
    omega
theorem cnt_inj {L : Nat → Bool} {i j : Nat} (hi : L i = true) (hj : L j = true) (h : cnt L i = cnt L j) : i = j := by
  rcases Nat.lt_trichotomy i j with h1 | h1 | h1
  · have := cnt_mono L (show i + 1 ≤ j by omega)
    rw [cnt_at hi] at this
    omega
  · exact h1
  · have := cnt_mono L (show j + 1 ≤ i by omega)
    rw [cnt_at hj] at this
    omega
/-- The word that goes there is it. -/
theorem src_fwd {P : PN} {S : Nat → Nat} {i : Nat} {r : Int} (hi : live S i = true) (hit : i < P.t) (hd : P.d ≤ P.t) (h : IsSrc P S (fwd P (live S) i) r) : r = i := by
  unfold fwd at h
  by_cases h1 : i < P.d
  · rw [if_pos h1] at h
    rcases h with ⟨_, _, h2⟩ | ⟨_, h2, _⟩ | ⟨h2, _⟩ | ⟨h2, _⟩
    · exact h2
    · rw [hi] at h2; cases h2
    · omega
    · omega
  · rw [if_neg h1] at h
    have hm := cnt_mono (live S) (show P.d ≤ i by omega)
    rcases h with ⟨h2, _⟩ | ⟨h2, _⟩ | ⟨_, s, _, _, h3, h4, h5⟩ | ⟨_, h2, _⟩
    · omega
    · omega
    · have : s = i := cnt_inj h3 hi (by omega)
      omega
    · have h6 := cnt_mono (live S) (show i + 1 ≤ P.t by omega)
      rw [cnt_at hi] at h6
      omega
/-- Dead words ahead of Dense are no more than may be wasted. -/
theorem dense_dead {n : Nat} {S : Nat → Nat} (hs : Bl n S) {k v : Nat} {P : PN} (hP : Makes S 0 n k v P) : P.d - cnt (live S) P.d ≤ v := by
  obtain ⟨K, a1, a2⟩ := hP.d_
  have h1 := a1.may
  unfold deadTo at h1
  rw [hP.f_] at h1
  rw [show cnt (live S) 0 = 0 from rfl] at h1
  have h2 := a2.ge
  have h3 : ∀ m, P.ed K + m ≤ P.d → cnt (live S) (P.ed K + m) = cnt (live S) (P.ed K) + m := by
    intro m
    induction m with
    | zero => intro _; rfl
    | succ m ih =>
      intro hm
      rw [← Nat.add_assoc, cnt_at (a2.live (by omega) (by omega)), ih (by omega)]
      omega
  have h4 := h3 (P.d - P.ed K) (by omega)
  rw [show P.ed K + (P.d - P.ed K) = P.d by omega] at h4
  omega
end Go.Proofs.YtpeglndlhjnaaaaGreatDoor

/-
  Regions that take words out of one another: who takes from whom, and how many are left. No Go is walked here.
-/
namespace Go.Proofs.YtpeglndlhjnaaaaGreatDoor
open Go.RowKit Bt
set_option linter.unusedVariables false
set_option linter.unusedSimpArgs false

/-- Where the first word of a region goes. -/
def goesR (P : PN) (L : Nat → Bool) (q : Nat) : Nat := P.d + ahR P L q
/-- The region i takes a word out of the region q. -/
def tkB (P : PN) (L : Nat → Bool) (i q : Nat) : Bool := decide (0 < mvR P L q ∧ P.reg (goesR P L q) ≤ i ∧ i ≤ P.reg (goesR P L q + mvR P L q - 1))
/-- What the plan has: numbers that fit. -/
structure Fit (P : PN) (L : Nat → Bool) : Prop where
  ok : P.Ok
  fd : P.f ≤ P.d
  dt : P.d ≤ P.t
  e_ : P.e = P.d + (cnt L P.t - cnt L P.d)
section
variable {P : PN} {L : Nat → Bool}
theorem Fit.et (h : Fit P L) : P.e ≤ P.t := by
  have h1 := h.e_
  have h2 := cnt_gap L h.dt
  have h3 := h.dt
  omega
theorem Fit.goes (h : Fit P L) {q : Nat} (hq : q < P.R) : P.d ≤ goesR P L q ∧ goesR P L q + mvR P L q ≤ P.e := by
  unfold goesR
  have h1 := ahR_succ P L q
  have h2 := ahR_mono P L (show q + 1 ≤ P.R by omega)
  have h3 : ahR P L P.R = cnt L P.t - cnt L P.d := by unfold ahR; rw [PN.ed_R h.ok]
  have h4 := h.e_
  omega
/-- The last word of a region goes no further than that region. -/
theorem Fit.last (h : Fit P L) {q : Nat} (hq : q < P.R) (hm : 0 < mvR P L q) : goesR P L q + mvR P L q ≤ P.ed (q + 1) := by
  have h1 := ahR_succ P L q
  unfold goesR
  have h2 : P.d < P.ed (q + 1) := by
    unfold mvR at hm
    by_cases h3 : P.d < P.ed (q + 1)
    · exact h3
    · have := cnt_mono L (show P.ed (q + 1) ≤ max (P.ed q) P.d by omega)
      omega
  have h3 := cnt_gap L (show P.d ≤ P.ed (q + 1) by omega)
  have h4 : ahR P L (q + 1) = cnt L (P.ed (q + 1)) - cnt L P.d := rfl
  omega
theorem Fit.tk_le (h : Fit P L) {i q : Nat} (hq : q < P.R) (ht : tkB P L i q = true) : i ≤ q := by
  unfold tkB at ht
  simp only [decide_eq_true_eq] at ht
  obtain ⟨h1, h2, h3⟩ := ht
  have h4 := h.last hq h1
  obtain ⟨h5, h6⟩ := h.goes hq
  have h7 := h.et
  have h8 := h.fd
  obtain ⟨a, b, c⟩ := PN.reg_in h.ok (x := goesR P L q + mvR P L q - 1) (by omega) (by omega)
  by_cases h9 : i ≤ q
  · exact h9
  · have := PN.ed_mono P (show q + 1 ≤ P.reg (goesR P L q + mvR P L q - 1) by omega)
    omega
theorem Fit.goal (h : Fit P L) {i : Nat} : gF P i < gT P i → P.d ≤ gF P i ∧ P.ed i ≤ gF P i ∧ gT P i ≤ P.e ∧ gT P i ≤ P.ed (i + 1) := by
  unfold gF gT
  split
  · intro _; omega
  · intro h; omega
/-- Who takes has a goal. -/
theorem Fit.tk_goal (h : Fit P L) {i q : Nat} (hq : q < P.R) (hi : i < P.R) (ht : tkB P L i q = true) : gF P i < gT P i := by
  unfold tkB at ht
  simp only [decide_eq_true_eq] at ht
  obtain ⟨h1, h2, h3⟩ := ht
  obtain ⟨h5, h6⟩ := h.goes hq
  have h7 := h.et
  have h8 := h.fd
  obtain ⟨a, b, c⟩ := PN.reg_in h.ok (x := goesR P L q) (by omega) (by omega)
  obtain ⟨a', b', c'⟩ := PN.reg_in h.ok (x := goesR P L q + mvR P L q - 1) (by omega) (by omega)
  have e1 := PN.ed_mono P h3
  have e2 := PN.ed_mono P (show P.reg (goesR P L q) + 1 ≤ i + 1 by omega)
  have e3 := PN.ed_lt h.ok hi
  unfold gF gT
  rw [if_pos (by omega), if_pos (by omega)]
  omega
/-- A word that goes into the region i, out of the region q. -/
theorem Fit.src (h : Fit P L) {i x s : Nat} (hi : i < P.R) (h1 : gF P i ≤ x) (h2 : x < gT P i) (hs1 : P.d ≤ s) (hs2 : s < P.t) (hl : L s = true) (hc : cnt L s = cnt L P.d + (x - P.d)) : P.reg s < P.R ∧ goesR P L (P.reg s) ≤ x ∧ x < goesR P L (P.reg s) + mvR P L (P.reg s) ∧ tkB P L i (P.reg s) = true := by
  have h8 := h.fd
  obtain ⟨g1, g2, g3, g4⟩ := h.goal (i := i) (by omega)
  obtain ⟨a, b, c⟩ := PN.reg_in h.ok (x := s) (by omega) hs2
  generalize P.reg s = q at *
  have k1 := cnt_mono L (show max (P.ed q) P.d ≤ s by omega)
  have k2 := cnt_mono L (show s + 1 ≤ P.ed (q + 1) by omega)
  rw [cnt_at hl] at k2
  have k3 := cnt_mono L (show P.d ≤ max (P.ed q) P.d by omega)
  have k4 := cnt_mono L (show P.ed q ≤ max (P.ed q) P.d by omega)
  have k5 : ahR P L q = cnt L (max (P.ed q) P.d) - cnt L P.d := by
    unfold ahR
    by_cases hh : P.d ≤ P.ed q
    · rw [show max (P.ed q) P.d = P.ed q by omega]
    · rw [show max (P.ed q) P.d = P.d by omega]
      have := cnt_mono L (show P.ed q ≤ P.d by omega)
      omega
  have k6 : mvR P L q = cnt L (P.ed (q + 1)) - cnt L (max (P.ed q) P.d) := rfl
  have m1 : goesR P L q ≤ x := by unfold goesR; omega
  have m2 : x < goesR P L q + mvR P L q := by unfold goesR; omega
  refine ⟨a, m1, m2, ?_⟩
  unfold tkB
  rw [decide_eq_true_eq]
  have hx : P.reg x = i := PN.reg_of h.ok hi (by omega) (by omega)
  refine ⟨by omega, ?_, ?_⟩
  · rw [← hx]; exact PN.reg_mono P m1
  · rw [← hx]; exact PN.reg_mono P (by omega)
/-- Two regions out of which the same word comes are one. -/
theorem Fit.same (h : Fit P L) {x q r : Nat} (hq : q < P.R) (hr : r < P.R) (h1 : goesR P L q ≤ x) (h2 : x < goesR P L q + mvR P L q) (h3 : goesR P L r ≤ x) (h4 : x < goesR P L r + mvR P L r) : q = r := by
  unfold goesR at *
  have a1 := ahR_succ P L q
  have a2 := ahR_succ P L r
  rcases Nat.lt_trichotomy q r with hh | hh | hh
  · have := ahR_mono P L (show q + 1 ≤ r by omega); omega
  · exact hh
  · have := ahR_mono P L (show r + 1 ≤ q by omega); omega
/-- Out of whom one takes: some word of the goal comes from there. -/
theorem Fit.word (h : Fit P L) {i q : Nat} (hi : i < P.R) (hq : q < P.R) (ht : tkB P L i q = true) : ∃ x, gF P i ≤ x ∧ x < gT P i ∧ goesR P L q ≤ x ∧ x < goesR P L q + mvR P L q := by
  have hg := h.tk_goal hq hi ht
  unfold tkB at ht
  simp only [decide_eq_true_eq] at ht
  obtain ⟨h1, h2, h3⟩ := ht
  obtain ⟨h5, h6⟩ := h.goes hq
  have h7 := h.et
  have h8 := h.fd
  obtain ⟨a, b, c⟩ := PN.reg_in h.ok (x := goesR P L q) (by omega) (by omega)
  obtain ⟨a', b', c'⟩ := PN.reg_in h.ok (x := goesR P L q + mvR P L q - 1) (by omega) (by omega)
  have e1 := PN.ed_mono P h3
  have e2 := PN.ed_mono P (show P.reg (goesR P L q) + 1 ≤ i + 1 by omega)
  have e3 := PN.ed_lt h.ok hi
  refine ⟨max (gF P i) (goesR P L q), by omega, ?_, by omega, ?_⟩
  · unfold gF gT at *
    split at hg
    · rw [if_pos ‹_›, if_pos ‹_›]; omega
    · omega
  · unfold gF at *
    split
    · omega
    · omega

/-- Of whom the region q waits: others that take out of it and are not filled. -/
def wtB (P : PN) (L : Nat → Bool) (Fl : Nat → Bool) (q j : Nat) : Bool := tkB P L j q && (decide (j ≠ q) && !(Fl j))
theorem cnt_int (a b : Nat) : ∀ n, b < n → a ≤ b → cnt (fun j => decide (a ≤ j ∧ j ≤ b)) n = b + 1 - a := by
  intro n hb ha
  rw [cnt_stop (a := b + 1) (by omega) (fun k h1 h2 => decide_eq_false (by omega))]
  have h1 : ∀ m, m ≤ a → cnt (fun j => decide (a ≤ j ∧ j ≤ b)) m = 0 := fun m hm => cnt_zero fun j hj => decide_eq_false (by omega)
  have h2 : ∀ m, a + m ≤ b + 1 → cnt (fun j => decide (a ≤ j ∧ j ≤ b)) (a + m) = m := by
    intro m
    induction m with
    | zero => intro _; exact h1 a (Nat.le_refl _)
    | succ m ih =>
      intro hm
      rw [← Nat.add_assoc, cnt_at (decide_eq_true (by omega)), ih (by omega)]
  have h3 := h2 (b + 1 - a) (by omega)
  rw [show a + (b + 1 - a) = b + 1 by omega] at h3
  exact h3
/-- One less, where one is taken out. -/
theorem cnt_less {f g : Nat → Bool} {k : Nat} (h : ∀ j, j ≠ k → g j = f j) (hf : f k = true) (hg : g k = false) : ∀ n, k < n → cnt g n + 1 = cnt f n := by
  intro n
  induction n with
  | zero => intro h; omega
  | succ n ih =>
    intro hn
    by_cases hk : k = n
    · subst hk
      rw [cnt_at hf, cnt_off hg, cnt_congr (fun j hj => h j (by omega))]
    · have := ih (by omega)
      have e := h n (fun x => hk x.symm)
      rw [cnt, cnt, e]
      omega
theorem Fit.wait0 (h : Fit P L) {q : Nat} (hq : q < P.R) : wtR P L q = cnt (wtB P L (fun _ => false) q) P.R := by
  unfold wtR
  by_cases hm : mvR P L q = 0
  · rw [if_pos hm]
    symm
    refine cnt_zero fun j hj => ?_
    unfold wtB tkB
    rw [decide_eq_false (by omega)]
    rfl
  · rw [if_neg hm]
    obtain ⟨h5, h6⟩ := h.goes hq
    have h7 := h.et
    have h8 := h.fd
    obtain ⟨a, b, c⟩ := PN.reg_in h.ok (x := goesR P L q) (by omega) (by omega)
    obtain ⟨a', b', c'⟩ := PN.reg_in h.ok (x := goesR P L q + mvR P L q - 1) (by omega) (by omega)
    have hle := PN.reg_mono P (show goesR P L q ≤ goesR P L q + mvR P L q - 1 by omega)
    have hl := h.tk_le (i := P.reg (goesR P L q + mvR P L q - 1)) hq (by unfold tkB; rw [decide_eq_true_eq]; omega)
    have hg : P.d + ahR P L q = goesR P L q := rfl
    rw [hg]
    have e1 : ∀ j, tkB P L j q = decide (P.reg (goesR P L q) ≤ j ∧ j ≤ P.reg (goesR P L q + mvR P L q - 1)) := fun j => by
      unfold tkB
      congr 1
      simp [show 0 < mvR P L q by omega]
    generalize hA : P.reg (goesR P L q) = A at *
    generalize hB : P.reg (goesR P L q + mvR P L q - 1) = B at *
    have e2 := cnt_int A B P.R a' hle
    by_cases hBq : B = q
    · rw [if_pos hBq]
      have e3 := cnt_less (f := fun j => decide (A ≤ j ∧ j ≤ B)) (g := wtB P L (fun _ => false) q) (k := q) (fun j hj => by unfold wtB; rw [e1]; simp [hj]) (decide_eq_true (by omega)) (by unfold wtB; simp) P.R hq
      omega
    · rw [if_neg hBq]
      have e3 : cnt (wtB P L (fun _ => false) q) P.R = cnt (fun j => decide (A ≤ j ∧ j ≤ B)) P.R := cnt_congr fun j hj => by
        unfold wtB
        rw [e1]
        by_cases hjq : j = q
        · subst hjq
          rw [decide_eq_false (by omega)]; rfl
        · simp [hjq]
      omega
/-- Filled is one more. -/
def fill (Fl : Nat → Bool) (i : Nat) : Nat → Bool := fun j => if j = i then true else Fl j
theorem Fit.fills (h : Fit P L) {Fl : Nat → Bool} {i q : Nat} (hi : i < P.R) (hF : Fl i = false) : cnt (wtB P L Fl q) P.R = cnt (wtB P L (fill Fl i) q) P.R + (if tkB P L i q = true ∧ q ≠ i then 1 else 0) := by
  by_cases hh : tkB P L i q = true ∧ q ≠ i
  · rw [if_pos hh]
    symm
    refine cnt_less (k := i) (fun j hj => ?_) ?_ ?_ P.R hi
    · unfold wtB fill; simp [hj]
    · unfold wtB; rw [hh.1, hF]; simp; exact fun x => hh.2 x.symm
    · unfold wtB fill; simp
  · rw [if_neg hh]
    refine cnt_congr fun j hj => ?_
    unfold wtB fill
    by_cases hji : j = i
    · subst hji
      by_cases ht : tkB P L j q = true
      · have : q = j := by
          by_cases hx : q = j
          · exact hx
          · exact absurd ⟨ht, hx⟩ hh
        subst this
        simp
      · rw [Bool.not_eq_true] at ht
        rw [ht]; rfl
    · simp [hji]
theorem cnt_fill {Fl : Nat → Bool} {i n : Nat} (hi : i < n) (hF : Fl i = false) : cnt (fill Fl i) n = cnt Fl n + 1 :=
  (cnt_less (f := fill Fl i) (g := Fl) (k := i) (fun j hj => by unfold fill; rw [if_neg hj]) (by unfold fill; rw [if_pos rfl]) hF n hi).symm
/-- Somebody who is not filled waits for none. -/
theorem Fit.ready (h : Fit P L) {Fl : Nat → Bool} : ∀ i, i < P.R → gF P i < gT P i → Fl i = false → ∃ j, j ≤ i ∧ gF P j < gT P j ∧ Fl j = false ∧ cnt (wtB P L Fl j) P.R = 0 := by
  intro i
  induction i using Nat.strongRecOn with
  | ind i ih =>
    intro hi hg hF
    by_cases hw : cnt (wtB P L Fl i) P.R = 0
    · exact ⟨i, Nat.le_refl _, hg, hF, hw⟩
    · have : ¬ ∀ j, j < P.R → wtB P L Fl i j = false := fun hh => hw (cnt_zero hh)
      obtain ⟨j, hj⟩ := Classical.not_forall.1 this
      obtain ⟨hj1, hj2⟩ := Classical.not_imp.1 hj
      rw [Bool.not_eq_false] at hj2
      unfold wtB at hj2
      rw [Bool.and_eq_true, Bool.and_eq_true, decide_eq_true_eq] at hj2
      obtain ⟨k1, k2, k3⟩ := hj2
      have k4 := h.tk_le hi k1
      have k5 := h.tk_goal hi hj1 k1
      obtain ⟨m, m1, m2⟩ := ih j (by omega) hj1 k5 (by simpa using k3)
      exact ⟨m, by omega, m2⟩
/-- All filled: none waits. -/
theorem Fit.done (h : Fit P L) {Fl : Nat → Bool} (hall : ∀ i, i < P.R → gF P i < gT P i → Fl i = true) {q : Nat} (hq : q < P.R) : cnt (wtB P L Fl q) P.R = 0 := by
  refine cnt_zero fun j hj => ?_
  unfold wtB
  by_cases ht : tkB P L j q = true
  · rw [hall j hj (h.tk_goal hq hj ht)]; simp
  · rw [Bool.not_eq_true] at ht
    rw [ht]; rfl
theorem cnt_full {f : Nat → Bool} : ∀ n, n ≤ cnt f n → ∀ j, j < n → f j = true := by
  intro n
  induction n with
  | zero => intro _ j hj; omega
  | succ n ih =>
    intro hn j hj
    have h1 := cnt_le f n
    rw [cnt] at hn
    by_cases hf : f n = true
    · by_cases hjn : j = n
      · rw [hjn]; exact hf
      · rw [hf] at hn
        exact ih (by simp at hn; omega) j (by omega)
    · rw [Bool.not_eq_true] at hf
      rw [hf] at hn
      simp at hn
      omega
end
end Go.Proofs.YtpeglndlhjnaaaaGreatDoor

/-
  The document's plan without memory: out of which region a word comes; who takes out of whom, word by word.
-/
namespace Go.Proofs.YtpeglndlhjnaaaaGreatDoor
open Go.RowKit Bt
set_option linter.unusedVariables false
set_option linter.unusedSimpArgs false

section
variable {P : PN} {S : Nat → Nat}
theorem src_org (h : Fit P (live S)) {x s : Nat} (hs : SrcOf P S x s) : orgN P (live S) x = P.reg s + 1 := by
  obtain ⟨a1, a2, a3, a4⟩ := hs
  have h8 := h.fd
  obtain ⟨b1, b2, b3⟩ := PN.reg_in h.ok (x := s) (by omega) a2
  have k1 := cnt_mono (live S) b2
  have k2 := cnt_mono (live S) (show s + 1 ≤ P.ed (P.reg s + 1) by omega)
  rw [cnt_at a3] at k2
  unfold orgN
  refine org_eq b1 ?_ (.inr ?_)
  · unfold ahR; omega
  · unfold ahR; omega
/-- Some word of those from x up to y comes out of the region q. -/
def tkX (P : PN) (L : Nat → Bool) (x y q : Nat) : Bool := decide (max x (goesR P L q) < min y (goesR P L q + mvR P L q))
theorem tkX_none (L : Nat → Bool) (x q : Nat) : tkX P L x x q = false := by unfold tkX; rw [decide_eq_false]; omega
theorem tkX_step (h : Fit P (live S)) {i y s q : Nat} (hi : i < P.R) (hq : q < P.R) (h1 : gF P i ≤ y) (h2 : y < gT P i) (hs : SrcOf P S y s) : tkX P (live S) (gF P i) (y + 1) q = if q = P.reg s then true else tkX P (live S) (gF P i) y q := by
  obtain ⟨a1, a2, a3, a4⟩ := hs
  obtain ⟨b1, b2, b3, _⟩ := h.src hi h1 h2 a1 a2 a3 a4
  by_cases hqs : q = P.reg s
  · rw [if_pos hqs]
    unfold tkX
    rw [decide_eq_true]
    subst hqs
    omega
  · rw [if_neg hqs]
    have hne : ¬ (goesR P (live S) q ≤ y ∧ y < goesR P (live S) q + mvR P (live S) q) := fun hh => hqs (h.same hq b1 hh.1 hh.2 b2 b3)
    unfold tkX
    apply decide_eq_decide.2
    constructor
    · intro _; omega
    · intro _; omega
theorem tkX_all (h : Fit P (live S)) {i q : Nat} (hi : i < P.R) (hq : q < P.R) (hg : gF P i < gT P i) : tkX P (live S) (gF P i) (gT P i) q = tkB P (live S) i q := by
  by_cases ht : tkB P (live S) i q = true
  · rw [ht]
    obtain ⟨x, x1, x2, x3, x4⟩ := h.word hi hq ht
    unfold tkX
    rw [decide_eq_true]
    omega
  · have ht2 : tkB P (live S) i q = false := by simpa using ht
    rw [ht2]
    unfold tkX
    rw [decide_eq_false]
    intro hm
    apply ht
    obtain ⟨g1, g2, g3, g4⟩ := h.goal hg
    have hx : P.reg (max (gF P i) (goesR P (live S) q)) = i := PN.reg_of h.ok hi (by omega) (by omega)
    unfold tkB
    rw [decide_eq_true]
    refine ⟨by omega, ?_, ?_⟩
    · rw [← hx]; exact PN.reg_mono P (by omega)
    · rw [← hx]; exact PN.reg_mono P (by omega)
theorem goal_two (P : PN) (i : Nat) : gF P i = gT P i ∨ gF P i < gT P i := by
  unfold gF gT
  split
  · right; omega
  · left; rfl
/-- Without a goal a region takes nothing. -/
theorem tk_none (h : Fit P (live S)) {i q : Nat} (hi : i < P.R) (hq : q < P.R) (hg : gF P i = gT P i) : tkB P (live S) i q = false := by
  by_cases ht : tkB P (live S) i q = true
  · have := h.tk_goal hq hi ht
    omega
  · simpa using ht
/-- How many of the first r regions take out of q. -/
def wt0 (P : PN) (L : Nat → Bool) (q r : Nat) : Nat := cnt (wtB P L (fun _ => false) q) r
theorem wt0_step (L : Nat → Bool) (q r : Nat) : wt0 P L q (r + 1) = wt0 P L q r + (tkB P L r q && decide (r ≠ q)).toNat := by
  unfold wt0
  rw [cnt]
  congr 2
  unfold wtB
  simp
theorem wt0_le (L : Nat → Bool) (q r : Nat) : wt0 P L q r ≤ r := cnt_le _ _
theorem tkR_none (L : Nat → Bool) {r : Nat} (s : Nat) (hg : gF P r = gT P r) : tkR P L r s = 0 := by unfold tkR; rw [if_pos hg]
theorem tkR_first (h : Fit P (live S)) {r x : Nat} (hg : gF P r < gT P r) (hs : SrcOf P S (gF P r) x) : tkR P (live S) r 0 = (P.reg x : Nat) := by
  unfold tkR
  rw [if_neg (by omega), if_pos rfl, src_org h hs]
  omega
theorem tkR_last (h : Fit P (live S)) {r x : Nat} (hg : gF P r < gT P r) (hs : SrcOf P S (gT P r - 1) x) : tkR P (live S) r 1 = (P.reg x : Nat) + 1 := by
  unfold tkR
  rw [if_neg (by omega), if_neg (by decide), src_org h hs]
  omega
end
end Go.Proofs.YtpeglndlhjnaaaaGreatDoor

/-
  The document's plan (ballastref13): Make.
-/
namespace Go.Proofs.YtpeglndlhjnaaaaGreatDoor
open Go.RowKit Bt
set_option linter.unusedVariables false
set_option linter.unusedSimpArgs false

theorem cells_new13 (w : World) (c : Array Value) (t : TypeId) (g : Nat) (hg : g = w.heap.size) : ∀ j u, c.toList[j]? = some u → (w.alloc (.cells c t)).cell? ((⟨g, 0, none⟩ : Addr).add j) = some u := by
  intro j u hj
  subst hg
  rw [show Addr.add ⟨w.heap.size, 0, none⟩ j = ⟨w.heap.size, j, none⟩ by simp [Addr.add]; intro e; omega, cell_of_heap (heap_alloc_new _ _)]
  simpa using hj
/-- Where a block crosses a place, Over tells that block. -/
theorem cross_over {n : Nat} {S : Nat → Nat} {D : Nat} {a z : Int} {t : Bool} (hs : Bl n S) (h : IsOver S (D : Int) a z t) (hc : crS S D = true) : ∃ k : Nat, a = k ∧ z = (S k : Nat) ∧ k < D ∧ D < k + S k ∧ k + S k ≤ n := by
  unfold crS at hc
  rw [bo_true] at hc
  obtain ⟨b, h1, h2⟩ := hc
  have hb := hs.into b (by omega)
  rcases h with ⟨k, j, hj, hcv, rfl, rfl, rfl⟩ | ⟨hno, rfl, rfl, rfl⟩
  · have hjx : j = D := by omega
    subst hjx
    have hk : k = b := hs.one (k := j) hcv ⟨by omega, h2⟩
    subst hk
    exact ⟨k, rfl, rfl, h1, h2, hb⟩
  · exact absurd ⟨by omega, h2⟩ (hno b D rfl)
theorem cross_no {S : Nat → Nat} {D : Nat} (hc : crS S D = false) : NoCut S D := by
  unfold crS at hc
  rw [bo_false] at hc
  exact fun a h1 h2 => hc ⟨a, h1, h2⟩

/-- On the way through the document's Make: the plan's block, the result's block. -/
structure Dm (w wi : World) (pb rb : Nat) (P : PN) (l a wt tk : Value) : Prop where
  t : Turned [] w wi
  p : Pb wi pb P l a wt tk
  r : Pb wi rb ⟨0, 0, 0, 0, 0⟩ (.slice none 0 0) (.slice none 0 0) (.slice none 0 0) (.slice none 0 0)
  nr : rb ≠ pb
  np : w.heap.size ≤ pb
  nq : w.heap.size ≤ rb
section
variable {w wi wj : World} {pb rb : Nat} {P : PN} {l a wt tk : Value}
theorem Dm.turned0 (h : Dm w wi pb rb P l a wt tk) (t : Turned [] wi wj) : Dm w wj pb rb P l a wt tk :=
  ⟨h.t.trans t, h.p.turned0 t, h.r.turned0 t, h.nr, h.np, h.nq⟩
theorem Dm.set (h : Dm w wi pb rb P l a wt tk) (i : Nat) (v : Value) {P' : PN} {l' a' wt' tk' : Value} (he : (plC P l a wt tk).setIfInBounds i v = plC P' l' a' wt' tk') : Dm w (wi.setCell ⟨pb, i, none⟩ v) pb rb P' l' a' wt' tk' := by
  have t : Turned [pb] wi (wi.setCell ⟨pb, i, none⟩ v) := (Turned.refl [pb] wi).setCell (p := ⟨pb, i, none⟩) (.inl (by simp)) v
  refine ⟨h.t.setCell (p := ⟨pb, i, none⟩) (.inr h.np) v, ?_, h.r.turned t (by simp; exact h.nr), h.nr, h.np, h.nq⟩
  unfold Pb
  rw [heap_setCell_at _ _ _ _ _ _ h.p, he]
/-- A row of one's own has grown: the plan's blocks stay. -/
theorem Dm.grown (h : Dm w wi pb rb P l a wt tk) {B : Nat} {v : Value} {n : Nat} {xs : List Value} (ho : wi.ownsRow B 3 1 v n xs) (o : Obj) (hg : (wi.alloc o).grownBy wj v.ownBlock) (hB : w.heap.size ≤ B) : Dm w wj pb rb P l a wt tk := by
  have hb : ∀ {y : Nat} {Q : PN} {u0 u1 u2 u3 : Value}, Pb wi y Q u0 u1 u2 u3 → Pb wj y Q u0 u1 u2 u3 := fun {y Q u0 u1 u2 u3} hy => by
    unfold Pb
    rw [hg.block y (by have := hy.lt; simp; omega) (fun hh => by
      obtain ⟨_, _, c2, hc2⟩ := ownsRow_lt ho y hh.symm
      exact ne_of_type hc2 hy (by decide) rfl)]
    rw [Below.heap_alloc _ _ _ hy.lt]
    exact hy
  exact ⟨(h.t.alloc o).grown hg (fun i hi => .inr (by have := (ownsRow_lt ho i hi).1; omega)), hb h.p, hb h.r, h.nr, h.np, h.nq⟩
/-- A store into the plan leaves a row of one's own. -/
theorem own_off (hp : Pb wi pb P l a wt tk) {B : Nat} {v : Value} {n : Nat} {xs : List Value} (ho : wi.ownsRow B 3 1 v n xs) (i : Nat) (u : Value) : (wi.setCell ⟨pb, i, none⟩ u).ownsRow B 3 1 v n xs := by
  have t : Turned [pb] wi (wi.setCell ⟨pb, i, none⟩ u) := (Turned.refl [pb] wi).setCell (p := ⟨pb, i, none⟩) (.inl (by simp)) u
  refine ownsRow_keep ho (fun k hk => t.block k (ownsRow_lt ho k hk).2.1 (fun hh => ?_))
  obtain ⟨_, _, c2, hc2⟩ := ownsRow_lt ho k hk
  have : k = pb := by simpa using hh
  exact ne_of_type hc2 hp (by decide) this
theorem Pb.keep3 (hp : Pb wi pb P l a wt tk) (v : Value) : (wi.setCell ⟨pb, 4, none⟩ v).cell? ⟨pb, 3, none⟩ = some (.int .i64 (P.d : Int)) := by
  rw [cell_of_heap (heap_setCell_at _ _ _ _ _ _ hp v)]; rfl
theorem Pb.keep36 (hp : Pb wi pb P l a wt tk) (v : Value) : (wi.setCell ⟨pb, 6, none⟩ v).cell? ⟨pb, 3, none⟩ = some (.int .i64 (P.d : Int)) := by
  rw [cell_of_heap (heap_setCell_at _ _ _ _ _ _ hp v)]; rfl
theorem own_grown {B1 B2 : Nat} {v1 v2 : Value} {n1 n2 : Nat} {x1 x2 : List Value} (h1 : wi.ownsRow B1 3 1 v1 n1 x1) (h2 : wi.ownsRow B2 3 1 v2 n2 x2) (o : Obj) (hg : (wi.alloc o).grownBy wj v2.ownBlock) (hlt : ∀ k, v1.ownBlock = some k → k < B2) : wj.ownsRow B1 3 1 v1 n1 x1 := by
  refine ownsRow_keep h1 (fun k hk => ?_)
  have hk1 := (ownsRow_lt h1 k hk).2.1
  rw [hg.block k (by simp; omega) (fun hh => by
    have := (ownsRow_lt h2 k hh.symm).1
    have := hlt k hk
    omega), Below.heap_alloc _ _ _ hk1]
theorem of_wanted13 {c : Prop} [Decidable c] {A B : Prop} (h : c) (hA : A) : if c then A else B := by rw [if_pos h]; exact hA
theorem wp_append13 (w : World) {o : Oper} {a : Act} {K : Act → World → Prop} {Q : Exit → Act → World → Prop} (s x : Operand)
    (ho : o.op = .call { callee := .builtin .append, args := #[s, x], argTypes := #[23, 23] }) (B : Nat) (v : Value) (n : Nat) (xs : List Value) (hs : a.eval s = v) (h : w.ownsRow B 3 1 v n xs) (sb : Nat) (c : Int) (hx : a.eval x = .slice (some ⟨sb, 0, none⟩) 1 1) (hX : w.cell? ⟨sb, 0, none⟩ = some (.int .i64 c)) (hn : n ≤ 1000000) (hB : B ≤ w.heap.size)
    (hK : ∀ ao cap w', w'.ownsRow B 3 1 (.slice ao (n + 1) cap) (n + 1) (xs ++ [.int .i64 c]) → w.grownBy w' v.ownBlock → K (a.put o.dst (.slice ao (n + 1) cap)) w') : o.wp Tryz.prog a w K Q := by
  obtain ⟨i0, hi, hi0⟩ := Option.map_eq_some_iff.1 Tryz.infoInt
  simp only [Prod.mk.injEq] at hi0
  obtain ⟨hz0, hz1, hz2⟩ := hi0
  refine wp_append_own (P := Tryz.prog) w s x 23 ho B 3 i0 _ 1 8 Tryz.underlying23 hi hz0 hz1 hz2 rfl (by decide) v n xs hs h ⟨sb, 0, none⟩ 1 1 [.int .i64 c] hx rfl (fun j u hu => ?_) (ints_oneCell .i64 [c]) (by unfold maxLen; omega) (by omega) hB (fun v' w' h2 h3 _ => ?_)
  · cases j with
    | zero => rw [Addr.add_lit]; simp at hu; subst hu; exact hX
    | succ j => simp at hu
  · obtain ⟨-, ao, cap, hv, -⟩ := ownsRow_any h2
    subst hv
    exact hK ao cap w' h2 h3
theorem own_turned {B : Nat} {v : Value} {n : Nat} {xs : List Value} (ho : wi.ownsRow B 3 1 v n xs) (t : Turned [] wi wj) : wj.ownsRow B 3 1 v n xs :=
  ownsRow_keep ho (fun i hi => t.block i (ownsRow_lt ho i hi).2.1 (by simp))
end
/-- The most regions of the first r that may stay. -/
def PackT (P : PN) (L : Nat → Bool) (waste r K : Nat) : Prop := K ≤ r ∧ deadTo P L (P.ed K) ≤ waste ∧ (K = r ∨ waste < deadTo P L (P.ed (K + 1)))
theorem PackT.zero {P : PN} (h : P.Ok) (L : Nat → Bool) (waste : Nat) : PackT P L waste 0 0 := ⟨Nat.le_refl _, by rw [PN.ed_zero h]; unfold deadTo; omega, .inl rfl⟩
theorem PackT.yes {P : PN} (h : P.Ok) {L : Nat → Bool} {waste r K : Nat} (hp : PackT P L waste r K) (hd : deadTo P L (P.ed (r + 1)) ≤ waste) : PackT P L waste (r + 1) (r + 1) := ⟨Nat.le_refl _, hd, .inl rfl⟩
theorem PackT.no {P : PN} (h : P.Ok) {L : Nat → Bool} {waste r K : Nat} (hp : PackT P L waste r K) (hd : waste < deadTo P L (P.ed (r + 1))) : PackT P L waste (r + 1) K := by
  refine ⟨by have := hp.1; omega, hp.2.1, .inr ?_⟩
  rcases hp.2.2 with rfl | h2
  · exact hd
  · exact h2
/-- Dead words of the region, as Make adds them. -/
theorem dead_next {P : PN} (h : P.Ok) (L : Nat → Bool) (r : Nat) : (deadTo P L (P.ed r) : Int) + P.ed (r + 1) - P.ed r - ((cnt L (P.ed (r + 1)) - cnt L (P.ed r) : Nat) : Int) = (deadTo P L (P.ed (r + 1)) : Nat) := by
  have h1 := dd_succ h L r
  unfold ddR lvR at h1
  have h2 := PN.ed_mono P (show r ≤ r + 1 by omega)
  have h3 := cnt_gap L h2
  omega

/-- Numbers in a row. -/
def rowOf (g : Nat → Nat) (r : Nat) : List Value := (List.range r).map fun i => Value.int .i64 (g i : Nat)
theorem rowOf_succ (g : Nat → Nat) (r : Nat) : rowOf g (r + 1) = rowOf g r ++ [Value.int .i64 (g r : Nat)] := by unfold rowOf; rw [List.range_succ, List.map_append]; rfl

/-- All lists are there: the plan, its result, two rows that were appended to, two that were made. -/
structure D3 (w wi : World) (pb rb wq tq R : Nat) (P : PN) (l av : Value) (b1 b2 : Nat) (x1 x2 : List Value) : Prop where
  m : Dm w wi pb rb P l av (slc wq R) (slc tq R)
  ol : wi.ownsRow b1 3 1 l R x1
  oa : wi.ownsRow b2 3 1 av R x2
  nl : ∀ k, l.ownBlock = some k → k < wq
  na : ∀ k, av.ownBlock = some k → k < wq
  nw : w.heap.size ≤ wq
  nt : w.heap.size ≤ tq
section
variable {w wi wj : World} {pb rb wq tq R : Nat} {P : PN} {l av : Value} {b1 b2 : Nat} {x1 x2 : List Value}
theorem D3.turned0 (h : D3 w wi pb rb wq tq R P l av b1 b2 x1 x2) (t : Turned [] wi wj) : D3 w wj pb rb wq tq R P l av b1 b2 x1 x2 :=
  ⟨h.m.turned0 t, own_turned h.ol t, own_turned h.oa t, h.nl, h.na, h.nw, h.nt⟩
theorem own_at {B : Nat} {v : Value} {n : Nat} {xs : List Value} (ho : wi.ownsRow B 3 1 v n xs) {x : Nat} (t : Turned [x] wi wj) (hx : v.ownBlock ≠ some x) : wj.ownsRow B 3 1 v n xs :=
  ownsRow_keep ho (fun i hi => t.block i (ownsRow_lt ho i hi).2.1 (by simp; intro e; subst e; exact hx hi))
theorem Dm.at {wt tk : Value} (h : Dm w wi pb rb P l av wt tk) {x : Nat} (t : Turned [x] wi wj) (hx : w.heap.size ≤ x) (hp : x ≠ pb) (hr : x ≠ rb) : Dm w wj pb rb P l av wt tk :=
  ⟨h.t.trans_new t (by simp; exact hx), h.p.turned t (by simp; exact fun e => hp e.symm), h.r.turned t (by simp; exact fun e => hr e.symm), h.nr, h.np, h.nq⟩
/-- A store into another block. -/
theorem D3.at (h : D3 w wi pb rb wq tq R P l av b1 b2 x1 x2) {x : Nat} (t : Turned [x] wi wj) (hx : w.heap.size ≤ x) (hp : x ≠ pb) (hr : x ≠ rb) (hl : l.ownBlock ≠ some x) (ha : av.ownBlock ≠ some x) : D3 w wj pb rb wq tq R P l av b1 b2 x1 x2 :=
  ⟨h.m.at t hx hp hr, own_at h.ol t hl, own_at h.oa t ha, h.nl, h.na, h.nw, h.nt⟩
theorem D3.other (h : D3 w wi pb rb wq tq R P l av b1 b2 x1 x2) {x : Nat} {c : Array Value} {e : TypeId} (hb : wi.heap[x]? = some (.cells c e)) (h1 : e ≠ 42) (h2 : e ≠ 3) (hx : w.heap.size ≤ x) (t : Turned [x] wi wj) : D3 w wj pb rb wq tq R P l av b1 b2 x1 x2 := by
  refine h.at t hx (ne_of_type hb h.m.p h1) (ne_of_type hb h.m.r h1) (fun hh => ?_) (fun hh => ?_)
  · obtain ⟨_, _, c2, hc2⟩ := ownsRow_lt h.ol x hh
    exact ne_of_type hb hc2 h2 rfl
  · obtain ⟨_, _, c2, hc2⟩ := ownsRow_lt h.oa x hh
    exact ne_of_type hb hc2 h2 rfl
/-- A store into the row of waits. -/
theorem D3.setw (h : D3 w wi pb rb wq tq R P l av b1 b2 x1 x2) {g : Nat → Int} (hw : Ri wi 3 wq R g) (t : Turned [wq] wi wj) : D3 w wj pb rb wq tq R P l av b1 b2 x1 x2 := by
  obtain ⟨c, hc, _⟩ := hw
  exact h.at t h.nw (ne_of_type hc h.m.p (by decide)) (ne_of_type hc h.m.r (by decide)) (fun hh => by have := h.nl _ hh; omega) (fun hh => by have := h.na _ hh; omega)
theorem D3.sett (h : D3 w wi pb rb wq tq R P l av b1 b2 x1 x2) {g : Nat → Nat → Int} (hw : Rp wi tq R g) (t : Turned [tq] wi wj) : D3 w wj pb rb wq tq R P l av b1 b2 x1 x2 := by
  obtain ⟨c, hc, _⟩ := hw
  exact h.other hc (by decide) (by decide) h.nt t
theorem D3.setb (h : D3 w wi pb rb wq tq R P l av b1 b2 x1 x2) {bq n : Nat} {g : Nat → Bool} (hw : Rb wi bq n g) (hb : w.heap.size ≤ bq) (t : Turned [bq] wi wj) : D3 w wj pb rb wq tq R P l av b1 b2 x1 x2 := by
  obtain ⟨c, hc, _⟩ := hw
  exact h.other hc (by decide) (by decide) hb t
end
theorem make_pairs (n : Nat) (hn : n ≤ 65536) : ∀ w : World, (Instr.makeSlice 40 (.int .i64 (n : Int)) (.int .i64 (n : Int))).run Tryz.prog w = .ok (.slice (some ⟨w.heap.size, 0, none⟩) n n) (w.alloc (.cells (madeCells #[Value.int .i64 0, Value.int .i64 0] (n * 2)) 139)) := fun w => by
  obtain ⟨i0, hi, hi0⟩ := Option.map_eq_some_iff.1 Tryz.infoTwo
  simp only [Prod.mk.injEq] at hi0
  obtain ⟨hz0, hz1, hz2⟩ := hi0
  have hr := run_make (P := Tryz.prog) w 40 139 i0 (.agg #[.int .i64 0, .int .i64 0]) Tryz.underlying40 hi hz0 .i64 .i64 n n (by omega) (by omega) (by rw [hz2]; omega) (by omega)
  simp only [hz1, Int.toNat_natCast, Nat.mul_one] at hr
  exact hr
theorem new_pairs (w : World) (n : Nat) : Rp (w.alloc (.cells (madeCells #[Value.int .i64 0, Value.int .i64 0] (n * 2)) 139)) w.heap.size n (fun _ _ => 0) := ⟨_, heap_alloc_new _ _, fun i s hi hs => made_two n i s hi hs⟩
/-- A plan that the document's Make has made: its lists in memory. -/
structure DPl (w : World) (P : PN) (S : Nat → Nat) (l a : Value) (wq tq : Nat) : Prop where
  lv : ∃ B, w.ownsRow B 3 1 l P.R (rowOf (lvR P (live S)) P.R)
  ah : ∃ B, w.ownsRow B 3 1 a P.R (rowOf (ahR P (live S)) P.R)
  wt : Ri w 3 wq P.R (fun r => (wtR P (live S) r : Nat))
  tk : Rp w tq P.R (fun r s => tkR P (live S) r s)
theorem DPl.turned0 {w w' : World} {P : PN} {S : Nat → Nat} {l a : Value} {wq tq : Nat} (h : DPl w P S l a wq tq) (t : Turned [] w w') : DPl w' P S l a wq tq := by
  obtain ⟨B1, h1⟩ := h.lv
  obtain ⟨B2, h2⟩ := h.ah
  exact ⟨⟨B1, own_turned h1 t⟩, ⟨B2, own_turned h2 t⟩, h.wt.turned0 t, h.tk.turned0 t⟩
theorem rowOf_congr {g g' : Nat → Nat} {r : Nat} (h : ∀ i, g i = g' i) : rowOf g r = rowOf g' r := by unfold rowOf; simp [h]
end Go.Proofs.YtpeglndlhjnaaaaGreatDoor
