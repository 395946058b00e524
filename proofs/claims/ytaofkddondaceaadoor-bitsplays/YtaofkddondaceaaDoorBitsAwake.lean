/-
  awake: the answers that the document fixes.
-/
import Derived.Test.YtaofkddondaceaaDoorBitsNew
namespace Go.Proofs.YtaofkddondaceaaDoor
open Go.RowKit
set_option linter.unusedVariables false

def S0 : Nat → Nat := fun _ => 0
def S1 : Nat → Nat := upd S0 10 5
def S2 : Nat → Nat := upd S1 15 3
theorem S1_at (k : Nat) : S1 k = if k = 10 then 5 else 0 := rfl
theorem S2_at (k : Nat) : S2 k = if k = 15 then 3 else if k = 10 then 5 else 0 := rfl
theorem live0 (k : Nat) : live S0 k = false := by
  unfold live; rw [bo_false]
  rintro ⟨a, h1, h2⟩
  unfold S0 at h2
  omega
theorem live1 (k : Nat) : live S1 k = decide (10 ≤ k ∧ k < 15) := by
  rw [Bool.eq_iff_iff]
  unfold live
  rw [bo_true, decide_eq_true_eq]
  constructor
  · rintro ⟨a, h1, h2⟩
    rw [S1_at] at h2
    split at h2 <;> omega
  · intro h
    exact ⟨10, by omega, by rw [S1_at, if_pos rfl]; omega⟩
theorem live2 (k : Nat) : live S2 k = decide (10 ≤ k ∧ k < 18) := by
  rw [Bool.eq_iff_iff]
  unfold live
  rw [bo_true, decide_eq_true_eq]
  constructor
  · rintro ⟨a, h1, h2⟩
    rw [S2_at] at h2
    split at h2
    · omega
    · split at h2 <;> omega
  · intro h
    by_cases h1 : k < 15
    · exact ⟨10, by omega, by rw [S2_at, if_neg (by omega), if_pos rfl]; omega⟩
    · exact ⟨15, by omega, by rw [S2_at, if_pos rfl]; omega⟩
theorem mark_free {n : Nat} {S : Nat → Nat} {x z : Int} (h1 : 0 ≤ x ∧ x < n) (h2 : 1 ≤ z ∧ z ≤ n - x) (h3 : S x.toNat = 0) (h4 : Free S x.toNat z.toNat) : markT n S x z = (true, 0, upd S x.toNat z.toNat) := by
  unfold markT
  rw [if_neg (by simpa using h1), if_neg (by omega), if_neg (by omega), if_pos h4]
theorem mark_again {n : Nat} {S : Nat → Nat} {x z : Int} (h1 : 0 ≤ x ∧ x < n) (h2 : 1 ≤ z ∧ z ≤ n - x) (h3 : 0 < S x.toNat) : markT n S x z = (false, 0, S) := by
  unfold markT
  rw [if_neg (by simpa using h1), if_neg (by omega), if_pos h3]
theorem mark_over {n : Nat} {S : Nat → Nat} {x z : Int} (h1 : 0 ≤ x ∧ x < n) (h2 : 1 ≤ z ∧ z ≤ n - x) (h3 : S x.toNat = 0) (h4 : ¬ Free S x.toNat z.toNat) : markT n S x z = (false, 11, S) := by
  unfold markT
  rw [if_neg (by simpa using h1), if_neg (by omega), if_neg (by omega), if_neg h4]
theorem mark_big {n : Nat} {S : Nat → Nat} {x z : Int} (h1 : 0 ≤ x ∧ x < n) (h2 : z < 1 ∨ n - x < z) : markT n S x z = (false, 11, S) := by
  unfold markT
  rw [if_neg (by simpa using h1), if_pos h2]
theorem m1_eq : markT 100 S0 10 5 = (true, 0, S1) := mark_free (by omega) (by omega) rfl (fun k _ _ => live0 k)
theorem m2_eq : markT 100 S1 10 5 = (false, 0, S1) := mark_again (by omega) (by omega) (by decide)
theorem m3_eq : markT 100 S1 14 1 = (false, 11, S1) := mark_over (by omega) (by omega) rfl (fun h => by
  have := h 14 (by decide) (by decide)
  rw [live1] at this
  exact absurd this (by decide))
theorem m4_eq : markT 100 S1 15 3 = (true, 0, S2) := mark_free (by omega) (by omega) rfl (fun k h1 h2 => by
  rw [live1, decide_eq_false]
  have h3 : (15 : Int).toNat = 15 := rfl
  rw [h3] at h1
  omega)
theorem m5_eq : markT 100 S2 99 2 = (false, 11, S2) := mark_big (by omega) (by omega)
theorem bl1 : Bl 100 S1 := by have := markT_bl (Bl.none 100) 10 5; rw [show (fun _ => 0 : Nat → Nat) = S0 from rfl, m1_eq] at this; exact this
theorem bl2 : Bl 100 S2 := by have := markT_bl bl1 15 3; rw [m4_eq] at this; exact this
theorem cl_eq : cntIn (live S2) 0 100 = 8 := by
  have : live S2 = fun k => decide (10 ≤ k ∧ k < 18) := funext live2
  rw [this]; decide +kernel
theorem cl2_eq : cntIn (live S2) 12 16 = 4 := by
  have : live S2 = fun k => decide (10 ≤ k ∧ k < 18) := funext live2
  rw [this]; decide +kernel
theorem cc_eq : cntIn (begs S2) 0 15 = 1 := by decide +kernel
theorem IsNext.uniq {f : Nat → Bool} {a b : Nat} {r s : Int} (h : IsNext f a b r) (k : IsNext f a b s) : r = s := by
  rcases h with ⟨rfl, h1⟩ | ⟨i, rfl, h1, h2, h3, h4⟩ <;> rcases k with ⟨rfl, k1⟩ | ⟨j, rfl, k1, k2, k3, k4⟩
  · rfl
  · rw [h1 j k1 k2] at k3; cases k3
  · rw [k1 i h1 h2] at h3; cases h3
  · rcases Nat.lt_trichotomy i j with h5 | h5 | h5
    · rw [k4 i h1 h5] at h3; cases h3
    · rw [h5]
    · rw [h4 j k1 h5] at k3; cases k3
theorem nx_eq {r : Int} (h : IsNext (begs S2) 11 100 r) : r = 15 := by
  refine h.uniq (.inr ⟨15, rfl, by omega, by omega, by decide, fun j h1 h2 => ?_⟩)
  unfold begs
  rw [S2_at, if_neg (by omega), if_neg (by omega)]
  rfl
theorem IsOver.at {n : Nat} {S : Nat → Nat} (h : Bl n S) {k j : Nat} {a z : Int} {t : Bool} (hc : Cov S k j) (ho : IsOver S j a z t) : a = k ∧ z = S k ∧ t = true := by
  rcases ho with ⟨k2, j2, h1, h2, h3, h4, h5⟩ | ⟨h1, _⟩
  · have h6 : j2 = j := by omega
    subst h6
    have h7 := h.one h2 hc
    subst h7
    exact ⟨h3, h4, h5⟩
  · exact absurd hc (h1 k j rfl)
theorem ov_eq {a z : Int} {t : Bool} (h : IsOver S2 13 a z t) : a = 10 ∧ z = 5 ∧ t = true := by
  have := IsOver.at bl2 (k := 10) (j := 13) (by unfold Cov; rw [S2_at]; decide) h
  exact this
theorem ov2_eq {a z : Int} {t : Bool} (h : IsOver S2 9 a z t) : t = false := by
  rcases h with ⟨k, j, h1, h2, _⟩ | ⟨_, _, _, h⟩
  · exfalso
    have h3 : j = 9 := by omega
    subst h3
    have h4 : live S2 9 = true := by unfold live; rw [bo_true]; exact ⟨k, h2⟩
    rw [live2] at h4
    exact absurd h4 (by decide)
  · exact h

set_option maxHeartbeats 1000000 in
theorem awake_any (w : World) (hT : Tab w) :
    Calls Tryd.prog 9 #[] w fun e w' => e = .returned (.bool true) ∧ Turned [] w w' := by
  have HN := hide (new_any 100 w (by unfold In64; omega) hT)
  have hk : kp 65536 100 = 100 := by decide
  rw [hk] at HN
  clear hk
  go_enter Tryd.func9, Tryd.ntmps9
  go_wp2_with fail
  refine (HN.out).mono ?_
  rintro e w1 ⟨p, q, rfl, hb1, hp1, hq1, ht1⟩
  have H1 := hide (mark_any p q 100 S0 10 5 w1 hb1 (Bl.none 100) (by unfold In64; omega))
  have HP := hide (And.intro hp1 hq1)
  have HT1 := hide ht1
  rw [m1_eq] at H1
  clear hb1 hp1 hq1 ht1
  go_wp2_with fail
  refine (H1.out).mono ?_
  rintro e w2 ⟨rfl, hb2, ht2⟩
  have H2 := hide (mark_any p q 100 S1 10 5 w2 hb2 bl1 (by unfold In64; omega))
  have HT2 := hide (HT1.out.trans_new ht2 (fun i hi => by simp at hi; subst hi; exact .inr HP.out.2))
  rw [m2_eq] at H2
  clear hb2 ht2 HT1 H1
  go_wp2_with fail
  refine (H2.out).mono ?_
  rintro e w3 ⟨rfl, hb3, ht3⟩
  have H3 := hide (mark_any p q 100 S1 14 1 w3 hb3 bl1 (by unfold In64; omega))
  have HT3 := hide (HT2.out.trans_new ht3 (fun i hi => by simp at hi; subst hi; exact .inr HP.out.2))
  rw [m3_eq] at H3
  clear hb3 ht3 HT2 H2
  go_wp2_with fail
  refine (H3.out).mono ?_
  rintro e w4 ⟨rfl, hb4, ht4⟩
  have H4 := hide (mark_any p q 100 S1 15 3 w4 hb4 bl1 (by unfold In64; omega))
  have HT4 := hide (HT3.out.trans_new ht4 (fun i hi => by simp at hi; subst hi; exact .inr HP.out.2))
  rw [m4_eq] at H4
  clear hb4 ht4 HT3 H3
  go_wp2_with fail
  refine (H4.out).mono ?_
  rintro e w5 ⟨rfl, hb5, ht5⟩
  have H5 := hide (mark_any p q 100 S2 99 2 w5 hb5 bl2 (by unfold In64; omega))
  have HT5 := hide (HT4.out.trans_new ht5 (fun i hi => by simp at hi; subst hi; exact .inr HP.out.2))
  rw [m5_eq] at H5
  clear hb5 ht5 HT4 H4
  go_wp2_with fail
  refine (H5.out).mono ?_
  rintro e w6 ⟨rfl, hb6, ht6⟩
  have HT6 := hide (HT5.out.trans_new ht6 (fun i hi => by simp at hi; subst hi; exact .inr HP.out.2))
  have HB := hide hb6
  have HO := hide (over_any (some ⟨p, 0, none⟩) 100 S2 13 w6 hb6.brd bl2)
  clear hb6 ht6 HT5 H5
  go_wp2_with fail
  refine (HO.out).mono ?_
  rintro e w7 ⟨a7, z7, t7, rfl, ho7, m7, rfl⟩
  obtain ⟨rfl, rfl, rfl⟩ := ov_eq ho7
  clear ho7
  have HO2 := hide (over_any (some ⟨p, 0, none⟩) 100 S2 9 (w6.drewN m7) (HB.out.drewN m7).brd bl2)
  go_wp2_with fail
  refine (HO2.out).mono ?_
  rintro e w8 ⟨a8, z8, t8, rfl, ho8, m8, rfl⟩
  have ht8 := ov2_eq ho8
  subst ht8
  clear ho8 HO HO2
  have HB8 := hide ((HB.out.drewN m7).drewN m8)
  have HT8 := hide ((HT6.out.drewN m7).drewN m8)
  generalize (w6.drewN m7).drewN m8 = w9 at *
  have L1 := hide (live_any (some ⟨p, 0, none⟩) 100 S2 0 100 w9 HB8.out.brd bl2)
  rw [show kp 100 0 = 0 by decide, show kp 100 100 = 100 by decide, cl_eq] at L1
  go_wp2_with fail
  refine (L1.out).mono ?_
  rintro e w10 ⟨rfl, ht10⟩
  have HB10 := hide (HB8.out.turned0 ht10)
  have HT10 := hide (HT8.out.trans ht10)
  clear HB8 HT8 ht10 L1
  have L2 := hide (live_any (some ⟨p, 0, none⟩) 100 S2 12 16 w10 HB10.out.brd bl2)
  rw [show kp 100 12 = 12 by decide, show kp 100 16 = 16 by decide, cl2_eq] at L2
  go_wp2_with fail
  refine (L2.out).mono ?_
  rintro e w11 ⟨rfl, ht11⟩
  have HB11 := hide (HB10.out.turned0 ht11)
  have HT11 := hide (HT10.out.trans ht11)
  clear HB10 HT10 ht11 L2
  have N1 := hide (next_any (some ⟨p, 0, none⟩) 100 _ 11 100 w11 HB11.out.brd)
  rw [show kp 100 11 = 11 by decide, show kp 100 100 = 100 by decide, sidesOf0] at N1
  go_wp2_with fail
  refine (N1.out).mono ?_
  rintro e w12 ⟨r, rfl, hr, m12, rfl⟩
  have hr15 := nx_eq hr
  subst hr15
  have HB12 := hide (HB11.out.drewN m12)
  have HT12 := hide (HT11.out.drewN m12)
  clear HB11 HT11 hr N1
  generalize w11.drewN m12 = w13 at *
  have C1 := hide (count_any (some ⟨p, 0, none⟩) 100 _ 0 15 w13 HB12.out.brd)
  rw [show kp 100 0 = 0 by decide, show kp 100 15 = 15 by decide, sidesOf0, cc_eq] at C1
  go_wp2_with fail
  refine (C1.out).mono ?_
  rintro e w14 ⟨rfl, m14, rfl⟩
  have HB14 := hide (HB12.out.drewN m14)
  have HT14 := hide (HT12.out.drewN m14)
  clear HB12 HT12 C1
  generalize w13.drewN m14 = w15 at *
  have W1 := hide (words_any (some ⟨p, 0, none⟩) 100 _ w15 HB14.out.brd)
  go_wp2_with fail
  refine (W1.out).mono ?_
  rintro e w16 ⟨rfl, rfl⟩
  go_wp2_with fail
  go_ret
  exact ⟨rfl, HT14.out⟩
end Go.Proofs.YtaofkddondaceaaDoor
