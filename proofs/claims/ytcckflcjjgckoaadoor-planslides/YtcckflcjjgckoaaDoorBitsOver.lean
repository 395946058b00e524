/-
  What Size, Over, open and Live tell of blocks that lie apart.
-/
import Derived.Test.YtcckflcjjgckoaaDoorBitsCount
import Derived.Test.YtcckflcjjgckoaaDoorBitsBl
namespace Go.Proofs.YtcckflcjjgckoaaDoor.Bt
open Go.RowKit
set_option linter.unusedVariables false

theorem sidesOf0 (S : Nat → Nat) : sidesOf S 0 = begs S := rfl
theorem sidesOf1 (S : Nat → Nat) : sidesOf S 1 = ends S := rfl

theorem bhas_any (ov : Option Addr) (n : Nat) (S : Nat → Nat) (x : Int) (w : World) (h : Brd w ov n (sidesOf S)) (hs : Bl n S) :
    Calls Tryd.prog 46 #[.pointer ov, .int .i64 x] w fun e w' => e = .returned (.bool (decide (0 < szI S x))) ∧ ∃ m, w' = w.drewN m := by
  have h1 := has_any ov n _ x w h
  have e : (decide (0 ≤ x) && decide (x < n) && sidesOf S 0 x.toNat) = decide (0 < szI S x) := by
    rw [sidesOf0]
    unfold begs szI
    by_cases h0 : 0 ≤ x
    · by_cases h2 : x < n
      · simp [h0, h2]
      · have := hs.far (k := x.toNat) (by omega)
        simp [h0, h2, this]
    · simp [h0]
  rw [e] at h1
  exact h1

theorem size_any (ov : Option Addr) (n : Nat) (S : Nat → Nat) (x : Int) (w : World) (h : Brd w ov n (sidesOf S)) (hs : Bl n S) :
    Calls Tryd.prog 40 #[.pointer ov, .int .i64 x] w fun e w' => e = .returned (.int .i64 (szI S x : Nat)) ∧ ∃ m, w' = w.drewN m := by
  have H := hide (bhas_any ov n S x w h hs)
  by_cases h0 : 0 < szI S x
  · have hx : 0 ≤ x := by unfold szI at h0; split at h0 <;> omega
    obtain ⟨k, rfl⟩ := Int.eq_ofNat_of_zero_le hx
    rw [szI_nat] at h0 H
    rw [szI_nat]
    have hk := hs.into k h0
    obtain ⟨p, q, R, rfl, c0, c1, hR, hc⟩ := h.some_ (by omega)
    have hn := h.few
    have HF := hide (fun m => first_any (some ⟨p, 0, none⟩) n _ 1 k n (w.drewN m) (h.drewN m) (by omega) (by omega) (by omega))
    have ed : decide (0 < S k) = true := decide_eq_true h0
    rw [ed] at H
    have HS := hide hs
    have H0 := hide h0
    clear h hs hc c1 hR h0 ed
    go_enter Tryd.func40, Tryd.ntmps40
    go_wp2_with fail
    refine (H.out).mono ?_
    rintro e w1 ⟨rfl, m, rfl⟩
    go_wp2_with fail
    refine (HF.out m).mono ?_
    rintro e w1 ⟨r, rfl, hr, m2, rfl⟩
    have hr1 := ends_next HS.out H0.out hr
    have hb1 : (S k : Int) ≤ 65536 := by omega
    have hb2 := H0.out
    clear hr
    subst hr1
    go_wp2_with fail
    go_ret
    refine ⟨congrArg (fun z : Int => Ending.returned (.int .i64 z)) ?_, m + m2, by first | rfl | rw [World.drewN_drewN]⟩
    go_num
  · have ez : szI S x = 0 := by omega
    rw [ez] at H ⊢
    clear h0 ez h
    go_enter Tryd.func40, Tryd.ntmps40
    go_wp2_with fail
    refine (H.out).mono ?_
    rintro e w1 ⟨rfl, m, rfl⟩
    go_wp2_with fail
    go_ret
    exact ⟨rfl, m, rfl⟩

theorem over_any (ov : Option Addr) (n : Nat) (S : Nat → Nat) (x : Int) (w : World) (h : Brd w ov n (sidesOf S)) (hs : Bl n S) :
    Calls Tryd.prog 10 #[.pointer ov, .int .i64 x] w fun e w' => ∃ (a z : Int) (t : Bool), e = .returned (.tuple #[.int .i64 a, .int .i64 z, .bool t]) ∧ IsOver S x a z t ∧ ∃ m, w' = w.drewN m := by
  have H := hide (inside_any ov n _ x w h)
  by_cases h0 : 0 ≤ x ∧ x < n
  · have e1 : (decide (0 ≤ x) && decide (x < n)) = true := by simp only [Bool.and_eq_true, decide_eq_true_eq]; exact h0
    rw [e1] at H
    obtain ⟨k, rfl⟩ := Int.eq_ofNat_of_zero_le h0.1
    have hn := h.few
    have HL := hide (lastBegin_any ov n _ k w h (by omega))
    have HZ := hide (fun r m => size_any ov n S r (w.drewN m) (h.drewN m) hs)
    have HS := hide hs
    have hk : k < n := by omega
    clear h hs e1
    go_enter Tryd.func10, Tryd.ntmps10
    go_wp2_with fail
    refine (H.out).mono ?_
    rintro e w1 ⟨rfl, rfl⟩
    go_wp2_with fail
    refine (HL.out).mono ?_
    rintro e w1 ⟨r, rfl, hr, m, rfl⟩
    have HO := hide (last_over HS.out hr)
    have hr1 : -1 ≤ r ∧ r ≤ k := by
      rcases hr with ⟨rfl, _⟩ | ⟨j, rfl, h1, _⟩ <;> omega
    clear hr
    go_wp2_with fail
    refine (HZ.out r m).mono ?_
    rintro e w1 ⟨rfl, m2, rfl⟩
    generalize szI S r = z at *
    by_cases hlt : (k : Int) - r < (z : Int)
    · have HO2 := hide (HO.out)
      rw [if_pos hlt] at HO2
      clear HO
      go_wp2_with fail
      go_ret3
      exact ⟨_, _, _, rfl, HO2.out, m + m2, by first | rfl | rw [World.drewN_drewN]⟩
    · have HO2 := hide (HO.out)
      rw [if_neg hlt] at HO2
      clear HO
      go_wp2_with fail
      go_ret3
      exact ⟨_, _, _, rfl, HO2.out, m + m2, by first | rfl | rw [World.drewN_drewN]⟩
  · have e1 : (decide (0 ≤ x) && decide (x < n)) = false := by
      rw [← Bool.not_eq_true]; simp only [Bool.and_eq_true, decide_eq_true_eq]; exact h0
    rw [e1] at H
    have HO : Hid (IsOver S x 0 0 false) := by
      refine .inr ⟨?_, rfl, rfl, rfl⟩
      intro k j hj hc
      have := hs.into k (by have := hc.1; have := hc.2; omega)
      have := hc.2
      omega
    clear h hs e1
    go_enter Tryd.func10, Tryd.ntmps10
    go_wp2_with fail
    refine (H.out).mono ?_
    rintro e w1 ⟨rfl, rfl⟩
    go_wp2_with fail
    go_ret3
    exact ⟨_, _, _, rfl, HO.out, 0, rfl⟩

theorem open_any (ov : Option Addr) (n : Nat) (S : Nat → Nat) (x : Nat) (w : World) (h : Brd w ov n (sidesOf S)) (hs : Bl n S) :
    Calls Tryd.prog 50 #[.pointer ov, .int .i64 (x : Int)] w fun e w' => e = .returned (.int .u64 ((opn S x).toNat : Nat)) ∧ ∃ m, w' = w.drewN m := by
  have H := hide (over_any ov n S x w h hs)
  go_enter Tryd.func50, Tryd.ntmps50
  go_wp2_with fail
  refine (H.out).mono ?_
  rintro e w1 ⟨a, z, t, rfl, hr, m, rfl⟩
  rcases hr with ⟨k, j, hj, hc, rfl, rfl, rfl⟩ | ⟨hno, rfl, rfl, rfl⟩
  · have hj2 : j = x := by omega
    subst hj2
    by_cases hk : k < j
    · have ho : opn S j = true := by unfold opn; rw [bo_true]; exact ⟨k, hk, hc.2⟩
      go_wp2_with fail
      go_ret
      exact ⟨by rw [ho]; rfl, m, rfl⟩
    · have ho : opn S j = false := by
        unfold opn; rw [bo_false]; rintro ⟨b, h1, h2⟩
        have := hs.one (a := b) (b := k) (k := j) ⟨by omega, h2⟩ hc
        omega
      go_wp2_with fail
      go_ret
      exact ⟨by rw [ho]; rfl, m, rfl⟩
  · have ho : opn S x = false := by
      unfold opn; rw [bo_false]; rintro ⟨b, h1, h2⟩
      exact hno b x rfl ⟨by omega, h2⟩
    go_wp2_with fail
    go_ret
    exact ⟨by rw [ho]; rfl, m, rfl⟩
end Go.Proofs.YtcckflcjjgckoaaDoor.Bt
