/-
  The document's own Count, Live and Over.
-/
import Derived.Test.YtaofkddondaceaaDoorBitsRef
namespace Go.Proofs.YtaofkddondaceaaDoor
open Go.RowKit
set_option linter.unusedVariables false

theorem rcount_any (p q n : Nat) (S : Nat → Nat) (x y : Int) (w : World) (hx : In64 x) (h : RB w p q n S) :
    Calls Tryd.prog 31 #[.pointer (some ⟨p, 0, none⟩), .int .i64 x, .int .i64 y] w fun e w' => e = .returned (.int .i64 (cntIn (begs S) (kp n x) (kp n y) : Nat)) ∧ w' = w := by
  have hn := h.few
  have c0 := h.c0
  have HS := hide (rspan_any p q n S x y w h)
  have HB := hide h
  have hX : 0 ≤ max x 0 ∧ max x 0 ≤ 9223372036854775807 := by unfold In64 at hx; omega
  have hY : min y (n : Int) ≤ 65536 := by omega
  have HK1 := hide (show ∀ i : Nat, i < n → (max x 0 ≤ i ↔ kp n x ≤ i) from fun i hi => by unfold kp; omega)
  have HK2 := hide (show ∀ i : Nat, (i : Int) < min y n ↔ i < kp n y from fun i => by unfold kp; omega)
  have hkx := kp_le n x
  have hky := kp_le n y
  clear h hx
  generalize max x 0 = X at *
  generalize min y (n : Int) = Y at *
  generalize kp n x = a at *
  generalize kp n y = b at *
  obtain ⟨r, er⟩ : ∃ r, r = cntIn (begs S) a b := ⟨_, rfl⟩
  rw [← er]
  have HER := hide er
  clear er
  go_enter Tryd.func31, Tryd.ntmps31
  go_wp2_with fail
  refine (HS.out).mono ?_
  rintro e w1 ⟨rfl, rfl⟩
  go_wp2_with fail
  go_loop [7, 8] (fun v i => ∃ (c : Int) (z : Nat), X ≤ c ∧ (z : Int) ≤ c ∧ i = .int .i64 c ∧ v = .int .i64 z ∧ Hid (z = cnt (inn (begs S) a b) c.toNat)) (fun _ i => (Y - intOf i).toNat)
  case atStart =>
    refine ⟨X, 0, by omega, by omega, rfl, rfl, ?_⟩
    refine (cnt_zero fun k hk => ?_).symm
    unfold inn
    by_cases h1 : k < b
    · have h2 := HK1.out k (by omega)
      have h3 : ¬ a ≤ k := fun h4 => by have := h2.2 h4; omega
      simp [h3]
    · simp [h1]
  case round =>
    obtain ⟨c, z, hc1, hz, rfl, rfl, HZ⟩ := hrel
    by_cases hlt : c < Y
    · obtain ⟨k, rfl⟩ := Int.eq_ofNat_of_zero_le (show 0 ≤ c by omega)
      have hkb := (HK2.out k).1 hlt
      have c1 := HB.out.cell (i := k) (by omega)
      have hsm := HB.out.small k
      have hkn : (k : Int) < (n : Int) := by omega
      have hka := (HK1.out k (by omega)).1 hc1
      have hin : inn (begs S) a b k = begs S k := by unfold inn; simp [hka, hkb]
      have hst : cnt (inn (begs S) a b) (k + 1) = z + (begs S k).toNat := by
        have h1 := HZ.out
        rw [Int.toNat_natCast] at h1
        rw [cnt, hin, ← h1]
      by_cases hs : 0 < S k
      · have hb1 : begs S k = true := by unfold begs; simpa using hs
        rw [hb1] at hst
        have HZ2 : Hid (z + 1 = cnt (inn (begs S) a b) ((k : Int) + 1).toNat) := hide (by rw [show ((k : Int) + 1).toNat = k + 1 by omega, hst]; rfl)
        clear hst hin HZ
        generalize S k = sk at *
        go_wp2_with fail
        go_round
        case rel => exact ⟨(k : Int) + 1, z + 1, by omega, by omega, by go_num, by go_num, HZ2⟩
        case measure => simp [intOf]; omega
      · have hb1 : begs S k = false := by unfold begs; simpa using hs
        rw [hb1] at hst
        have HZ2 : Hid (z = cnt (inn (begs S) a b) ((k : Int) + 1).toNat) := hide (by rw [show ((k : Int) + 1).toNat = k + 1 by omega, hst]; rfl)
        clear hst hin HZ
        have hs0 : S k = 0 := by omega
        rw [hs0] at c1
        go_wp2_with fail
        go_round
        case rel => exact ⟨(k : Int) + 1, z, by omega, by omega, by go_num, rfl, HZ2⟩
        case measure => simp [intOf]; omega
    · have hzr : z = r := by
        rw [HZ.out, HER.out]
        refine cnt_inn _ _ _ _ ?_
        by_cases hb0 : b = 0
        · omega
        · have := (HK2.out (b - 1)).2 (by omega)
          omega
      subst hzr
      have hd : decide (c < Y) = false := decide_eq_false hlt
      go_wp2_with fail
      go_ret
      exact ⟨rfl, rfl⟩

/-- The end of the last block that began ahead of i. -/
def EndAt (S : Nat → Nat) (i en : Nat) : Prop := (en ≤ i ∧ opn S i = false) ∨ ∃ a, a < i ∧ i < a + S a ∧ en = a + S a
theorem end_next {n : Nat} {S : Nat → Nat} (h : Bl n S) {i en : Nat} (he : EndAt S i en) : (live S i = decide (i < if 0 < S i then i + S i else en)) ∧ EndAt S (i + 1) (if 0 < S i then i + S i else en) := by
  have h1 := live_eq h i
  have h2 := opn_succ h i
  have hone : ∀ a, a ≤ i → i < a + S a → a + S a = i + 1 → opn S (i + 1) = false := by
    intro a ha1 ha2 ha3
    unfold opn; rw [bo_false]; rintro ⟨b, h3, h4⟩
    have := h.one (a := a) (b := b) (k := i) ⟨ha1, ha2⟩ ⟨by omega, by omega⟩
    subst this; omega
  by_cases hs : 0 < S i
  · rw [if_pos hs]
    have hl : live S i = true := by unfold live; rw [bo_true]; exact ⟨i, by unfold Cov; omega⟩
    refine ⟨by rw [hl]; simp; omega, ?_⟩
    by_cases h3 : S i = 1
    · exact .inl ⟨by omega, hone i (by omega) (by omega) (by omega)⟩
    · exact .inr ⟨i, by omega, by omega, rfl⟩
  · rw [if_neg hs]
    rcases he with ⟨h3, h4⟩ | ⟨a, h3, h4, h5⟩
    · have hb : begs S i = false := by unfold begs; simpa using hs
      rw [hb, h4] at h1
      have hl : live S i = false := by
        cases hl : live S i
        · rfl
        · rw [hl] at h1; simp at h1
      refine ⟨by rw [hl]; simp; omega, .inl ⟨by omega, ?_⟩⟩
      rw [hl] at h2
      cases ho : opn S (i + 1)
      · rfl
      · rw [ho] at h2; simp at h2
    · have hl : live S i = true := by unfold live; rw [bo_true]; exact ⟨a, by unfold Cov; omega⟩
      refine ⟨by rw [hl]; simp; omega, ?_⟩
      by_cases h6 : i + 1 < a + S a
      · exact .inr ⟨a, by omega, h6, h5⟩
      · exact .inl ⟨by omega, hone a (by omega) h4 (by omega)⟩
theorem end_le {n : Nat} {S : Nat → Nat} (h : Bl n S) {i en : Nat} (hi : i ≤ n) (he : EndAt S i en) : en ≤ n := by
  rcases he with ⟨h3, _⟩ | ⟨a, h3, h4, h5⟩
  · omega
  · have := h.into a (by omega); omega

set_option maxHeartbeats 1000000 in
theorem rlive_any (p q n : Nat) (S : Nat → Nat) (x y : Int) (w : World) (hx : In64 x) (h : RB w p q n S) :
    Calls Tryd.prog 29 #[.pointer (some ⟨p, 0, none⟩), .int .i64 x, .int .i64 y] w fun e w' => e = .returned (.int .i64 (cntIn (live S) (kp n x) (kp n y) : Nat)) ∧ w' = w := by
  have hn := h.few
  have c0 := h.c0
  have HS := hide (rspan_any p q n S x y w h)
  have HB := hide h
  have hX : 0 ≤ max x 0 ∧ max x 0 ≤ 9223372036854775807 := by unfold In64 at hx; omega
  have hY : min y (n : Int) ≤ 65536 := by omega
  have HK1 := hide (show ∀ i : Nat, i < n → (max x 0 ≤ i ↔ kp n x ≤ i) from fun i hi => by unfold kp; omega)
  have HK2 := hide (show ∀ i : Nat, (i : Int) < min y n ↔ i < kp n y from fun i => by unfold kp; omega)
  have hkx := kp_le n x
  have hky := kp_le n y
  clear h hx
  generalize max x 0 = X at *
  generalize min y (n : Int) = Y at *
  generalize kp n x = a at *
  generalize kp n y = b at *
  obtain ⟨r, er⟩ : ∃ r, r = cntIn (live S) a b := ⟨_, rfl⟩
  rw [← er]
  have HER := hide er
  clear er
  go_enter Tryd.func29, Tryd.ntmps29
  go_wp2_with fail
  refine (HS.out).mono ?_
  rintro e w1 ⟨rfl, rfl⟩
  go_wp2_with fail
  go_loop [7, 8, 9] (fun v e_ i => ∃ (k z en : Nat), k ≤ n ∧ z ≤ k ∧ en ≤ n ∧ i = .int .i64 k ∧ v = .int .i64 z ∧ e_ = .int .i64 en ∧ Hid (z = cnt (inn (live S) a b) k) ∧ Hid (EndAt S k en)) (fun _ _ i => (Y - intOf i).toNat)
  case atStart => exact ⟨0, 0, 0, by omega, by omega, by omega, rfl, rfl, rfl, rfl, .inl ⟨by omega, opn_zero S⟩⟩
  case round =>
    obtain ⟨k, z, en, hk, hz, hen, rfl, rfl, rfl, HZ, HE⟩ := hrel
    by_cases hlt : (k : Int) < Y
    · have hkb := (HK2.out k).1 hlt
      have c1 := HB.out.cell (i := k) (by omega)
      have hsm := HB.out.small k
      have hkn : (k : Int) < (n : Int) := by omega
      obtain ⟨hl1, hE2⟩ := end_next HB.out.bl HE.out
      have hen2 := end_le HB.out.bl (by omega) hE2
      have hst : cnt (inn (live S) a b) (k + 1) = z + (decide (a ≤ k) && live S k).toNat := by
        rw [cnt, ← HZ.out]
        unfold inn
        simp [hkb, Bool.and_comm]
      obtain ⟨en', hen'⟩ : ∃ en', en' = if 0 < S k then k + S k else en := ⟨_, rfl⟩
      rw [← hen'] at hl1 hE2 hen2
      have HE2 := hide hE2
      have hxk := HK1.out k (by omega)
      clear hE2 HE HZ
      by_cases hxa : X ≤ (k : Int)
      · have hak := hxk.1 hxa
        by_cases hlv : k < en'
        · have HZ2 : Hid (z + 1 = cnt (inn (live S) a b) (k + 1)) := hide (by rw [hst, hl1]; simp [hak, hlv])
          clear hst hl1 hxk
          by_cases hs : 0 < S k
          · rw [if_pos hs] at hen'
            have hei : (k : Int) + (S k : Int) = (en' : Int) := by omega
            generalize S k = sk at *
            clear hen'
            go_wp2_with fail
            go_round
            case rel => exact ⟨k + 1, z + 1, en', by omega, by omega, hen2, by go_num, by go_num, by go_num, HZ2, HE2⟩
            case measure => simp [intOf]; omega
          · rw [if_neg hs] at hen'
            subst hen'
            have hs0 : S k = 0 := by omega
            rw [hs0] at c1
            go_wp2_with fail
            go_round
            case rel => exact ⟨k + 1, z + 1, en', by omega, by omega, hen2, by go_num, by go_num, rfl, HZ2, HE2⟩
            case measure => simp [intOf]; omega
        · have HZ2 : Hid (z = cnt (inn (live S) a b) (k + 1)) := hide (by rw [hst, hl1]; simp [hlv])
          clear hst hl1 hxk
          by_cases hs : 0 < S k
          · rw [if_pos hs] at hen'
            omega
          · rw [if_neg hs] at hen'
            subst hen'
            have hs0 : S k = 0 := by omega
            rw [hs0] at c1
            go_wp2_with fail
            go_round
            case rel => exact ⟨k + 1, z, en', by omega, by omega, hen2, by go_num, rfl, rfl, HZ2, HE2⟩
            case measure => simp [intOf]; omega
      · have hak : ¬ a ≤ k := fun h4 => hxa (hxk.2 h4)
        have HZ2 : Hid (z = cnt (inn (live S) a b) (k + 1)) := hide (by rw [hst]; simp [hak])
        have hd : decide (X ≤ (k : Int)) = false := decide_eq_false hxa
        clear hst hl1 hxk
        by_cases hs : 0 < S k
        · rw [if_pos hs] at hen'
          have hei : (k : Int) + (S k : Int) = (en' : Int) := by omega
          generalize S k = sk at *
          clear hen'
          go_wp2_with fail
          go_round
          case rel => exact ⟨k + 1, z, en', by omega, by omega, hen2, by go_num, rfl, by go_num, HZ2, HE2⟩
          case measure => simp [intOf]; omega
        · rw [if_neg hs] at hen'
          subst hen'
          have hs0 : S k = 0 := by omega
          rw [hs0] at c1
          go_wp2_with fail
          go_round
          case rel => exact ⟨k + 1, z, en', by omega, by omega, hen2, by go_num, rfl, rfl, HZ2, HE2⟩
          case measure => simp [intOf]; omega
    · have hzr : z = r := by
        rw [HZ.out, HER.out]
        refine cnt_inn _ _ _ _ ?_
        by_cases hb0 : b = 0
        · omega
        · have := (HK2.out (b - 1)).2 (by omega)
          omega
      subst hzr
      have hd : decide ((k : Int) < Y) = false := decide_eq_false hlt
      go_wp2_with fail
      go_ret
      exact ⟨rfl, rfl⟩

theorem rover_any (p q n : Nat) (S : Nat → Nat) (x : Int) (w : World) (h : RB w p q n S) :
    Calls Tryd.prog 27 #[.pointer (some ⟨p, 0, none⟩), .int .i64 x] w fun e w' => ∃ (a z : Int) (t : Bool), e = .returned (.tuple #[.int .i64 a, .int .i64 z, .bool t]) ∧ IsOver S x a z t ∧ ∃ m, w' = w.drewN m := by
  have hn := h.few
  have c0 := h.c0
  have HB := hide h
  clear h
  go_enter Tryd.func27, Tryd.ntmps27
  go_wp2_with fail
  go_loop [7] (fun i => ∃ k : Nat, k ≤ n ∧ i = .int .i64 k ∧ Hid (∀ j m : Nat, j < k → x = m → ¬ Cov S j m)) (fun i => n - (intOf i).toNat)
  case atStart => exact ⟨0, by omega, rfl, fun j m h1 => by omega⟩
  case round =>
    obtain ⟨k, hk, rfl, HF⟩ := hrel
    by_cases hlt : k < n
    · have c1 := HB.out.cell hlt
      have hsm := HB.out.small k
      have hkn : (k : Int) < (n : Int) := by omega
      by_cases hc : 0 < S k ∧ (k : Int) ≤ x ∧ x < (k : Int) + S k
      · obtain ⟨h1, h2, h3⟩ := hc
        obtain ⟨m, rfl⟩ := Int.eq_ofNat_of_zero_le (show 0 ≤ x by omega)
        have HR : Hid (IsOver S (m : Int) (k : Int) (S k : Int) true) := .inl ⟨k, m, rfl, ⟨by omega, by omega⟩, rfl, rfl, rfl⟩
        generalize S k = sk at *
        go_wp2_with fail
        go_quiet (fail)
        go_wp2_with fail
        go_ret3
        exact ⟨_, _, _, rfl, HR.out, _, rfl⟩
      · have HF2 : Hid (∀ j m : Nat, j < k + 1 → x = m → ¬ Cov S j m) := by
          intro j m h1 h2 h3
          by_cases hj : j = k
          · subst hj
            unfold Cov at h3
            exact hc ⟨by omega, by omega, by omega⟩
          · exact HF.out j m (by omega) h2 h3
        clear HF
        by_cases h1 : 0 < S k
        · by_cases h2 : (k : Int) ≤ x
          · have h3 : ¬ (x < (k : Int) + S k) := fun h3 => hc ⟨h1, h2, h3⟩
            clear hc
            generalize S k = sk at *
            go_wp2_with fail
            go_round
            case rel => exact ⟨k + 1, by omega, by go_num, HF2⟩
            case measure => simp [intOf]; omega
          · have hd : decide ((k : Int) ≤ x) = false := decide_eq_false h2
            clear hc
            generalize S k = sk at *
            go_wp2_with fail
            go_round
            case rel => exact ⟨k + 1, by omega, by go_num, HF2⟩
            case measure => simp [intOf]; omega
        · have hs0 : S k = 0 := by omega
          rw [hs0] at c1
          clear hc
          go_wp2_with fail
          go_round
          case rel => exact ⟨k + 1, by omega, by go_num, HF2⟩
          case measure => simp [intOf]; omega
    · have HR : Hid (IsOver S x 0 0 false) := by
        refine .inr ⟨fun j m h1 h2 => ?_, rfl, rfl, rfl⟩
        have h3 := HB.out.bl.into j (by have := h2.1; have := h2.2; omega)
        exact HF.out j m (by have := h2.1; have := h2.2; omega) h1 h2
      go_wp2_with fail
      go_ret3
      first | exact ⟨0, 0, false, rfl, HR.out, 0, rfl⟩ | exact ⟨0, 0, .inl ⟨rfl, HR.out, 0, rfl⟩⟩
end Go.Proofs.YtaofkddondaceaaDoor
