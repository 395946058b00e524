/-
  What Mark does and tells.
-/
import Derived.Test.YtcckflcjjgckoaaDoorBitsUpd
namespace Go.Proofs.YtcckflcjjgckoaaDoor.Bt
open Go.RowKit
set_option linter.unusedVariables false

theorem mark_any (p q n : Nat) (S : Nat → Nat) (x z : Int) (w : World) (h : Bts w p q n (sidesOf S)) (hs : Bl n S) (hz : In64 z) :
    Calls Tryd.prog 16 #[.pointer (some ⟨p, 0, none⟩), .int .i64 x, .int .i64 z] w fun e w' => e = .returned (.tuple #[.bool (markT n S x z).1, .int .i64 (markT n S x z).2.1]) ∧ Bts w' p q n (sidesOf (markT n S x z).2.2) ∧ Turned [q] w w' := by
  have hn := h.few
  unfold In64 at hz
  obtain ⟨M, hM⟩ : ∃ M, M = markT n S x z := ⟨_, rfl⟩
  rw [← hM]
  unfold markT at hM
  have H := hide (inside_any (some ⟨p, 0, none⟩) n _ x w h.brd)
  have HB := hide h
  have HS := hide hs
  by_cases h0 : 0 ≤ x ∧ x < n
  · rw [if_neg (by simpa using h0)] at hM
    have e1 : (decide (0 ≤ x) && decide (x < n)) = true := by simp only [Bool.and_eq_true, decide_eq_true_eq]; exact h0
    rw [e1] at H
    obtain ⟨a, rfl⟩ := Int.eq_ofNat_of_zero_le h0.1
    rw [Int.toNat_natCast] at hM
    have han : a < n := by omega
    have c0 : w.cell? ⟨p, 0, none⟩ = some (.int .i64 (n : Int)) := by rw [cell_of_heap h.head]; rfl
    by_cases h1 : z < 1 ∨ (n : Int) - a < z
    · rw [if_pos h1] at hM
      subst hM
      clear h hs e1
      by_cases h2 : z < 1
      · go_enter Tryd.func16, Tryd.ntmps16
        go_wp2_with fail
        refine (H.out).mono ?_
        rintro e w1 ⟨rfl, rfl⟩
        go_wp2_with fail
        go_ret2
        exact ⟨rfl, HB.out, Turned.refl _ _⟩
      · have hd : decide (z < 1) = false := decide_eq_false h2
        have h3 : (n : Int) - a < z := by omega
        go_enter Tryd.func16, Tryd.ntmps16
        go_wp2_with fail
        refine (H.out).mono ?_
        rintro e w1 ⟨rfl, rfl⟩
        go_wp2_with fail
        go_ret2
        exact ⟨rfl, HB.out, Turned.refl _ _⟩
    · rw [if_neg h1] at hM
      have hz1 : ¬ z < 1 := by omega
      obtain ⟨y, rfl⟩ := Int.eq_ofNat_of_zero_le (show 0 ≤ z by omega)
      rw [Int.toNat_natCast] at hM
      have hay : a + y ≤ n := by omega
      have hd : decide ((y : Int) < 1) = false := decide_eq_false hz1
      have hd2 : ¬ ((n : Int) - a < y) := by omega
      have HH := hide (bhas_any (some ⟨p, 0, none⟩) n S a w h.brd hs)
      rw [szI_nat] at HH
      by_cases h2 : 0 < S a
      · rw [if_pos h2] at hM
        subst hM
        rw [decide_eq_true h2] at HH
        clear h hs e1 h1 h0
        go_enter Tryd.func16, Tryd.ntmps16
        go_wp2_with fail
        refine (H.out).mono ?_
        rintro e w1 ⟨rfl, rfl⟩
        go_wp2_with fail
        refine (HH.out).mono ?_
        rintro e w2 ⟨rfl, m, rfl⟩
        go_wp2_with fail
        go_ret2
        exact ⟨rfl, HB.out.drewN m, (Turned.refl _ _).drewN m⟩
      · rw [if_neg h2] at hM
        rw [decide_eq_false h2] at HH
        have HL := hide (fun m => live_any (some ⟨p, 0, none⟩) n S a ((a : Int) + y) (w.drewN m) (h.drewN m).brd hs)
        have k1 : kp n (a : Int) = a := by unfold kp; omega
        have k2 : kp n ((a : Int) + y) = a + y := by unfold kp; omega
        rw [k1, k2] at HL
        by_cases h3 : Free S a y
        · rw [if_pos h3] at hM
          subst hM
          rw [(free_cnt S a y).1 h3] at HL
          have HT := hide (fun w h => turn_any p q n (sidesOf S) a y w h (by omega) hay)
          have HF := hide (fun s k hs => sides_mark (n := n) (S := S) (a := a) (z := y) (by omega) (by omega) h3 s k hs)
          clear h hs e1 h1 h0 h3 k1 k2
          go_enter Tryd.func16, Tryd.ntmps16
          go_wp2_with fail
          refine (H.out).mono ?_
          rintro e w1 ⟨rfl, rfl⟩
          go_wp2_with fail
          refine (HH.out).mono ?_
          rintro e w2 ⟨rfl, m, rfl⟩
          go_wp2_with fail
          refine (HL.out m).mono ?_
          rintro e w3 ⟨rfl, ht3⟩
          go_wp2_with fail
          refine (HT.out w3 ((HB.out.drewN m).turned0 ht3)).mono ?_
          rintro e w4 ⟨rfl, hb4, ht4⟩
          have HR := hide (And.intro (hb4.congr HF.out) (((((Turned.refl [q] w1).drewN m).trans (ht3.mono (by simp)))).trans ht4))
          clear hb4 ht4 ht3
          go_wp2_with fail
          go_ret2
          exact ⟨rfl, HR.out⟩
        · rw [if_neg h3] at hM
          subst hM
          have hpos : 0 < cntIn (live S) a (a + y) := by
            have := mt (free_cnt S a y).2 h3
            omega
          have hle := cntIn_le (live S) a (a + y)
          generalize cntIn (live S) a (a + y) = c at *
          clear h hs e1 h1 h0 h3 k1 k2
          go_enter Tryd.func16, Tryd.ntmps16
          go_wp2_with fail
          refine (H.out).mono ?_
          rintro e w1 ⟨rfl, rfl⟩
          go_wp2_with fail
          refine (HH.out).mono ?_
          rintro e w2 ⟨rfl, m, rfl⟩
          go_wp2_with fail
          refine (HL.out m).mono ?_
          rintro e w3 ⟨rfl, ht3⟩
          go_wp2_with fail
          go_ret2
          exact ⟨rfl, (HB.out.drewN m).turned0 ht3, ((Turned.refl [q] w1).drewN m).trans (ht3.mono (by simp))⟩
  · rw [if_pos h0] at hM
    subst hM
    have e1 : (decide (0 ≤ x) && decide (x < n)) = false := by
      rw [← Bool.not_eq_true]; simp only [Bool.and_eq_true, decide_eq_true_eq]; exact h0
    rw [e1] at H
    clear h hs e1
    go_enter Tryd.func16, Tryd.ntmps16
    go_wp2_with fail
    refine (H.out).mono ?_
    rintro e w1 ⟨rfl, rfl⟩
    go_wp2_with fail
    go_ret2
    exact ⟨rfl, HB.out, Turned.refl _ _⟩

/-- Mark of no object, or of one without words. -/
theorem mark_nil (ov : Option Addr) (F : Nat → Nat → Bool) (x z : Int) (w : World) (h : Brd w ov 0 F) :
    Calls Tryd.prog 16 #[.pointer ov, .int .i64 x, .int .i64 z] w fun e w' => e = .returned (.tuple #[.bool false, .int .i64 10]) ∧ w' = w := by
  have H := hide (inside_any ov 0 _ x w h)
  have e1 : (decide (0 ≤ x) && decide (x < ((0 : Nat) : Int))) = false := by
    rw [← Bool.not_eq_true]; simp only [Bool.and_eq_true, decide_eq_true_eq]; omega
  rw [e1] at H
  clear h e1
  go_enter Tryd.func16, Tryd.ntmps16
  go_wp2_with fail
  refine (H.out).mono ?_
  rintro e w1 ⟨rfl, rfl⟩
  go_wp2_with fail
  go_ret2
  exact ⟨rfl, rfl⟩
end Go.Proofs.YtcckflcjjgckoaaDoor.Bt
