/-
  The document's own Clear: of all, and of one span.
-/
import Derived.Test.YtaofkddondaceaaDoorBitsRefC
namespace Go.Proofs.YtaofkddondaceaaDoor
open Go.RowKit
set_option linter.unusedVariables false

/-- The first k words are looked at; those that P picks are cleared. -/
def clrW (S : Nat → Nat) (P : Nat → Bool) (k : Nat) : Nat → Nat := fun i => if i < k ∧ P i = true then 0 else S i
theorem clrW_zero (S : Nat → Nat) (P : Nat → Bool) : clrW S P 0 = S := by
  funext i; unfold clrW; rw [if_neg (by omega)]
theorem clrW_bl {n : Nat} {S : Nat → Nat} (h : Bl n S) (P : Nat → Bool) (k : Nat) : Bl n (clrW S P k) := by
  have e : ∀ c, 0 < clrW S P k c → clrW S P k c = S c := by
    intro c hc
    unfold clrW at hc ⊢
    split
    · rename_i h1; rw [if_pos h1] at hc; omega
    · rfl
  constructor
  · intro b hb
    have e1 := e b hb
    rw [e1] at hb ⊢
    exact h.into b hb
  · intro b c hbc hb hc
    have e1 := e b hb
    have e2 := e c hc
    rw [e1] at hb ⊢
    rw [e2] at hc
    exact h.apart b c hbc hb hc
theorem clrW_next (S : Nat → Nat) (P : Nat → Bool) (k i : Nat) : clrW S P (k + 1) i = if i = k then (if P k then 0 else S k) else clrW S P k i := by
  unfold clrW
  by_cases h : i = k
  · subst h
    rw [if_pos rfl]
    cases P i
    · simp
    · simp
  · rw [if_neg h]
    by_cases h1 : i < k
    · have h2 : i < k + 1 := by omega
      simp [h1, h2]
    · have h2 : ¬ i < k + 1 := by omega
      simp [h1, h2]
theorem clrW_skip {S : Nat → Nat} {P : Nat → Bool} {k : Nat} (h : P k = false) : clrW S P (k + 1) = clrW S P k := by
  funext i
  rw [clrW_next, h]
  by_cases hi : i = k
  · subst hi
    unfold clrW
    simp [h]
  · simp [hi]
theorem clrW_all {n : Nat} {S : Nat → Nat} (h : Bl n S) : clrW S (fun _ => true) n = clr S 0 n := by
  funext i
  unfold clrW clr
  simp
theorem clrW_span {n : Nat} {S : Nat → Nat} (h : Bl n S) (x y : Int) : clrW S (fun i => decide (x ≤ (i : Int)) && decide ((i : Int) < y)) n = clr S (kp n x) (kp n y) := by
  funext i
  unfold clrW clr
  by_cases hi : i < n
  · by_cases h1 : x ≤ (i : Int) <;> by_cases h2 : (i : Int) < y
    · rw [if_pos (by simp [hi, h1, h2]), if_pos (by unfold kp; omega)]
    · rw [if_neg (by simp [h2]), if_neg (by unfold kp; omega)]
    · rw [if_neg (by simp [h1]), if_neg (by unfold kp; omega)]
    · rw [if_neg (by simp [h1]), if_neg (by unfold kp; omega)]
  · rw [if_neg (by omega), if_neg (by unfold kp; omega)]

theorem rclear_all (p q n cap : Nat) (S : Nat → Nat) (w : World) (h : RB w p q n S) :
    Calls Tryd.prog 16 #[.pointer (some ⟨p, 0, none⟩), .slice none 0 cap] w fun e w' => e = .returned (.tuple #[]) ∧ RB w' p q n (clr S 0 n) ∧ Turned [q] w w' := by
  have hn := h.few
  have HB := hide h
  rw [← clrW_all h.bl]
  clear h
  go_enter Tryd.func16, Tryd.ntmps16
  go_wp2_with fail
  go_loopw [4, 5, 6] (fun i _ _ wr => ∃ k : Nat, k ≤ n ∧ i = .int .i64 k ∧ Hid (RB wr p q n (clrW S (fun _ => true) k)) ∧ Hid (Turned [q] w wr)) (fun i _ _ _ => n - (intOf i).toNat)
  case atStart => exact ⟨0, by omega, rfl, by rw [clrW_zero]; exact HB.out, Turned.refl _ _⟩
  case round =>
    obtain ⟨k, hk, rfl, HR, HT⟩ := hrel
    have c0 := HR.out.c0
    by_cases hlt : k < n
    · have hkn : (k : Int) < (n : Int) := by omega
      have c1 := HR.out.cell hlt
      have f1 := HR.out.fq k
      have HR2 := hide (HR.out.put (a := k) (z := 0) hlt (clrW_bl HB.out.bl _ (k + 1)) (fun i _ => clrW_next S (fun _ => true) k i))
      have HT2 := hide (HT.out.setCell (p := ⟨q, k, none⟩) (.inl (by simp)) (.int .i64 ((0 : Nat) : Int)))
      generalize clrW S (fun _ => true) k k = sk at *
      go_wp2_with fail
      go_loopw [5, 6] (fun b_ j_ wz => b_ = .bool true ∧ j_ = .int .i64 0 ∧ Hid (wz = wr)) (fun _ _ _ => 0)
      case atStart => exact ⟨rfl, rfl, rfl⟩
      case round =>
        obtain ⟨rfl, rfl, HW⟩ := hrel
        have hW := HW.out
        subst hW
        go_wp2_with fail
        go_roundw
        case rel => exact ⟨k + 1, by omega, by go_num, HR2, HT2⟩
        case measure => simp [intOf]; omega
    · have e : k = n := by omega
      subst e
      go_wp2_with fail
      refine bodyPost_end (results_none rfl _ _ _) rfl ?_
      exact ⟨rfl, HR.out, HT.out⟩

set_option maxHeartbeats 1000000 in
theorem rclear_one (p q n g cap : Nat) (S : Nat → Nat) (x y : Int) (w : World) (h : RB w p q n S) (hs : SpRd w g [(x, y)]) (hg : g ≠ q) :
    Calls Tryd.prog 16 #[.pointer (some ⟨p, 0, none⟩), .slice (some ⟨g, 0, none⟩) 1 cap] w fun e w' => e = .returned (.tuple #[]) ∧ RB w' p q n (clr S (kp n x) (kp n y)) ∧ Turned [q] w w' := by
  have hn := h.few
  have HB := hide h
  have HSp := hide hs
  rw [← clrW_span h.bl]
  obtain ⟨P, hP⟩ : ∃ P : Nat → Bool, P = fun (i : Nat) => decide (x ≤ (i : Int)) && decide ((i : Int) < y) := ⟨_, rfl⟩
  rw [← hP]
  have HP := hide hP
  clear h hs hP
  go_enter Tryd.func16, Tryd.ntmps16
  go_wp2_with fail
  go_loopw [4, 5, 6] (fun i _ _ wr => ∃ k : Nat, k ≤ n ∧ i = .int .i64 k ∧ Hid (RB wr p q n (clrW S P k)) ∧ Hid (Turned [q] w wr)) (fun i _ _ _ => n - (intOf i).toNat)
  case atStart => exact ⟨0, by omega, rfl, by rw [clrW_zero]; exact HB.out, Turned.refl _ _⟩
  case round =>
    obtain ⟨k, hk, rfl, HR, HT⟩ := hrel
    have c0 := HR.out.c0
    by_cases hlt : k < n
    · have hkn : (k : Int) < (n : Int) := by omega
      have c1 := HR.out.cell hlt
      have f1 := HR.out.fq k
      obtain ⟨d0, d1⟩ := (HSp.out.turned HT.out (by simpa using hg)).cell 0 (x, y) rfl
      simp only [Nat.zero_mul, Nat.zero_add] at d0 d1
      have HT2 := hide (HT.out.setCell (p := ⟨q, k, none⟩) (.inl (by simp)) (.int .i64 ((0 : Nat) : Int)))
      have hPk : P k = (decide (x ≤ (k : Int)) && decide ((k : Int) < y)) := by rw [HP.out]
      have HPt : Hid (P k = true → RB (wr.setCell ⟨q, k, none⟩ (.int .i64 ((0 : Nat) : Int))) p q n (clrW S P (k + 1))) := fun hp =>
        HR.out.put (a := k) (z := 0) hlt (clrW_bl HB.out.bl _ (k + 1)) (fun i _ => by rw [clrW_next, hp]; rfl)
      have HPf : Hid (P k = false → RB wr p q n (clrW S P (k + 1))) := fun hp => by rw [clrW_skip hp]; exact HR.out
      generalize clrW S P k k = sk at *
      go_wp2_with fail
      go_loopw [5, 6] (fun b_ j_ wz => ∃ m : Nat, m ≤ 1 ∧ j_ = .int .i64 m ∧ b_ = .bool (decide (m = 1) && P k) ∧ Hid (wz = wr)) (fun _ j_ _ => 1 - (intOf j_).toNat)
      case atStart => exact ⟨0, by omega, rfl, rfl, rfl⟩
      case round =>
        obtain ⟨m, hm, rfl, rfl, HW⟩ := hrel
        have hW := HW.out
        subst hW
        by_cases hm0 : m = 0
        · subst hm0
          have e0 : (decide ((0 : Nat) = 1) && P k) = false := rfl
          rw [e0]
          by_cases h1 : x ≤ (k : Int)
          · by_cases h2 : (k : Int) < y
            · have hp : P k = true := by rw [hPk]; simp [h1, h2]
              clear hPk
              go_wp2_with fail
              go_roundw
              case rel => exact ⟨1, by omega, by go_num, by rw [hp]; rfl, by first | exact HW | exact rfl | exact trivial⟩
              case measure => simp [intOf]
            · have hp : P k = false := by rw [hPk]; simp [h2]
              clear hPk
              go_wp2_with fail
              go_roundw
              case rel => exact ⟨1, by omega, by go_num, by rw [hp]; rfl, by first | exact HW | exact rfl | exact trivial⟩
              case measure => simp [intOf]
          · have hp : P k = false := by rw [hPk]; simp [h1]
            have hd : decide (x ≤ (k : Int)) = false := decide_eq_false h1
            clear hPk
            go_wp2_with fail
            go_roundw
            case rel => exact ⟨1, by omega, by go_num, by rw [hp]; rfl, by first | exact HW | exact rfl | exact trivial⟩
            case measure => simp [intOf]
        · have hm1 : m = 1 := by omega
          subst hm1
          have e1 : (decide ((1 : Nat) = 1) && P k) = P k := rfl
          rw [e1]
          clear hPk
          cases hp : P k
          · have HR3 := hide (HPf.out hp)
            go_wp2_with fail
            go_roundw
            case rel => exact ⟨k + 1, by omega, by go_num, HR3, HT⟩
            case measure => simp [intOf]; omega
          · have HR3 := hide (HPt.out hp)
            go_wp2_with fail
            go_roundw
            case rel => exact ⟨k + 1, by omega, by go_num, HR3, HT2⟩
            case measure => simp [intOf]; omega
    · have e : k = n := by omega
      subst e
      go_wp2_with fail
      refine bodyPost_end (results_none rfl _ _ _) rfl ?_
      exact ⟨rfl, HR.out, HT.out⟩
end Go.Proofs.YtaofkddondaceaaDoor
