/-
  Heaps in which nothing lives, or all: what stays. Gaps where there are no words. No loop of Go is walked here.
-/
import Derived.Test.YtcckflcjjgckoaaDoorPlanSlidesP
namespace Go.Proofs.YtcckflcjjgckoaaDoor
open Go.RowKit Bt
set_option linter.unusedVariables false
set_option linter.unusedSimpArgs false

theorem cnt_none (m : Nat) : cnt (live S0) m = 0 := cnt_zero fun j _ => live0 j
theorem quo_mul (v k : Nat) (hv : v ≤ 300) : wrap64 (wrap64 ((v : Int) / ((k : Int) + 1)) * ((k : Int) + 1)) = ((v / (k + 1) * (k + 1) : Nat) : Int) := by
  have h2 : (v : Int) / ((k : Int) + 1) = ((v / (k + 1) : Nat) : Int) := by rw [Int.natCast_ediv]; rfl
  have h3 := Nat.div_le_self v (k + 1)
  have h4 := Nat.div_mul_le_self v (k + 1)
  rw [h2]
  clear h2
  generalize v / (k + 1) = q at *
  rw [wrap_small (q : Int) (by omega), show (q : Int) * ((k : Int) + 1) = ((q * (k + 1) : Nat) : Int) from by rw [Int.natCast_mul]; rfl]
  generalize q * (k + 1) = m at *
  exact wrap_small _ (by omega)
theorem quo_up (n k : Nat) (hn : n + k ≤ 10000) : IntKind.i64.wrap (((n : Int) + k) / ((k : Int) + 1)) = (((n + k) / (k + 1) : Nat) : Int) := by
  have h2 : ((n : Int) + k) / ((k : Int) + 1) = (((n + k) / (k + 1) : Nat) : Int) := by rw [Int.natCast_ediv]; rfl
  have h3 := Nat.div_le_self (n + k) (k + 1)
  rw [h2, IntKind.wrap_i64]
  clear h2
  generalize (n + k) / (k + 1) = q at *
  omega
/-- Where nothing lives. -/
theorem makes_none {n k v : Nat} {P : PN} (hP : Makes S0 0 n (k + 1) v P) (hn : n ≤ 65536) (hk : k ≤ 60000) : P.d = (if n ≤ v then n else v / (k + 1) * (k + 1)) ∧ P.e = P.d ∧ P.R = (n + k) / (k + 1) := by
  have okP := hP.ok (Nat.zero_le _) hn (by omega) (by omega)
  obtain ⟨K, a1, a2⟩ := hP.d_
  have hd : P.d = P.ed K := by
    rcases a2 with ⟨a, h1, h2, h3⟩ | ⟨_, h1⟩
    · simp [S0] at h2; omega
    · exact h1
  have dT : ∀ x, deadTo P (live S0) x = x := fun x => by
    unfold deadTo
    rw [cnt_none, cnt_none, hP.f_]
    omega
  have hm := a1.may
  rw [dT] at hm
  have he : ∀ j, P.ed j = min (j * (k + 1)) n := fun j => by unfold PN.ed; rw [hP.f_, hP.t_, hP.k_, Nat.zero_add]
  refine ⟨?_, ?_, ?_⟩
  · by_cases h : n ≤ v
    · rw [if_pos h]
      rcases a1.most with h1 | h1
      · rw [hd, h1, PN.ed_R okP, hP.t_]
      · rw [dT, he] at h1; omega
    · rw [if_neg h]
      rcases a1.most with h1 | h1
      · rw [h1, PN.ed_R okP, hP.t_] at hm; omega
      · rw [dT, he] at h1
        rw [he] at hm
        have h2 : v / (k + 1) = K := Nat.div_eq_of_lt_le (by omega) (by omega)
        rw [hd, he, h2]
        omega
  · rw [hP.e_, cnt_none, cnt_none]; omega
  · unfold PN.R
    rw [hP.f_, hP.t_, hP.k_]
    by_cases h : 0 < n
    · rw [if_pos h, show n + k = (n - 0 - 1) + (k + 1) by omega, Nat.add_div_right _ (Nat.succ_pos k)]
    · rw [if_neg h, show n = 0 by omega, Nat.zero_add, Nat.div_eq_of_lt (Nat.lt_succ_self k)]
/-- The first j words, a block each. -/
def S1 (j : Nat) : Nat → Nat := fun i => if i < j then 1 else 0
theorem S1_0 : S1 0 = S0 := by funext i; simp [S1, S0]
theorem S1_bl (n j : Nat) (h : j ≤ n) : Bl n (S1 j) := by
  refine ⟨fun a ha => ?_, fun a b hab hb => ?_⟩
  · unfold S1 at *
    split at ha
    · rw [if_pos ‹_›]; omega
    · omega
  · have h1 : S1 j a ≤ 1 := by unfold S1; split <;> omega
    omega
theorem S1_mark (n j : Nat) (h : j < n) : markT n (S1 j) (j : Int) 1 = (true, 0, S1 (j + 1)) := by
  have h1 := mark_free (n := n) (S := S1 j) (x := (j : Int)) (z := 1) ⟨by omega, by omega⟩ ⟨by omega, by omega⟩ (by simp [S1]) (free_of (fun b hb => by
    unfold S1 at *
    simp only [Int.toNat_natCast]
    split at hb
    · rw [if_pos ‹_›]; omega
    · omega))
  rw [h1]
  congr 2
  funext i
  simp only [Int.toNat_natCast]
  unfold upd S1
  by_cases hi : i = j
  · subst hi; simp
  · rw [if_neg hi]
    by_cases h2 : i < j
    · rw [if_pos h2, if_pos (by omega)]
    · rw [if_neg h2, if_neg (by omega)]
theorem S1_live {n i : Nat} (h : i < n) : live (S1 n) i = true := by
  unfold live
  rw [bo_true]
  refine ⟨i, ?_⟩
  unfold Cov S1
  rw [if_pos h]
  omega
theorem S1_cnt (n : Nat) : ∀ m, m ≤ n → cnt (live (S1 n)) m = m := by
  intro m
  induction m with
  | zero => intro _; rfl
  | succ m ih => intro h; rw [cnt_at (S1_live (by omega)), ih (by omega)]
/-- Where all lives. -/
theorem makes_full {n k : Nat} {P : PN} (hP : Makes (S1 n) 0 n (k + 1) 0 P) (hn : n ≤ 65536) (hk : k ≤ 60000) : P.d = n ∧ P.e = n :=
  makes_all (S1_bl n n (Nat.le_refl _)) hP (fun x hx => by
    unfold deadTo
    rw [S1_cnt n x hx, hP.f_, show cnt (live (S1 n)) 0 = 0 from rfl]
    omega) hn (by omega) (by omega)
theorem gaps_full {n d x : Nat} (hd : d ≤ n) {L : List (Nat × Nat)} (h : GpF (S1 n) 0 d x L) : L = [] := by
  induction h with
  | start => rfl
  | block _ _ _ ih => exact ih
  | gap _ h1 h2 h3 _ =>
    exfalso
    have := h2.2.2.2 _ (Nat.le_refl _) h3
    unfold S1 at this
    rw [if_pos (by omega)] at this
    omega
/-- Gaps of a heap without words. -/
theorem gaps_zero (p : Nat) (F : Nat → Nat → Bool) (P : PN) (l a wt tk : Value) (w : World) (hb : Brd w (some ⟨p, 0, none⟩) 0 F) :
    Calls Tryd.prog 17 #[.agg (plC P l a wt tk), .pointer (some ⟨p, 0, none⟩)] w fun e w' => e = .returned (.slice none 0 0) ∧ Turned [] w w' := by
  have HW := hide (fun (w' : World) (t : Turned [] w w') => words_any (some ⟨p, 0, none⟩) 0 F w' (hb.turned t))
  have HT := hide ((Turned.refl [] w).alloc (.cells (plC P l a wt tk) 30))
  obtain ⟨f, t, k, d, e⟩ := P
  unfold plC at HT ⊢
  simp only at HT ⊢
  clear hb
  go_enter Tryd.func17, Tryd.ntmps17
  go_wp2_with fail
  generalize w.alloc (.cells #[Value.int .i64 f, Value.int .i64 t, Value.int .i64 k, Value.int .i64 d, Value.int .i64 e, l, a, wt, tk] 30) = w1 at *
  refine (HW.out _ HT.out).mono ?_
  rintro e1 w2 ⟨rfl, rfl⟩
  go_wp2_with fail
  go_ret
  exact ⟨rfl, HT.out⟩
end Go.Proofs.YtcckflcjjgckoaaDoor
