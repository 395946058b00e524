/-
  A plan without memory: regions by their edges, what lives ahead of a place, where words go. No Go is walked here.
-/
import Derived.Test.YtcckflcjjgckoaaDoorBitsTot
namespace Go.Proofs.YtcckflcjjgckoaaDoor
open Bt
set_option linter.unusedVariables false

theorem cnt_mono (f : Nat → Bool) {a b : Nat} (h : a ≤ b) : cnt f a ≤ cnt f b := by
  obtain ⟨d, rfl⟩ := Nat.exists_eq_add_of_le h
  rw [cnt_add]; omega
theorem cnt_gap (f : Nat → Bool) {a b : Nat} (h : a ≤ b) : cnt f b ≤ cnt f a + (b - a) := by
  obtain ⟨d, rfl⟩ := Nat.exists_eq_add_of_le h
  rw [cnt_add]; have := cnt_le (fun j => f (a + j)) d; omega
theorem cntIn_sub (f : Nat → Bool) (a b : Nat) : cntIn f a b = cnt f b - cnt f a := by
  by_cases h : a ≤ b
  · have := cntIn_add f h; omega
  · have h1 := cnt_mono f (show b ≤ a by omega)
    have : cntIn f a b = 0 := by
      unfold cntIn
      rw [cnt_zero_iff]
      intro j hj
      unfold inn
      have : ¬ a ≤ j := by omega
      simp [this]
    omega
theorem cnt_at {f : Nat → Bool} {k : Nat} (h : f k = true) : cnt f (k + 1) = cnt f k + 1 := by rw [cnt, h]; rfl
theorem cnt_off {f : Nat → Bool} {k : Nat} (h : f k = false) : cnt f (k + 1) = cnt f k := by rw [cnt, h]; rfl

/-- A plan's numbers. -/
structure PN where
  f : Nat
  t : Nat
  k : Nat
  d : Nat
  e : Nat

namespace PN
/-- How many regions there are. -/
def R (P : PN) : Nat := if P.f < P.t then (P.t - P.f - 1) / P.k + 1 else 0
/-- Where the region r begins. -/
def ed (P : PN) (r : Nat) : Nat := min (P.f + r * P.k) P.t
structure Ok (P : PN) : Prop where
  le : P.f ≤ P.t
  few : P.t ≤ 65536
  k1 : 1 ≤ P.k
  kk : P.k ≤ 65536
theorem ed_zero {P : PN} (h : P.Ok) : P.ed 0 = P.f := by unfold ed; have := h.le; omega
theorem ed_le (P : PN) (r : Nat) : P.ed r ≤ P.t := by unfold ed; omega
theorem ed_ge {P : PN} (h : P.Ok) (r : Nat) : P.f ≤ P.ed r := by
  unfold ed
  have := h.le
  have : P.f ≤ P.f + r * P.k := Nat.le_add_right _ _
  omega
theorem ed_mono (P : PN) {r s : Nat} (h : r ≤ s) : P.ed r ≤ P.ed s := by
  unfold ed
  have : r * P.k ≤ s * P.k := Nat.mul_le_mul_right _ h
  omega
theorem lt_R {P : PN} (h : P.Ok) {r : Nat} (hr : r < P.R) : P.f + r * P.k < P.t := by
  unfold R at hr
  split at hr
  · have h1 : r ≤ (P.t - P.f - 1) / P.k := by omega
    have h2 := (Nat.le_div_iff_mul_le h.k1).1 h1
    omega
  · omega
theorem ed_eq {P : PN} (h : P.Ok) {r : Nat} (hr : r < P.R) : P.ed r = P.f + r * P.k := by
  have := lt_R h hr
  unfold ed; omega
theorem ed_lt {P : PN} (h : P.Ok) {r : Nat} (hr : r < P.R) : P.ed r < P.ed (r + 1) := by
  have h1 := lt_R h hr
  have h2 := h.k1
  unfold ed
  rw [Nat.succ_mul]
  omega
theorem ed_R {P : PN} (h : P.Ok) : P.ed P.R = P.t := by
  unfold ed R
  have := h.le
  have h1 := h.k1
  split
  · have h2 : P.t - P.f - 1 < ((P.t - P.f - 1) / P.k + 1) * P.k := by
      have := Nat.lt_succ_self ((P.t - P.f - 1) / P.k)
      have h3 := Nat.lt_mul_div_succ (P.t - P.f - 1) (show 0 < P.k by omega)
      rw [Nat.mul_comm] at h3
      exact h3
    omega
  · omega
theorem R_few {P : PN} (h : P.Ok) : P.R ≤ 65536 := by
  unfold R
  have := h.few
  split
  · have := Nat.div_le_self (P.t - P.f - 1) P.k
    omega
  · omega
theorem R_pos {P : PN} (h : P.f < P.t) : 0 < P.R := by unfold R; rw [if_pos h]; exact Nat.succ_pos _
theorem R_none {P : PN} (h : P.Ok) (h0 : P.R = 0) : P.f = P.t := by
  unfold R at h0
  split at h0
  · exact absurd h0 (Nat.succ_ne_zero _)
  · have := h.le; omega
/-- The region of a word. -/
def reg (P : PN) (x : Nat) : Nat := (x - P.f) / P.k
theorem reg_in {P : PN} (h : P.Ok) {x : Nat} (h1 : P.f ≤ x) (h2 : x < P.t) : P.reg x < P.R ∧ P.ed (P.reg x) ≤ x ∧ x < P.ed (P.reg x + 1) := by
  have hk := h.k1
  have e1 : P.reg x * P.k ≤ x - P.f := Nat.div_mul_le_self _ _
  have e2 : x - P.f < (P.reg x + 1) * P.k := by
    have h3 := Nat.lt_mul_div_succ (x - P.f) (show 0 < P.k by omega)
    rw [Nat.mul_comm] at h3
    exact h3
  refine ⟨?_, ?_, ?_⟩
  · unfold R
    rw [if_pos (by omega)]
    have : P.reg x ≤ (P.t - P.f - 1) / P.k := Nat.div_le_div_right (by omega)
    omega
  · unfold ed; omega
  · unfold ed; omega
theorem reg_mono (P : PN) {x y : Nat} (h : x ≤ y) : P.reg x ≤ P.reg y := Nat.div_le_div_right (by omega)
/-- Between two edges that is the region. -/
theorem reg_of {P : PN} (h : P.Ok) {x r : Nat} (hr : r < P.R) (h1 : P.ed r ≤ x) (h2 : x < P.ed (r + 1)) : P.reg x = r := by
  have hf := ed_ge h r
  have ht := ed_le P (r + 1)
  obtain ⟨a, b, c⟩ := reg_in h (x := x) (by omega) (by omega)
  rcases Nat.lt_trichotomy (P.reg x) r with h3 | h3 | h3
  · have := ed_mono P (show P.reg x + 1 ≤ r by omega); omega
  · exact h3
  · have := ed_mono P (show r + 1 ≤ P.reg x by omega); omega
end PN

/-- The live words of the region r, those from d on, and those ahead of it from d on. -/
def lvR (P : PN) (L : Nat → Bool) (r : Nat) : Nat := cnt L (P.ed (r + 1)) - cnt L (P.ed r)
def mvR (P : PN) (L : Nat → Bool) (r : Nat) : Nat := cnt L (P.ed (r + 1)) - cnt L (max (P.ed r) P.d)
def ahR (P : PN) (L : Nat → Bool) (r : Nat) : Nat := cnt L (P.ed r) - cnt L P.d
def ddR (P : PN) (L : Nat → Bool) (r : Nat) : Nat := (P.ed (r + 1) - P.ed r) - lvR P L r
/-- Dead words ahead of a place. -/
def deadTo (P : PN) (L : Nat → Bool) (x : Nat) : Nat := (x - P.f) - (cnt L x - cnt L P.f)

theorem ahR_succ (P : PN) (L : Nat → Bool) (r : Nat) : ahR P L r + mvR P L r = ahR P L (r + 1) := by
  unfold ahR mvR
  have h1 := PN.ed_mono P (show r ≤ r + 1 by omega)
  have h2 := cnt_mono L h1
  by_cases h : P.d ≤ P.ed r
  · rw [show max (P.ed r) P.d = P.ed r by omega]
    have := cnt_mono L h
    omega
  · rw [show max (P.ed r) P.d = P.d by omega]
    have := cnt_mono L (show P.ed r ≤ P.d by omega)
    omega
theorem ahR_zero {P : PN} (h : P.Ok) (L : Nat → Bool) (hd : P.f ≤ P.d) : ahR P L 0 = 0 := by
  unfold ahR
  rw [PN.ed_zero h]
  have := cnt_mono L hd
  omega
theorem ahR_mono (P : PN) (L : Nat → Bool) {r s : Nat} (h : r ≤ s) : ahR P L r ≤ ahR P L s := by
  unfold ahR
  have := cnt_mono L (PN.ed_mono P h)
  omega
theorem deadTo_mono {P : PN} (L : Nat → Bool) {x y : Nat} (hx : P.f ≤ x) (h : x ≤ y) : deadTo P L x ≤ deadTo P L y := by
  unfold deadTo
  have h1 := cnt_gap L h
  have h2 := cnt_mono L h
  have h3 := cnt_mono L hx
  have h4 := cnt_gap L hx
  omega
theorem dd_succ {P : PN} (h : P.Ok) (L : Nat → Bool) (r : Nat) : deadTo P L (P.ed r) + ddR P L r = deadTo P L (P.ed (r + 1)) := by
  unfold deadTo ddR lvR
  have h0 := PN.ed_ge h r
  have h1 := PN.ed_mono P (show r ≤ r + 1 by omega)
  have h2 := cnt_gap L h1
  have h3 := cnt_mono L h1
  have h4 := cnt_gap L h0
  have h5 := cnt_mono L h0
  omega
/-- K regions are as many as may stay. -/
structure Packs (P : PN) (L : Nat → Bool) (waste K : Nat) : Prop where
  le : K ≤ P.R
  may : deadTo P L (P.ed K) ≤ waste
  most : K = P.R ∨ waste < deadTo P L (P.ed (K + 1))

/-- The region out of which the word comes that goes to d + j. -/
def org (P : PN) (L : Nat → Bool) (j : Nat) : Nat := cnt (fun r => decide (ahR P L r ≤ j)) P.R - 1
theorem org_eq {P : PN} {L : Nat → Bool} {j r : Nat} (hr : r < P.R) (h1 : ahR P L r ≤ j) (h2 : r + 1 = P.R ∨ j < ahR P L (r + 1)) : cnt (fun r => decide (ahR P L r ≤ j)) P.R = r + 1 := by
  have h3 : cnt (fun r => decide (ahR P L r ≤ j)) P.R = cnt (fun r => decide (ahR P L r ≤ j)) (r + 1) := by
    refine cnt_stop (by omega) fun k hk1 hk2 => ?_
    have := ahR_mono P L hk1
    rw [decide_eq_false]
    omega
  rw [h3]
  have h4 : ∀ m, m ≤ r + 1 → cnt (fun r => decide (ahR P L r ≤ j)) m = m := by
    intro m
    induction m with
    | zero => intro _; rfl
    | succ m ih =>
      intro hm
      rw [cnt, ih (by omega), decide_eq_true (by have := ahR_mono P L (show m ≤ r by omega); omega)]
      rfl
  exact h4 _ (Nat.le_refl _)
end Go.Proofs.YtcckflcjjgckoaaDoor
