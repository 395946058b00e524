/-
  Blocks that lie apart, by their sizes ('Bl'): where they begin and end, which words live, row by row. No Go is walked here.
-/
import Derived.Test.YtcckflcjjgckoaaDoorBitsFirst
namespace Go.Proofs.YtcckflcjjgckoaaDoor.Bt
open Go.RowKit
set_option linter.unusedVariables false

noncomputable def bo (p : Prop) : Bool := @decide p (Classical.propDecidable p)
theorem bo_true {p : Prop} : bo p = true ↔ p := by unfold bo; exact @decide_eq_true_iff p (Classical.propDecidable p)
theorem bo_false {p : Prop} : bo p = false ↔ ¬ p := by rw [← Bool.not_eq_true, bo_true]

/-- S a: the size of the block that begins at a; 0: none does. -/
structure Bl (n : Nat) (S : Nat → Nat) : Prop where
  into : ∀ a, 0 < S a → a + S a ≤ n
  apart : ∀ a b, a < b → 0 < S a → 0 < S b → a + S a ≤ b

/-- The word k is one of the block at a. -/
def Cov (S : Nat → Nat) (a k : Nat) : Prop := a ≤ k ∧ k < a + S a
theorem Bl.one {n : Nat} {S : Nat → Nat} (h : Bl n S) {a b k : Nat} (ha : Cov S a k) (hb : Cov S b k) : a = b := by
  unfold Cov at ha hb
  rcases Nat.lt_trichotomy a b with h1 | h1 | h1
  · have := h.apart a b h1 (by omega) (by omega); omega
  · exact h1
  · have := h.apart b a h1 (by omega) (by omega); omega
theorem Bl.far {n : Nat} {S : Nat → Nat} (h : Bl n S) {k : Nat} (hk : n ≤ k) : S k = 0 := by
  have := h.into k
  omega

def begs (S : Nat → Nat) (k : Nat) : Bool := decide (0 < S k)
noncomputable def ends (S : Nat → Nat) (k : Nat) : Bool := bo (∃ a, 0 < S a ∧ a + S a = k + 1)
noncomputable def live (S : Nat → Nat) (k : Nat) : Bool := bo (∃ a, Cov S a k)
noncomputable def opn (S : Nat → Nat) (k : Nat) : Bool := bo (∃ a, a < k ∧ k < a + S a)
noncomputable def sidesOf (S : Nat → Nat) : Nat → Nat → Bool := fun s => if s = 0 then begs S else ends S

theorem live_eq {n : Nat} {S : Nat → Nat} (h : Bl n S) (k : Nat) : (live S k).toNat = (begs S k).toNat + (opn S k).toNat := by
  cases hb : begs S k
  · have hb0 : ¬ 0 < S k := by simpa [begs] using hb
    cases ho : opn S k
    · have : live S k = false := by
        unfold live; rw [bo_false]
        rintro ⟨a, h1, h2⟩
        unfold opn at ho
        rw [bo_false] at ho
        by_cases hak : a = k
        · subst hak; omega
        · exact ho ⟨a, by omega, h2⟩
      rw [this]; rfl
    · have : live S k = true := by
        unfold live; rw [bo_true]
        unfold opn at ho
        rw [bo_true] at ho
        obtain ⟨a, h1, h2⟩ := ho
        exact ⟨a, by omega, h2⟩
      rw [this]; rfl
  · have hb0 : 0 < S k := by simpa [begs] using hb
    have ho : opn S k = false := by
      unfold opn; rw [bo_false]
      rintro ⟨a, h1, h2⟩
      have := h.apart a k h1 (by omega) hb0
      omega
    have : live S k = true := by
      unfold live; rw [bo_true]
      exact ⟨k, by omega, by omega⟩
    rw [ho, this]; rfl
theorem opn_succ {n : Nat} {S : Nat → Nat} (h : Bl n S) (k : Nat) : (opn S (k + 1)).toNat + (ends S k).toNat = (live S k).toNat := by
  cases hl : live S k
  · have h1 : ¬ ∃ a, Cov S a k := by unfold live at hl; rwa [bo_false] at hl
    have h2 : opn S (k + 1) = false := by
      unfold opn; rw [bo_false]; rintro ⟨a, h3, h4⟩; exact h1 ⟨a, by omega, by omega⟩
    have h3 : ends S k = false := by
      unfold ends; rw [bo_false]; rintro ⟨a, h3, h4⟩; exact h1 ⟨a, by omega, by omega⟩
    rw [h2, h3]; rfl
  · have h1 : ∃ a, Cov S a k := by unfold live at hl; rwa [bo_true] at hl
    obtain ⟨a, ha⟩ := h1
    by_cases he : a + S a = k + 1
    · have h2 : opn S (k + 1) = false := by
        unfold opn; rw [bo_false]; rintro ⟨b, h3, h4⟩
        have := h.one ha (b := b) ⟨by omega, by omega⟩
        subst this; omega
      have h3 : ends S k = true := by
        unfold ends; rw [bo_true]; exact ⟨a, by have := ha.1; omega, he⟩
      rw [h2, h3]; rfl
    · have h2 : opn S (k + 1) = true := by
        unfold opn; rw [bo_true]; exact ⟨a, by have := ha.1; omega, by have := ha.2; omega⟩
      have h3 : ends S k = false := by
        unfold ends; rw [bo_false]; rintro ⟨b, h3, h4⟩
        have := h.one ha (b := b) ⟨by omega, by omega⟩
        subst this; omega
      rw [h2, h3]; rfl
theorem opn_zero (S : Nat → Nat) : opn S 0 = false := by
  unfold opn; rw [bo_false]; rintro ⟨a, h1, _⟩; omega

/-- Read as numbers: the live words of a row. -/
theorem live_num {n : Nat} {S : Nat → Nat} (h : Bl n S) (c m : Nat) :
    num (fun j => live S (c + j)) m + num (fun j => begs S (c + j)) m + (opn S c).toNat = 2 * num (fun j => ends S (c + j)) m + 2 ^ m * (opn S (c + m)).toNat := by
  induction m with
  | zero => simp [num]
  | succ m ih =>
    have h1 := live_eq h (c + m)
    have h2 := opn_succ h (c + m)
    rw [num, num, num, Nat.pow_succ]
    rw [show c + (m + 1) = c + m + 1 by omega]
    generalize (live S (c + m)).toNat = L at *
    generalize (begs S (c + m)).toNat = B at *
    generalize (ends S (c + m)).toNat = E at *
    generalize (opn S (c + m + 1)).toNat = O1 at *
    generalize (opn S (c + m)).toNat = O0 at *
    generalize 2 ^ m = P at *
    have h3 : P * L = P * B + P * O0 := by rw [h1, Nat.mul_add]
    have h4 : P * L = P * O1 + P * E := by rw [← h2, Nat.mul_add]
    have h5 : P * 2 * O1 = 2 * (P * O1) := by rw [Nat.mul_comm P 2, Nat.mul_assoc]
    rw [h5]
    omega
theorem opn_cnt {n : Nat} {S : Nat → Nat} (h : Bl n S) (c m : Nat) :
    (opn S (c + m)).toNat + cnt (fun j => ends S (c + j)) m = (opn S c).toNat + cnt (fun j => begs S (c + j)) m := by
  induction m with
  | zero => simp [cnt]
  | succ m ih =>
    have h1 := live_eq h (c + m)
    have h2 := opn_succ h (c + m)
    rw [cnt, cnt]
    rw [show c + (m + 1) = c + m + 1 by omega]
    omega
/-- The row of live words, as the program reckons it. -/
theorem live_row {n : Nat} {S : Nat → Nat} (h : Bl n S) (i : Nat) :
    IntKind.u64.wrap (IntKind.u64.wrap (IntKind.u64.wrap (((rowN (ends S) i : Nat) : Int) * 2) - ((rowN (begs S) i : Nat) : Int)) - (((opn S (64 * i)).toNat : Nat) : Int)) = ((rowN (live S) i : Nat) : Int) := by
  have h1 := live_num h (64 * i) 64
  have l1 := rowN_lt (live S) i
  unfold rowN at l1 ⊢
  generalize num (fun j => live S (64 * i + j)) 64 = L at *
  generalize num (fun j => begs S (64 * i + j)) 64 = B at *
  generalize num (fun j => ends S (64 * i + j)) 64 = E at *
  generalize (opn S (64 * i)).toNat = O at *
  generalize (opn S (64 * i + 64)).toNat = O1 at *
  rw [IntKind.wrap_u64, IntKind.wrap_u64, IntKind.wrap_u64]
  have e : 2 ^ 64 = 18446744073709551616 := by decide
  rw [e] at h1
  omega
/-- The next row's open block. -/
theorem open_row {n : Nat} {S : Nat → Nat} (h : Bl n S) (i : Nat) :
    IntKind.u64.wrap ((((opn S (64 * i)).toNat : Nat) : Int) + IntKind.u64.wrap (((cnt (fun j => begs S (64 * i + j)) 64 : Nat) : Int) - ((cnt (fun j => ends S (64 * i + j)) 64 : Nat) : Int))) = (((opn S (64 * (i + 1))).toNat : Nat) : Int) := by
  have h1 := opn_cnt h (64 * i) 64
  rw [show 64 * (i + 1) = 64 * i + 64 by omega]
  have h2 := toNat_le1 (opn S (64 * i + 64))
  generalize cnt (fun j => begs S (64 * i + j)) 64 = B at *
  generalize cnt (fun j => ends S (64 * i + j)) 64 = E at *
  generalize (opn S (64 * i)).toNat = O at *
  generalize (opn S (64 * i + 64)).toNat = O1 at *
  rw [IntKind.wrap_u64, IntKind.wrap_u64]
  omega

theorem ends_next {n : Nat} {S : Nat → Nat} (h : Bl n S) {x : Nat} {r : Int} (hx : 0 < S x) (hr : IsNext (ends S) x n r) : r = x + S x - 1 := by
  have he : ends S (x + S x - 1) = true := by
    unfold ends; rw [bo_true]; exact ⟨x, hx, by omega⟩
  have hin := h.into x hx
  rcases hr with ⟨rfl, h1⟩ | ⟨k, rfl, h1, h2, h3, h4⟩
  · rw [h1 (x + S x - 1) (by omega) (by omega)] at he; cases he
  · unfold ends at h3
    rw [bo_true] at h3
    obtain ⟨a, ha, h5⟩ := h3
    by_cases hk : k = x + S x - 1
    · omega
    · by_cases hk2 : x + S x - 1 < k
      · rw [h4 _ (by omega) hk2] at he; cases he
      · have := h.one (a := a) (b := x) (k := k) ⟨by omega, by omega⟩ ⟨by omega, by omega⟩
        subst this
        omega
/-- What Over tells. -/
def IsOver (S : Nat → Nat) (x : Int) (a z : Int) (t : Bool) : Prop :=
  (∃ k j : Nat, x = j ∧ Cov S k j ∧ a = k ∧ z = S k ∧ t = true) ∨ ((∀ k j : Nat, x = j → ¬ Cov S k j) ∧ a = 0 ∧ z = 0 ∧ t = false)
/-- What Size tells. -/
def szI (S : Nat → Nat) (x : Int) : Nat := if 0 ≤ x then S x.toNat else 0
theorem szI_nat (S : Nat → Nat) (k : Nat) : szI S (k : Int) = S k := by unfold szI; rw [if_pos (by omega), Int.toNat_natCast]
theorem szI_neg (S : Nat → Nat) {x : Int} (h : x < 0) : szI S x = 0 := by unfold szI; rw [if_neg (by omega)]

theorem last_over {n : Nat} {S : Nat → Nat} (h : Bl n S) {x : Nat} {r : Int} (hr : IsLast (begs S) x r) :
    if (x : Int) - r < szI S r then IsOver S x r (szI S r) true else IsOver S x 0 0 false := by
  rcases hr with ⟨rfl, h1⟩ | ⟨k, rfl, h1, h2, h3⟩
  · rw [szI_neg S (by omega), if_neg (by omega)]
    refine .inr ⟨?_, rfl, rfl, rfl⟩
    intro k j hj hc
    have hj2 : j = x := by omega
    subst hj2
    have h4 := h1 k hc.1
    have h5 := hc.2
    have h6 := hc.1
    unfold begs at h4
    simp at h4
    omega
  · rw [szI_nat]
    split
    · exact .inl ⟨k, x, rfl, ⟨h1, by omega⟩, rfl, rfl, rfl⟩
    · rename_i h4
      refine .inr ⟨?_, rfl, rfl, rfl⟩
      intro a j hj hc
      have hj2 : j = x := by omega
      subst hj2
      have hb : 0 < S k := by simpa [begs] using h2
      have ha : 0 < S a := by have := hc.1; have := hc.2; omega
      rcases Nat.lt_trichotomy a k with h5 | h5 | h5
      · have := h.apart a k h5 ha hb
        have := hc.2
        omega
      · subst h5
        have := hc.2
        omega
      · have h6 := h3 a h5 hc.1
        unfold begs at h6
        simp at h6
        omega
end Go.Proofs.YtcckflcjjgckoaaDoor.Bt
