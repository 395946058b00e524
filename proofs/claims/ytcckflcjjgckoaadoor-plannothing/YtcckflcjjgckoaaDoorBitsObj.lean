/-
  A Bits object in memory ('Brd': as it can be read, nil or not; 'Bts': as it is turned), and what Words, inside and keep tell.
-/
import Derived.Test.YtcckflcjjgckoaaDoorBitsZeros
import Derived.Test.YtcckflcjjgckoaaDoorBitsLen
import Derived.Deep.QuietTactic
import Derived.BigQuiet
namespace Go.Proofs.YtcckflcjjgckoaaDoor.Bt
open Go.RowKit
set_option linter.unusedVariables false

theorem cell_drewN (w : World) (m : Nat) (a : Addr) : (w.drewN m).cell? a = w.cell? a := rfl

/-- A row's number: of a side's words from 64 i on. -/
def rowN (f : Nat → Bool) (i : Nat) : Nat := num (fun j => f (64 * i + j)) 64
theorem rowN_lt (f : Nat → Bool) (i : Nat) : rowN f i < 18446744073709551616 := num_lt64 _

/-- A Bits object that can be read: nil, or a struct; F 0: where blocks begin, F 1: where they end. -/
structure Brd (w : World) (ov : Option Addr) (n : Nat) (F : Nat → Nat → Bool) : Prop where
  few : n ≤ 65536
  tab : Tab w
  head : ∀ a, ov = some a → ∃ p, a = ⟨p, 0, none⟩ ∧ w.cell? ⟨p, 0, none⟩ = some (.int .i64 (n : Int))
  some_ : 0 < n → ∃ p q R, ov = some ⟨p, 0, none⟩ ∧ w.cell? ⟨p, 0, none⟩ = some (.int .i64 (n : Int)) ∧ w.cell? ⟨p, 1, none⟩ = some (.slice (some ⟨q, 0, none⟩) R R) ∧ (R : Nat) = (n + 63) / 64 ∧ ∀ i s, i < R → s < 2 → w.cell? ⟨q, i * 2 + s, none⟩ = some (.int .u64 ((rowN (F s) i : Nat) : Int))
  nil : ov = none → n = 0

theorem Brd.turned {w w' : World} {ov : Option Addr} {n : Nat} {F : Nat → Nat → Bool} (h : Brd w ov n F) (t : Turned [] w w') : Brd w' ov n F := by
  have k : ∀ a x, w.cell? a = some x → w'.cell? a = some x := fun a x hx => by rw [t.cell (block_lt hx) (by simp)]; exact hx
  refine ⟨h.few, h.tab.turned t (by simp), fun a ha => ?_, fun hn => ?_, h.nil⟩
  · obtain ⟨p, h1, h2⟩ := h.head a ha
    exact ⟨p, h1, k _ _ h2⟩
  · obtain ⟨p, q, R, h1, h2, h3, h4, h5⟩ := h.some_ hn
    exact ⟨p, q, R, h1, k _ _ h2, k _ _ h3, h4, fun i s hi hs => k _ _ (h5 i s hi hs)⟩
theorem Brd.drewN {w : World} {ov : Option Addr} {n : Nat} {F : Nat → Nat → Bool} (h : Brd w ov n F) (m : Nat) : Brd (w.drewN m) ov n F :=
  h.turned ((Turned.refl _ _).drewN m)

theorem words_any (ov : Option Addr) (n : Nat) (F : Nat → Nat → Bool) (w : World) (h : Brd w ov n F) :
    Calls Tryd.prog 20 #[.pointer ov] w fun e w' => e = .returned (.int .i64 (n : Int)) ∧ w' = w := by
  cases ov with
  | none =>
    have h0 := h.nil rfl
    subst h0
    go_enter Tryd.func20, Tryd.ntmps20
    go_wp2_with fail
    go_ret
    exact ⟨rfl, rfl⟩
  | some a =>
    obtain ⟨p, rfl, c0⟩ := h.head a rfl
    clear h
    go_enter Tryd.func20, Tryd.ntmps20
    go_wp2_with fail
    go_ret
    exact ⟨rfl, rfl⟩

theorem inside_any (ov : Option Addr) (n : Nat) (F : Nat → Nat → Bool) (x : Int) (w : World) (h : Brd w ov n F) :
    Calls Tryd.prog 38 #[.pointer ov, .int .i64 x] w fun e w' => e = .returned (.bool (decide (0 ≤ x) && decide (x < n))) ∧ w' = w := by
  have H := hide (words_any ov n F w h)
  clear h
  by_cases h0 : 0 ≤ x
  · go_enter Tryd.func38, Tryd.ntmps38
    go_wp2_with fail
    refine H.out.mono ?_
    rintro e w1 ⟨rfl, rfl⟩
    go_wp2_with fail
    go_ret
    exact ⟨by simp [h0], rfl⟩
  · have hd : decide (0 ≤ x) = false := decide_eq_false h0
    go_enter Tryd.func38, Tryd.ntmps38
    go_wp2_with fail
    go_ret
    exact ⟨by simp, rfl⟩

/-- A range's end, kept. -/
def kp (n : Nat) (x : Int) : Nat := min x.toNat n
theorem kp_le (n : Nat) (x : Int) : kp n x ≤ n := Nat.min_le_right _ _
theorem kp_eq (n : Nat) (x : Int) (h : 0 ≤ x ∧ x ≤ n) : (kp n x : Int) = x := by unfold kp; omega

theorem keep_any (ov : Option Addr) (n : Nat) (F : Nat → Nat → Bool) (x y : Int) (w : World) (h : Brd w ov n F) :
    Calls Tryd.prog 49 #[.pointer ov, .int .i64 x, .int .i64 y] w fun e w' => e = .returned (.tuple #[.int .i64 (kp n x : Int), .int .i64 (kp n y : Int)]) ∧ w' = w := by
  have H := hide (words_any ov n F w h)
  have ex : (kp n x : Int) = min (max x 0) (n : Int) := by unfold kp; omega
  have ey : (kp n y : Int) = min (max y 0) (n : Int) := by unfold kp; omega
  rw [ex, ey]
  clear h ex ey
  go_enter Tryd.func49, Tryd.ntmps49
  go_wp2_with fail
  refine H.out.mono ?_
  rintro e w1 ⟨rfl, rfl⟩
  go_wp2_with fail
  go_ret2
  exact ⟨rfl, rfl⟩

theorem has_any (ov : Option Addr) (n : Nat) (F : Nat → Nat → Bool) (x : Int) (w : World) (h : Brd w ov n F) :
    Calls Tryd.prog 46 #[.pointer ov, .int .i64 x] w fun e w' => e = .returned (.bool (decide (0 ≤ x) && decide (x < n) && F 0 x.toNat)) ∧ ∃ m, w' = w.drewN m := by
  have H := hide (fun m => inside_any ov n F x (w.drewN m) (h.drewN m))
  by_cases h0 : 0 ≤ x ∧ x < n
  · obtain ⟨p, q, R, rfl, c0, c1, hR, hc⟩ := h.some_ (by omega)
    obtain ⟨k, rfl⟩ := Int.eq_ofNat_of_zero_le h0.1
    have hk : k < n := by omega
    have hn := h.few
    have HB := hide (fun m => bit_any k (w.drewN m) (by omega))
    have e1 : (decide (0 ≤ (k : Int)) && decide ((k : Int) < n)) = true := by simp; omega
    rw [e1] at H
    have c2 := hc (k / 64) 0 (by omega) (by omega)
    have ei : ((k : Int) / 64) = ((k / 64 : Nat) : Int) := by omega
    have l1 := rowN_lt (F 0) (k / 64)
    have l2 := num_lt64 (fun j => decide (j = k % 64))
    have key : bits .and .u64 ((rowN (F 0) (k / 64) : Nat) : Int) ((num (fun j => decide (j = k % 64)) 64 : Nat) : Int) = (((if F 0 k then 2 ^ (k % 64) else 0) : Nat) : Int) := by
      rw [bits_and_u64_nat _ _ l1 l2]
      refine congrArg (fun n : Nat => (n : Int)) ?_
      unfold rowN
      rw [num_and]
      by_cases hf : F 0 k = true
      · rw [if_pos hf, ← num_one (k % 64) 64 (by omega)]
        refine num_congr fun j hj => ?_
        by_cases hj2 : j = k % 64
        · subst hj2
          rw [show 64 * (k / 64) + k % 64 = k by omega, hf]
          simp
        · simp [hj2]
      · rw [if_neg hf]
        refine num_zero fun j hj => ?_
        by_cases hj2 : j = k % 64
        · subst hj2
          rw [show 64 * (k / 64) + k % 64 = k by omega]
          simp [hf]
        · simp [hj2]
    have hne : ((((if F 0 k then 2 ^ (k % 64) else 0 : Nat)) : Int) != 0) = F 0 k := by
      have := Nat.two_pow_pos (k % 64)
      cases F 0 k
      · rfl
      · simp only [if_true]
        generalize 2 ^ (k % 64) = y at *
        simp only [bne_iff_ne]
        omega
    rw [e1, Bool.true_and, Int.toNat_natCast, ← hne]
    have hi1 : k / 64 < R := by omega
    clear h hc e1 hR l1 l2 hne
    generalize rowN (F 0) (k / 64) = A at *
    generalize num (fun j => decide (j = k % 64)) 64 = B at *
    generalize (if F 0 k then 2 ^ (k % 64) else 0 : Nat) = C at *
    rw [Nat.add_zero] at c2
    generalize k / 64 = i at *
    have wi : IntKind.i64.wrap (i : Int) = (i : Int) := by rw [IntKind.wrap_i64]; omega
    go_enter Tryd.func46, Tryd.ntmps46
    go_wp2_with fail
    go_quiet (first | (go_at_call 38; exact Calls.quiet_of_same (H.out _)) | (go_at_call 60; exact Calls.quiet_of_same (HB.out _)))
    go_wp2_with fail
    go_ret
    exact ⟨rfl, _, rfl⟩
  · have e1 : (decide (0 ≤ x) && decide (x < n)) = false := by
      rw [← Bool.not_eq_true]; simp only [Bool.and_eq_true, decide_eq_true_eq]; exact h0
    rw [e1] at H
    rw [e1, Bool.false_and]
    clear h h0
    go_enter Tryd.func46, Tryd.ntmps46
    go_wp2_with fail
    go_quiet ((go_at_call 38; exact Calls.quiet_of_same (H.out _)))
    go_wp2_with fail
    go_ret
    exact ⟨rfl, _, rfl⟩
end Go.Proofs.YtcckflcjjgckoaaDoor.Bt
