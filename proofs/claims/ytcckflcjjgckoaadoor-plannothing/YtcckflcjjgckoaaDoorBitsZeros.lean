/-
  What TrailingZeros64 tells: the lowest bit; its table lies in block 0 ('Tab').
-/
import Derived.Test.YtcckflcjjgckoaaDoorBitsWords
namespace Go.Proofs.YtcckflcjjgckoaaDoor.Bt
open Go.RowKit
set_option linter.unusedVariables false

/-- The library's table, in its variable. -/
def Tab (w : World) : Prop := ∀ j, j < 64 → w.cell? ⟨0, j, none⟩ = some (.int .u8 ((Lib.deBruijn64tab.getD j 0 : Nat) : Int))
theorem Tab.turned {w w' : World} {S : List Nat} (h : Tab w) (ht : Turned S w w') (hs : 0 ∉ S) : Tab w' := by
  intro j hj
  have h1 := h j hj
  rw [ht.cell (block_lt h1) hs]
  exact h1

set_option maxHeartbeats 1000000 in
theorem tz64_core (x k idx : Nat) (w : World) (hx0 : ((x : Int) == 0) = false)
    (key : IntKind.u64.wrap (bits BinOp.and IntKind.u64 (x : Int) (IntKind.u64.wrap (-(x : Int))) * 285870213051353865) / 288230376151711744 = (idx : Int))
    (hi : idx < 64) (hk : k < 64) (hcell : w.cell? ⟨0, idx, none⟩ = some (.int .u8 k)) :
    Calls Tryd.prog 61 #[.int .u64 x] w fun e w' => e = .returned (.int .i64 k) ∧ w' = w := by
  go_enter Tryd.func61, Tryd.ntmps61
  go_wp2_with (simp only [key])
  go_ret
  exact ⟨rfl, rfl⟩
theorem tz64_key (x a : Nat) (hx : x < 18446744073709551616) (hx0 : x ≠ 0) (hlow : x &&& (18446744073709551616 - x) = a) :
    IntKind.u64.wrap (bits BinOp.and IntKind.u64 (x : Int) (IntKind.u64.wrap (-(x : Int))) * 285870213051353865) / 288230376151711744 = ((a * 285870213051353865 % 18446744073709551616 / 288230376151711744 : Nat) : Int) := by
  have e1 : IntKind.u64.wrap (-(x : Int)) = ((18446744073709551616 - x : Nat) : Int) := by rw [IntKind.wrap_u64]; omega
  rw [e1, bits_and_u64_nat x _ hx (by omega), hlow, IntKind.wrap_u64]
  omega
theorem ctz_bit {x : Nat} (h0 : x ≠ 0) (hx : x < 2 ^ 64) : x.testBit (Lib.ctz 64 x) = true ∧ ∀ j, j < Lib.ctz 64 x → x.testBit j = false := by
  obtain ⟨m, hm, hk⟩ := Lib.ctzFrom_spec 64 x (by omega) hx
  have e : Lib.ctz 64 x = Lib.ctzFrom 64 x := by unfold Lib.ctz; rw [if_neg h0]
  rw [e]
  generalize Lib.ctzFrom 64 x = c at *
  rw [Nat.mul_comm] at hm
  constructor
  · rw [hm, Nat.testBit_mul_two_pow]
    simp
  · intro j hj
    rw [hm, Nat.testBit_mul_two_pow]
    have : ¬ c ≤ j := by omega
    simp [this]
theorem tz64_any (x k : Nat) (hx : x < 18446744073709551616) (hk : x.testBit k = true) (hl : ∀ j, j < k → x.testBit j = false) (w : World) (hT : Tab w) :
    Calls Tryd.prog 61 #[.int .u64 (x : Int)] w fun e w' => e = .returned (.int .i64 (k : Int)) ∧ w' = w := by
  have hx0 : x ≠ 0 := by intro h; subst h; simp at hk
  obtain ⟨h1, h2⟩ := ctz_bit hx0 hx
  have hc : Lib.ctz 64 x = k := by
    rcases Nat.lt_trichotomy (Lib.ctz 64 x) k with h | h | h
    · rw [hl _ h] at h1; cases h1
    · exact h
    · rw [h2 _ h] at hk; cases hk
  obtain ⟨hlow, hk6⟩ := Lib.lowest_bit 64 x hx0 hx
  obtain ⟨hi, htab⟩ := Lib.deBruijn64_at _ hk6
  have hcell := hT _ hi
  rw [htab] at hcell
  rw [← hc]
  exact tz64_core x _ _ w (by simp; omega) (tz64_key x _ hx hx0 hlow) hi hk6 hcell
end Go.Proofs.YtcckflcjjgckoaaDoor.Bt
