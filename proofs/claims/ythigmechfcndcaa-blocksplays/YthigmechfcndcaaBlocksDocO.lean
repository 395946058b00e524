/-
  The document's own object: the place among blocks of an object's address.
-/
import Derived.Test.YthigmechfcndcaaBlocksDocW
import Derived.Test.YthigmechfcndcaaBlocksAddr
import Derived.Test.YthigmechfcndcaaBlocksRefR
namespace Go.Proofs.Ythigmechfcndcaa
open Go.RowKit
set_option linter.unusedVariables false

theorem object_any (ao : Option Addr) (len cap : Nat) (bs : List Blk) (x : Int) (w : World) (h : BlkRd w ao len bs) (hl : len ≤ 65536) :
    Calls Try.prog 37 #[.slice ao len cap, .int .i64 x] w fun e w' => ∃ r : Int, e = .returned (.int .i64 r) ∧ ((∃ (i : Nat) (b : Blk), bs[i]? = some b ∧ b.t = x ∧ 0 < b.k ∧ r = i) ∨ (r = -1 ∧ ∀ b, b ∈ bs → ¬ (b.t = x ∧ 0 < b.k))) ∧ w' = w := by
  have H := hide h
  clear h
  go_enter Try.func37, Try.ntmps37
  go_wp2_with fail
  go_loop [5] (fun i => ∃ k : Nat, k ≤ len ∧ i = .int .i64 k ∧ Hid (∀ b, b ∈ bs.take k → ¬ (b.t = x ∧ 0 < b.k))) (fun i => len - (intOf i).toNat)
  case atStart => exact ⟨0, Nat.zero_le _, rfl, fun b hb => (by simp at hb)⟩
  case round =>
    obtain ⟨k, hk, rfl, HN⟩ := hrel
    by_cases hlt : k < len
    · obtain ⟨b, hb⟩ : ∃ b, bs[k]? = some b := ⟨_, List.getElem?_eq_getElem (by rw [H.out.size]; exact hlt)⟩
      obtain ⟨g, off, rfl, c0, c1, c2, c3⟩ := H.out.cell k b hb
      have HB := hide hb
      clear hb
      have hlti : (k : Int) < (len : Int) := by omega
      have HStep : Hid (¬ (b.t = x ∧ 0 < b.k) → ∀ d, d ∈ bs.take (k + 1) → ¬ (d.t = x ∧ 0 < d.k)) := fun hn d hd => by
        rw [take_snocL HB.out] at hd
        rcases List.mem_append.1 hd with h1 | h1
        · exact HN.out d h1
        · simp at h1; rw [h1]; exact hn
      by_cases hbt : b.t = x
      · by_cases hbk : 0 < b.k
        · have e1 : (b.t == x) = true := by simpa using hbt
          go_wp2_with fail
          go_ret
          exact ⟨_, rfl, .inl ⟨k, b, HB.out, hbt, hbk, rfl⟩, rfl⟩
        · have e1 : (b.t == x) = true := by simpa using hbt
          go_wp2_with fail
          go_round
          case rel => exact ⟨k + 1, by omega, by go_num, HStep.out (fun h => hbk h.2)⟩
          case measure => simp [intOf]; omega
      · have e1 : (b.t == x) = false := by simpa using hbt
        go_wp2_with fail
        go_round
        case rel => exact ⟨k + 1, by omega, by go_num, HStep.out (fun h => hbt h.1)⟩
        case measure => simp [intOf]; omega
    · go_wp2_with fail
      go_ret
      exact ⟨_, rfl, .inr ⟨rfl, fun b hb h1 => Int.not_lt.1 fun h2 => HN.out b (by rw [List.take_of_length_le (by rw [H.out.size]; omega)]; exact hb) ⟨h1, h2⟩⟩, rfl⟩
end Go.Proofs.Ythigmechfcndcaa
