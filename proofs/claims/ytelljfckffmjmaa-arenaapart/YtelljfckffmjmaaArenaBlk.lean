/-
  What a header says is read, without memory.
-/
import Derived.Test.YtelljfckffmjmaaArenaDocW
namespace Go.Proofs.Ytelljfckffmjmaa
open Go.RowKit
set_option linter.unusedVariables false

theorem head_parts (k n : Int) : partC (headOf k n) = k % 16777216 ∧ partL (headOf k n) = n % 4294967296 ∧ isHead (headOf k n) = true := by
  have h1 : partC (headOf k n) = k % 16777216 := by unfold partC headOf; omega
  have h2 : partL (headOf k n) = n % 4294967296 := by unfold partL headOf; omega
  refine ⟨h1, h2, ?_⟩
  unfold isHead
  rw [h1, h2, decide_eq_true_iff]
  unfold headOf
  omega

theorem read_head {l : List Int} {cs : List Cls} {t k n m : Int} (hs : sizeOf cs k n = (m, 0)) (hk : 0 ≤ k ∧ k < 16777216) (hn : 0 ≤ n ∧ n < 4294967296) (hw : wordAt l t = some (headOf k n)) (ht : t + m ≤ l.length) : readOf l cs t = some ⟨t, k, n, m⟩ := by
  obtain ⟨p1, p2, p3⟩ := head_parts k n
  rw [show k % 16777216 = k by omega] at p1
  rw [show n % 4294967296 = n by omega] at p2
  unfold readOf
  simp only [hw, p1, p2, p3, hs]
  rw [if_pos ⟨trivial, trivial, by omega⟩]

theorem size_filler (cs : List Cls) (n : Int) (h : 0 ≤ n ∧ n ≤ 65535) : sizeOf cs 0 n = (1 + n, 0) := sizeOf_filler n cs h
/-- The one class of the law: an array of words. -/
theorem size_array (n : Int) (h : 0 ≤ n ∧ n ≤ 1000) : sizeOf [⟨0, 0, 2⟩] 1 n = (1 + n, 0) := by
  unfold sizeOf told
  have e : clsAt [⟨0, 0, 2⟩] 1 = some ⟨0, 0, 2⟩ := rfl
  rw [e]
  simp only
  rw [if_pos ⟨h.1, by show n ≤ Cls.most ⟨0, 0, 2⟩; unfold Cls.most; simp; omega⟩]
  unfold gSize Cls.rN Cls.wN
  simp
end Go.Proofs.Ytelljfckffmjmaa
