/-
  What is laid is read, without memory. No Go is walked here.
-/
import Derived.Test.YtkidcbehjhlnkaaBlocksIn
namespace Go.Proofs.Ytkidcbehjhlnkaa
set_option linter.unusedVariables false

theorem head_parts (k n : Int) : partC (headOf k n) = k % 16777216 ∧ partL (headOf k n) = n % 4294967296 ∧ isHead (headOf k n) = true := by
  have h1 : partC (headOf k n) = k % 16777216 := by unfold partC headOf; omega
  have h2 : partL (headOf k n) = n % 4294967296 := by unfold partL headOf; omega
  refine ⟨h1, h2, ?_⟩
  unfold isHead
  rw [h1, h2, decide_eq_true_iff]
  unfold headOf
  omega

/-- The words behind a put. -/
theorem put_word {l m : List Int} {t : Int} (h : 0 ≤ t ∧ t + m.length ≤ l.length) (x : Int) : wordAt (putL l t m) x = if t ≤ x ∧ x < t + m.length then m[(x - t).toNat]? else wordAt l x := by
  unfold putL
  rw [if_pos h]
  unfold wordAt
  by_cases h0 : 0 ≤ x
  · rw [if_pos h0, if_pos h0, over_get _ _ _ (by omega)]
    by_cases h1 : t ≤ x ∧ x < t + m.length
    · rw [if_pos (by omega), if_pos h1]
      congr 1
      omega
    · rw [if_neg (by omega), if_neg h1]
  · rw [if_neg h0, if_neg h0, if_neg (by omega)]
theorem laid_word {k n : Int} {s : Nat} (h : 1 ≤ s) (i : Nat) (hi : i < s) : (laid k n s)[i]? = some (if i = 0 then headOf k n else 0) := by
  unfold laid
  cases i with
  | zero => simp
  | succ j =>
    rw [List.getElem?_cons_succ, List.getElem?_replicate, if_pos (by omega), if_neg (by omega)]

/-- What is laid is read. -/
theorem read_laid {l : List Int} {cs : List Cls} {t k n : Int} {m : Int} (hs : sizeOf cs k n = (m, 0)) (hk : 0 ≤ k ∧ k < 16777216) (hn : 0 ≤ n ∧ n < 4294967296) (ht : 0 ≤ t ∧ t + m ≤ l.length) : readOf (putL l t (laid k n m.toNat)) cs t = some ⟨t, k, n, m⟩ := by
  have h0 : (sizeOf cs k n).2 = 0 := by rw [hs]
  have h1 := sizeOf_ok h0
  rw [hs] at h1
  simp only at h1
  have hl : (laid k n m.toNat).length = m.toNat := laid_length _ _ _ (by omega)
  have hw : wordAt (putL l t (laid k n m.toNat)) t = some (headOf k n) := by
    rw [put_word (by omega), if_pos (by omega), show (t - t).toNat = 0 by omega, laid_word (by omega) 0 (by omega), if_pos rfl]
  obtain ⟨p1, p2, p3⟩ := head_parts k n
  rw [show k % 16777216 = k by omega] at p1
  rw [show n % 4294967296 = n by omega] at p2
  unfold readOf
  simp only [hw, p1, p2, p3, hs]
  rw [if_pos ⟨trivial, trivial, by rw [putL_length]; omega⟩]
/-- A block whose words stay is read as before. -/
theorem read_keep {l l' : List Int} {cs : List Cls} {t : Int} {b : Blk} (h : readOf l cs t = some b) (hl : l'.length = l.length) (hw : wordAt l' t = wordAt l t) : readOf l' cs t = some b := by
  unfold readOf at *
  rw [hw, hl]
  exact h
/-- One block from a place to another. -/
theorem walk_one {l : List Int} {cs : List Cls} {t g : Int} {b : Blk} (h : readOf l cs t = some b) (hg : g = t + b.s) : walkOf l cs g t = some [b] := by
  have h1 := (readOf_some h).2.2.1
  rw [walkOf_step (by omega) h (by omega), walkOf_end (by omega)]
  rfl
/-- A filler is read. -/
theorem read_fill {l : List Int} {cs : List Cls} {f g : Int} (h : 0 ≤ f ∧ f < g ∧ g ≤ l.length) (hl : l.length ≤ 65536) : readOf (fillL l f g) cs f = some ⟨f, 0, g - f - 1, g - f⟩ := by
  unfold fillL
  rw [if_pos h]
  have hz := sizeOf_filler (g - f - 1) cs (by omega)
  rw [show (1 + (g - f - 1) : Int) = g - f by omega] at hz
  exact read_laid hz (by omega) (by omega) (by omega)
theorem fill_word {l : List Int} {f g : Int} (x : Int) (h : ¬ (0 ≤ f ∧ f ≤ g ∧ g ≤ l.length) ∨ x < f ∨ g ≤ x) : wordAt (fillL l f g) x = wordAt l x := by
  unfold fillL
  split
  · rename_i h1
    have hl : (laid 0 (g - f - 1) (g - f).toNat).length = (g - f).toNat := laid_length _ _ _ (by omega)
    rw [put_word (by omega), if_neg (by omega)]
  · rfl
end Go.Proofs.Ytkidcbehjhlnkaa
