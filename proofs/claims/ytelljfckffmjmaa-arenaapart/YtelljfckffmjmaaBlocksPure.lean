/-
  Blocks without memory: what is laid, read and walked in a list of words, as the document says it. No Go is walked here.
-/
import Derived.Test.YtelljfckffmjmaaClassesCount
import Derived.Test.YtelljfckffmjmaaClassesHead
import Derived.Test.YtelljfckffmjmaaCellsPutAny
namespace Go.Proofs.Ytelljfckffmjmaa
open Go.RowKit
set_option linter.unusedVariables false

theorem sizeOf_ok {cs : List Cls} {k n : Int} (h : (sizeOf cs k n).2 = 0) : 1 ≤ (sizeOf cs k n).1 ∧ (sizeOf cs k n).1 ≤ 65536 := by
  unfold sizeOf told at *
  split at h
  · simp at h
  · rename_i c hc
    split at h
    · rename_i hn
      have := clsAt_few hc hn
      simp only [if_pos hn, gSize]
      omega
    · simp at h
theorem sizeOf_bad {cs : List Cls} {k n : Int} (h : ¬ (sizeOf cs k n).2 = 0) : (sizeOf cs k n).1 = 0 ∧ ((sizeOf cs k n).2 = 11 ∨ (sizeOf cs k n).2 = 12) := by
  unfold sizeOf told at *
  split at h
  · simp
  · rename_i c hc
    split at h
    · simp at h
    · rename_i hn
      simp [if_neg hn]

/-- A block: its address, its class, its length, its size. -/
structure Blk where
  t : Int
  k : Int
  n : Int
  s : Int
  deriving DecidableEq
def Blk.cells (b : Blk) : List Value := [.int .i64 b.t, .int .i64 b.k, .int .i64 b.n, .int .i64 b.s]
def Blk.zero : Blk := ⟨0, 0, 0, 0⟩

/-- The word at a place, if there is a cell. -/
def wordAt (l : List Int) (t : Int) : Option Int := if 0 ≤ t then l[t.toNat]? else none
theorem wordAt_some {l : List Int} {t x : Int} (h : wordAt l t = some x) : ∃ i : Nat, t = i ∧ i < l.length ∧ l[i]? = some x := by
  unfold wordAt at h
  split at h
  · exact ⟨t.toNat, by omega, (List.getElem?_eq_some_iff.1 h).1, h⟩
  · cases h
theorem wordAt_none {l : List Int} {t : Int} (h : wordAt l t = none) : t < 0 ∨ (l.length : Int) ≤ t := by
  unfold wordAt at h
  split at h
  · have := List.getElem?_eq_none_iff.1 h
    omega
  · omega
theorem wordAt_nat {l : List Int} {i : Nat} : wordAt l (i : Int) = l[i]? := by
  unfold wordAt
  rw [if_pos (by omega), Int.toNat_natCast]

/-- What is laid: a header and zeros. -/
def laid (k n : Int) (s : Nat) : List Int := headOf k n :: List.replicate (s - 1) 0
theorem laid_length (k n : Int) (s : Nat) (h : 1 ≤ s) : (laid k n s).length = s := by simp [laid]; omega
/-- The words behind a lay, and what it tells: its size, its error. -/
def layL (l : List Int) (cs : List Cls) (t k n : Int) : List Int := if (sizeOf cs k n).2 = 0 then putL l t (laid k n (sizeOf cs k n).1.toNat) else l
def layS (l : List Int) (cs : List Cls) (t k n : Int) : Int := if (sizeOf cs k n).2 = 0 ∧ 0 ≤ t ∧ t + (sizeOf cs k n).1 ≤ l.length then (sizeOf cs k n).1 else 0
def layE (l : List Int) (cs : List Cls) (t k n : Int) : Int := if (sizeOf cs k n).2 = 0 then putE l t (laid k n (sizeOf cs k n).1.toNat) else (sizeOf cs k n).2
theorem layL_length (l : List Int) (cs : List Cls) (t k n : Int) : (layL l cs t k n).length = l.length := by
  unfold layL
  split
  · exact putL_length _ _ _
  · rfl

/-- What is read. -/
def readOf (l : List Int) (cs : List Cls) (t : Int) : Option Blk :=
  match wordAt l t with
  | none => none
  | some h => if isHead h = true ∧ (sizeOf cs (partC h) (partL h)).2 = 0 ∧ (sizeOf cs (partC h) (partL h)).1 ≤ l.length - t then some ⟨t, partC h, partL h, (sizeOf cs (partC h) (partL h)).1⟩ else none
def readE (l : List Int) (cs : List Cls) (t : Int) : Int := if (wordAt l t).isNone then 10 else if (readOf l cs t).isNone then 13 else 0
theorem readOf_some {l : List Int} {cs : List Cls} {t : Int} {b : Blk} (h : readOf l cs t = some b) :
    b.t = t ∧ 0 ≤ t ∧ 1 ≤ b.s ∧ b.s ≤ 65536 ∧ t + b.s ≤ l.length ∧ (sizeOf cs b.k b.n).2 = 0 ∧ b.s = (sizeOf cs b.k b.n).1 ∧ ∃ x, wordAt l t = some x ∧ isHead x = true ∧ b.k = partC x ∧ b.n = partL x := by
  unfold readOf at h
  split at h
  · cases h
  · rename_i x hx
    split at h
    · rename_i hc
      injection h with h
      subst h
      obtain ⟨i, rfl, hi, _⟩ := wordAt_some hx
      have := sizeOf_ok hc.2.1
      exact ⟨rfl, by omega, this.1, this.2, by simp only; omega, hc.2.1, rfl, x, hx, hc.1, rfl, rfl⟩
    · cases h

/-- What is walked: all blocks up to a place. -/
def walkN (l : List Int) (cs : List Cls) (to : Int) : Nat → Int → Option (List Blk)
  | 0, t => if t < to then none else some []
  | n + 1, t => if t < to then
      match readOf l cs t with
      | none => none
      | some b => if b.s ≤ to - t then (walkN l cs to n (t + b.s)).map (b :: ·) else none
    else some []
def walkOf (l : List Int) (cs : List Cls) (to t : Int) : Option (List Blk) := walkN l cs to (to - t).toNat t
theorem walkN_more (l : List Int) (cs : List Cls) (to : Int) : ∀ (n m : Nat) (t : Int), (to - t).toNat ≤ n → n ≤ m → walkN l cs to m t = walkN l cs to n t
  | 0, 0, t, _, _ => rfl
  | 0, m + 1, t, h, _ => by
    have h1 : ¬ t < to := by omega
    unfold walkN
    simp [h1]
  | n + 1, 0, t, _, h2 => by omega
  | n + 1, m + 1, t, h, h2 => by
    unfold walkN
    split
    · split
      · rfl
      · rename_i b hb
        have := (readOf_some hb).2.2.1
        split
        · rw [walkN_more l cs to n m (t + b.s) (by omega) (by omega)]
        · rfl
    · rfl
theorem walkOf_end {l : List Int} {cs : List Cls} {to t : Int} (h : ¬ t < to) : walkOf l cs to t = some [] := by
  unfold walkOf walkN
  split
  · simp [h]
  · simp [h]
theorem walkOf_step {l : List Int} {cs : List Cls} {to t : Int} {b : Blk} (h : t < to) (hb : readOf l cs t = some b) (hs : b.s ≤ to - t) : walkOf l cs to t = (walkOf l cs to (t + b.s)).map (b :: ·) := by
  have h1 := (readOf_some hb).2.2.1
  unfold walkOf
  obtain ⟨n, hn⟩ : ∃ n, (to - t).toNat = n + 1 := ⟨(to - t).toNat - 1, by omega⟩
  rw [hn]
  conv => lhs; unfold walkN
  simp only [if_pos h, hb, if_pos hs]
  rw [walkN_more l cs to (to - (t + b.s)).toNat n (t + b.s) (Nat.le_refl _) (by omega)]
theorem walkOf_stop {l : List Int} {cs : List Cls} {to t : Int} (h : t < to) (hb : ∀ b, readOf l cs t = some b → to - t < b.s) : walkOf l cs to t = none := by
  unfold walkOf
  obtain ⟨n, hn⟩ : ∃ n, (to - t).toNat = n + 1 := ⟨(to - t).toNat - 1, by omega⟩
  rw [hn]
  unfold walkN
  simp only [if_pos h]
  split
  · rfl
  · rename_i b hb2
    rw [if_neg (by have := hb b hb2; omega)]
end Go.Proofs.Ytelljfckffmjmaa
