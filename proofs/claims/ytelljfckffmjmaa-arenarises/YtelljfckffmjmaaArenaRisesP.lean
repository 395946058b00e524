/-
  One thread alone: what holds behind each ask of ArenaRises, without memory.
-/
import Derived.Test.YtelljfckffmjmaaArenaAlone
namespace Go.Proofs.Ytelljfckffmjmaa
open Go.RowKit
set_option linter.unusedVariables false

/-- What holds: where the top is, where the buffer lies, how much was told. -/
structure RI (A : AC) (l : List Int) (f t used large : Int) : Prop where
  z : A.top = 0
  len : l.length = 301
  til : A.to ≤ 300
  buf : 2 ≤ A.buf ∧ A.buf ≤ 4096
  top : 1 ≤ topOf A l ∧ topOf A l ≤ A.to
  bf : (f = 0 ∧ t = 0) ∨ (1 ≤ f ∧ f ≤ t ∧ t ≤ topOf A l)
  used : 0 ≤ used ∧ used + (t - f) ≤ topOf A l - 1
  large : 0 ≤ large ∧ large ≤ topOf A l

theorem RI.above {A : AC} {l : List Int} {f t used large : Int} (h : RI A l f t used large) : aboveOf A (topOf A l) = A.to - topOf A l := by
  unfold aboveOf; rw [if_neg (by have := h.top; omega)]

theorem topOf_set (A : AC) (l : List Int) (x : Int) (h : A.top < l.length) : topOf A (l.set A.top x) = x := by
  unfold topOf; rw [getD_set, if_pos ⟨rfl, h⟩]
theorem topOf_other (A : AC) (l : List Int) (i : Nat) (x : Int) (h : i ≠ A.top) : topOf A (l.set i x) = topOf A l := by
  unfold topOf; rw [getD_set, if_neg (fun hh => h hh.1)]

/-- What an ask for n comes to. -/
def Rose (A : AC) (l : List Int) (f t used large n : Int) (y : ASt) : Prop :=
  ∃ l' f' t' pos errno, Told y l' [f', t'] pos errno ∧
    ((errno = 14 ∧ aboveOf A (topOf A l) < n ∧ RI A l' f' t' used large) ∨
     (errno = 0 ∧ 1 ≤ pos ∧ pos + n ≤ A.to ∧ ¬ (aboveOf A (topOf A l) < n ∧ t - f < n) ∧ (n ≤ t - f → aboveOf A (topOf A l') = aboveOf A (topOf A l)) ∧ RI A l' f' t' (used + n) (if large ≤ pos then pos + n else large)))

theorem rose (A : AC) (l : List Int) (f t used large n s : Int) (h : RI A l f t used large) (hn : 1 ≤ n ∧ n ≤ 30) : Rose A l f t used large n (goA A 0 4 ⟨l, [f, t], akNew n, s⟩) := by
  have hz := h.z
  have hlen := h.len
  have hto := h.til
  have hbuf := h.buf
  have htop := h.top
  have hbf := h.bf
  have hu := h.used
  have hlg := h.large
  have hab := h.above
  have hcell : A.top < l.length := by omega
  by_cases h1 : n ≤ t - f
  · have T := alone_take A l f t n s (by omega) h1
    refine ⟨_, _, _, _, _, T, .inr ⟨rfl, by omega, by omega, by omega, fun _ => rfl, ?_⟩⟩
    refine ⟨hz, hlen, hto, hbuf, htop, by omega, by omega, ?_⟩
    split <;> omega
  · by_cases h2 : aboveOf A (topOf A l) < n
    · obtain ⟨l', bl', T, hh⟩ := alone_full A l f t n s (by omega) h1 (by omega) (by omega) h2
      rcases hh with ⟨rfl, rfl⟩ | ⟨hft, rfl, rfl⟩
      · exact ⟨_, _, _, _, _, T, .inl ⟨rfl, h2, h⟩⟩
      · have e := topOf_other A l f.toNat (headOf 0 (t - f - 1)) (by omega)
        refine ⟨_, _, _, _, _, T, .inl ⟨rfl, h2, ⟨hz, by simp [hlen], hto, hbuf, ?_, .inl ⟨rfl, rfl⟩, ?_, ?_⟩⟩⟩
        · rw [e]; exact htop
        · rw [e]; omega
        · rw [e]; exact hlg
    · rw [hab] at h2
      cases hg : lg A n with
      | true =>
        have T := alone_large A l f t n s (by omega) h1 hg (by rw [hab]; exact h2)
        have e := topOf_set A l (topOf A l + n) hcell
        refine ⟨_, _, _, _, _, T, .inr ⟨rfl, by omega, by omega, by omega, fun hh => absurd hh h1, ⟨hz, by simp [hlen], hto, hbuf, ?_, ?_, ?_, ?_⟩⟩⟩
        · rw [e]; omega
        · rw [e]; omega
        · rw [e]; omega
        · rw [e]; split <;> omega
      | false =>
        have T := alone_new A l f t n s (by omega) h1 (by omega) (by omega) hg (by rw [hab]; exact h2)
        have hb2 : 2 * n ≤ A.buf := by unfold lg at hg; simp at hg; omega
        generalize hl2 : (if f < t then l.set f.toNat (headOf 0 (t - f - 1)) else l) = l2 at T
        have hl2len : l2.length = 301 := by rw [← hl2]; split <;> simp [hlen]
        have e := topOf_set A l2 (topOf A l + min (A.buf : Int) (aboveOf A (topOf A l))) (by omega)
        refine ⟨_, _, _, _, _, T, .inr ⟨rfl, by omega, by omega, by omega, fun hh => absurd hh h1, ⟨hz, by simp [hl2len], hto, hbuf, ?_, ?_, ?_, ?_⟩⟩⟩
        · rw [e, hab]; omega
        · rw [e, hab]; omega
        · rw [e, hab]; omega
        · rw [e, hab]; split <;> omega
end Go.Proofs.Ytelljfckffmjmaa
