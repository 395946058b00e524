/-
  An ask alone, from its beginning to its end: what it comes to, without memory.
-/
import Derived.Test.YtelljfckffmjmaaArenaAwake
namespace Go.Proofs.Ytelljfckffmjmaa
open Go.RowKit
set_option linter.unusedVariables false

/-- What an ask has come to. -/
structure Told (y : ASt) (l bl : List Int) (pos errno : Int) : Prop where
  done : y.k.done = true
  l : y.l = l
  bl : y.bl = bl
  pos : y.k.pos = pos
  errno : y.k.errno = errno

theorem told_goA {A : AC} {o : Nat} {x : ASt} {l bl : List Int} {pos errno : Int} (K : Nat) (hK : K ≤ 4) (h : Told (goA A o K x) l bl pos errno) : Told (goA A o 4 x) l bl pos errno := by
  have e := goA_done A o x K h.done (4 - K)
  rw [show K + (4 - K) = 4 by omega] at e
  rw [e]
  exact h

section
variable (A : AC) (o : Nat) (l bl : List Int) (ks kt kw kp ke s : Int)
theorem stepA_bad (h1 : ks < 1 ∨ 65536 < ks) : stepA A o ⟨l, bl, ⟨.begin, false, ks, kt, kw, kp, ke⟩, s⟩ = ⟨l, bl, ⟨.begin, true, ks, kt, kw, 0, 11⟩, s⟩ := by simp only [stepA]; rw [if_neg (by simp), if_pos h1]
theorem stepA_take (h1 : ¬ (ks < 1 ∨ 65536 < ks)) (h2 : ks ≤ bl.getD (o + 1) 0 - bl.getD o 0) : stepA A o ⟨l, bl, ⟨.begin, false, ks, kt, kw, kp, ke⟩, s⟩ = ⟨l, bl.set o (bl.getD o 0 + ks), ⟨.begin, true, ks, kt, kw, bl.getD o 0, 0⟩, s⟩ := by simp only [stepA]; rw [if_neg (by simp), if_neg h1, if_pos h2]
theorem stepA_fill (h1 : ¬ (ks < 1 ∨ 65536 < ks)) (h2 : ¬ ks ≤ bl.getD (o + 1) 0 - bl.getD o 0) (h3 : bl.getD o 0 < bl.getD (o + 1) 0 ∧ lg A ks = false) : stepA A o ⟨l, bl, ⟨.begin, false, ks, kt, kw, kp, ke⟩, s⟩ = ⟨l.set (bl.getD o 0).toNat (headOf 0 (bl.getD (o + 1) 0 - bl.getD o 0 - 1)), (bl.set o 0).set (o + 1) 0, ⟨.readTop, false, ks, kt, kw, kp, ke⟩, wrap64 (s + 1)⟩ := by simp only [stepA]; rw [if_neg (by simp), if_neg h1, if_neg h2, if_pos h3]
theorem stepA_read (h1 : ¬ (ks < 1 ∨ 65536 < ks)) (h2 : ¬ ks ≤ bl.getD (o + 1) 0 - bl.getD o 0) (h3 : ¬ (bl.getD o 0 < bl.getD (o + 1) 0 ∧ lg A ks = false)) : stepA A o ⟨l, bl, ⟨.begin, false, ks, kt, kw, kp, ke⟩, s⟩ = ⟨l, bl, readA A l ⟨.begin, false, ks, kt, kw, kp, ke⟩, wrap64 (s + 1)⟩ := by simp only [stepA]; rw [if_neg (by simp), if_neg h1, if_neg h2, if_neg h3]
theorem stepA_again : stepA A o ⟨l, bl, ⟨.readTop, false, ks, kt, kw, kp, ke⟩, s⟩ = ⟨l, bl, readA A l ⟨.readTop, false, ks, kt, kw, kp, ke⟩, wrap64 (s + 1)⟩ := rfl
theorem stepA_hit (hx : topOf A l = kt) : stepA A o ⟨l, bl, ⟨.swapTop, false, ks, kt, kw, kp, ke⟩, s⟩ = ⟨l.set A.top (kt + kw), if lg A ks then bl else (bl.set o (kt + ks)).set (o + 1) (kt + kw), ⟨.swapTop, true, ks, kt, kw, kt, 0⟩, wrap64 (s + 1)⟩ := by simp only [stepA]; rw [if_neg (by simp), if_pos hx]
theorem stepA_miss (hx : ¬ topOf A l = kt) : stepA A o ⟨l, bl, ⟨.swapTop, false, ks, kt, kw, kp, ke⟩, s⟩ = ⟨l, bl, ⟨.readTop, false, ks, kt, kw, kp, ke⟩, wrap64 (s + 1)⟩ := by simp only [stepA]; rw [if_neg (by simp), if_neg hx]
end

section
variable (A : AC) (l : List Int) (f t size s : Int)

theorem alone_take (hs : 1 ≤ size ∧ size ≤ 65536) (h : size ≤ t - f) : Told (goA A 0 4 ⟨l, [f, t], akNew size, s⟩) l [f + size, t] f 0 := by
  refine told_goA 1 (by omega) ?_
  have e : goA A 0 1 ⟨l, [f, t], akNew size, s⟩ = ⟨l, [f + size, t], { akNew size with done := true, pos := f, errno := 0 }, s⟩ := by
    exact stepA_take A 0 l [f, t] size 0 0 0 0 s (by omega) h
  rw [e]
  exact ⟨rfl, rfl, rfl, rfl, rfl⟩

theorem readA_full (k : AkS) (h : aboveOf A (topOf A l) < k.size) : readA A l k = { k with top := topOf A l, done := true, pos := 0, errno := 14 } := by
  unfold readA; rw [if_pos h]
theorem readA_ok (k : AkS) (h : ¬ aboveOf A (topOf A l) < k.size) : readA A l k = { k with top := topOf A l, wanted := if lg A k.size then k.size else min (A.buf : Int) (aboveOf A (topOf A l)), at_ := .swapTop } := by
  unfold readA; rw [if_neg h]

/-- The first read is done in the first step. -/
theorem first_read (hs : 1 ≤ size ∧ size ≤ 65536) (h : ¬ size ≤ t - f) (hg : ¬ (f < t ∧ lg A size = false)) : goA A 0 1 ⟨l, [f, t], akNew size, s⟩ = ⟨l, [f, t], readA A l (akNew size), wrap64 (s + 1)⟩ := by
  exact stepA_read A 0 l [f, t] size 0 0 0 0 s (by omega) h hg

theorem first_fill (hs : 1 ≤ size ∧ size ≤ 65536) (h : ¬ size ≤ t - f) (hf : f < t) (hg : lg A size = false) : goA A 0 2 ⟨l, [f, t], akNew size, s⟩ = ⟨l.set f.toNat (headOf 0 (t - f - 1)), [0, 0], readA A (l.set f.toNat (headOf 0 (t - f - 1))) { akNew size with at_ := .readTop }, wrap64 (wrap64 (s + 1) + 1)⟩ := by
  have e : goA A 0 1 ⟨l, [f, t], akNew size, s⟩ = ⟨l.set f.toNat (headOf 0 (t - f - 1)), [0, 0], { akNew size with at_ := .readTop }, wrap64 (s + 1)⟩ := by
    exact stepA_fill A 0 l [f, t] size 0 0 0 0 s (by omega) h ⟨hf, hg⟩
  show stepA A 0 (goA A 0 1 ⟨l, [f, t], akNew size, s⟩) = _
  rw [e]
  rfl

/-- The swap behind a read that found room. -/
theorem swapped (l bl : List Int) (k : AkS) (s' : Int) (hd : k.done = false) (h : ¬ aboveOf A (topOf A l) < k.size) :
    stepA A 0 ⟨l, bl, readA A l k, s'⟩ = ⟨l.set A.top (topOf A l + (if lg A k.size then k.size else min (A.buf : Int) (aboveOf A (topOf A l)))), if lg A k.size then bl else (bl.set 0 (topOf A l + k.size)).set 1 (topOf A l + min (A.buf : Int) (aboveOf A (topOf A l))), { readA A l k with done := true, pos := topOf A l, errno := 0 }, wrap64 (s' + 1)⟩ := by
  rw [readA_ok A l k h]
  obtain ⟨kat, kd, ks, kt, kw, kp, ke⟩ := k
  have hd' : kd = false := hd
  subst hd'
  refine (stepA_hit A 0 l bl ks (topOf A l) _ kp ke s' rfl).trans ?_
  simp only
  cases lg A ks <;> simp

theorem alone_full (hs : 1 ≤ size ∧ size ≤ 65536) (h : ¬ size ≤ t - f) (hf : f ≤ t) (hl : f < t → A.top ≠ f.toNat) (hx : aboveOf A (topOf A l) < size) : ∃ l' bl', Told (goA A 0 4 ⟨l, [f, t], akNew size, s⟩) l' bl' 0 14 ∧ ((l' = l ∧ bl' = [f, t]) ∨ (f < t ∧ l' = l.set f.toNat (headOf 0 (t - f - 1)) ∧ bl' = [0, 0])) := by
  by_cases hg : f < t ∧ lg A size = false
  · replace hl := hl hg.1
    refine ⟨_, _, told_goA 2 (by omega) ?_, .inr ⟨hg.1, rfl, rfl⟩⟩
    rw [first_fill A l f t size s hs h hg.1 hg.2]
    have e : topOf A (l.set f.toNat (headOf 0 (t - f - 1))) = topOf A l := by
      unfold topOf
      rw [getD_set, if_neg (fun hh => hl hh.1.symm)]
    rw [readA_full A _ _ (by rw [e]; exact hx)]
    exact ⟨rfl, rfl, rfl, rfl, rfl⟩
  · refine ⟨_, _, told_goA 1 (by omega) ?_, .inl ⟨rfl, rfl⟩⟩
    rw [first_read A l f t size s hs h hg, readA_full A l _ hx]
    exact ⟨rfl, rfl, rfl, rfl, rfl⟩

/-- A large one. -/
theorem alone_large (hs : 1 ≤ size ∧ size ≤ 65536) (h : ¬ size ≤ t - f) (hg : lg A size = true) (hx : ¬ aboveOf A (topOf A l) < size) : Told (goA A 0 4 ⟨l, [f, t], akNew size, s⟩) (l.set A.top (topOf A l + size)) [f, t] (topOf A l) 0 := by
  refine told_goA 2 (by omega) ?_
  show Told (stepA A 0 (goA A 0 1 _)) _ _ _ _
  rw [first_read A l f t size s hs h (by rw [hg]; simp), swapped A l [f, t] (akNew size) _ rfl hx]
  have e : lg A (akNew size).size = true := hg
  rw [e]
  exact ⟨rfl, rfl, rfl, rfl, rfl⟩

/-- A new buffer. -/
theorem alone_new (hs : 1 ≤ size ∧ size ≤ 65536) (h : ¬ size ≤ t - f) (hf : f ≤ t) (hl : f < t → A.top ≠ f.toNat) (hg : lg A size = false) (hx : ¬ aboveOf A (topOf A l) < size) :
    Told (goA A 0 4 ⟨l, [f, t], akNew size, s⟩) ((if f < t then l.set f.toNat (headOf 0 (t - f - 1)) else l).set A.top (topOf A l + min (A.buf : Int) (aboveOf A (topOf A l)))) [topOf A l + size, topOf A l + min (A.buf : Int) (aboveOf A (topOf A l))] (topOf A l) 0 := by
  have e2 : lg A (akNew size).size = false := hg
  by_cases hft : f < t
  · replace hl := hl hft
    refine told_goA 3 (by omega) ?_
    show Told (stepA A 0 (goA A 0 2 _)) _ _ _ _
    rw [first_fill A l f t size s hs h hft hg]
    have e : topOf A (l.set f.toNat (headOf 0 (t - f - 1))) = topOf A l := by
      unfold topOf
      rw [getD_set, if_neg (fun hh => hl hh.1.symm)]
    rw [swapped A _ [0, 0] { akNew size with at_ := .readTop } _ rfl (by rw [e]; exact hx), e, if_pos hft]
    rw [show lg A ({ akNew size with at_ := .readTop } : AkS).size = false from hg]
    exact ⟨rfl, rfl, rfl, rfl, rfl⟩
  · refine told_goA 2 (by omega) ?_
    show Told (stepA A 0 (goA A 0 1 _)) _ _ _ _
    rw [first_read A l f t size s hs h (fun hh => hft hh.1), swapped A l [f, t] (akNew size) _ rfl hx, e2, if_neg hft]
    exact ⟨rfl, rfl, rfl, rfl, rfl⟩
end
end Go.Proofs.Ytelljfckffmjmaa
