/-
  Regions that take words out of one another: who takes from whom, and how many are left. No Go is walked here.
-/
import Derived.Test.YtcckflcjjgckoaaDoorPlanSlidesP
namespace Go.Proofs.YtcckflcjjgckoaaDoor
open Go.RowKit Bt
set_option linter.unusedVariables false
set_option linter.unusedSimpArgs false

/-- Where the first word of a region goes. -/
def goesR (P : PN) (L : Nat → Bool) (q : Nat) : Nat := P.d + ahR P L q
/-- The region i takes a word out of the region q. -/
def tkB (P : PN) (L : Nat → Bool) (i q : Nat) : Bool := decide (0 < mvR P L q ∧ P.reg (goesR P L q) ≤ i ∧ i ≤ P.reg (goesR P L q + mvR P L q - 1))
/-- What the plan has: numbers that fit. -/
structure Fit (P : PN) (L : Nat → Bool) : Prop where
  ok : P.Ok
  fd : P.f ≤ P.d
  dt : P.d ≤ P.t
  e_ : P.e = P.d + (cnt L P.t - cnt L P.d)
section
variable {P : PN} {L : Nat → Bool}
theorem Fit.et (h : Fit P L) : P.e ≤ P.t := by
  have h1 := h.e_
  have h2 := cnt_gap L h.dt
  have h3 := h.dt
  omega
theorem Fit.goes (h : Fit P L) {q : Nat} (hq : q < P.R) : P.d ≤ goesR P L q ∧ goesR P L q + mvR P L q ≤ P.e := by
  unfold goesR
  have h1 := ahR_succ P L q
  have h2 := ahR_mono P L (show q + 1 ≤ P.R by omega)
  have h3 : ahR P L P.R = cnt L P.t - cnt L P.d := by unfold ahR; rw [PN.ed_R h.ok]
  have h4 := h.e_
  omega
/-- The last word of a region goes no further than that region. -/
theorem Fit.last (h : Fit P L) {q : Nat} (hq : q < P.R) (hm : 0 < mvR P L q) : goesR P L q + mvR P L q ≤ P.ed (q + 1) := by
  have h1 := ahR_succ P L q
  unfold goesR
  have h2 : P.d < P.ed (q + 1) := by
    unfold mvR at hm
    by_cases h3 : P.d < P.ed (q + 1)
    · exact h3
    · have := cnt_mono L (show P.ed (q + 1) ≤ max (P.ed q) P.d by omega)
      omega
  have h3 := cnt_gap L (show P.d ≤ P.ed (q + 1) by omega)
  have h4 : ahR P L (q + 1) = cnt L (P.ed (q + 1)) - cnt L P.d := rfl
  omega
theorem Fit.tk_le (h : Fit P L) {i q : Nat} (hq : q < P.R) (ht : tkB P L i q = true) : i ≤ q := by
  unfold tkB at ht
  simp only [decide_eq_true_eq] at ht
  obtain ⟨h1, h2, h3⟩ := ht
  have h4 := h.last hq h1
  obtain ⟨h5, h6⟩ := h.goes hq
  have h7 := h.et
  have h8 := h.fd
  obtain ⟨a, b, c⟩ := PN.reg_in h.ok (x := goesR P L q + mvR P L q - 1) (by omega) (by omega)
  by_cases h9 : i ≤ q
  · exact h9
  · have := PN.ed_mono P (show q + 1 ≤ P.reg (goesR P L q + mvR P L q - 1) by omega)
    omega
theorem Fit.goal (h : Fit P L) {i : Nat} : gF P i < gT P i → P.d ≤ gF P i ∧ P.ed i ≤ gF P i ∧ gT P i ≤ P.e ∧ gT P i ≤ P.ed (i + 1) := by
  unfold gF gT
  split
  · intro _; omega
  · intro h; omega
/-- Who takes has a goal. -/
theorem Fit.tk_goal (h : Fit P L) {i q : Nat} (hq : q < P.R) (hi : i < P.R) (ht : tkB P L i q = true) : gF P i < gT P i := by
  unfold tkB at ht
  simp only [decide_eq_true_eq] at ht
  obtain ⟨h1, h2, h3⟩ := ht
  obtain ⟨h5, h6⟩ := h.goes hq
  have h7 := h.et
  have h8 := h.fd
  obtain ⟨a, b, c⟩ := PN.reg_in h.ok (x := goesR P L q) (by omega) (by omega)
  obtain ⟨a', b', c'⟩ := PN.reg_in h.ok (x := goesR P L q + mvR P L q - 1) (by omega) (by omega)
  have e1 := PN.ed_mono P h3
  have e2 := PN.ed_mono P (show P.reg (goesR P L q) + 1 ≤ i + 1 by omega)
  have e3 := PN.ed_lt h.ok hi
  unfold gF gT
  rw [if_pos (by omega), if_pos (by omega)]
  omega
/-- A word that goes into the region i, out of the region q. -/
theorem Fit.src (h : Fit P L) {i x s : Nat} (hi : i < P.R) (h1 : gF P i ≤ x) (h2 : x < gT P i) (hs1 : P.d ≤ s) (hs2 : s < P.t) (hl : L s = true) (hc : cnt L s = cnt L P.d + (x - P.d)) : P.reg s < P.R ∧ goesR P L (P.reg s) ≤ x ∧ x < goesR P L (P.reg s) + mvR P L (P.reg s) ∧ tkB P L i (P.reg s) = true := by
  have h8 := h.fd
  obtain ⟨g1, g2, g3, g4⟩ := h.goal (i := i) (by omega)
  obtain ⟨a, b, c⟩ := PN.reg_in h.ok (x := s) (by omega) hs2
  generalize P.reg s = q at *
  have k1 := cnt_mono L (show max (P.ed q) P.d ≤ s by omega)
  have k2 := cnt_mono L (show s + 1 ≤ P.ed (q + 1) by omega)
  rw [cnt_at hl] at k2
  have k3 := cnt_mono L (show P.d ≤ max (P.ed q) P.d by omega)
  have k4 := cnt_mono L (show P.ed q ≤ max (P.ed q) P.d by omega)
  have k5 : ahR P L q = cnt L (max (P.ed q) P.d) - cnt L P.d := by
    unfold ahR
    by_cases hh : P.d ≤ P.ed q
    · rw [show max (P.ed q) P.d = P.ed q by omega]
    · rw [show max (P.ed q) P.d = P.d by omega]
      have := cnt_mono L (show P.ed q ≤ P.d by omega)
      omega
  have k6 : mvR P L q = cnt L (P.ed (q + 1)) - cnt L (max (P.ed q) P.d) := rfl
  have m1 : goesR P L q ≤ x := by unfold goesR; omega
  have m2 : x < goesR P L q + mvR P L q := by unfold goesR; omega
  refine ⟨a, m1, m2, ?_⟩
  unfold tkB
  rw [decide_eq_true_eq]
  have hx : P.reg x = i := PN.reg_of h.ok hi (by omega) (by omega)
  refine ⟨by omega, ?_, ?_⟩
  · rw [← hx]; exact PN.reg_mono P m1
  · rw [← hx]; exact PN.reg_mono P (by omega)
/-- Two regions out of which the same word comes are one. -/
theorem Fit.same (h : Fit P L) {x q r : Nat} (hq : q < P.R) (hr : r < P.R) (h1 : goesR P L q ≤ x) (h2 : x < goesR P L q + mvR P L q) (h3 : goesR P L r ≤ x) (h4 : x < goesR P L r + mvR P L r) : q = r := by
  unfold goesR at *
  have a1 := ahR_succ P L q
  have a2 := ahR_succ P L r
  rcases Nat.lt_trichotomy q r with hh | hh | hh
  · have := ahR_mono P L (show q + 1 ≤ r by omega); omega
  · exact hh
  · have := ahR_mono P L (show r + 1 ≤ q by omega); omega
/-- Out of whom one takes: some word of the goal comes from there. -/
theorem Fit.word (h : Fit P L) {i q : Nat} (hi : i < P.R) (hq : q < P.R) (ht : tkB P L i q = true) : ∃ x, gF P i ≤ x ∧ x < gT P i ∧ goesR P L q ≤ x ∧ x < goesR P L q + mvR P L q := by
  have hg := h.tk_goal hq hi ht
  unfold tkB at ht
  simp only [decide_eq_true_eq] at ht
  obtain ⟨h1, h2, h3⟩ := ht
  obtain ⟨h5, h6⟩ := h.goes hq
  have h7 := h.et
  have h8 := h.fd
  obtain ⟨a, b, c⟩ := PN.reg_in h.ok (x := goesR P L q) (by omega) (by omega)
  obtain ⟨a', b', c'⟩ := PN.reg_in h.ok (x := goesR P L q + mvR P L q - 1) (by omega) (by omega)
  have e1 := PN.ed_mono P h3
  have e2 := PN.ed_mono P (show P.reg (goesR P L q) + 1 ≤ i + 1 by omega)
  have e3 := PN.ed_lt h.ok hi
  refine ⟨max (gF P i) (goesR P L q), by omega, ?_, by omega, ?_⟩
  · unfold gF gT at *
    split at hg
    · rw [if_pos ‹_›, if_pos ‹_›]; omega
    · omega
  · unfold gF at *
    split
    · omega
    · omega

/-- Of whom the region q waits: others that take out of it and are not filled. -/
def wtB (P : PN) (L : Nat → Bool) (Fl : Nat → Bool) (q j : Nat) : Bool := tkB P L j q && (decide (j ≠ q) && !(Fl j))
theorem cnt_int (a b : Nat) : ∀ n, b < n → a ≤ b → cnt (fun j => decide (a ≤ j ∧ j ≤ b)) n = b + 1 - a := by
  intro n hb ha
  rw [cnt_stop (a := b + 1) (by omega) (fun k h1 h2 => decide_eq_false (by omega))]
  have h1 : ∀ m, m ≤ a → cnt (fun j => decide (a ≤ j ∧ j ≤ b)) m = 0 := fun m hm => cnt_zero fun j hj => decide_eq_false (by omega)
  have h2 : ∀ m, a + m ≤ b + 1 → cnt (fun j => decide (a ≤ j ∧ j ≤ b)) (a + m) = m := by
    intro m
    induction m with
    | zero => intro _; exact h1 a (Nat.le_refl _)
    | succ m ih =>
      intro hm
      rw [← Nat.add_assoc, cnt_at (decide_eq_true (by omega)), ih (by omega)]
  have h3 := h2 (b + 1 - a) (by omega)
  rw [show a + (b + 1 - a) = b + 1 by omega] at h3
  exact h3
/-- One less, where one is taken out. -/
theorem cnt_less {f g : Nat → Bool} {k : Nat} (h : ∀ j, j ≠ k → g j = f j) (hf : f k = true) (hg : g k = false) : ∀ n, k < n → cnt g n + 1 = cnt f n := by
  intro n
  induction n with
  | zero => intro h; omega
  | succ n ih =>
    intro hn
    by_cases hk : k = n
    · subst hk
      rw [cnt_at hf, cnt_off hg, cnt_congr (fun j hj => h j (by omega))]
    · have := ih (by omega)
      have e := h n (fun x => hk x.symm)
      rw [cnt, cnt, e]
      omega
theorem Fit.wait0 (h : Fit P L) {q : Nat} (hq : q < P.R) : wtR P L q = cnt (wtB P L (fun _ => false) q) P.R := by
  unfold wtR
  by_cases hm : mvR P L q = 0
  · rw [if_pos hm]
    symm
    refine cnt_zero fun j hj => ?_
    unfold wtB tkB
    rw [decide_eq_false (by omega)]
    rfl
  · rw [if_neg hm]
    obtain ⟨h5, h6⟩ := h.goes hq
    have h7 := h.et
    have h8 := h.fd
    obtain ⟨a, b, c⟩ := PN.reg_in h.ok (x := goesR P L q) (by omega) (by omega)
    obtain ⟨a', b', c'⟩ := PN.reg_in h.ok (x := goesR P L q + mvR P L q - 1) (by omega) (by omega)
    have hle := PN.reg_mono P (show goesR P L q ≤ goesR P L q + mvR P L q - 1 by omega)
    have hl := h.tk_le (i := P.reg (goesR P L q + mvR P L q - 1)) hq (by unfold tkB; rw [decide_eq_true_eq]; omega)
    have hg : P.d + ahR P L q = goesR P L q := rfl
    rw [hg]
    have e1 : ∀ j, tkB P L j q = decide (P.reg (goesR P L q) ≤ j ∧ j ≤ P.reg (goesR P L q + mvR P L q - 1)) := fun j => by
      unfold tkB
      congr 1
      simp [show 0 < mvR P L q by omega]
    generalize hA : P.reg (goesR P L q) = A at *
    generalize hB : P.reg (goesR P L q + mvR P L q - 1) = B at *
    have e2 := cnt_int A B P.R a' hle
    by_cases hBq : B = q
    · rw [if_pos hBq]
      have e3 := cnt_less (f := fun j => decide (A ≤ j ∧ j ≤ B)) (g := wtB P L (fun _ => false) q) (k := q) (fun j hj => by unfold wtB; rw [e1]; simp [hj]) (decide_eq_true (by omega)) (by unfold wtB; simp) P.R hq
      omega
    · rw [if_neg hBq]
      have e3 : cnt (wtB P L (fun _ => false) q) P.R = cnt (fun j => decide (A ≤ j ∧ j ≤ B)) P.R := cnt_congr fun j hj => by
        unfold wtB
        rw [e1]
        by_cases hjq : j = q
        · subst hjq
          rw [decide_eq_false (by omega)]; rfl
        · simp [hjq]
      omega
/-- Filled is one more. -/
def fill (Fl : Nat → Bool) (i : Nat) : Nat → Bool := fun j => if j = i then true else Fl j
theorem Fit.fills (h : Fit P L) {Fl : Nat → Bool} {i q : Nat} (hi : i < P.R) (hF : Fl i = false) : cnt (wtB P L Fl q) P.R = cnt (wtB P L (fill Fl i) q) P.R + (if tkB P L i q = true ∧ q ≠ i then 1 else 0) := by
  by_cases hh : tkB P L i q = true ∧ q ≠ i
  · rw [if_pos hh]
    symm
    refine cnt_less (k := i) (fun j hj => ?_) ?_ ?_ P.R hi
    · unfold wtB fill; simp [hj]
    · unfold wtB; rw [hh.1, hF]; simp; exact fun x => hh.2 x.symm
    · unfold wtB fill; simp
  · rw [if_neg hh]
    refine cnt_congr fun j hj => ?_
    unfold wtB fill
    by_cases hji : j = i
    · subst hji
      by_cases ht : tkB P L j q = true
      · have : q = j := by
          by_cases hx : q = j
          · exact hx
          · exact absurd ⟨ht, hx⟩ hh
        subst this
        simp
      · rw [Bool.not_eq_true] at ht
        rw [ht]; rfl
    · simp [hji]
theorem cnt_fill {Fl : Nat → Bool} {i n : Nat} (hi : i < n) (hF : Fl i = false) : cnt (fill Fl i) n = cnt Fl n + 1 :=
  (cnt_less (f := fill Fl i) (g := Fl) (k := i) (fun j hj => by unfold fill; rw [if_neg hj]) (by unfold fill; rw [if_pos rfl]) hF n hi).symm
/-- Somebody who is not filled waits for none. -/
theorem Fit.ready (h : Fit P L) {Fl : Nat → Bool} : ∀ i, i < P.R → gF P i < gT P i → Fl i = false → ∃ j, j ≤ i ∧ gF P j < gT P j ∧ Fl j = false ∧ cnt (wtB P L Fl j) P.R = 0 := by
  intro i
  induction i using Nat.strongRecOn with
  | ind i ih =>
    intro hi hg hF
    by_cases hw : cnt (wtB P L Fl i) P.R = 0
    · exact ⟨i, Nat.le_refl _, hg, hF, hw⟩
    · have : ¬ ∀ j, j < P.R → wtB P L Fl i j = false := fun hh => hw (cnt_zero hh)
      obtain ⟨j, hj⟩ := Classical.not_forall.1 this
      obtain ⟨hj1, hj2⟩ := Classical.not_imp.1 hj
      rw [Bool.not_eq_false] at hj2
      unfold wtB at hj2
      rw [Bool.and_eq_true, Bool.and_eq_true, decide_eq_true_eq] at hj2
      obtain ⟨k1, k2, k3⟩ := hj2
      have k4 := h.tk_le hi k1
      have k5 := h.tk_goal hi hj1 k1
      obtain ⟨m, m1, m2⟩ := ih j (by omega) hj1 k5 (by simpa using k3)
      exact ⟨m, by omega, m2⟩
/-- All filled: none waits. -/
theorem Fit.done (h : Fit P L) {Fl : Nat → Bool} (hall : ∀ i, i < P.R → gF P i < gT P i → Fl i = true) {q : Nat} (hq : q < P.R) : cnt (wtB P L Fl q) P.R = 0 := by
  refine cnt_zero fun j hj => ?_
  unfold wtB
  by_cases ht : tkB P L j q = true
  · rw [hall j hj (h.tk_goal hq hj ht)]; simp
  · rw [Bool.not_eq_true] at ht
    rw [ht]; rfl
theorem cnt_full {f : Nat → Bool} : ∀ n, n ≤ cnt f n → ∀ j, j < n → f j = true := by
  intro n
  induction n with
  | zero => intro _ j hj; omega
  | succ n ih =>
    intro hn j hj
    have h1 := cnt_le f n
    rw [cnt] at hn
    by_cases hf : f n = true
    · by_cases hjn : j = n
      · rw [hjn]; exact hf
      · rw [hf] at hn
        exact ih (by simp at hn; omega) j (by omega)
    · rw [Bool.not_eq_true] at hf
      rw [hf] at hn
      simp at hn
      omega
end
end Go.Proofs.YtcckflcjjgckoaaDoor
