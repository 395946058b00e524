/-
  Runs of tasks, without memory: tasks that end; tasks that are picked by turns.
-/
import Derived.Test.YtihoffaolonfhaaTurnsPure
namespace Go.Proofs.Ytihoffaolonfhaa
open Go.RowKit
set_option linter.unusedVariables false

/-- All that is left of some tasks, the first one's place being k. -/
def totI (left : Nat → Task → Nat) : Nat → List Task → Nat
  | _, [] => 0
  | k, t :: ts => left k t + totI left (k + 1) ts

theorem totI_set (left : Nat → Task → Nat) (ts : List Task) (k i : Nat) (t u : Task) (h : ts[i]? = some t) : totI left k (ts.set i u) + left (k + i) t = totI left k ts + left (k + i) u := by
  induction ts generalizing i k with
  | nil => simp at h
  | cons y ts ih =>
    cases i with
    | zero =>
      simp at h
      subst h
      simp [totI]
      omega
    | succ i =>
      have := ih (k + 1) i (by simpa using h)
      rw [show k + 1 + i = k + (i + 1) by omega] at this
      simp only [totI, List.set_cons_succ]
      omega
theorem totI_pos {left : Nat → Task → Nat} {ts : List Task} {i k : Nat} {t : Task} (h : ts[i]? = some t) : left (k + i) t ≤ totI left k ts := by
  induction ts generalizing i k with
  | nil => simp at h
  | cons y ts ih =>
    cases i with
    | zero => simp at h; subst h; simp [totI]
    | succ i =>
      have := ih (i := i) (k := k + 1) (by simpa using h)
      rw [show k + 1 + i = k + (i + 1) by omega] at this
      simp only [totI]
      omega
theorem totI_zero {left : Nat → Task → Nat} {ts : List Task} {k : Nat} (h : ∀ i t, ts[i]? = some t → left (k + i) t = 0) : totI left k ts = 0 := by
  induction ts generalizing k with
  | nil => rfl
  | cons y ts ih =>
    have a := h 0 y rfl
    have b := ih (k := k + 1) (fun i t ht => by have := h (i + 1) t (by simpa using ht); rw [show k + 1 + i = k + (i + 1) by omega]; exact this)
    simp only [totI]
    simp at a
    omega
theorem totI_snoc (left : Nat → Task → Nat) (ts : List Task) (k : Nat) (t : Task) : totI left k (ts ++ [t]) = totI left k ts + left (k + ts.length) t := by
  induction ts generalizing k with
  | nil => simp [totI]
  | cons y ts ih =>
    simp only [List.cons_append, totI, ih, List.length_cons]
    rw [show k + 1 + ts.length = k + (ts.length + 1) by omega]
    omega
theorem totI_congr (l1 l2 : Nat → Task → Nat) (ts : List Task) (k : Nat) (h : ∀ i t, ts[i]? = some t → l1 (k + i) t = l2 (k + i) t) : totI l1 k ts = totI l2 k ts := by
  induction ts generalizing k with
  | nil => rfl
  | cons y ts ih =>
    simp only [totI]
    have a := h 0 y rfl
    simp at a
    rw [a, ih (k + 1) (fun i t ht => by have := h (i + 1) t (by simpa using ht); rw [show k + 1 + i = k + (i + 1) by omega]; exact this)]
theorem totI_le (left : Nat → Task → Nat) (ts : List Task) (k c : Nat) (h : ∀ i t, ts[i]? = some t → left (k + i) t ≤ c) : totI left k ts ≤ ts.length * c := by
  induction ts generalizing k with
  | nil => simp [totI]
  | cons y ts ih =>
    have a := h 0 y rfl
    have b := ih (k + 1) (fun i t ht => by have := h (i + 1) t (by simpa using ht); rw [show k + 1 + i = k + (i + 1) by omega]; exact this)
    simp only [totI, List.length_cons, Nat.succ_mul]
    simp at a
    omega

theorem thatOf_some (s : Int) (l : List Int) (k i : Nat) (h : l[i]? = some s) : thatOf s l k ≠ [] := by
  induction l generalizing i k with
  | nil => simp at h
  | cons y l ih2 =>
    simp only [thatOf]
    split
    · simp
    · rename_i hy
      cases i with
      | zero => simp at h; exact absurd h hy
      | succ i => exact ih2 (k + 1) i (by simpa using h)
theorem ready_none {ts : List Task} (h : readyOf ts = []) : ∀ t, t ∈ ts → t.st ≠ 0 := fun t ht e => by
  obtain ⟨i, hi⟩ := List.mem_iff_getElem?.1 ht
  exact thatOf_some 0 (states ts) 0 i (by unfold states; rw [List.getElem?_map, hi]; simp [e]) h

/-- A run of tasks of which each has so many steps left: as many picks are done, as long as the fuel goes. -/
theorem run_leftI (I : Nat → Task → Prop) (left : Nat → Task → Nat) (h0 : ∀ i t, I i t → t.st = 0 → I i t.adv ∧ left i t.adv + 1 = left i t) (h1 : ∀ i t, I i t → t.st ≠ 0 → left i t = 0) :
    ∀ (f : Nat) (l : List Int) (m : Int) (ts : List Task), (∀ i t, ts[i]? = some t → I i t) →
      (runOf f l m ts).1 = min f (totI left 0 ts) ∧ (∀ i t, (runOf f l m ts).2[i]? = some t → I i t) ∧ totI left 0 (runOf f l m ts).2 + (runOf f l m ts).1 = totI left 0 ts ∧ (runOf f l m ts).2.length = ts.length := by
  intro f
  induction f with
  | zero => intro l m ts h; exact ⟨by simp [runOf], h, by simp [runOf], rfl⟩
  | succ f ih =>
    intro l m ts h
    cases hp : pickOf ts (nextOf l m).1 with
    | none =>
      have hr := ready_none (pickOf_none hp)
      have hz : totI left 0 ts = 0 := totI_zero (fun i t ht => by rw [Nat.zero_add]; exact h1 i t (h i t ht) (hr t (List.mem_of_getElem? ht)))
      have e : runOf (f + 1) l m ts = (0, ts) := by rw [runOf, hp]; simp
      rw [e, hz]
      exact ⟨by simp, h, by simp, rfl⟩
    | some i =>
      obtain ⟨t, ht, hst, _⟩ := pickOf_some hp
      obtain ⟨ha, hl⟩ := h0 i t (h i t ht) hst
      have ep : pickTo ts (nextOf l m).1 = ts.set i t.adv := by unfold pickTo; rw [hp]; simp [ht]
      have hI : ∀ j u, (ts.set i t.adv)[j]? = some u → I j u := fun j u hu => by
        rw [List.getElem?_set] at hu
        split at hu
        · rename_i e
          split at hu
          · injection hu with hu; rw [← hu, ← e]; exact ha
          · cases hu
        · exact h j u hu
      obtain ⟨r1, r2, r3, r4⟩ := ih (nextOf l m).2.1 (nextOf l m).2.2 (ts.set i t.adv) hI
      have hs := totI_set left ts 0 i t t.adv ht
      have hpos := totI_pos (left := left) (k := 0) ht
      rw [Nat.zero_add] at hs hpos
      have e : runOf (f + 1) l m ts = ((runOf f (nextOf l m).2.1 (nextOf l m).2.2 (ts.set i t.adv)).1 + 1, (runOf f (nextOf l m).2.1 (nextOf l m).2.2 (ts.set i t.adv)).2) := by rw [runOf, hp, ep]; simp
      rw [e]
      refine ⟨by simp only; omega, r2, by simp only; omega, by simp only; rw [r4]; simp⟩

/-- Behind a run whose fuel was enough none is ready. -/
theorem run_done {I : Nat → Task → Prop} {left : Nat → Task → Nat} (h0 : ∀ i t, I i t → t.st = 0 → I i t.adv ∧ left i t.adv + 1 = left i t) {us : List Task} (hI : ∀ i t, us[i]? = some t → I i t) (hz : totI left 0 us = 0) : ∀ t, t ∈ us → t.st ≠ 0 := fun t ht e => by
  obtain ⟨i, hi⟩ := List.mem_iff_getElem?.1 ht
  have h1 := (h0 i t (hI i t hi) e).2
  have h2 := totI_pos (left := left) (k := 0) hi
  rw [Nat.zero_add] at h2
  omega

/-- The counters of TurnsFair: the i-th one has cs i steps. -/
def FI (cs : Nat → Int) (i : Nat) (t : Task) : Prop := 1 ≤ cs i ∧ cs i ≤ 30 ∧ IsCt (cs i) t ∧ 0 ≤ t.n ∧ ((t.st = 0 ∧ t.n < cs i) ∨ (t.st = 2 ∧ t.n = cs i))
def FL (cs : Nat → Int) (i : Nat) (t : Task) : Nat := if t.st = 0 then (cs i - t.n).toNat else 0

theorem FI_step (cs : Nat → Int) (i : Nat) (t : Task) (h : FI cs i t) (h0 : t.st = 0) : FI cs i t.adv ∧ FL cs i t.adv + 1 = FL cs i t := by
  obtain ⟨a1, a2, a3, a4, a5⟩ := h
  have hn : t.n < cs i := by rcases a5 with h | h <;> omega
  have ht : t.tell t.n = if cs i - t.n - 1 ≤ 0 then 2 else 0 := by rw [a3]; rfl
  by_cases hc : cs i - t.n - 1 ≤ 0
  · rw [if_pos hc] at ht
    have hs : t.adv.st = 2 := by unfold Task.adv; simp only; rw [ht]; rfl
    have hn2 : t.adv.n = t.n + 1 := rfl
    refine ⟨⟨a1, a2, a3, by rw [hn2]; omega, .inr ⟨hs, by rw [hn2]; omega⟩⟩, ?_⟩
    unfold FL
    rw [hs, if_neg (by omega), if_pos h0]
    omega
  · rw [if_neg hc] at ht
    have hs : t.adv.st = 0 := by unfold Task.adv; simp only; rw [ht]; rfl
    have hn2 : t.adv.n = t.n + 1 := rfl
    refine ⟨⟨a1, a2, a3, by rw [hn2]; omega, .inl ⟨hs, by rw [hn2]; omega⟩⟩, ?_⟩
    unfold FL
    rw [hs, if_pos rfl, if_pos h0, hn2]
    omega
theorem FI_end (cs : Nat → Int) (i : Nat) (t : Task) (h : FI cs i t) (h0 : t.st ≠ 0) : FL cs i t = 0 := by unfold FL; rw [if_neg h0]

/-- Who has stopped stays so. -/
theorem dead_pick {ts : List Task} (h : ∃ t, t ∈ ts ∧ t.st ≠ 0) (p : Int) : ∃ t, t ∈ pickTo ts p ∧ t.st ≠ 0 := by
  unfold pickTo
  cases hp : pickOf ts p with
  | none => exact h
  | some i =>
    obtain ⟨t, ht, hst, _⟩ := pickOf_some hp
    simp only [ht]
    obtain ⟨u, hu, hus⟩ := h
    obtain ⟨j, hj⟩ := List.mem_iff_getElem?.1 hu
    refine ⟨u, ?_, hus⟩
    have hne : i ≠ j := by intro e; subst e; rw [ht] at hj; injection hj with hj; subst hj; exact hus hst
    exact List.mem_of_getElem? (i := j) (by rw [List.getElem?_set, if_neg hne]; exact hj)
theorem dead_run : ∀ (f : Nat) (l : List Int) (m : Int) (ts : List Task), (∃ t, t ∈ ts ∧ t.st ≠ 0) → ∃ t, t ∈ (runOf f l m ts).2 ∧ t.st ≠ 0 := by
  intro f
  induction f with
  | zero => intro l m ts h; exact h
  | succ f ih =>
    intro l m ts h
    rw [runOf]
    split
    · exact ih _ _ _ (dead_pick h _)
    · exact h

/-- If all still Go, those of the first j places took a step. -/
def Hit (j : Nat) (ts : List Task) : Prop := (∀ t, t ∈ ts → t.st = 0) → ∀ (i : Nat) t, ts[i]? = some t → i < j → 1 ≤ t.n

theorem run_hit : ∀ (f j : Nat) (ts : List Task), j + f ≤ ts.length → (∀ t, t ∈ ts → 0 ≤ t.n) → Hit j ts → Hit (j + f) (runOf f [] (j : Int) ts).2 := by
  intro f
  induction f with
  | zero => intro j ts _ _ h; exact h
  | succ f ih =>
    intro j ts hl hn h
    by_cases hall : ∀ t, t ∈ ts → t.st = 0
    · have hp := pick_all hall (by omega) j
      rw [Nat.mod_eq_of_lt (by omega)] at hp
      obtain ⟨t, ht⟩ : ∃ t, ts[j]? = some t := ⟨_, List.getElem?_eq_getElem (by omega)⟩
      have ep : pickTo ts (j : Int) = ts.set j t.adv := by unfold pickTo; rw [hp]; simp [ht]
      have e : runOf (f + 1) [] (j : Int) ts = ((runOf f [] ((j + 1 : Nat) : Int) (ts.set j t.adv)).1 + 1, (runOf f [] ((j + 1 : Nat) : Int) (ts.set j t.adv)).2) := by
        rw [runOf]
        simp only [nextOf, hp, Option.isSome_some, if_true, ep]
        rfl
      rw [e]
      simp only
      rw [show j + (f + 1) = j + 1 + f by omega]
      refine ih (j + 1) (ts.set j t.adv) (by simp; omega) ?_ ?_
      · intro u hu
        obtain ⟨i, hi⟩ := List.mem_iff_getElem?.1 hu
        rw [List.getElem?_set] at hi
        split at hi
        · split at hi
          · injection hi with hi
            have := hn t (List.mem_of_getElem? ht)
            rw [← hi]
            show 0 ≤ t.n + 1
            omega
          · cases hi
        · exact hn u (List.mem_of_getElem? hi)
      · intro _ i u hu hij
        rw [List.getElem?_set] at hu
        split at hu
        · split at hu
          · injection hu with hu
            have := hn t (List.mem_of_getElem? ht)
            rw [← hu]
            show 1 ≤ t.n + 1
            omega
          · cases hu
        · rename_i hne
          exact h hall i u hu (by omega)
    · have hd : ∃ t, t ∈ ts ∧ t.st ≠ 0 := Classical.byContradiction fun hc => hall fun t ht => Classical.byContradiction fun hs => hc ⟨t, ht, hs⟩
      obtain ⟨u, hu, hus⟩ := dead_run (f + 1) [] (j : Int) ts hd
      intro hA
      exact absurd (hA u hu) hus

/-- If as many are ready as there are, all Go. -/
theorem all_of_ready {ts : List Task} (h : (readyOf ts).length = ts.length) : ∀ t, t ∈ ts → t.st = 0 := fun t ht => Classical.byContradiction fun hs => by
  have h1 := thatOf_lt 0 (states ts) 0 t.st (List.mem_map.2 ⟨t, ht, rfl⟩) hs
  unfold readyOf at h
  have h2 : (states ts).length = ts.length := by simp [states]
  omega
end Go.Proofs.Ytihoffaolonfhaa
