/-
  Runs of tasks, without memory: how many picks are done, and how the tasks stand behind them.
-/
import Derived.Test.YtopoklciglgkbaaTurnsMore
namespace Go.Proofs.Ytopoklciglgkbaa
open Go.RowKit
set_option linter.unusedVariables false

theorem thatOf_nil (s : Int) (l : List Int) (k : Nat) (h : ∀ x, x ∈ l → x ≠ s) : thatOf s l k = [] := by
  induction l generalizing k with
  | nil => rfl
  | cons y l ih =>
    simp only [thatOf]
    rw [if_neg (h y (by simp)), ih (k + 1) (fun x hx => h x (by simp [hx]))]
theorem thatOf_all (s : Int) (l : List Int) (k : Nat) (h : ∀ x, x ∈ l → x = s) : (thatOf s l k).length = l.length ∧ ∀ i, i < l.length → (thatOf s l k)[i]? = some ((k : Int) + i + 1) := by
  induction l generalizing k with
  | nil => exact ⟨rfl, fun i hi => by simp at hi⟩
  | cons y l ih =>
    obtain ⟨h1, h2⟩ := ih (k + 1) (fun x hx => h x (by simp [hx]))
    simp only [thatOf]
    rw [if_pos (h y (by simp))]
    refine ⟨by simp [h1], fun i hi => ?_⟩
    cases i with
    | zero => simp
    | succ i =>
      have := h2 i (by simpa using hi)
      simp only [List.getElem?_cons_succ, this]
      congr 1
      omega
/-- Fewer stand so, if one does not. -/
theorem thatOf_lt (s : Int) (l : List Int) (k : Nat) (x : Int) (hx : x ∈ l) (hne : x ≠ s) : (thatOf s l k).length < l.length := by
  induction l generalizing k with
  | nil => simp at hx
  | cons y l ih =>
    have hle := thatOf_length s l (k + 1)
    simp only [thatOf]
    rcases List.mem_cons.1 hx with rfl | hx
    · rw [if_neg hne]; simp; omega
    · have := ih (k + 1) hx
      split <;> simp <;> omega
theorem ready_nil_of {ts : List Task} (h : ∀ t, t ∈ ts → t.st ≠ 0) : readyOf ts = [] :=
  thatOf_nil 0 _ 0 (fun x hx => by obtain ⟨t, ht, rfl⟩ := List.mem_map.1 hx; exact h t ht)
theorem that_nil_of {ts : List Task} {s : Int} (h : ∀ t, t ∈ ts → t.st ≠ s) : thatOf s (states ts) 0 = [] :=
  thatOf_nil s _ 0 (fun x hx => by obtain ⟨t, ht, rfl⟩ := List.mem_map.1 hx; exact h t ht)
theorem pickOf_nil {ts : List Task} (h : readyOf ts = []) (p : Int) : pickOf ts p = none := by unfold pickOf; rw [h]; simp

/-- All that is left of some tasks. -/
def tot (left : Task → Nat) (ts : List Task) : Nat := (ts.map left).sum

theorem tot_set (left : Task → Nat) (ts : List Task) (i : Nat) (t u : Task) (h : ts[i]? = some t) : tot left (ts.set i u) + left t = tot left ts + left u := by
  induction ts generalizing i with
  | nil => simp at h
  | cons y ts ih =>
    cases i with
    | zero =>
      simp at h
      subst h
      simp [tot]
      omega
    | succ i =>
      have := ih i (by simpa using h)
      simp [tot] at this ⊢
      omega
theorem tot_zero {left : Task → Nat} {ts : List Task} (h : tot left ts = 0) : ∀ t, t ∈ ts → left t = 0 := by
  induction ts with
  | nil => intro t ht; simp at ht
  | cons y ts ih =>
    simp [tot] at h
    intro t ht
    rcases List.mem_cons.1 ht with rfl | ht
    · exact h.1
    · exact ih h.2 t ht
theorem tot_pos {left : Task → Nat} {ts : List Task} {i : Nat} {t : Task} (h : ts[i]? = some t) : left t ≤ tot left ts := by
  induction ts generalizing i with
  | nil => simp at h
  | cons y ts ih =>
    cases i with
    | zero => simp at h; subst h; simp [tot]
    | succ i =>
      have := ih (i := i) (by simpa using h)
      simp [tot] at this ⊢
      omega

/-- A run of tasks of which each has so many steps left: as many picks are done, as long as the fuel goes. -/
theorem run_left (I : Nat → Task → Prop) (left : Task → Nat) (h0 : ∀ i t, I i t → t.st = 0 → I i t.adv ∧ left t.adv + 1 = left t) (h1 : ∀ i t, I i t → t.st ≠ 0 → left t = 0) :
    ∀ (f : Nat) (l : List Int) (m : Int) (ts : List Task), (∀ i t, ts[i]? = some t → I i t) →
      (runOf f l m ts).1 = min f (tot left ts) ∧ (∀ i t, (runOf f l m ts).2[i]? = some t → I i t) ∧ tot left (runOf f l m ts).2 + (runOf f l m ts).1 = tot left ts ∧ (runOf f l m ts).2.length = ts.length := by
  intro f
  induction f with
  | zero => intro l m ts h; exact ⟨by simp [runOf], h, by simp [runOf], rfl⟩
  | succ f ih =>
    intro l m ts h
    cases hp : pickOf ts (nextOf l m).1 with
    | none =>
      have hr := pickOf_none hp
      have hz : tot left ts = 0 := by
        have hall : ∀ t, t ∈ ts → left t = 0 := fun t ht => by
          obtain ⟨i, hi⟩ := List.mem_iff_getElem?.1 ht
          refine h1 i t (h i t hi) (fun e => ?_)
          have : ∀ (l : List Int) (k i : Nat), l[i]? = some 0 → thatOf 0 l k ≠ [] := by
            intro l
            induction l with
            | nil => intro k i hi; simp at hi
            | cons y l ih2 =>
              intro k i hi
              simp only [thatOf]
              split
              · simp
              · rename_i hy
                cases i with
                | zero => simp at hi; exact absurd hi hy
                | succ i => exact ih2 (k + 1) i (by simpa using hi)
          exact this (states ts) 0 i (by unfold states; rw [List.getElem?_map, hi]; simp [e]) hr
        clear hr hp ih h
        induction ts with
        | nil => rfl
        | cons y ts ih2 =>
          have a := hall y (by simp)
          have b := ih2 (fun t ht => hall t (by simp [ht]))
          simp [tot] at b ⊢
          exact ⟨a, b⟩
      have e : runOf (f + 1) l m ts = (0, ts) := by rw [runOf, hp]; simp
      rw [e, hz]
      exact ⟨by simp, h, by simp, rfl⟩
    | some i =>
      obtain ⟨t, ht, hst, _⟩ := pickOf_some hp
      obtain ⟨ha, hl⟩ := h0 i t (h i t ht) hst
      have ep : pickTo ts (nextOf l m).1 = ts.set i t.adv := by unfold pickTo; rw [hp]; simp [ht]
      have hI : ∀ j u, (ts.set i t.adv)[j]? = some u → I j u := fun j u hu => by
        rw [List.getElem?_set] at hu
        split at hu
        · rename_i e
          split at hu
          · injection hu with hu; rw [← hu, ← e]; exact ha
          · cases hu
        · exact h j u hu
      obtain ⟨r1, r2, r3, r4⟩ := ih (nextOf l m).2.1 (nextOf l m).2.2 (ts.set i t.adv) hI
      have hs := tot_set left ts i t t.adv ht
      have hpos := tot_pos (left := left) ht
      have e : runOf (f + 1) l m ts = ((runOf f (nextOf l m).2.1 (nextOf l m).2.2 (ts.set i t.adv)).1 + 1, (runOf f (nextOf l m).2.1 (nextOf l m).2.2 (ts.set i t.adv)).2) := by rw [runOf, hp, ep]; simp
      rw [e]
      refine ⟨by simp only; omega, r2, by simp only; omega, by simp only; rw [r4]; simp⟩

/-- Counting up by one: the quotient and the rest. -/
theorem divmod_succ (j n : Nat) (hn : 0 < n) : (j % n + 1 < n → (j + 1) / n = j / n ∧ (j + 1) % n = j % n + 1) ∧ (j % n + 1 = n → (j + 1) / n = j / n + 1 ∧ (j + 1) % n = 0) := by
  have hj := Nat.div_add_mod j n
  have e : j + 1 = n * (j / n) + (j % n + 1) := by omega
  constructor
  · intro h
    rw [e, Nat.mul_add_div hn, Nat.mul_add_mod, Nat.div_eq_of_lt h, Nat.mod_eq_of_lt h]
    exact ⟨rfl, rfl⟩
  · intro h
    rw [e, Nat.mul_add_div hn, Nat.mul_add_mod, h, Nat.div_self hn, Nat.mod_self]
    exact ⟨rfl, rfl⟩

/-- A counter of the statements. -/
def ct (b x : Nat) (c : Int) (s n : Int) : Task := ⟨b, counterFv x, [x], [x], CounterD x c, counterTell c, s, n⟩
def IsCt (c : Int) (t : Task) : Prop := t.tell = counterTell c

theorem place_nat (j n : Nat) : placeOf (j : Int) n = j % n := by
  unfold placeOf
  rw [if_neg (by omega)]
  omega

/-- Tasks that all Go, picked by turns. -/
def AllGo (n j : Nat) (ts : List Task) : Prop := ts.length = n ∧ ∀ (i : Nat) t, ts[i]? = some t → IsCt 1000 t ∧ t.st = 0 ∧ t.n = ((j / n + if i < j % n then 1 else 0 : Nat) : Int)

theorem ready_all {ts : List Task} (h : ∀ t, t ∈ ts → t.st = 0) : (readyOf ts).length = ts.length ∧ ∀ i, i < ts.length → (readyOf ts)[i]? = some ((i : Int) + 1) := by
  have h1 := thatOf_all 0 (states ts) 0 (fun x hx => by obtain ⟨t, ht, rfl⟩ := List.mem_map.1 hx; exact h t ht)
  have hl : (states ts).length = ts.length := by simp [states]
  rw [hl] at h1
  refine ⟨h1.1, fun i hi => ?_⟩
  have := h1.2 i hi
  unfold readyOf
  rw [this]
  congr 1
  omega
theorem pick_all {ts : List Task} (h : ∀ t, t ∈ ts → t.st = 0) (hn : 0 < ts.length) (j : Nat) : pickOf ts (j : Int) = some (j % ts.length) := by
  obtain ⟨h1, h2⟩ := ready_all h
  unfold pickOf
  rw [h1, place_nat, h2 _ (Nat.mod_lt _ hn), Option.map_some]
  congr 1
  generalize j % ts.length = k
  omega
theorem allGo_step {n j : Nat} {ts : List Task} (hn : 0 < n) (h : AllGo n j ts) (hj : j < 900) : pickOf ts (j : Int) = some (j % n) ∧ AllGo n (j + 1) (pickTo ts (j : Int)) := by
  obtain ⟨hl, ha⟩ := h
  have hst : ∀ t, t ∈ ts → t.st = 0 := fun t ht => by
    obtain ⟨i, hi⟩ := List.mem_iff_getElem?.1 ht
    exact (ha i t hi).2.1
  have hp := pick_all hst (by omega) j
  rw [hl] at hp
  have hlt := Nat.mod_lt j hn
  obtain ⟨t, ht⟩ : ∃ t, ts[j % n]? = some t := ⟨_, List.getElem?_eq_getElem (by omega)⟩
  have ep : pickTo ts (j : Int) = ts.set (j % n) t.adv := by unfold pickTo; rw [hp]; simp [ht]
  refine ⟨hp, by rw [ep]; simp [hl], fun i u hu => ?_⟩
  rw [ep, List.getElem?_set] at hu
  obtain ⟨d1, d2⟩ := divmod_succ j n hn
  have hjd : j / n ≤ j := Nat.div_le_self j n
  split at hu
  · rename_i e
    split at hu
    · injection hu with hu
      subst hu
      obtain ⟨a1, a2, a3⟩ := ha _ t ht
      refine ⟨a1, ?_, ?_⟩
      · unfold Task.adv
        simp only
        rw [a1, a3]
        unfold counterTell norm
        simp
        omega
      · unfold Task.adv
        simp only
        rw [a3]
        rw [← e]
        by_cases h1 : j % n + 1 < n
        · rw [(d1 h1).1, (d1 h1).2]; simp
        · rw [(d2 (by omega)).1, (d2 (by omega)).2]; simp
    · cases hu
  · rename_i e
    obtain ⟨a1, a2, a3⟩ := ha i u hu
    refine ⟨a1, a2, ?_⟩
    rw [a3]
    have hi := (List.getElem?_eq_some_iff.1 hu).1
    by_cases h1 : j % n + 1 < n
    · rw [(d1 h1).1, (d1 h1).2]
      congr 2
      split <;> split <;> omega
    · rw [(d2 (by omega)).1, (d2 (by omega)).2]
      have : i < j % n := by omega
      simp [this]
theorem allGo_run {n : Nat} (hn : 0 < n) : ∀ (f j : Nat) (ts : List Task), AllGo n j ts → j + f ≤ 900 → (runOf f [] (j : Int) ts).1 = f ∧ AllGo n (j + f) (runOf f [] (j : Int) ts).2 := by
  intro f
  induction f with
  | zero => intro j ts h _; exact ⟨rfl, h⟩
  | succ f ih =>
    intro j ts h hj
    obtain ⟨h1, h2⟩ := allGo_step hn h (by omega)
    obtain ⟨r1, r2⟩ := ih (j + 1) _ h2 (by omega)
    have e : runOf (f + 1) [] (j : Int) ts = ((runOf f [] ((j + 1 : Nat) : Int) (pickTo ts (j : Int))).1 + 1, (runOf f [] ((j + 1 : Nat) : Int) (pickTo ts (j : Int))).2) := by
      rw [runOf]
      simp only [nextOf, h1, Option.isSome_some, if_true]
      rfl
    rw [e]
    refine ⟨by simp only; omega, ?_⟩
    simp only
    rw [show j + (f + 1) = j + 1 + f by omega]
    exact r2
end Go.Proofs.Ytopoklciglgkbaa
