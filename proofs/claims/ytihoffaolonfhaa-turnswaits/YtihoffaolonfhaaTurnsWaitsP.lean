/-
  The runs of TurnsWaits, without memory; a told task is added.
-/
import Derived.Test.YtihoffaolonfhaaTurnsFairP
import Derived.Test.YtihoffaolonfhaaTurnsAddsP
namespace Go.Proofs.Ytihoffaolonfhaa
open Go.RowKit
set_option linter.unusedVariables false

/-- What the i-th task tells. -/
def wl (bs : Nat → Bool) (i : Nat) : List Int := if bs i then [1, 2] else [2]
def WTell (bs : Nat → Bool) (i : Nat) (t : Task) : Prop := t.tell = fun n => tellOf (wl bs i) n.toNat
def WL (_ : Nat) (t : Task) : Nat := if t.st = 0 then 1 else 0

/-- Tasks that have not begun. -/
def WF (bs : Nat → Bool) (j : Nat) (ts : List Task) : Prop := ts.length = j ∧ ∀ (i : Nat) t, ts[i]? = some t → WTell bs i t ∧ t.st = 0 ∧ t.n = 0
/-- Within the first run. -/
def W1 (bs : Nat → Bool) (i : Nat) (t : Task) : Prop := WTell bs i t ∧ ((t.st = 0 ∧ t.n = 0) ∨ (t.n = 1 ∧ t.st = if bs i then 1 else 2))
/-- Within the second one; W tells who was woken. -/
def W2 (bs : Nat → Bool) (W : Nat → Prop) (i : Nat) (t : Task) : Prop := WTell bs i t ∧ ((t.st = 0 ∧ t.n = 1 ∧ W i ∧ bs i = true) ∨ (t.st ≠ 0 ∧ t.n = 1 ∧ ¬ W i) ∨ (t.st = 2 ∧ t.n = 2 ∧ W i))

theorem W1_step (bs : Nat → Bool) (i : Nat) (t : Task) (h : W1 bs i t) (h0 : t.st = 0) : W1 bs i t.adv ∧ WL i t.adv + 1 = WL i t := by
  obtain ⟨h1, h2⟩ := h
  have hn : t.n = 0 := by
    rcases h2 with h2 | h2
    · exact h2.2
    · rw [h0] at h2
      have := h2.2
      split at this <;> omega
  have hs : t.adv.st = if bs i then 1 else 2 := by
    unfold Task.adv
    simp only
    rw [h1, hn]
    unfold wl
    cases bs i <;> rfl
  have hn2 : t.adv.n = 1 := by show t.n + 1 = 1; omega
  refine ⟨⟨h1, .inr ⟨hn2, hs⟩⟩, ?_⟩
  unfold WL
  rw [hs, if_pos h0]
  cases bs i <;> simp
theorem W1_end (bs : Nat → Bool) (i : Nat) (t : Task) (h : W1 bs i t) (h0 : t.st ≠ 0) : WL i t = 0 := by unfold WL; rw [if_neg h0]
theorem W2_step (bs : Nat → Bool) (W : Nat → Prop) (i : Nat) (t : Task) (h : W2 bs W i t) (h0 : t.st = 0) : W2 bs W i t.adv ∧ WL i t.adv + 1 = WL i t := by
  obtain ⟨h1, h2⟩ := h
  rcases h2 with ⟨_, hn, hW, hb⟩ | h2 | h2
  · have hs : t.adv.st = 2 := by
      unfold Task.adv
      simp only
      rw [h1, hn]
      unfold wl
      rw [hb]
      rfl
    have hn2 : t.adv.n = 2 := by show t.n + 1 = 2; omega
    refine ⟨⟨h1, .inr (.inr ⟨hs, hn2, hW⟩)⟩, ?_⟩
    unfold WL
    rw [hs, if_pos h0]
    rfl
  · exact absurd h0 h2.1
  · omega
theorem W2_end (bs : Nat → Bool) (W : Nat → Prop) (i : Nat) (t : Task) (h : W2 bs W i t) (h0 : t.st ≠ 0) : WL i t = 0 := by unfold WL; rw [if_neg h0]

theorem wake1_get (ts : List Task) (k : Int) (i : Nat) : (wake1 ts k)[i]? = (ts[i]?).map (fun t => if t.st = 1 ∧ k = (i : Int) + 1 then t.woken else t) := by
  unfold wake1
  cases hk : ts[(k - 1).toNat]? with
  | none =>
    simp only
    cases hi : ts[i]? with
    | none => rfl
    | some t =>
      have hne : ¬ (k = (i : Int) + 1) := by
        intro e
        have : (k - 1).toNat = i := by omega
        rw [this, hi] at hk
        cases hk
      simp [hne]
  | some u =>
    simp only
    by_cases hc : 1 ≤ k ∧ u.st = 1
    · rw [if_pos hc, List.getElem?_set]
      by_cases e : (k - 1).toNat = i
      · rw [if_pos e]
        have hlt := (List.getElem?_eq_some_iff.1 hk).1
        rw [e] at hk hlt
        rw [if_pos (by omega), hk]
        have : k = (i : Int) + 1 := by omega
        simp [hc.2, this]
      · rw [if_neg e]
        have hne : ¬ (k = (i : Int) + 1) := by omega
        cases ts[i]? <;> simp [hne]
    · rw [if_neg hc]
      cases hi : ts[i]? with
      | none => rfl
      | some t =>
        have hne : ¬ (t.st = 1 ∧ k = (i : Int) + 1) := by
          rintro ⟨e1, e2⟩
          have : (k - 1).toNat = i := by omega
          rw [this, hi] at hk
          injection hk with hk
          subst hk
          exact hc ⟨by omega, e1⟩
        simp [hne]
theorem wakeAll_get (l : List Int) (ts : List Task) (i : Nat) : (wakeAll ts l)[i]? = (ts[i]?).map (fun t => if t.st = 1 ∧ ((i : Int) + 1) ∈ l then t.woken else t) := by
  unfold wakeAll
  induction l generalizing ts with
  | nil =>
    rw [List.foldl_nil]
    cases h : ts[i]? <;> simp
  | cons k l ih =>
    rw [List.foldl_cons, ih (wake1 ts k), wake1_get]
    cases ts[i]? with
    | none => rfl
    | some t =>
      simp only [Option.map_some, Option.some.injEq]
      by_cases h1 : t.st = 1
      · by_cases h2 : k = (i : Int) + 1
        · simp [h1, h2, Task.woken]
        · have h3 : ¬ ((i : Int) + 1 = k) := fun e => h2 e.symm
          simp [h1, h2, h3]
      · simp [h1]

/-- What the law's runs do: behind the first one none is ready; behind the second one who was woken took two steps. -/
theorem waits_runs {bs : Nat → Bool} {j : Nat} {ts : List Task} (l : List Int) (h : WF bs j ts) (hj : j ≤ 20) :
    ∃ c1 us c2 vs, runOf 200 [] 0 ts = (c1, us) ∧ readyOf us = [] ∧ Lim 1 us ∧ runOf 200 [] 0 (wakeAll us l) = (c2, vs) ∧ Lim 1 (wakeAll us l) ∧ vs.length = j ∧
      ∀ (i : Nat) t, vs[i]? = some t → t.n = if bs i = true ∧ ((i : Int) + 1) ∈ l then 2 else 1 := by
  have hle : ∀ (us : List Task), totI WL 0 us ≤ us.length * 1 := fun us => totI_le _ _ _ _ (fun i t _ => by unfold WL; split <;> omega)
  obtain ⟨a1, a2, a3, a4⟩ := run_leftI (W1 bs) WL (W1_step bs) (W1_end bs) 200 [] 0 ts (fun i t ht => by obtain ⟨b1, b2, b3⟩ := h.2 i t ht; exact ⟨b1, .inl ⟨b2, b3⟩⟩)
  have e1 : runOf 200 [] 0 ts = ((runOf 200 [] 0 ts).1, (runOf 200 [] 0 ts).2) := rfl
  have t1 := hle ts
  rw [h.1] at t1 a4
  generalize (runOf 200 [] 0 ts).1 = c1 at *
  generalize (runOf 200 [] 0 ts).2 = us at *
  have hd := run_done (W1_step bs) a2 (by omega)
  have hus : ∀ (i : Nat) t, us[i]? = some t → WTell bs i t ∧ t.n = 1 ∧ t.st = if bs i then 1 else 2 := fun i t ht => by
    obtain ⟨b1, b2⟩ := a2 i t ht
    rcases b2 with b2 | b2
    · exact absurd b2.1 (hd t (List.mem_of_getElem? ht))
    · exact ⟨b1, b2.1, b2.2⟩
  have hws : ∀ (i : Nat) t, (wakeAll us l)[i]? = some t → W2 bs (fun i => bs i = true ∧ ((i : Int) + 1) ∈ l) i t ∧ t.n = 1 := fun i t ht => by
    rw [wakeAll_get] at ht
    obtain ⟨u, hu, rfl⟩ := Option.map_eq_some_iff.1 ht
    obtain ⟨b1, b2, b3⟩ := hus i u hu
    by_cases hb : bs i = true
    · rw [hb] at b3
      simp at b3
      by_cases hm : ((i : Int) + 1) ∈ l
      · rw [if_pos ⟨b3, hm⟩]
        exact ⟨⟨b1, .inl ⟨rfl, b2, ⟨hb, hm⟩, hb⟩⟩, b2⟩
      · rw [if_neg (fun e => hm e.2)]
        exact ⟨⟨b1, .inr (.inl ⟨by omega, b2, fun e => hm e.2⟩)⟩, b2⟩
    · have hb2 : bs i = false := by simpa using hb
      rw [hb2] at b3
      simp at b3
      rw [if_neg (fun e => by omega)]
      exact ⟨⟨b1, .inr (.inl ⟨by omega, b2, fun e => hb e.1⟩)⟩, b2⟩
  obtain ⟨d1, d2, d3, d4⟩ := run_leftI (W2 bs (fun i => bs i = true ∧ ((i : Int) + 1) ∈ l)) WL (W2_step bs _) (W2_end bs _) 200 [] 0 (wakeAll us l) (fun i t ht => (hws i t ht).1)
  have e2 : runOf 200 [] 0 (wakeAll us l) = ((runOf 200 [] 0 (wakeAll us l)).1, (runOf 200 [] 0 (wakeAll us l)).2) := rfl
  have t2 := hle (wakeAll us l)
  rw [wakeAll_length, a4] at t2 d4
  generalize (runOf 200 [] 0 (wakeAll us l)).1 = c2 at *
  generalize (runOf 200 [] 0 (wakeAll us l)).2 = vs at *
  have hd2 := run_done (W2_step bs _) d2 (by omega)
  refine ⟨c1, us, c2, vs, e1, ready_nil_of hd, fun t ht => ?_, e2, fun t ht => ?_, d4, fun i t ht => ?_⟩
  · obtain ⟨i, hi⟩ := List.mem_iff_getElem?.1 ht
    have := (hus i t hi).2.1
    omega
  · obtain ⟨i, hi⟩ := List.mem_iff_getElem?.1 ht
    have := (hws i t hi).2
    omega
  · obtain ⟨b1, b2⟩ := d2 i t ht
    rcases b2 with b2 | b2 | b2
    · exact absurd b2.1 (hd2 t (List.mem_of_getElem? ht))
    · rw [if_neg b2.2.2]; exact b2.2.1
    · rw [if_pos b2.2.2]; exact b2.2.1

theorem WF.snoc {bs : Nat → Bool} {j : Nat} {ts : List Task} (h : WF bs j ts) (B b x : Nat) (ao : Option Addr) (len cap : Nat) : WF bs (j + 1) (ts ++ [toT B b x ao len cap (wl bs j) 0 0]) := by
  refine ⟨by simp [h.1], fun i t ht => ?_⟩
  rw [List.getElem?_append] at ht
  split at ht
  · exact h.2 i t ht
  · have h1 := List.mem_of_getElem? ht
    have h2 := (List.getElem?_eq_some_iff.1 ht).1
    simp at h1 h2
    subst h1
    have e : i = j := by have := h.1; omega
    subst e
    exact ⟨rfl, rfl, rfl⟩
theorem WF.lim {bs : Nat → Bool} {j : Nat} {ts : List Task} (h : WF bs j ts) : Lim 0 ts := fun t ht => by
  obtain ⟨i, hi⟩ := List.mem_iff_getElem?.1 ht
  have := (h.2 i t hi).2.2
  omega

/-- A told task whose memory is new is added. -/
theorem add_told (B : Nat) (w w3 : World) (p : Nat) (F : List Nat) (ts : List Task) (x r len cap : Nat) (l : List Int) (hlen : len ≤ 9223372036854775807) (hl : ts.length < 128) (h : Tur B w p F ts) (hT : Turned [] w w3) (hx : w.heap.size ≤ x) (hr : w.heap.size ≤ r) (hd : ToldD B x (some ⟨r, 0, none⟩) len cap l w3 0) :
    Calls Try.prog 13 #[.pointer (some ⟨p, 0, none⟩), .func (.func 14) #[.pointer (some ⟨x, 0, none⟩)] #[]] w3 fun e w' =>
      e = .returned (.tuple #[.int .i64 ((ts.length : Int) + 1), .int .i64 0]) ∧ ∃ F' b, Tur B w' p F' (ts ++ [toT B b x (some ⟨r, 0, none⟩) len cap l 0 0]) ∧ Turned F w w' := by
  have hp := h.trn.lo p h.trn.pF
  have hg := good_told B x (some ⟨r, 0, none⟩) len cap l hlen 0 0 0
  have hxw := (hg.aw w3 0 hd x (by simp)).1
  have hra : ∀ k, k ∈ rowA (some ⟨r, 0, none⟩) l → k = r := fun k hk => by
    unfold rowA at hk
    split at hk
    · simp at hk
    · simpa using hk
  have hsub : ∃ F2, Tur B w3 p F2 ts ∧ x ∈ F2 ∧ (∀ k, k ∈ rowA (some ⟨r, 0, none⟩) l → k ∈ F2) ∧ ∀ k, k ∈ F2 → k ∈ F ∨ w.heap.size ≤ k := by
    by_cases hne : l = []
    · refine ⟨x :: F, (h.same hT).more ⟨by omega, hxw⟩, by simp, fun k hk => by simp [rowA, hne] at hk, fun k hk => ?_⟩
      rcases List.mem_cons.1 hk with rfl | hk
      · exact .inr hx
      · exact .inl hk
    · have hrw := (hg.aw w3 0 hd r (by simp [rowA, hne])).1
      refine ⟨r :: x :: F, ((h.same hT).more ⟨by omega, hxw⟩).more ⟨by omega, hrw⟩, by simp, fun k hk => by simp [hra k hk], fun k hk => ?_⟩
      rcases List.mem_cons.1 hk with rfl | hk
      · exact .inr hr
      · rcases List.mem_cons.1 hk with rfl | hk
        · exact .inr hx
        · exact .inl hk
  obtain ⟨F2, hF2, hxF, hrF, hback⟩ := hsub
  refine (add_tur B w3 p F2 ts (.func 14) #[.pointer (some ⟨x, 0, none⟩)] #[] [x] (x :: rowA (some ⟨r, 0, none⟩) l) (ToldD B x (some ⟨r, 0, none⟩) len cap l) (fun n => tellOf l n.toNat) hl hF2 (fun b => good_told B x (some ⟨r, 0, none⟩) len cap l hlen b 0 0) hd ?_ ?_ ?_).mono ?_
  · intro k hk
    rcases List.mem_cons.1 hk with rfl | hk
    · exact .inl hxF
    · exact .inl (hrF k hk)
  · intro k hk
    simp at hk
    subst hk
    exact hxF
  · intro t ht
    refine ⟨fun k hk hm => ?_, fun k hk hm => ?_⟩
    · have h1 := (h.trn.lo _ (h.sF t ht _ hk)).2
      rcases List.mem_cons.1 hm with rfl | hm
      · omega
      · have := hra k hm; omega
    · simp at hk
      subst hk
      have := (h.awA ht hm).1
      omega
  · rintro e w' ⟨rfl, F', h2, _, _, h3, _⟩
    exact ⟨rfl, F', _, h2, (hT.mono (by simp)).trans_new h3 hback⟩
end Go.Proofs.Ytihoffaolonfhaa
