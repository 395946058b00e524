/-
  All that holds at each round of ArenaApart, in one ('AI'), and how it goes on.
-/
import Derived.Test.YtelljfckffmjmaaArenaFour
namespace Go.Proofs.Ytelljfckffmjmaa
open Go.RowKit
set_option linter.unusedVariables false

structure AI (A : AC) (len j : Nat) (l bl : List Int) (tp : Nat) (F G ow : Nat → Nat) (made : Nat) (nx : Nat → Nat) (kd : Nat → Kd) (xs : Nat → Option Nat) (K : Nat → AkS) (ns : Nat → Nat) : Prop where
  tl : Tl A l bl tp F G ow made nx kd
  ki : ∀ u, u < 4 → xs u ≠ none → KI A F G (ns u) u (K u)
  jv : Jv len j xs (phi xs tp K)

theorem updF_self {α : Type} (f : Nat → α) (i : Nat) (x : α) : updF f i x i = x := by unfold updF; rw [if_pos rfl]
theorem updF_ne {α : Type} (f : Nat → α) {i j : Nat} (x : α) (h : j ≠ i) : updF f i x j = f j := by unfold updF; rw [if_neg h]
theorem updF_again {α : Type} (f : Nat → α) (i : Nat) (x : α) : updF (updF f i x) i x = updF f i x := by
  funext k
  unfold updF
  by_cases h : k = i
  · rw [if_pos h, if_pos h]
  · rw [if_neg h, if_neg h]
theorem objs_le (nx : Nat → Nat) (kd : Nat → Kd) (n : Nat) : objs nx kd n ≤ n := by
  induction n with
  | zero => exact Nat.le_refl _
  | succ n ih => unfold objs; split <;> omega

section
variable {A : AC} {len j : Nat} {l bl : List Int} {tp : Nat} {F G ow : Nat → Nat} {made : Nat} {nx : Nat → Nat} {kd : Nat → Kd} {xs : Nat → Option Nat} {K : Nat → AkS} {ns : Nat → Nat}
theorem AI.few (h : AI A len j l bl tp F G ow made nx kd xs K ns) : made ≤ 401 := by
  rw [← h.tl.cnt]
  exact objs_le _ _ _
theorem AI.fit (h : AI A len j l bl tp F G ow made nx kd xs K ns) {i : Nat} (hi : i < 4) (hx : xs i ≠ none) (s : Int) : FitA A (2 * i) ⟨l, bl, K i, s⟩ := by
  have hb := h.tl.bls i hi
  have hf := h.tl.bfs i hi
  have hk := h.ki i hi hx
  have hl := h.tl.len
  have ht := h.tl.til
  have h8 := h.tl.b8
  refine ⟨?_, ?_, ?_, fun _ => ?_, fun hh => ?_⟩
  · simp only; rw [hb.1, hb.2]; omega
  · simp only; rw [hb.2]; omega
  · simp only; omega
  · simp only; rw [hk.sz.1]; have := hk.sz.2; omega
  · have := hk.sw hh
    exact ⟨this.1, this.2.1, this.2.2.1⟩

theorem AI.idle (h : AI A len j l bl tp F G ow made nx kd xs K ns) {i : Nat} (hj : j < len ∨ (i = j % 4 ∧ xs i = none)) : AI A len (j + 1) l bl tp F G ow made nx kd xs K ns :=
  ⟨h.tl, h.ki, J_next h.jv (phi_le _ _ _) (by
    rcases hj with hj | ⟨h1, h2⟩
    · exact .inl hj
    · exact .inr ⟨h1, fun w _ hx => hx, .inl ⟨h2, Nat.le_refl _⟩⟩)⟩
theorem AI.ask (h : AI A len j l bl tp F G ow made nx kd xs K ns) {i b n : Nat} (hi : i < 4) (hj : j < len) (hn : 1 ≤ n ∧ n ≤ 40) : AI A len (j + 1) l bl tp F G ow made nx kd (updF xs i (some b)) (updF K i (akNew n)) (updF ns i n) := by
  refine ⟨h.tl, fun u hu hx => ?_, J_next h.jv (phi_le _ _ _) (w0 := i) (.inl hj)⟩
  by_cases e : u = i
  · subst e
    rw [updF_self, updF_self]
    exact ⟨rfl, ⟨rfl, hn⟩, fun hh => absurd rfl hh, fun hh => by cases hh⟩
  · rw [updF_ne _ _ e] at hx
    rw [updF_ne _ _ e, updF_ne _ _ e]
    exact h.ki u hu hx

theorem AI.step (h : AI A len j l bl tp F G ow made nx kd xs K ns) {i : Nat} (hi : i < 4) (hx : xs i ≠ none) (hj : j < len ∨ i = j % 4) (s : Int) :
    (∃ F' G' kd', (stepA A (2 * i) ⟨l, bl, K i, s⟩).k.done = false ∧ AI A len (j + 1) (stepA A (2 * i) ⟨l, bl, K i, s⟩).l (stepA A (2 * i) ⟨l, bl, K i, s⟩).bl tp F' G' ow made nx kd' xs (updF K i (stepA A (2 * i) ⟨l, bl, K i, s⟩).k) ns) ∨
    (∃ F' G' kd', (stepA A (2 * i) ⟨l, bl, K i, s⟩).k.done = true ∧ (stepA A (2 * i) ⟨l, bl, K i, s⟩).k.errno = 14 ∧ AI A len (j + 1) (stepA A (2 * i) ⟨l, bl, K i, s⟩).l (stepA A (2 * i) ⟨l, bl, K i, s⟩).bl tp F' G' ow made nx kd' (updF xs i none) (updF K i (stepA A (2 * i) ⟨l, bl, K i, s⟩).k) ns) ∨
    (∃ pos tp' F' G' nx' kd', (stepA A (2 * i) ⟨l, bl, K i, s⟩).k.done = true ∧ (stepA A (2 * i) ⟨l, bl, K i, s⟩).k.errno = 0 ∧ (stepA A (2 * i) ⟨l, bl, K i, s⟩).k.pos = ((pos : Nat) : Int) ∧ 1 ≤ pos ∧ pos + ns i ≤ A.to ∧ (∀ q, pos ≤ q → q < pos + ns i → ow q = 0) ∧ AI A len (j + 1) ((stepA A (2 * i) ⟨l, bl, K i, s⟩).l.set pos (headOf 1 ((ns i : Int) - 1))) (stepA A (2 * i) ⟨l, bl, K i, s⟩).bl tp' F' G' (owC ow pos (ns i) (made + 1)) (made + 1) nx' kd' (updF xs i none) (updF K i (stepA A (2 * i) ⟨l, bl, K i, s⟩).k) ns) := by
  have hk := h.ki i hi hx
  have kis : ∀ (F' G' : Nat → Nat) (k' : AkS), (∀ u, u ≠ i → F' u = F u ∧ G' u = G u) → ∀ u, u < 4 → updF xs i none u ≠ none → KI A F' G' (ns u) u (updF K i k' u) := by
    intro F' G' k' ho u hu hxu
    by_cases e : u = i
    · subst e
      rw [updF_self] at hxu
      exact absurd rfl hxu
    · rw [updF_ne _ _ e] at hxu
      rw [updF_ne _ _ e]
      exact (h.ki u hu hxu).of (ho u e)
  have jend : ∀ (tp' : Nat) (k' : AkS), Jv len (j + 1) (updF xs i none) (phi (updF xs i none) tp' (updF K i k')) := by
    intro tp' k'
    refine J_next h.jv (phi_le _ _ _) (w0 := i) ?_
    rcases hj with hj | hj
    · exact .inl hj
    · exact .inr ⟨hj, fun w hw hxw => by rw [updF_ne _ _ hw] at hxw; exact hxw, .inr ⟨hx, phi_end k' hi hx⟩⟩
  rcases went h.tl hi hk s with ⟨F', G', kd', hd, ht, hk', ho⟩ | ⟨F', G', kd', hd, he, ht, ho⟩ | ⟨pos, tp', F', G', nx', kd', hd, he, hp, h1, h2, h3, ht, ho⟩
  · left
    refine ⟨F', G', kd', hd, ht, fun u hu hxu => ?_, ?_⟩
    · by_cases e : u = i
      · subst e
        rw [updF_self]
        exact hk'
      · rw [updF_ne _ _ e]
        exact (h.ki u hu hxu).of (ho u e)
    · refine J_next h.jv (phi_le _ _ _) (w0 := i) ?_
      rcases hj with hj | hj
      · exact .inl hj
      · exact .inr ⟨hj, fun w hw hxw => hxw, .inr ⟨hx, phi_on hi hx (v_step h.tl.top.1 hk.nd hk.sz hd)⟩⟩
  · right; left
    exact ⟨F', G', kd', hd, he, ht, kis F' G' _ ho, jend tp _⟩
  · right; right
    exact ⟨pos, tp', F', G', nx', kd', hd, he, hp, h1, h2, h3, ht, kis F' G' _ ho, jend tp' _⟩

/-- A buffer is retired. -/
theorem Tl.retire (h : Tl A l bl tp F G ow made nx kd) {i : Nat} (hi : i < 4) (hfg : F i < G i) : Tl A (l.set (F i) (headOf 0 ((G i : Int) - F i - 1))) ((bl.set (2 * i) 0).set (2 * i + 1) 0) tp (updN F i 0) (updN G i 0) ow made nx (fun p => if p = F i then .fil else kd p) := by
  have hz := h.z
  have hlen := h.len
  have htop := h.top
  have htil := h.til
  obtain ⟨g1, g2⟩ := (h.bfs i hi).2.2 hfg
  have hp : 0 < nx (F i) := by omega
  have hs1 := (h.seg (F i) hp).1
  have hsp := (h.seg (F i) hp).2.1
  rw [show ((G i : Int) - F i - 1) = (((G i - F i : Nat) : Int) - 1) by omega]
  exact h.fill (F' := updN F i 0) (G' := updN G i 0) i hi hfg (by simp; exact hlen) (by unfold topOf; rw [getD_set, if_neg (by omega)]; exact htop.1) (by rw [List.getElem?_set_self (by omega)]) (fun p hne => by rw [List.getElem?_set_ne (by omega)]) (by simp; exact h.b8) (bls_two h.bls h.b8 hi 0 0) ⟨updN_self _ _ _, updN_self _ _ _⟩ (fun u hu => ⟨updN_ne F _ hu, updN_ne G _ hu⟩)
end

theorem ai_zero (len en bu : Nat) (l : List Int) (hl : l.length = 401 ∧ l.getD 0 0 = 1) (hen : 10 ≤ en ∧ en ≤ 399) (hbu : 2 ≤ bu ∧ bu ≤ 40) : AI ⟨0, en, bu⟩ len 0 l [0, 0, 0, 0, 0, 0, 0, 0] 1 (fun _ => 0) (fun _ => 0) (fun _ => 0) 0 (fun _ => 0) (fun _ => .fil) (fun _ => none) (fun _ => akNew 0) (fun _ => 0) := by
  refine ⟨⟨rfl, hl.1, hen, hbu, rfl, ⟨hl.2, by omega, by show 1 ≤ en; omega⟩, fun w hw => ?_, .inl rfl, fun p hp => by simp at hp, fun p hp => by simp at hp, fun p hp => by simp at hp, fun p w hp => by simp at hp, fun w hw => ⟨Nat.le_refl _, by omega, fun h => by simp at h⟩, fun q _ => rfl, ?_⟩, fun u hu hx => absurd rfl hx, fun u hu hx => absurd rfl hx⟩
  · match w, hw with
    | 0, _ => exact ⟨rfl, rfl⟩
    | 1, _ => exact ⟨rfl, rfl⟩
    | 2, _ => exact ⟨rfl, rfl⟩
    | 3, _ => exact ⟨rfl, rfl⟩
  · have := objs_skip (fun _ => 0) (fun _ => .fil) 0 401 (fun q _ _ => rfl)
    rw [Nat.zero_add] at this
    rw [this]
    rfl
theorem pick_turn (j : Nat) : pickOf (j : Int) 4 = j % 4 := by
  unfold pickOf
  rw [if_neg (by omega)]
  rw [Int.tmod_eq_emod_of_nonneg (by omega)]
  omega
theorem pick_one : pickOf 1 5 = 1 := by decide
theorem zero401 : Try.zeroCells70 = ((owl (fun _ => 0)).map (Value.int .i64)).toArray := by kernel_rfl
end Go.Proofs.Ytelljfckffmjmaa
