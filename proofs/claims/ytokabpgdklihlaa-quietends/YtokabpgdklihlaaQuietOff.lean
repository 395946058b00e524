/-
  The crew of QuietEnds without memory, by turns, once no event is to come: all come to offers from which they don't come back ('go_over'). No Go is walked here.
-/
import Derived.Test.YtokabpgdklihlaaQuietGo
namespace Go.Proofs.Ytokabpgdklihlaa
set_option linter.unusedVariables false

section
variable {n : Nat} {T : Nat → GS} {a : Nat}
theorem same_before (hT : ByTurns n T) (s W : Nat) : ∀ e, (∀ c, c < e → (s + c) % n ≠ W) → (T (s + e)).X W = (T s).X W
  | 0, _ => rfl
  | e + 1, h => by
    rw [← Nat.add_assoc, hT, move_other _ _ (fun g => h e (by omega) g.symm), same_before hT s W e (fun c hc => h c (by omega))]
theorem turn_of (hn : 1 ≤ n) (hn4 : n ≤ 4) (s : Nat) {W : Nat} (hW : W < n) : ∃ d, d < n ∧ (s + d) % n = W ∧ ∀ c, c < d → (s + c) % n ≠ W := by
  refine ⟨(W + (n - s % n)) % n, Nat.mod_lt _ (by omega), ?_, fun c hc g => ?_⟩
  · have h4 : n = 1 ∨ n = 2 ∨ n = 3 ∨ n = 4 := by omega
    rcases h4 with rfl | rfl | rfl | rfl <;> omega
  · have h4 : n = 1 ∨ n = 2 ∨ n = 3 ∨ n = 4 := by omega
    rcases h4 with rfl | rfl | rfl | rfl <;> omega

/-- From some time on no event is to come. -/
structure Calm (n : Nat) (T : Nat → GS) (a : Nat) : Prop where
  turns : ByTurns n T
  n1 : 1 ≤ n
  n4 : n ≤ 4
  all : AllG n (T a)
  idle : Idle n (T a)
  zero : evE n (T a) = 0
theorem Calm.zeros (h : Calm n T a) : ∀ d, evE n (T (a + d)) = 0
  | 0 => h.zero
  | d + 1 => by
    have hk : (a + d) % n < n := Nat.mod_lt _ (by have := h.n1; omega)
    have hA := all_time h.turns h.n1 h.all d
    have hA2 := all_time h.turns h.n1 h.all (d + 1)
    have ih := h.zeros d
    obtain ⟨e1, e2⟩ := evE_step hA.crew hk (hA.push hk)
    have hnn := evE_nn hA2
    rw [← Nat.add_assoc, h.turns] at hnn ⊢
    by_cases g : EvW n (T (a + d)).l ((T (a + d)).X ((a + d) % n))
    · rw [e1 g] at hnn; omega
    · rw [e2 g]; exact ih
theorem Calm.quiet (h : Calm n T a) (d : Nat) : ¬ EvW n (T (a + d)).l ((T (a + d)).X ((a + d) % n)) := fun g => by
  have hk : (a + d) % n < n := Nat.mod_lt _ (by have := h.n1; omega)
  have hA := all_time h.turns h.n1 h.all d
  have e := (evE_step hA.crew hk (hA.push hk)).1 g
  have e1 := h.zeros d
  have e2 := h.zeros (d + 1)
  rw [← Nat.add_assoc, h.turns] at e2
  omega
theorem Calm.alls (h : Calm n T a) (d : Nat) : AllG n (T (a + d)) := all_time h.turns h.n1 h.all d
theorem Calm.zer (h : Calm n T a) (d : Nat) : Zer n (T (a + d)) := zer_of (h.alls d) (h.zeros d)
theorem Calm.noway (h : Calm n T a) (d : Nat) : ¬ onWay (moveW n ((a + d) % n) (T (a + d)).l ((T (a + d)).X ((a + d) % n))) := fun g => by
  have hk : (a + d) % n < n := Nat.mod_lt _ (by have := h.n1; omega)
  have e1 : (T (a + (d + n))).X ((a + d) % n) = moveW n ((a + d) % n) (T (a + d)).l ((T (a + d)).X ((a + d) % n)) := by
    rw [← move_eq, ← h.turns, ← same_till h.turns h.n1 h.n4 rfl (n - 1) (Nat.le_refl _)]
    congr 2
    have := h.n1
    omega
  rw [← e1] at g
  have := h.quiet (d + n)
  rw [show (a + (d + n)) % n = (a + d) % n by rw [← Nat.add_assoc, Nat.add_mod_right]] at this
  exact this (onWay_ev ((h.alls (d + n)).crew.shape _ hk) g)
def topsOf (n : Nat) (S : GS) (j : Nat) : Int := rd (cOf (QE n) j) S.l 0
theorem Calm.tops (h : Calm n T a) {j : Nat} (hj : j < n) : ∀ d, rd (cOf (QE n) j) (T (a + d)).l 0 = topsOf n (T a) j
  | 0 => rfl
  | d + 1 => by
    have hk : (a + d) % n < n := Nat.mod_lt _ (by have := h.n1; omega)
    rw [← Nat.add_assoc, h.turns, top_step (h.alls d).crew hk (h.quiet d) (h.noway d) j hj]
    exact h.tops hj d

abbrev goT (n : Nat) (T : Nat → GS) (a d k : Nat) : Nat := goW n (topsOf n (T a)) ((T (a + d)).X k)
theorem Calm.move (h : Calm n T a) (d : Nat) : (goT n T a d ((a + d) % n) = 0 ∧ goT n T a (d + 1) ((a + d) % n) = 0) ∨ goT n T a (d + 1) ((a + d) % n) < goT n T a d ((a + d) % n) ∨ ((T (a + (d + 1))).X ((a + d) % n) = (T (a + d)).X ((a + d) % n) ∧ waits n (T (a + d)).l ((T (a + d)).X ((a + d) % n))) := by
  have hk : (a + d) % n < n := Nat.mod_lt _ (by have := h.n1; omega)
  have := go_move (h.alls d) (h.zer d) hk (h.quiet d) (topsOf n (T a)) (fun j hj => h.tops hj d)
  unfold goT
  rw [← Nat.add_assoc, h.turns, move_eq]
  exact this
theorem Calm.less (h : Calm n T a) (d k : Nat) : goT n T a (d + 1) k ≤ goT n T a d k := by
  by_cases e : k = (a + d) % n
  · subst e
    rcases h.move d with g | g | g
    · omega
    · omega
    · unfold goT; rw [g.1]; exact Nat.le_refl _
  · unfold goT
    rw [← Nat.add_assoc, h.turns, move_other _ _ e]
    exact Nat.le_refl _
theorem Calm.lesser (h : Calm n T a) (d k : Nat) : ∀ e, goT n T a (d + e) k ≤ goT n T a d k
  | 0 => Nat.le_refl _
  | e + 1 => by
    have := h.lesser d k e
    have := h.less (d + e) k
    rw [← Nat.add_assoc]
    omega

def sumGo (n : Nat) (T : Nat → GS) (a d : Nat) : Nat := sumN (goT n T a d) n
theorem sumN_eq {g h : Nat → Nat} : ∀ {n : Nat}, (∀ j, j < n → g j ≤ h j) → sumN h n ≤ sumN g n → ∀ j, j < n → g j = h j
  | 0, _, _, j, hj => by omega
  | n + 1, e, hs, j, hj => by
    have h1 := sumN_le (n := n) (fun j hj => e j (by omega))
    have h2 := e n (by omega)
    simp only [sumN] at hs
    by_cases g : j = n
    · subst g; omega
    · exact sumN_eq (n := n) (fun j hj => e j (by omega)) (by omega) j (by omega)

/-- Somebody goes on within two rounds. -/
theorem Calm.goes (h : Calm n T a) (d : Nat) (hp : 0 < sumGo n T a d) : sumGo n T a (d + 2 * n) < sumGo n T a d := by
  have hn1 := h.n1
  have hn4 := h.n4
  by_cases hlt : sumGo n T a (d + 2 * n) < sumGo n T a d
  · exact hlt
  exfalso
  have heq : ∀ k, k < n → goT n T a (d + 2 * n) k = goT n T a d k := sumN_eq (g := goT n T a (d + 2 * n)) (h := goT n T a d) (fun k hk => h.lesser d k (2 * n)) (by unfold sumGo at hlt; omega)
  have hcon : ∀ k e, k < n → e ≤ 2 * n → goT n T a (d + e) k = goT n T a d k := fun k e hk he => by
    have h1 := h.lesser d k e
    have h2 := h.lesser (d + e) k (2 * n - e)
    rw [show d + e + (2 * n - e) = d + 2 * n by omega, heq k hk] at h2
    omega
  -- each that has a way to go waits at its turn
  have hwait : ∀ e, e < 2 * n → goT n T a (d + e) ((a + (d + e)) % n) = 0 ∨ waits n (T (a + (d + e))).l ((T (a + (d + e))).X ((a + (d + e)) % n)) := fun e he => by
    have hk : (a + (d + e)) % n < n := Nat.mod_lt _ (by omega)
    rcases h.move (d + e) with g | g | g
    · exact .inl g.1
    · have h1 := hcon _ e hk (by omega)
      have h2 := hcon _ (e + 1) hk (by omega)
      rw [← Nat.add_assoc] at h2
      omega
    · exact .inr g.2
  -- somebody has
  obtain ⟨k, hk, hg⟩ : ∃ k, k < n ∧ 0 < goT n T a d k := by
    by_cases g : ∃ k, k < n ∧ 0 < goT n T a d k
    · exact g
    · exfalso
      have : sumGo n T a d ≤ sumN (fun _ => 0) n := sumN_le (fun j hj => by
        have : ¬ 0 < goT n T a d j := fun q => g ⟨j, hj, q⟩
        omega)
      have hz : ∀ m, sumN (fun _ => 0) m = 0 := fun m => by induction m with
        | zero => rfl
        | succ m ih => simp [sumN, ih]
      rw [hz] at this
      omega
  obtain ⟨c, hc, hcm, hcf⟩ := turn_of hn1 hn4 (a + d) hk
  rw [Nat.add_assoc] at hcm
  have hw := hwait c (by omega)
  rw [hcm] at hw
  rcases hw with g | ⟨i, o, ha, hat, hr⟩
  · rw [hcon k c hk (by omega)] at g; omega
  -- who has the lock
  have hA := h.alls (d + c)
  have hs := hA.crew.shape k hk
  unfold ShapeW at hs
  rw [ha] at hs
  simp only at hs
  have hi : i < n := hs.2.2.1
  have hD := hA.crew.wells i hi
  have hL : (viewOf (cOf (QE n) i) (T (a + (d + c))).l).L = 1 := by
    rcases hD.lock with g | g
    · exact absurd g hr
    · exact g
  obtain ⟨p, hp1⟩ := hD.held hL
  have hh : ∃ b o', b < n ∧ ((T (a + (d + c))).X b).act = .op i o' ∧ hn o' = 1 := by
    cases p with
    | none =>
      simp only [partOf, ownOp] at hp1
      cases hx : ((T (a + (d + c))).X i).act with
      | none => rw [hx] at hp1; simp [hn, opDone] at hp1
      | offer q => rw [hx] at hp1; simp [hn, opDone] at hp1
      | op j2 o' =>
        rw [hx] at hp1
        simp only at hp1
        split at hp1
        · rename_i q
          exact ⟨i, o', hi, by rw [hx, q.1], hp1⟩
        · simp [hn, opDone] at hp1
    | some b =>
      simp only [partOf, thfOp] at hp1
      cases hx : ((T (a + (d + c))).X b).act with
      | none => rw [hx] at hp1; simp [hn, opDone] at hp1
      | offer q => rw [hx] at hp1; simp [hn, opDone] at hp1
      | op j2 o' =>
        rw [hx] at hp1
        simp only at hp1
        split at hp1
        · rename_i q
          have hb : b < n := by
            by_cases g : b < n
            · exact g
            · have := idle_time h.turns hn1 h.idle (d + c) b (by omega); rw [hx] at this; cases this
          exact ⟨b, o', hb, by rw [hx, q.1], hp1⟩
        · simp [hn, opDone] at hp1
  obtain ⟨b, o', hb, hx, hhn⟩ := hh
  obtain ⟨c2, hc2, hcm2, hcf2⟩ := turn_of hn1 hn4 (a + (d + c)) hb
  have hsame := same_before h.turns (a + (d + c)) b c2 hcf2
  rw [show a + (d + c) + c2 = a + (d + (c + c2)) by omega] at hsame hcm2
  have hw2 := hwait (c + c2) (by omega)
  rw [hcm2] at hw2
  have hsb := hA.crew.shape b hb
  unfold ShapeW at hsb
  rw [hx] at hsb
  simp only at hsb
  rcases hw2 with g | ⟨i2, o2, ha2, hat2, _⟩
  · unfold goT at g
    rw [hsame] at g
    unfold goW at g
    rw [if_neg (by rw [hsb.1]; decide), hx] at g
    simp only at g
    have hpos : ∀ s, 1 ≤ posO s := fun s => by cases s <;> simp [posO]
    have hbas : ∀ s, 1 ≤ baseS s := fun s => by cases s <;> simp [baseS]
    have q1 := hpos o'.at_
    have q2 := hbas o'.at_
    split at g <;> omega
  · rw [hsame, hx] at ha2
    cases ha2
    rw [show hn o' = 0 by simp [hn, hat2, holdsAt]] at hhn
    cases hhn

theorem go_most {k : Nat} {τ : Nat → Int} {x : WkS} (hn4 : n ≤ 4) : goW n τ x ≤ 65 := by
  unfold goW
  have hpos : ∀ s, posO s ≤ 12 := fun s => by cases s <;> simp [posO]
  have hbas : ∀ s, baseS s ≤ 12 := fun s => by cases s <;> simp [baseS]
  split
  · omega
  · split
    · omega
    · split
      · omega
      · split <;> omega
    · rename_i i o _
      have q1 := hpos o.at_
      have q2 := hbas o.at_
      have q3 : staleS (τ i) o ≤ 20 := by unfold staleS; split <;> omega
      split <;> omega
theorem sumN_most {g : Nat → Nat} {c : Nat} (h : ∀ j, g j ≤ c) : ∀ n, sumN g n ≤ c * n
  | 0 => by simp [sumN]
  | n + 1 => by
    have := sumN_most h n
    have := h n
    show sumN g n + g n ≤ c * (n + 1)
    rw [Nat.mul_succ]
    omega
/-- All are in offers, and stay there. -/
theorem Calm.over (h : Calm n T a) : ∃ d, d ≤ 2080 ∧ ∀ e k, k < n → goT n T a (d + e) k = 0 := by
  have key : ∀ m d, sumGo n T a d ≤ m → ∃ d', d' ≤ d + 2 * n * m ∧ sumGo n T a d' = 0 := by
    intro m
    induction m with
    | zero => intro d hd; exact ⟨d, by omega, by omega⟩
    | succ m ih =>
      intro d hd
      by_cases g : sumGo n T a d = 0
      · exact ⟨d, by omega, g⟩
      · have := h.goes d (by omega)
        obtain ⟨d', h1, h2⟩ := ih (d + 2 * n) (by omega)
        refine ⟨d', ?_, h2⟩
        have : 2 * n * (m + 1) = 2 * n * m + 2 * n := Nat.mul_succ _ _
        omega
  have hn4 := h.n4
  have h0 : sumGo n T a 0 ≤ 65 * n := sumN_most (fun k => go_most (k := 0) hn4) n
  obtain ⟨d, h1, h2⟩ := key (65 * n) 0 h0
  refine ⟨d, ?_, fun e k hk => ?_⟩
  · have : 2 * n * (65 * n) ≤ 2 * 4 * (65 * 4) := Nat.mul_le_mul (by omega) (by omega)
    omega
  · have h3 := sumN_ge (g := goT n T a d) hk
    have h4 := h.lesser d k e
    unfold sumGo at h2
    omega
end
end Go.Proofs.Ytokabpgdklihlaa
