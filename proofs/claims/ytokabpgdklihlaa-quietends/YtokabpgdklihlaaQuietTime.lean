/-
  The crew of QuietEnds without memory, by turns: while something is left an event comes within 28 rounds ('ev_soon'); so all events are over at some time ('ev_over'). No Go is walked here.
-/
import Derived.Test.YtokabpgdklihlaaQuietBusy
namespace Go.Proofs.Ytokabpgdklihlaa
set_option linter.unusedVariables false

/-- Steps by turns. -/
def ByTurns (n : Nat) (T : Nat → GS) : Prop := ∀ t, T (t + 1) = stepG (QE n) n (T t) (t % n)
/-- No event from a to b. -/
def Quiet (n : Nat) (T : Nat → GS) (a b : Nat) : Prop := ∀ t, a ≤ t → t < b → ¬ EvW n (T t).l ((T t).X (t % n))

def turnsL (n t : Nat) : Nat → List Nat
  | 0 => []
  | j + 1 => turnsL n t j ++ [(t + j) % n]
theorem run_snoc (n : Nat) (S : GS) (L : List Nat) (k : Nat) : runL n S (L ++ [k]) = stepG (QE n) n (runL n S L) k := by simp [runL]
theorem noEv_snoc {n : Nat} : ∀ {L : List Nat} {S : GS} {k : Nat}, NoEv n S L → ¬ EvW n (runL n S L).l ((runL n S L).X k) → NoEv n S (L ++ [k])
  | [], _, _, _, h => ⟨h, trivial⟩
  | j :: L, S, k, h, g => ⟨h.1, noEv_snoc (L := L) h.2 g⟩
theorem run_time {n : Nat} {T : Nat → GS} (hT : ByTurns n T) (t : Nat) : ∀ j, runL n (T t) (turnsL n t j) = T (t + j)
  | 0 => rfl
  | j + 1 => by
    show runL n (T t) (turnsL n t j ++ [(t + j) % n]) = _
    rw [run_snoc, run_time hT t j, ← Nat.add_assoc, hT]
theorem noEv_time {n : Nat} {T : Nat → GS} (hT : ByTurns n T) {t b : Nat} : ∀ {j : Nat}, Quiet n T t b → t + j ≤ b → NoEv n (T t) (turnsL n t j)
  | 0, _, _ => trivial
  | j + 1, h, hb => by
    refine noEv_snoc (noEv_time hT h (by omega)) ?_
    rw [run_time hT]
    exact h (t + j) (by omega) (by omega)

theorem turnsL_mod (n t : Nat) : ∀ j, turnsL n t j = turnsL n (t % n) j
  | 0 => rfl
  | j + 1 => by
    show turnsL n t j ++ [(t + j) % n] = turnsL n (t % n) j ++ [(t % n + j) % n]
    rw [turnsL_mod n t j, Nat.mod_add_mod]
/-- All others, each once. -/
theorem others {n W t : Nat} (hn : 2 ≤ n) (hn4 : n ≤ 4) (hW : t % n = W) : (turnsL n (t + 1) (n - 1)).Nodup ∧ ∀ k, k ∈ turnsL n (t + 1) (n - 1) ↔ k < n ∧ k ≠ W := by
  rw [turnsL_mod, ← Nat.mod_add_mod, hW]
  have hWn : W < n := by rw [← hW]; exact Nat.mod_lt _ (by omega)
  have h4 : n = 2 ∨ n = 3 ∨ n = 4 := by omega
  have hW4 : W = 0 ∨ W = 1 ∨ W = 2 ∨ W = 3 := by omega
  rcases h4 with rfl | rfl | rfl <;> rcases hW4 with rfl | rfl | rfl | rfl <;> first | omega | (refine ⟨by decide, fun k => ?_⟩; simp [turnsL]; omega)

section
variable {n : Nat} {T : Nat → GS} {a b : Nat}
theorem all_time (hT : ByTurns n T) (hn : 1 ≤ n) (h : AllG n (T a)) : ∀ d, AllG n (T (a + d))
  | 0 => h
  | d + 1 => by rw [← Nat.add_assoc, hT]; exact (all_time hT hn h d).step (Nat.mod_lt _ (by omega))
theorem idle_time (hT : ByTurns n T) (hn : 1 ≤ n) (h : Idle n (T a)) : ∀ d, Idle n (T (a + d))
  | 0 => h
  | d + 1 => by rw [← Nat.add_assoc, hT]; exact (idle_time hT hn h d).step (Nat.mod_lt _ (by omega))

/-- A worker is as it was till its next turn. -/
theorem same_till (hT : ByTurns n T) (hn : 1 ≤ n) (hn4 : n ≤ 4) {t W : Nat} (hW : t % n = W) : ∀ d, d ≤ n - 1 → (T (t + 1 + d)).X W = (T (t + 1)).X W
  | 0, _ => rfl
  | d + 1, hd => by
    rw [← Nat.add_assoc, hT, move_other, same_till hT hn hn4 hW d (by omega)]
    have e : (t + 1 + d) % n = (W + (1 + d)) % n := by rw [← hW, Nat.mod_add_mod, Nat.add_assoc]
    have hWn : W < n := by rw [← hW]; exact Nat.mod_lt _ (by omega)
    rw [e]
    by_cases g : W + (1 + d) < n
    · rw [Nat.mod_eq_of_lt g]; omega
    · rw [Nat.mod_eq_sub_mod (by omega), Nat.mod_eq_of_lt (by omega)]; omega

theorem hands_time (hT : ByTurns n T) (hn : 1 ≤ n) (h : AllG n (T a)) (hq : Quiet n T a b) (i : Nat) : ∀ d, a + d ≤ b → ((T (a + d)).X i).hands = ((T a).X i).hands
  | 0, _ => rfl
  | d + 1, hd => by
    have hk : (a + d) % n < n := Nat.mod_lt _ (by omega)
    have hA := all_time hT hn h d
    rw [← Nat.add_assoc, hT]
    by_cases e : i = (a + d) % n
    · subst e
      rw [move_eq, ((ev_move hA.crew hk (hA.push hk)).1 (hq _ (by omega) (by omega))).1]
      exact hands_time hT hn h hq _ d (by omega)
    · rw [move_other _ _ e]
      exact hands_time hT hn h hq i d (by omega)
theorem hasD_time (hT : ByTurns n T) (hn : 1 ≤ n) (hn4 : n ≤ 4) (h : AllG n (T a)) (hq : Quiet n T a b) {j : Nat} (hj : j < n) (f : Int → Int) : ∀ d, a + d + n ≤ b → hasD f n (T (a + d)).l (T (a + d)).X j = hasD f n (T a).l (T a).X j
  | 0, _ => rfl
  | d + 1, hd => by
    have hk : (a + d) % n < n := Nat.mod_lt _ (by omega)
    have hA := all_time hT hn h d
    have hA' := all_time hT hn h (d + n)
    rw [← Nat.add_assoc, hT, hasD_step hA.crew hk (hA.push hk) f (hq _ (by omega) (by omega)) ?_ j hj]
    · exact hasD_time hT hn hn4 h hq hj f d (by omega)
    · intro g
      have e1 : (T (a + (d + n))).X ((a + d) % n) = moveW n ((a + d) % n) (T (a + d)).l ((T (a + d)).X ((a + d) % n)) := by
        rw [← move_eq, ← hT, ← same_till hT hn hn4 rfl (n - 1) (Nat.le_refl _)]
        congr 2
        omega
      rw [← e1] at g
      have := hq (a + (d + n)) (by omega) (by omega)
      rw [show (a + (d + n)) % n = (a + d) % n by rw [← Nat.add_assoc, Nat.add_mod_right]] at this
      exact this (onWay_ev (hA'.crew.shape _ hk) g)
theorem busy_time (hT : ByTurns n T) (hn : 1 ≤ n) (hn4 : n ≤ 4) (h : AllG n (T a)) (hq : Quiet n T a b) {W : Nat} (hW : W < n) (hb : Busy n (T a) W) (d : Nat) (hd : a + d + n ≤ b) : Busy n (T (a + d)) W := by
  unfold Busy at *
  rw [hands_time hT hn h hq W d (by omega), hasD_time hT hn hn4 h hq hW oneF d hd]
  exact hb

theorem pos_one {S : GS} (h : AllG n S) {W : Nat} (hW : W < n) (hb : Busy n S W) : 1 ≤ posW (S.X W) := by
  obtain ⟨_, g | ⟨o, g, _⟩⟩ := busy_act h hW hb
  · simp [posW, g]
  · simp only [posW, g]
    cases o.at_ <;> simp [posO]
theorem lock_five {x : WkS} (h : atLock x) : posW x = 5 := by
  obtain ⟨i, o, g, e⟩ := h
  simp only [posW, g]
  rcases e with e | e <;> rw [e] <;> rfl
theorem sumN_ge {g : Nat → Nat} : ∀ {n k : Nat}, k < n → g k ≤ sumN g n
  | 0, _, hk => by omega
  | n + 1, k, hk => by
    show g k ≤ sumN g n + g n
    by_cases e : k = n
    · subst e; omega
    · have := sumN_ge (g := g) (n := n) (k := k) (by omega); omega
theorem held_c {k W m : Nat} {x : WkS} (hs : ShapeW n k x) (h : hasL W x = true) : 1 ≤ cW n W m x := by
  unfold hasL at h
  unfold ShapeW at hs
  unfold cW
  cases ha : x.act with
  | none => rw [ha] at h; cases h
  | offer o => rw [ha] at h; cases h
  | op i o =>
    rw [ha] at h hs
    simp only [Bool.and_eq_true, decide_eq_true_eq] at h
    simp only at hs ⊢
    rw [if_pos ⟨h.1.1, h.1.2, h.2, hs.1⟩]
    exact h.2
theorem sumC_congr {W m : Nat} {X Y : Nat → WkS} (h : ∀ i, i < n → i ≠ W → X i = Y i) : sumC n W m X = sumC n W m Y := by
  unfold sumC
  have key : ∀ k, k ≤ n → sumN (fun i => if i = W then 0 else cW n W m (X i)) k = sumN (fun i => if i = W then 0 else cW n W m (Y i)) k := by
    intro k
    induction k with
    | zero => intro _; rfl
    | succ k ih =>
      intro hk
      simp only [sumN]
      rw [ih (by omega)]
      by_cases e : k = W
      · simp [e]
      · simp only [e, if_false]
        rw [h k (by omega) e]
  exact key n (Nat.le_refl _)

/-- Who has something is through before long. -/
theorem no_wait (hT : ByTurns n T) (hn : 1 ≤ n) (hn4 : n ≤ 4) (hA : AllG n (T a)) (hI : Idle n (T a)) (hq : Quiet n T a b) {W : Nat} (hW : W < n) (hb : Busy n (T a) W) :
    ∀ q d m, (a + d) % n = W → a + d + n * q < b → m ≤ 15 → 1 ≤ posW ((T (a + d)).X W) → posW ((T (a + d)).X W) + m ≤ q → (5 < posW ((T (a + d)).X W) → m = 15) → (atLock ((T (a + d)).X W) → sumC n W m (T (a + d)).X ≤ m) → False := by
  intro q
  induction q with
  | zero =>
    intro d m hm hB hm15 h1p hp _ _
    omega
  | succ q ih =>
    intro d m hmod hB hm15 h1p hp h5 hl
    have hnq : n * (q + 1) = n * q + n := Nat.mul_succ n q
    have h1 := all_time hT hn hA d
    have hI1 := idle_time hT hn hI d
    have b1 := busy_time hT hn hn4 hA hq hW hb d (by omega)
    have b2 := busy_time hT hn hn4 hA hq hW hb (d + 1) (by omega)
    have hev := hq (a + d) (by omega) (by omega)
    rw [hmod] at hev
    have hst := hT (a + d)
    rw [hmod] at hst
    have hX : (T (a + (d + n))).X W = (T (a + d + 1)).X W := by
      have := same_till hT hn hn4 hmod (n - 1) (Nat.le_refl _)
      rw [← this]
      congr 2
      omega
    have hmod' : (a + (d + n)) % n = W := by rw [← Nat.add_assoc, Nat.add_mod_right]; exact hmod
    have hB' : a + (d + n) + n * q < b := by omega
    rw [show a + (d + 1) = a + d + 1 by omega, hst] at b2
    have hp1 : 1 ≤ posW ((T (a + (d + n))).X W) := by
      rw [hX, hst]
      exact pos_one (h1.step hW) hW b2
    rcases busy_move h1 hW b1 b2 hev with g | ⟨g1, g2, g3⟩
    · rw [← hst] at g
      refine ih (d + n) m hmod' hB' hm15 hp1 (by rw [hX]; omega) (fun e => h5 (by rw [hX] at e; omega)) (fun e => ?_)
      have e5 := lock_five e
      rw [hX] at e5
      have hm : m = 15 := h5 (by omega)
      subst hm
      exact sumC_15 hn4 hW _
    · obtain ⟨i, hi, hiW, hL⟩ := lock_held h1 hI1 hW b1 g2 g3
      have hn2 : 2 ≤ n := by omega
      rw [← hst] at g1
      have hs := hl g2
      have e5 := lock_five g2
      have hXo : ∀ i, i ≠ W → (T (a + d + 1)).X i = (T (a + d)).X i := fun i hi => by rw [hst]; exact move_other _ _ hi
      have h1' := all_time hT hn hA (d + 1)
      rw [show a + (d + 1) = a + d + 1 by omega] at h1'
      obtain ⟨o1, o2⟩ := others hn2 hn4 hmod
      have hm1 : 1 ≤ m := by
        have := sumN_ge (g := fun i => if i = W then 0 else cW n W m ((T (a + d)).X i)) hi
        simp only [hiW, if_false] at this
        have := held_c (m := m) (h1.crew.shape i hi) hL
        unfold sumC at hs
        omega
      obtain ⟨m', rfl⟩ : ∃ m', m = m' + 1 := ⟨m - 1, by omega⟩
      have hr := sumC_round (m := m') hn2 hn4 hW (by omega) h1' o1 o2 (noEv_time hT (fun t h1 h2 => hq t (by omega) h2) (by omega)) ⟨i, hi, hiW, by rw [hXo i hiW]; exact hL⟩
      rw [run_time hT, sumC_congr (X := (T (a + d + 1)).X) (Y := (T (a + d)).X) (fun i _ hi => hXo i hi)] at hr
      rw [show a + d + 1 + (n - 1) = a + (d + n) by omega] at hr
      refine ih (d + n) m' hmod' hB' (by omega) hp1 (by rw [hX, g1]; omega) (fun e => by rw [hX, g1] at e; omega) (fun _ => by omega)

theorem sumTo_const (g : Nat → Int) (c : Int) : ∀ n, (∀ j, g j = c) → sumTo g n = c * n
  | 0, _ => by simp [sumTo]
  | n + 1, h => by
    show sumTo g n + g n = _
    rw [sumTo_const g c n h, h n]
    simp [Int.mul_add]
theorem hasD_zero {S : GS} {j : Nat} (h : hasD oneF n S.l S.X j ≤ 0) (f : Int → Int) : hasD f n S.l S.X j = 0 := by
  have c1 : ∀ (g : Nat → Int) (k : Nat), sumTo (fun j => oneF (g j)) k = (k : Int) := fun g k => (sumTo_const (fun j => oneF (g j)) 1 k (fun _ => rfl)).trans (by omega)
  unfold hasD worth ringW stackW at *
  rw [c1, c1] at h
  generalize (bot (viewOf (cOf (QE n) j) S.l) (partOf S.X j none) - (viewOf (cOf (QE n) j) S.l).T).toNat = u at *
  generalize (viewOf (cOf (QE n) j) S.l).N.toNat = v at *
  obtain rfl : u = 0 := by omega
  obtain rfl : v = 0 := by omega
  simp [sumTo]
/-- Nobody has anything: no event is to come. -/
theorem ev_none {S : GS} (h : AllG n S) (hw : ∀ k, k < n → ¬ onWay (S.X k)) (hb : ∀ W, W < n → ¬ Busy n S W) : evE n S = 0 := by
  have hh : ∀ k, k < n → (S.X k).hands = [] := fun k hk => by
    by_cases g : (S.X k).hands = []
    · exact g
    · exact absurd (.inl g) (hb k hk)
  have hD : ∀ f j, j < n → hasD f n S.l S.X j = 0 := fun f j hj => hasD_zero (by
    have : ¬ 0 < hasD oneF n S.l S.X j := fun g => hb j hj (.inr g)
    omega) f
  have hWy : ∀ f k, k < n → hasW f (S.X k) = 0 := fun f k hk => by
    have hs := h.crew.shape k hk
    unfold hasW wayW
    rw [hh k hk]
    unfold ShapeW at hs
    cases ha : (S.X k).act with
    | none => simp [sumL]
    | offer o => simp [sumL]
    | op i o =>
      rw [ha] at hs
      simp only at hs ⊢
      rw [way_none ha hs.2.1 hs.2.2.2.2.1 (hw k hk) f]
      simp [sumL]
  have ht : ∀ f, totF f n S.l S.X = 0 := fun f => by
    unfold totF
    rw [sumTo_zero (fun j hj => hWy f j hj), sumTo_zero (fun j hj => hD f j hj)]
    rfl
  unfold evE lenH
  rw [ht, sumTo_zero (fun j hj => by rw [hh j hj]; rfl)]
  rfl

/-- While something is left an event comes within 28 rounds. -/
theorem ev_soon (hT : ByTurns n T) (hn : 1 ≤ n) (hn4 : n ≤ 4) (hA : AllG n (T a)) (hI : Idle n (T a)) (he : evE n (T a) ≠ 0) : ¬ Quiet n T a (a + 28 * n) := by
  intro hq
  have hturn : ∀ W, W < n → ∃ d, d < n ∧ (a + d) % n = W := fun W hW => by
    refine ⟨(W + (n - a % n)) % n, Nat.mod_lt _ (by omega), ?_⟩
    have h4 : n = 1 ∨ n = 2 ∨ n = 3 ∨ n = 4 := by omega
    rcases h4 with rfl | rfl | rfl | rfl <;> omega
  have hbefore : ∀ W e, (∀ c, c < e → (a + c) % n ≠ W) → (T (a + e)).X W = (T a).X W := fun W e => by
    induction e with
    | zero => intro _; rfl
    | succ e ih =>
      intro h
      rw [← Nat.add_assoc, hT, move_other _ _ (fun g => h e (by omega) g.symm), ih (fun c hc => h c (by omega))]
  have hfirst : ∀ W d, (a + d) % n = W → d < n → (T (a + d)).X W = (T a).X W := fun W d h1 h2 => by
    refine hbefore W d (fun c hc g => ?_)
    have h4 : n = 1 ∨ n = 2 ∨ n = 3 ∨ n = 4 := by omega
    rcases h4 with rfl | rfl | rfl | rfl <;> omega
  have hnw : ∀ k, k < n → ¬ onWay ((T a).X k) := fun k hk g => by
    obtain ⟨d, hd, hm⟩ := hturn k hk
    have h1 := hq (a + d) (by omega) (by omega)
    rw [hm, hfirst k d hm hd] at h1
    exact h1 (onWay_ev (hA.crew.shape k hk) g)
  by_cases hb : ∃ W, W < n ∧ Busy n (T a) W
  · obtain ⟨W, hW, hb⟩ := hb
    obtain ⟨d, hd, hm⟩ := hturn W hW
    have b1 := busy_time hT hn hn4 hA hq hW hb d (by omega)
    have hA1 := all_time hT hn hA d
    have h12 : posW ((T (a + d)).X W) ≤ 12 := by
      obtain ⟨_, g | ⟨o, g, _⟩⟩ := busy_act hA1 hW b1
      · simp [posW, g]
      · simp only [posW, g]
        cases o.at_ <;> simp [posO]
    exact no_wait hT hn hn4 hA hI hq hW hb 27 d 15 hm (by omega) (by omega) (pos_one hA1 hW b1) (by omega) (fun _ => rfl) (fun _ => sumC_15 hn4 hW _)
  · exact he (ev_none hA hnw (fun W hW g => hb ⟨W, hW, g⟩))

/-- All events are over at some time. -/
theorem ev_over (hT : ByTurns n T) (hn : 1 ≤ n) (hn4 : n ≤ 4) : ∀ (e : Nat) (a : Nat), AllG n (T a) → Idle n (T a) → evE n (T a) = e → ∃ t, a ≤ t ∧ t ≤ a + 28 * n * e ∧ evE n (T t) = 0
  | 0, a, _, _, h => ⟨a, Nat.le_refl _, by omega, h⟩
  | e + 1, a, hA, hI, h => by
    have hs := ev_soon hT hn hn4 hA hI (by omega)
    -- the first event
    have hex : ∃ d, d < 28 * n ∧ EvW n (T (a + d)).l ((T (a + d)).X ((a + d) % n)) ∧ evE n (T (a + d)) = evE n (T a) := by
      have key : ∀ d, (∃ c, c < d ∧ EvW n (T (a + c)).l ((T (a + c)).X ((a + c) % n)) ∧ evE n (T (a + c)) = evE n (T a)) ∨ (Quiet n T a (a + d) ∧ evE n (T (a + d)) = evE n (T a)) := by
        intro d
        induction d with
        | zero => exact .inr ⟨fun t h1 h2 => by omega, rfl⟩
        | succ d ih =>
          rcases ih with ⟨c, h1, h2⟩ | ⟨h1, h2⟩
          · exact .inl ⟨c, by omega, h2⟩
          · by_cases g : EvW n (T (a + d)).l ((T (a + d)).X ((a + d) % n))
            · exact .inl ⟨d, by omega, g, h2⟩
            · refine .inr ⟨fun t h3 h4 => ?_, ?_⟩
              · by_cases e : t = a + d
                · subst e; exact g
                · exact h1 t h3 (by omega)
              · have hk : (a + d) % n < n := Nat.mod_lt _ (by omega)
                have hA1 := all_time hT hn hA d
                rw [← Nat.add_assoc, hT, (evE_step hA1.crew hk (hA1.push hk)).2 g]
                exact h2
      rcases key (28 * n) with g | g
      · exact g
      · exact absurd g.1 hs
    obtain ⟨d, hd, g, h2⟩ := hex
    have hk : (a + d) % n < n := Nat.mod_lt _ (by omega)
    have hA1 := all_time hT hn hA d
    have hE : evE n (T (a + d + 1)) = e := by
      rw [hT, (evE_step hA1.crew hk (hA1.push hk)).1 g, h2, h]
      omega
    have hA2 := all_time hT hn hA (d + 1)
    have hI2 := idle_time hT hn hI (d + 1)
    obtain ⟨t, t1, t2, t3⟩ := ev_over hT hn hn4 e (a + d + 1) hA2 hI2 hE
    refine ⟨t, by omega, ?_, t3⟩
    have : 28 * n * (e + 1) = 28 * n * e + 28 * n := Nat.mul_succ _ _
    omega
end
end Go.Proofs.Ytokabpgdklihlaa
