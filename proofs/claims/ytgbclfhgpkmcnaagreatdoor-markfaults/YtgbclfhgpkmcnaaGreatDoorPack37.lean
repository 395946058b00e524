/-
  Texts of the proof, several in one: MarkOff, MarkFin, MarkStart, MarkEff, MarkTrue, MarkEnd, MarkAwakeP, MarkRootB, MarkRootC.
-/
import Derived.Test.YtgbclfhgpkmcnaaGreatDoorPack36
import Derived.Test.YtgbclfhgpkmcnaaGreatDoorPack33
import Derived.Test.YtgbclfhgpkmcnaaGreatDoorPack14
/-
  The marker without memory, by turns, once nobody has anything: all come to offers from which they don't come back ('CalmT.over'), and all end ('CalmT.ends'). No Go is walked here.
-/
namespace Go.Proofs.YtgbclfhgpkmcnaaGreatDoor
set_option linter.unusedVariables false
set_option linter.unusedSimpArgs false

theorem sumN_eq {g h : Nat → Nat} : ∀ {n : Nat}, (∀ j, j < n → g j ≤ h j) → sumN h n ≤ sumN g n → ∀ j, j < n → g j = h j
  | 0, _, _, j, hj => by omega
  | n + 1, e, hs, j, hj => by
    have h1 := sumN_le (n := n) (fun j hj => e j (by omega))
    have h2 := e n (by omega)
    simp only [sumN] at hs
    by_cases g : j = n
    · subst g; omega
    · exact sumN_eq (n := n) (fun j hj => e j (by omega)) (by omega) j (by omega)
theorem sumN_most {g : Nat → Nat} {c : Nat} (h : ∀ j, g j ≤ c) : ∀ n, sumN g n ≤ c * n
  | 0 => by simp [sumN]
  | n + 1 => by
    have := sumN_most h n
    have := h n
    show sumN g n + g n ≤ c * (n + 1)
    rw [Nat.mul_succ]
    omega
section
variable {P : MP} {T : Nat → MS} {a : Nat}
theorem same_beforeM (hT : ByTurnsM P T) (s W : Nat) : ∀ e, (∀ c, c < e → (s + c) % P.n ≠ W) → (T (s + e)).X W = (T s).X W
  | 0, _ => rfl
  | e + 1, h => by
    rw [← Nat.add_assoc, hT, step_other _ _ (fun g => h e (by omega) g.symm), same_beforeM hT s W e (fun c hc => h c (by omega))]
theorem turn_first {n : Nat} (hn : 1 ≤ n) (hn4 : n ≤ 4) (s : Nat) {W : Nat} (hW : W < n) : ∃ d, d < n ∧ (s + d) % n = W ∧ ∀ c, c < d → (s + c) % n ≠ W := by
  refine ⟨(W + (n - s % n)) % n, Nat.mod_lt _ (by omega), ?_, fun c hc g => ?_⟩
  · have h4 : n = 1 ∨ n = 2 ∨ n = 3 ∨ n = 4 := by omega
    rcases h4 with rfl | rfl | rfl | rfl <;> omega
  · have h4 : n = 1 ∨ n = 2 ∨ n = 3 ∨ n = 4 := by omega
    rcases h4 with rfl | rfl | rfl | rfl <;> omega

/-- From some time on nobody has anything. -/
structure CalmT (P : MP) (T : Nat → MS) (a : Nat) : Prop where
  turns : ByTurnsM P T
  n1 : 1 ≤ P.n
  n4 : P.n ≤ 4
  all : AllM P (T a)
  idle : IdleM P (T a)
  zero : CalmS P (T a)
theorem CalmT.alls (h : CalmT P T a) (d : Nat) : AllM P (T (a + d)) := all_timeM h.turns h.n1 h.all d
theorem CalmT.calm (h : CalmT P T a) : ∀ d, CalmS P (T (a + d))
  | 0 => h.zero
  | d + 1 => by
    have hk : (a + d) % P.n < P.n := Nat.mod_lt _ (by have := h.n1; omega)
    rw [← Nat.add_assoc, h.turns]
    exact (calm_step (h.alls d) (h.calm d) hk).2
def topsM (P : MP) (S : MS) (j : Nat) : Int := rd (P.cfg j) S.l 0
theorem CalmT.tops (h : CalmT P T a) {j : Nat} (hj : j < P.n) : ∀ d, rd (P.cfg j) (T (a + d)).l 0 = topsM P (T a) j
  | 0 => rfl
  | d + 1 => by
    have hk : (a + d) % P.n < P.n := Nat.mod_lt _ (by have := h.n1; omega)
    rw [← Nat.add_assoc, h.turns, top_stepM (h.alls d) (h.calm d) hk hj]
    exact h.tops hj d

abbrev goTM (P : MP) (T : Nat → MS) (a d k : Nat) : Nat := goM P.n k (topsM P (T a)) ((T (a + d)).X k)
theorem CalmT.move (h : CalmT P T a) (d : Nat) : (goTM P T a d ((a + d) % P.n) = 0 ∧ goTM P T a (d + 1) ((a + d) % P.n) = 0) ∨ goTM P T a (d + 1) ((a + d) % P.n) < goTM P T a d ((a + d) % P.n) ∨ ((T (a + (d + 1))).X ((a + d) % P.n) = (T (a + d)).X ((a + d) % P.n) ∧ waitsM P ((a + d) % P.n) (T (a + d)).l ((T (a + d)).X ((a + d) % P.n))) := by
  have hk : (a + d) % P.n < P.n := Nat.mod_lt _ (by have := h.n1; omega)
  have := go_moveM (h.alls d) (h.calm d) hk (topsM P (T a)) (fun j hj => h.tops hj d)
  unfold goTM
  rw [← Nat.add_assoc, h.turns]
  exact this
theorem CalmT.less (h : CalmT P T a) (d k : Nat) : goTM P T a (d + 1) k ≤ goTM P T a d k := by
  by_cases e : k = (a + d) % P.n
  · subst e
    rcases h.move d with g | g | g
    · omega
    · omega
    · unfold goTM; rw [g.1]; exact Nat.le_refl _
  · unfold goTM
    rw [← Nat.add_assoc, h.turns, step_other _ _ e]
    exact Nat.le_refl _
theorem CalmT.lesser (h : CalmT P T a) (d k : Nat) : ∀ e, goTM P T a (d + e) k ≤ goTM P T a d k
  | 0 => Nat.le_refl _
  | e + 1 => by
    have := h.lesser d k e
    have := h.less (d + e) k
    rw [← Nat.add_assoc]
    omega
def sumGoM (P : MP) (T : Nat → MS) (a d : Nat) : Nat := sumN (goTM P T a d) P.n
theorem posO_pos (s : Stp) : 1 ≤ posO s ∧ posO s ≤ 12 := by cases s <;> simp [posO]
theorem baseS_pos (s : Stp) : 1 ≤ baseS s ∧ baseS s ≤ 12 := by cases s <;> simp [baseS]

/-- Who has a deque's lock. -/
theorem holder_of {S : MS} (h : AllM P S) (hI : IdleM P S) (hc : CalmS P S) {i : Nat} (hi : i < P.n) (hr : rd (P.cfg i) S.l 2 ≠ 0) : ∃ b a o', b < P.n ∧ (S.X b).act = .take a o' ∧ hn o' = 1 := by
  have hD := h.v.wells i hi
  have hL : (viewOf (P.cfg i) S.l).L = 1 := by
    rcases hD.lock with g | g
    · exact absurd g hr
    · exact g
  obtain ⟨p, hp1⟩ := hD.held hL
  have key : ∀ b o', hn o' = 1 → (yM P S.X b = .pop o' ∨ (∃ j, yM P S.X b = .steal j o')) → ∃ b a o', b < P.n ∧ (S.X b).act = .take a o' ∧ hn o' = 1 := fun b o' h1 h2 => by
    have hb : b < P.n := by
      by_cases g : b < P.n
      · exact g
      · have := hI b (by omega)
        unfold yM vaM at h2
        rw [this] at h2
        rcases h2 with g | ⟨j, g⟩ <;> cases g
    unfold yM vaM at h2
    cases hx : (S.X b).act with
    | take a o2 =>
      rw [hx] at h2
      simp only at h2
      by_cases h0 : a = 0
      · simp only [h0, if_true] at h2
        rcases h2 with g | ⟨j, g⟩
        · injection g with g; exact ⟨b, a, o2, hb, hx, by rw [g]; exact h1⟩
        · cases g
      · simp only [h0, if_false] at h2
        rcases h2 with g | ⟨j, g⟩
        · cases g
        · injection g with _ g; exact ⟨b, a, o2, hb, hx, by rw [g]; exact h1⟩
    | choose => rw [hx] at h2; rcases h2 with g | ⟨j, g⟩ <;> cases g
    | mark c => rw [hx] at h2; rcases h2 with g | ⟨j, g⟩ <;> cases g
    | push c o2 => rw [hx] at h2; rcases h2 with g | ⟨j, g⟩ <;> cases g
    | open_ v => rw [hx] at h2; rcases h2 with g | ⟨j, g⟩ <;> cases g
    | end_ o2 => rw [hx] at h2; rcases h2 with g | ⟨j, g⟩ <;> cases g
  cases p with
  | none =>
    simp only [partY] at hp1
    cases hx : yM P S.X i with
    | loc => rw [hx] at hp1; simp [ownV, hn, opDone] at hp1
    | offer q => rw [hx] at hp1; simp [ownV, hn, opDone] at hp1
    | steal j q => rw [hx] at hp1; simp [ownV, hn, opDone] at hp1
    | pop q => rw [hx] at hp1; exact key i q hp1 (.inl hx)
    | push q =>
      exfalso
      have := (nothing_of (hc.some i hi)).2
      unfold yM vaM at hx
      rcases this with g | ⟨a, o, g⟩ | ⟨o, g⟩
      · rw [g] at hx; cases hx
      · rw [g] at hx; simp only at hx; split at hx <;> cases hx
      · rw [g] at hx; cases hx
  | some b =>
    simp only [partY] at hp1
    cases hx : yM P S.X b with
    | loc => rw [hx] at hp1; simp [thfV, hn, opDone] at hp1
    | offer q => rw [hx] at hp1; simp [thfV, hn, opDone] at hp1
    | push q => rw [hx] at hp1; simp [thfV, hn, opDone] at hp1
    | pop q => rw [hx] at hp1; simp [thfV, hn, opDone] at hp1
    | steal j q =>
      rw [hx] at hp1
      simp only [thfV] at hp1
      by_cases e : j = i
      · rw [if_pos e] at hp1; exact key b q hp1 (.inr ⟨j, hx⟩)
      · rw [if_neg e] at hp1; simp [hn, opDone] at hp1
/-- Somebody goes on within two rounds. -/
theorem CalmT.goes (h : CalmT P T a) (d : Nat) (hp : 0 < sumGoM P T a d) : sumGoM P T a (d + 2 * P.n) < sumGoM P T a d := by
  have hn1 := h.n1
  have hn4 := h.n4
  by_cases hlt : sumGoM P T a (d + 2 * P.n) < sumGoM P T a d
  · exact hlt
  exfalso
  have heq : ∀ k, k < P.n → goTM P T a (d + 2 * P.n) k = goTM P T a d k := sumN_eq (g := goTM P T a (d + 2 * P.n)) (h := goTM P T a d) (fun k hk => h.lesser d k (2 * P.n)) (by unfold sumGoM at hlt; omega)
  have hcon : ∀ k e, k < P.n → e ≤ 2 * P.n → goTM P T a (d + e) k = goTM P T a d k := fun k e hk he => by
    have h1 := h.lesser d k e
    have h2 := h.lesser (d + e) k (2 * P.n - e)
    rw [show d + e + (2 * P.n - e) = d + 2 * P.n by omega, heq k hk] at h2
    omega
  have hwait : ∀ e, e < 2 * P.n → goTM P T a (d + e) ((a + (d + e)) % P.n) = 0 ∨ waitsM P ((a + (d + e)) % P.n) (T (a + (d + e))).l ((T (a + (d + e))).X ((a + (d + e)) % P.n)) := fun e he => by
    have hk : (a + (d + e)) % P.n < P.n := Nat.mod_lt _ (by omega)
    rcases h.move (d + e) with g | g | g
    · exact .inl g.1
    · have h1 := hcon _ e hk (by omega)
      have h2 := hcon _ (e + 1) hk (by omega)
      rw [← Nat.add_assoc] at h2
      omega
    · exact .inr g.2
  obtain ⟨k, hk, hg⟩ : ∃ k, k < P.n ∧ 0 < goTM P T a d k := by
    by_cases g : ∃ k, k < P.n ∧ 0 < goTM P T a d k
    · exact g
    · exfalso
      have : sumGoM P T a d ≤ sumN (fun _ => 0) P.n := sumN_le (fun j hj => by
        have : ¬ 0 < goTM P T a d j := fun q => g ⟨j, hj, q⟩
        omega)
      have hz : ∀ m, sumN (fun _ => 0) m = 0 := fun m => by induction m with
        | zero => rfl
        | succ m ih => simp [sumN, ih]
      rw [hz] at this
      omega
  obtain ⟨c, hc, hcm, hcf⟩ := turn_first hn1 hn4 (a + d) hk
  rw [Nat.add_assoc] at hcm
  have hw := hwait c (by omega)
  rw [hcm] at hw
  rcases hw with g | ⟨i, o, ha, hat, hr⟩
  · rw [hcon k c hk (by omega)] at g; omega
  have hA := h.alls (d + c)
  obtain ⟨b, a2, o', hb, hx, hhn⟩ := holder_of hA (idle_timeM h.turns hn1 h.idle (d + c)) (h.calm (d + c)) (Nat.mod_lt (k + i) (show P.n > 0 by omega)) hr
  obtain ⟨c2, hc2, hcm2, hcf2⟩ := turn_first hn1 hn4 (a + (d + c)) hb
  have hsame := same_beforeM h.turns (a + (d + c)) b c2 hcf2
  rw [show a + (d + c) + c2 = a + (d + (c + c2)) by omega] at hsame hcm2
  have hw2 := hwait (c + c2) (by omega)
  rw [hcm2] at hw2
  rcases hw2 with g | ⟨i2, o2, ha2, hat2, _⟩
  · unfold goTM at g
    rw [hsame] at g
    unfold goM at g
    rw [if_neg (by rw [not_ended hA hb (by rw [hx]; intro o g; cases g)]; decide), hx] at g
    simp only at g
    have q1 := posO_pos o'.at_
    have q2 := baseS_pos o'.at_
    split at g <;> omega
  · rw [hsame, hx] at ha2
    cases ha2
    rw [show hn o' = 0 by simp [hn, hat2, holdsAt]] at hhn
    cases hhn
theorem go_most {k : Nat} {τ : Nat → Int} {n : Nat} {x : MW} : goM n k τ x ≤ 32 + 11 * n := by
  unfold goM
  split
  · omega
  · split
    · split
      · omega
      · split <;> omega
    · rename_i a o _
      have q1 := posO_pos o.at_
      have q2 := baseS_pos o.at_
      have q3 : staleS (τ ((k + a) % n)) o ≤ 20 := by unfold staleS; split <;> omega
      split <;> omega
    · omega
/-- All are in offers, and stay there. -/
theorem CalmT.over (h : CalmT P T a) : ∃ d, d ≤ 2 * P.n * ((32 + 11 * P.n) * P.n) ∧ ∀ e k, k < P.n → goTM P T a (d + e) k = 0 := by
  have key : ∀ m d, sumGoM P T a d ≤ m → ∃ d', d' ≤ d + 2 * P.n * m ∧ sumGoM P T a d' = 0 := by
    intro m
    induction m with
    | zero => intro d hd; exact ⟨d, by omega, by omega⟩
    | succ m ih =>
      intro d hd
      by_cases g : sumGoM P T a d = 0
      · exact ⟨d, by omega, g⟩
      · have := h.goes d (by omega)
        obtain ⟨d', h1, h2⟩ := ih (d + 2 * P.n) (by omega)
        refine ⟨d', ?_, h2⟩
        have : 2 * P.n * (m + 1) = 2 * P.n * m + 2 * P.n := Nat.mul_succ _ _
        omega
  have h0 : sumGoM P T a 0 ≤ (32 + 11 * P.n) * P.n := sumN_most (fun k => go_most) P.n
  obtain ⟨d, h1, h2⟩ := key _ 0 h0
  refine ⟨d, by omega, fun e k hk => ?_⟩
  have h3 := sumN_ge (g := goTM P T a d) hk
  have h4 := h.lesser d k e
  unfold sumGoM at h2
  omega
end
end Go.Proofs.YtgbclfhgpkmcnaaGreatDoor

/-
  The marker without memory, by turns: all end ('CalmT.ends'; 'ends_soon'). No Go is walked here.
-/
namespace Go.Proofs.YtgbclfhgpkmcnaaGreatDoor
set_option linter.unusedVariables false
set_option linter.unusedSimpArgs false

def rQ (n : Nat) (o : OfS) : Nat :=
  match o.at_ with
  | .countIn => 20
  | .readCount => 1
  | .readTop => 3 * (n - o.k) + 1
  | .readBottom => 3 * (n - o.k)
  | .readStack => 3 * (n - o.k) - 1
  | .countOut => 0
/-- Steps to the end. -/
def rM (n : Nat) (x : MW) : Nat :=
  if x.ended then 0 else
  match x.act with
  | .end_ o => rQ n o
  | _ => 0
/-- Counted, or ended. -/
def cntdM (x : MW) : Prop := x.ended = true ∨ ∃ o, x.act = .end_ o ∧ o.at_ ≠ .countIn

section
variable {P : MP} {S : MS} {k : Nat}
theorem off_of_goM (h : AllM P S) (hk : k < P.n) {τ : Nat → Int} (hg : goM P.n k τ (S.X k) = 0) : (S.X k).ended = true ∨ ∃ o, (S.X k).ended = false ∧ (S.X k).act = .end_ o ∧ o.state = 0 ∧ o.at_ ≠ .countOut ∧ QOk (P.Q k) o := by
  by_cases he : (S.X k).ended = true
  · exact .inl he
  · right
    have he' : (S.X k).ended = false := by simpa using he
    unfold goM at hg
    rw [if_neg he] at hg
    cases ha : (S.X k).act with
    | choose => rw [ha] at hg; simp at hg
    | mark b => rw [ha] at hg; simp at hg
    | push b o => rw [ha] at hg; simp at hg
    | open_ v => rw [ha] at hg; simp at hg
    | take a o =>
      rw [ha] at hg
      simp only at hg
      have q1 := posO_pos o.at_
      have q2 := baseS_pos o.at_
      split at hg <;> omega
    | end_ o =>
      rw [ha] at hg
      simp only at hg
      have hv : yM P S.X k = .offer o := by unfold yM vaM; rw [ha]
      have hs : ShV P k (.offer o) := hv ▸ h.v.sh k hk
      refine ⟨o, he', rfl, ?_, fun e => ?_, hs.1⟩
      · rcases hs.2 with g | g
        · exact g
        · have := (h.w k hk).ended.2 ⟨o, ha, g⟩
          rw [he'] at this; cases this
      · rw [if_pos e] at hg
        omega
/-- An offer's step that stays an offer's. -/
theorem fin_moveM {o : OfS} (he : (S.X k).ended = false) (ha : (S.X k).act = .end_ o) (h0 : o.state = 0) (hc : o.at_ ≠ .countOut) (hq : QOk (P.Q k) o)
    (hnext : ((stepM P S k).X k).ended = true ∨ ∃ o', ((stepM P S k).X k).act = .end_ o' ∧ o'.at_ ≠ .countOut) :
    cntdM ((stepM P S k).X k) ∧ (cnt (P.Q k) S.l = P.n → rM P.n ((stepM P S k).X k) < rM P.n (S.X k)) := by
  have hne : ¬ (S.X k).ended = true := by simp [he]
  have hy : (stepM P S k).X k = endedW (S.X k) (stepQ (P.Q k) S.l o).2 := by unfold stepM; rw [if_neg hne, ha]; exact updM_at _ _ _
  unfold endedW at hy
  have hcs : (P.Q k).cs.length = P.n := P.Qlen k
  have hx : rM P.n (S.X k) = rQ P.n o := by unfold rM; rw [if_neg hne, ha]
  have hgo : ∀ o' : OfS, o'.state = 0 → (stepM P S k).X k = { S.X k with act := .end_ o' } → o'.at_ ≠ .countIn → (cnt (P.Q k) S.l = P.n → rQ P.n o' < rQ P.n o) → cntdM ((stepM P S k).X k) ∧ (cnt (P.Q k) S.l = P.n → rM P.n ((stepM P S k).X k) < rM P.n (S.X k)) := by
    intro o' h1 h2 h3 h4
    refine ⟨.inr ⟨o', by rw [h2], h3⟩, fun g => ?_⟩
    rw [hx, h2]
    unfold rM
    simp only
    rw [if_neg hne]
    exact h4 g
  obtain ⟨a, st, q, t⟩ := o
  simp only at h0 hc
  subst h0
  cases a
  case countIn =>
    have e : (stepQ (P.Q k) S.l ⟨.countIn, 0, q, t⟩).2 = ⟨.readCount, 0, q, t⟩ := by simp [stepQ]
    rw [e, if_neg (by simp), if_neg (by simp)] at hy
    exact hgo _ rfl hy (by simp) (fun _ => by simp [rQ])
  case readCount =>
    by_cases g : cnt (P.Q k) S.l = (P.Q k).n
    · have e : (stepQ (P.Q k) S.l ⟨.readCount, 0, q, t⟩).2 = ⟨.readCount, 2, q, t⟩ := by simp [stepQ, g]
      rw [e, if_pos rfl] at hy
      refine ⟨.inl (by rw [hy]), fun _ => ?_⟩
      rw [hx, hy]
      simp [rM, rQ]
    · have e : (stepQ (P.Q k) S.l ⟨.readCount, 0, q, t⟩).2 = lookQ (P.Q k) ⟨.readCount, 0, q, t⟩ 0 := by simp [stepQ, g]
      rw [e, if_neg (by simp [lookQ]), if_neg (by simp [lookQ])] at hy
      refine hgo _ rfl hy ?_ (fun g2 => absurd g2 g)
      unfold lookQ
      simp only
      split <;> simp
  case readTop =>
    have e : (stepQ (P.Q k) S.l ⟨.readTop, 0, q, t⟩).2 = ⟨.readBottom, 0, q, rd (cOf (P.Q k) q) S.l 0⟩ := by simp [stepQ]
    rw [e, if_neg (by simp), if_neg (by simp)] at hy
    exact hgo _ rfl hy (by simp) (fun _ => by simp [rQ])
  case readBottom =>
    simp only [QOk, hcs] at hq
    by_cases g : t < rd (cOf (P.Q k) q) S.l 1
    · have e : (stepQ (P.Q k) S.l ⟨.readBottom, 0, q, t⟩).2 = ⟨.countOut, 0, q, t⟩ := by simp [stepQ, g]
      rw [e, if_neg (by simp), if_neg (by simp)] at hy
      rw [hy] at hnext
      rcases hnext with g2 | ⟨o', g2, g3⟩
      · exact absurd g2 hne
      · cases g2; exact absurd rfl g3
    · have e : (stepQ (P.Q k) S.l ⟨.readBottom, 0, q, t⟩).2 = ⟨.readStack, 0, q, t⟩ := by simp [stepQ, g]
      rw [e, if_neg (by simp), if_neg (by simp)] at hy
      exact hgo _ rfl hy (by simp) (fun _ => by simp [rQ]; omega)
  case readStack =>
    simp only [QOk, hcs] at hq
    by_cases g : 0 < rd (cOf (P.Q k) q) S.l 3
    · have e : (stepQ (P.Q k) S.l ⟨.readStack, 0, q, t⟩).2 = ⟨.countOut, 0, q, t⟩ := by simp [stepQ, g]
      rw [e, if_neg (by simp), if_neg (by simp)] at hy
      rw [hy] at hnext
      rcases hnext with g2 | ⟨o', g2, g3⟩
      · exact absurd g2 hne
      · cases g2; exact absurd rfl g3
    · have e : (stepQ (P.Q k) S.l ⟨.readStack, 0, q, t⟩).2 = lookQ (P.Q k) ⟨.readStack, 0, q, t⟩ (q + 1) := by simp [stepQ, g]
      rw [e, if_neg (by simp [lookQ]), if_neg (by simp [lookQ])] at hy
      refine hgo _ rfl hy ?_ (fun g2 => ?_)
      · unfold lookQ
        simp only
        split <;> simp
      · by_cases g3 : q + 1 = P.n
        · simp [lookQ, hcs, g3, rQ]; omega
        · simp [lookQ, hcs, g3, rQ]; omega
  case countOut => exact absurd rfl hc
end
section
variable {P : MP} {T : Nat → MS} {a : Nat}
theorem ended_staysM (hT : ByTurnsM P T) {s k : Nat} (h : ((T s).X k).ended = true) : ∀ e, ((T (s + e)).X k).ended = true
  | 0 => h
  | e + 1 => by
    have ih := ended_staysM hT h e
    rw [← Nat.add_assoc, hT]
    by_cases g : k = (s + e) % P.n
    · subst g
      unfold stepM
      rw [if_pos ih]
      exact ih
    · rw [step_other _ _ g]; exact ih

def calmB (n : Nat) : Nat := 2 * n * ((32 + 11 * n) * n) + 22 * n
/-- All end. -/
theorem CalmT.ends (h : CalmT P T a) : ∀ t, a + calmB P.n ≤ t → ∀ k, k < P.n → ((T t).X k).ended = true := by
  obtain ⟨d0, hd0, hz⟩ := h.over
  have hn1 := h.n1
  have hn4 := h.n4
  have hoff : ∀ e k, k < P.n → ((T (a + (d0 + e))).X k).ended = true ∨ ∃ o, ((T (a + (d0 + e))).X k).ended = false ∧ ((T (a + (d0 + e))).X k).act = .end_ o ∧ o.state = 0 ∧ o.at_ ≠ .countOut ∧ QOk (P.Q k) o := fun e k hk =>
    off_of_goM (h.alls (d0 + e)) hk (hz e k hk)
  have hown : ∀ e, ((T (a + (d0 + e))).X ((a + (d0 + e)) % P.n)).ended = false → cntdM ((T (a + (d0 + e + 1))).X ((a + (d0 + e)) % P.n)) ∧ (cnt (P.Q ((a + (d0 + e)) % P.n)) (T (a + (d0 + e))).l = P.n → rM P.n ((T (a + (d0 + e + 1))).X ((a + (d0 + e)) % P.n)) < rM P.n ((T (a + (d0 + e))).X ((a + (d0 + e)) % P.n))) := fun e hen => by
    have hk : (a + (d0 + e)) % P.n < P.n := Nat.mod_lt _ (by omega)
    rcases hoff e _ hk with g | ⟨o, g1, g2, g3, g4, g5⟩
    · rw [hen] at g; cases g
    · have hnx := hoff (e + 1) _ hk
      rw [← Nat.add_assoc d0] at hnx
      rw [← Nat.add_assoc, h.turns] at hnx ⊢
      refine fin_moveM g1 g2 g3 g4 g5 ?_
      rcases hnx with q | ⟨o', _, q2, _, q4, _⟩
      · exact .inl q
      · exact .inr ⟨o', q2, q4⟩
  have hcst : ∀ e k, k < P.n → cntdM ((T (a + (d0 + e))).X k) → cntdM ((T (a + (d0 + e + 1))).X k) := fun e k hk hc => by
    by_cases g : k = (a + (d0 + e)) % P.n
    · by_cases hen : ((T (a + (d0 + e))).X k).ended = true
      · left
        exact ended_staysM h.turns hen 1
      · subst g
        exact (hown e (by simpa using hen)).1
    · rw [← Nat.add_assoc, h.turns, step_other _ _ g]; exact hc
  have hcnt : ∀ e k, k < P.n → P.n ≤ e → cntdM ((T (a + (d0 + e))).X k) := fun e k hk he => by
    obtain ⟨c, hc, hcm, hcf⟩ := turn_first hn1 hn4 (a + d0) hk
    have h1 : cntdM ((T (a + (d0 + c + 1))).X k) := by
      rw [Nat.add_assoc] at hcm
      by_cases hen : ((T (a + (d0 + c))).X k).ended = true
      · exact .inl (ended_staysM h.turns hen 1)
      · have := (hown c (by rw [hcm]; simpa using hen)).1
        rw [hcm] at this
        exact this
    have h2 : ∀ f, cntdM ((T (a + (d0 + (c + 1 + f)))).X k) := fun f => by
      induction f with
      | zero => exact h1
      | succ f ih => exact hcst (c + 1 + f) k hk ih
    have := h2 (e - (c + 1))
    rw [show c + 1 + (e - (c + 1)) = e by omega] at this
    exact this
  have hall : ∀ e k, P.n ≤ e → cnt (P.Q k) (T (a + (d0 + e))).l = P.n := fun e k0 he => by
    have hC := (h.alls (d0 + e)).v.cnt
    unfold CntV at hC
    rw [cnt_Q, hC, sumTo_congr (h := fun _ => (1 : Int)) (fun k hk => ?_), sumTo_const _ 1 P.n (fun _ => rfl)]
    · omega
    · have hw := (h.alls (d0 + e)).w k hk
      rcases hcnt e k hk he with g | ⟨o, g1, g2⟩
      · obtain ⟨o, g1, g2⟩ := hw.ended.1 g
        have hv : yM P (T (a + (d0 + e))).X k = .offer o := by unfold yM vaM; rw [g1]
        rw [hv]
        exact if_neg (fun q => by rw [g2] at q; exact absurd q.1 (by decide))
      · have hv : yM P (T (a + (d0 + e))).X k = .offer o := by unfold yM vaM; rw [g1]
        rw [hv]
        exact if_neg (fun q => g2 q.2)
  have hless : ∀ e k, P.n ≤ e → rM P.n ((T (a + (d0 + e + 1))).X k) ≤ rM P.n ((T (a + (d0 + e))).X k) := fun e k he => by
    by_cases g : k = (a + (d0 + e)) % P.n
    · by_cases hen : ((T (a + (d0 + e))).X k).ended = true
      · have := ended_staysM h.turns hen 1
        unfold rM
        rw [if_pos (show ((T (a + (d0 + e + 1))).X k).ended = true from this)]
        omega
      · subst g
        have := (hown e (by simpa using hen)).2 (hall e _ he)
        omega
    · rw [← Nat.add_assoc a (d0 + e) 1, h.turns, step_other _ _ g]
      exact Nat.le_refl _
  have hlesser : ∀ e k f, P.n ≤ e → rM P.n ((T (a + (d0 + (e + f)))).X k) ≤ rM P.n ((T (a + (d0 + e))).X k) := fun e k f he => by
    induction f with
    | zero => exact Nat.le_refl _
    | succ f ih => exact Nat.le_trans (hless (e + f) k (by omega)) ih
  have hround : ∀ e k, k < P.n → P.n ≤ e → ((T (a + (d0 + e))).X k).ended = false → rM P.n ((T (a + (d0 + (e + P.n)))).X k) < rM P.n ((T (a + (d0 + e))).X k) := fun e k hk he hen => by
    obtain ⟨c, hc, hcm, hcf⟩ := turn_first hn1 hn4 (a + (d0 + e)) hk
    have hs := same_beforeM h.turns (a + (d0 + e)) k c hcf
    rw [show a + (d0 + e) + c = a + (d0 + (e + c)) by omega] at hs hcm
    have h1 := hown (e + c) (by rw [hcm, hs]; exact hen)
    rw [hcm, hs] at h1
    have h2 := h1.2 (hall (e + c) _ (by omega))
    have h3 := hlesser (e + c + 1) k (P.n - (c + 1)) (by omega)
    rw [show e + c + 1 + (P.n - (c + 1)) = e + P.n by omega] at h3
    exact Nat.lt_of_le_of_lt h3 h2
  have hmost : ∀ x : MW, rM P.n x ≤ 20 := fun x => by
    unfold rM
    split
    · omega
    · split
      · unfold rQ; split <;> omega
      · omega
  have hend : ∀ m e k, k < P.n → P.n ≤ e → rM P.n ((T (a + (d0 + e))).X k) ≤ m → ((T (a + (d0 + (e + P.n * (m + 1))))).X k).ended = true := by
    intro m
    induction m with
    | zero =>
      intro e k hk he hm
      by_cases hen : ((T (a + (d0 + e))).X k).ended = true
      · have := ended_staysM h.turns hen (P.n * (0 + 1))
        rw [show a + (d0 + e) + P.n * (0 + 1) = a + (d0 + (e + P.n * (0 + 1))) by omega] at this
        exact this
      · have := hround e k hk he (by simpa using hen)
        omega
    | succ m ih =>
      intro e k hk he hm
      by_cases hen : ((T (a + (d0 + e))).X k).ended = true
      · have := ended_staysM h.turns hen (P.n * (m + 1 + 1))
        rw [show a + (d0 + e) + P.n * (m + 1 + 1) = a + (d0 + (e + P.n * (m + 1 + 1))) by omega] at this
        exact this
      · have h1 := hround e k hk he (by simpa using hen)
        have h2 := ih (e + P.n) k hk (by omega) (by omega)
        have h3 : P.n * (m + 1 + 1) = P.n * (m + 1) + P.n := Nat.mul_succ _ _
        rw [show d0 + (e + P.n * (m + 1 + 1)) = d0 + (e + P.n + P.n * (m + 1)) by omega]
        exact h2
  intro t ht k hk
  have h1 := hend 20 P.n k hk (Nat.le_refl _) (hmost _)
  have h2 : P.n * (20 + 1) = 21 * P.n := by omega
  unfold calmB at ht
  have h3 := ended_staysM h.turns h1 (t - (a + (d0 + (P.n + P.n * (20 + 1)))))
  rw [show a + (d0 + (P.n + P.n * (20 + 1))) + (t - (a + (d0 + (P.n + P.n * (20 + 1))))) = t by omega] at h3
  exact h3

/-- What is left is never less than nothing. -/
theorem gE_nn {S : MS} (h : AllM P S) {k : Nat} (hk : k < P.n) : 0 ≤ gE P (S.X k) := by
  have h1 := keptE_nn P (S.X k).kept
  have h2 : 0 ≤ ((S.X k).hands.length : Int) := Int.natCast_nonneg _
  have h3 : 0 ≤ ((S.X k).places.length : Int) := Int.natCast_nonneg _
  have h4 : 0 ≤ actE P (S.X k).act := by
    cases ha : (S.X k).act with
    | choose => simp [actE]
    | mark b => simp [actE]
    | open_ v => have := plM_nn P v; simp only [actE]; omega
    | end_ o => simp [actE]
    | push b o =>
      obtain ⟨hit, _⟩ := (h.w k hk).push b o ha
      have := plM_nn P b.t
      simp only [actE]
      unfold way
      simp only [if_true]
      rw [hit]
      unfold fE
      split <;> omega
    | take a o =>
      have := fE_nn P o.item
      simp only [actE]
      unfold way
      simp only [Bool.false_eq_true, if_false]
      split <;> omega
  unfold gE
  omega
theorem eM_nn {S : MS} (h : AllM P S) (hB : Bt.Bl P.hw.length S.sz) : 0 ≤ eM P S := by
  have h1 : Bt.tot S.sz P.hw.length ≤ P.hw.length := by rw [Bt.tot_live hB]; exact Bt.cnt_le _ _
  have h2 := sumTo_nn (n := P.n) (g := fun k => gE P (S.X k)) (fun k hk => gE_nn h hk)
  have h3 : 0 ≤ totY (fE P) P S.l (yM P S.X) := totY_nn (fE_nn P)
  unfold eM phi
  omega
theorem bl_timeM (hT : ByTurnsM P T) (hn : 1 ≤ P.n) (hA : AllM P (T a)) (hB : Bt.Bl P.hw.length (T a).sz) : ∀ d, Bt.Bl P.hw.length (T (a + d)).sz
  | 0 => hB
  | d + 1 => by
    rw [← Nat.add_assoc, hT]
    exact (e_step (all_timeM hT hn hA d) (bl_timeM hT hn hA hB d) (Nat.mod_lt _ (by omega))).2.2
/-- By turns there comes a time when nobody has anything. -/
theorem calm_soon (hT : ByTurnsM P T) (hn : 1 ≤ P.n) (hn4 : P.n ≤ 4) : ∀ (e : Nat) (a : Nat), AllM P (T a) → IdleM P (T a) → Bt.Bl P.hw.length (T a).sz → eM P (T a) ≤ e → ∃ t, a ≤ t ∧ t ≤ a + (28 * P.n + 1) * e ∧ CalmS P (T t)
  | 0, a, hA, hI, hB, h => by
    rcases calm_or P (T a) with g | g
    · exfalso
      have hs := ev_soonM hT hn hn4 hA hI g
      refine hs (fun t h1 h2 => ?_)
      obtain ⟨d, rfl⟩ := Nat.exists_eq_add_of_le h1
      -- nothing is left: each step is quiet
      have key : ∀ d, eM P (T (a + d)) ≤ 0 := fun d => by
        induction d with
        | zero => exact h
        | succ d ih =>
          have hk : (a + d) % P.n < P.n := Nat.mod_lt _ (by omega)
          have hs := e_step (all_timeM hT hn hA d) (bl_timeM hT hn hA hB d) hk
          rw [← Nat.add_assoc, hT]
          by_cases q : QsM P (T (a + d)) ((a + d) % P.n)
          · rw [hs.1 q]; exact ih
          · have := hs.2.1 q; omega
      have hk : (a + d) % P.n < P.n := Nat.mod_lt _ (by omega)
      by_cases q : QsM P (T (a + d)) ((a + d) % P.n)
      · exact q
      · exfalso
        have h3 := (e_step (all_timeM hT hn hA d) (bl_timeM hT hn hA hB d) hk).2.1 q
        have h4 := key d
        have h5 := eM_nn (all_timeM hT hn hA (d + 1)) (bl_timeM hT hn hA hB (d + 1))
        rw [← Nat.add_assoc, hT] at h5
        omega
    · exact ⟨a, Nat.le_refl _, by omega, g⟩
  | e + 1, a, hA, hI, hB, h => by
    rcases calm_or P (T a) with g | g
    · have hs := ev_soonM hT hn hn4 hA hI g
      have hex : ∃ d, d < 28 * P.n + 1 ∧ ¬ QsM P (T (a + d)) ((a + d) % P.n) ∧ eM P (T (a + d)) ≤ eM P (T a) := by
        have key : ∀ d, (∃ c, c < d ∧ ¬ QsM P (T (a + c)) ((a + c) % P.n) ∧ eM P (T (a + c)) ≤ eM P (T a)) ∨ (QuietM P T a (a + d) ∧ eM P (T (a + d)) ≤ eM P (T a)) := by
          intro d
          induction d with
          | zero => exact .inr ⟨fun t h1 h2 => by omega, Int.le_refl _⟩
          | succ d ih =>
            rcases ih with ⟨c, h1, h2⟩ | ⟨h1, h2⟩
            · exact .inl ⟨c, by omega, h2⟩
            · by_cases g : QsM P (T (a + d)) ((a + d) % P.n)
              · refine .inr ⟨fun t h3 h4 => ?_, ?_⟩
                · by_cases e : t = a + d
                  · subst e; exact g
                  · exact h1 t h3 (by omega)
                · have hk : (a + d) % P.n < P.n := Nat.mod_lt _ (by omega)
                  rw [← Nat.add_assoc, hT, (e_step (all_timeM hT hn hA d) (bl_timeM hT hn hA hB d) hk).1 g]
                  exact h2
              · exact .inl ⟨d, by omega, g, h2⟩
        rcases key (28 * P.n + 1) with g | g
        · exact g
        · exact absurd g.1 hs
      obtain ⟨d, hd, g, h2⟩ := hex
      have hk : (a + d) % P.n < P.n := Nat.mod_lt _ (by omega)
      have hE : eM P (T (a + d + 1)) ≤ e := by
        rw [hT]
        have := (e_step (all_timeM hT hn hA d) (bl_timeM hT hn hA hB d) hk).2.1 g
        omega
      obtain ⟨t, t1, t2, t3⟩ := calm_soon hT hn hn4 e (a + d + 1) (all_timeM hT hn hA (d + 1)) (idle_timeM hT hn hI (d + 1)) (bl_timeM hT hn hA hB (d + 1)) hE
      refine ⟨t, by omega, ?_, t3⟩
      have : (28 * P.n + 1) * (e + 1) = (28 * P.n + 1) * e + (28 * P.n + 1) := Nat.mul_succ _ _
      omega
    · exact ⟨a, Nat.le_refl _, Nat.le_add_right _ _, g⟩
/-- By turns all end. -/
theorem ends_soon (hT : ByTurnsM P T) (hn : 1 ≤ P.n) (hn4 : P.n ≤ 4) (hA : AllM P (T a)) (hI : IdleM P (T a)) (hB : Bt.Bl P.hw.length (T a).sz) {e : Nat} (he : eM P (T a) ≤ e) : ∀ t, a + ((28 * P.n + 1) * e + calmB P.n) ≤ t → ∀ k, k < P.n → ((T t).X k).ended = true := by
  obtain ⟨s, s1, s2, s3⟩ := calm_soon hT hn hn4 e a hA hI hB he
  obtain ⟨d, rfl⟩ := Nat.exists_eq_add_of_le s1
  have hC : CalmT P T (a + d) := ⟨hT, hn, hn4, all_timeM hT hn hA d, idle_timeM hT hn hI d, s3⟩
  intro t ht
  exact hC.ends t (by omega)
end
end Go.Proofs.YtgbclfhgpkmcnaaGreatDoor

/-
  The marker without memory: what holds of a new marker with roots ('start_all'), what it has left ('start_eM'); by turns it ends ('start_ends'). No Go is walked here.
-/
namespace Go.Proofs.YtgbclfhgpkmcnaaGreatDoor
set_option linter.unusedVariables false
set_option linter.unusedSimpArgs false

theorem rd_zero (C : Cfg) (L i : Nat) : rd C (List.replicate L 0) i = 0 := by
  unfold rd
  rw [List.getD_eq_getElem?_getD, List.getElem?_replicate]
  split <;> rfl
theorem view_zero (C : Cfg) (L : Nat) : viewOf C (List.replicate L 0) = ⟨0, 0, 0, 0, fun _ => 0, fun _ => 0⟩ := by
  unfold viewOf
  simp only [rd_zero]
  simp
section
variable {P : MP} {sz : Nat → Nat} {hs cs : Int}
theorem fresh_all (h1 : 1 ≤ P.n) (hc : 1 ≤ P.cap) {L : Nat} (hL : 1 + P.n * P.need ≤ L) : AllM P (MS.fresh (List.replicate L 0) sz hs cs) := by
  have hY : ∀ k, yM P (MS.fresh (List.replicate L 0) sz hs cs).X k = .loc := fun k => rfl
  have hp : ∀ j a, partY (yM P (MS.fresh (List.replicate L 0) sz hs cs).X) j a = opDone := fun j a => by cases a <;> rfl
  have hd : ∀ j a, (partY (yM P (MS.fresh (List.replicate L 0) sz hs cs).X) j a).done = true := fun j a => by rw [hp]; rfl
  have hf : ∀ j a, (partY (yM P (MS.fresh (List.replicate L 0) sz hs cs).X) j a).done = false → False := fun j a g => by rw [hd] at g; cases g
  refine ⟨⟨⟨h1, hc, by show _ ≤ (List.replicate L (0 : Int)).length; rw [List.length_replicate]; exact hL⟩, fun j hj => ?_, fun k hk => trivial, fun k hk => trivial, ?_⟩, fun k hk => ?_⟩
  · show DI (P.cfg j) (viewOf (P.cfg j) (List.replicate L 0)) _
    rw [view_zero]
    refine ⟨hc, .inl rfl, fun _ a => hn_done (hd j a), fun g => absurd g (by decide), fun a b g _ => ?_, fun g => (hf j _ g).elim, fun i g => (hf j _ g).elim, ?_, fun g => (hf j _ g).elim, ?_, fun i g => (hf j _ g).elim, fun i g => (hf j _ g).elim, ⟨Int.le_refl _, ?_⟩, fun a g => (hf j _ g).elim⟩
    · rw [hn_done (hd j a)] at g; cases g
    · unfold OwnI; rw [hd, if_pos rfl]; exact Int.le_refl _
    · rw [bot_done (hd j none)]; simp
    · simp
  · unfold CntV
    rw [show sumTo (fun k => inV (yM P (MS.fresh (List.replicate L 0) sz hs cs).X k)) P.n = 0 from sumTo_zero (fun j hj => rfl)]
    show (List.replicate L (0 : Int)).getD 0 0 = 0
    rw [List.getD_eq_getElem?_getD, List.getElem?_replicate]
    split <;> rfl
  · exact ⟨⟨fun g => (by cases g), fun ⟨o, g, _⟩ => by cases g⟩, fun a o g => (by cases g), fun o g => (by cases g), fun b o g => (by cases g), fun b g => (by cases g), fun b g => (by cases g)⟩
theorem fresh_eM (P : MP) (L : Nat) : eM P (MS.fresh (List.replicate L 0) sz hs cs) ≤ 3 * (P.hw.length : Int) := by
  have h1 : sumTo (fun k => gE P ((MS.fresh (List.replicate L 0) sz hs cs).X k)) P.n = 0 := sumTo_zero (fun j hj => rfl)
  have h2 : totY (fE P) P (List.replicate L 0) (yM P (MS.fresh (List.replicate L 0) sz hs cs).X) = 0 := sumTo_zero (fun j hj => empty_hasY _ (by unfold EmptyV; rw [view_zero]; exact ⟨rfl, rfl⟩) rfl)
  unfold eM phi
  rw [h1, show (MS.fresh (List.replicate L 0) sz hs cs).l = List.replicate L 0 from rfl, h2]
  omega
/-- All are at nothing. -/
def ChM (S : MS) : Prop := ∀ k, (S.X k).act = .choose ∧ (S.X k).ended = false
theorem root_all {S : MS} (h : AllM P S) (hC : ChM S) (hB : Bt.Bl P.hw.length S.sz) (r : Nat) (y : Int) : AllM P (rootM P.n S r y) ∧ ChM (rootM P.n S r y) ∧ eM P (rootM P.n S r y) = eM P S + 2 ∧ (rootM P.n S r y).sz = S.sz := by
  have h1 := h.v.ok.n1
  have hk : r % P.n < P.n := Nat.mod_lt _ (by omega)
  obtain ⟨ha, he⟩ := hC (r % P.n)
  have hv : vaM P (r % P.n) (S.X (r % P.n)) = .loc := by unfold vaM; rw [ha]
  have hv2 : vaM P (r % P.n) { S.X (r % P.n) with hands := (S.X (r % P.n)).hands ++ [y] } = .loc := by unfold vaM; simp only; rw [ha]
  refine ⟨?_, fun k => ?_, ?_, rfl⟩
  · refine h.loc hk hv (x := { S.X (r % P.n) with hands := (S.X (r % P.n)).hands ++ [y] }) rfl rfl (by rw [hv2]; exact bg_loc) ?_
    have hw := h.w _ hk
    exact ⟨hw.ended, fun a o g => (by simp only at g; rw [ha] at g; cases g), fun o g => (by simp only at g; rw [ha] at g; cases g), fun b o g => (by simp only at g; rw [ha] at g; cases g), fun b g => (by simp only at g; rw [ha] at g; cases g), hw.kept⟩
  · unfold rootM
    simp only
    by_cases e : k = r % P.n
    · rw [e, updM_at]; exact ⟨ha, he⟩
    · rw [updM_ne _ _ e]; exact hC k
  · have := phi_loc (g := gE P) (f := fE P) (S := S) (S' := rootM P.n S r y) hk (fun v => by rw [hv]; rfl) (x := { S.X (r % P.n) with hands := (S.X (r % P.n)).hands ++ [y] }) rfl rfl (fun v => by rw [hv2]; rfl)
    unfold eM
    rw [this]
    have g1 : gE P { S.X (r % P.n) with hands := (S.X (r % P.n)).hands ++ [y] } = gE P (S.X (r % P.n)) + 2 := by
      unfold gE
      simp only [List.length_append, List.length_singleton]
      omega
    rw [g1]
    show 3 * ((P.hw.length : Int) - (Bt.tot S.sz P.hw.length : Nat)) + _ = _
    omega
theorem roots_all : ∀ (rs : List Int) {S : MS} (r : Nat), AllM P S → ChM S → Bt.Bl P.hw.length S.sz → AllM P (rootsM P.n S r rs) ∧ ChM (rootsM P.n S r rs) ∧ eM P (rootsM P.n S r rs) = eM P S + 2 * (rs.length : Int) ∧ (rootsM P.n S r rs).sz = S.sz
  | [], S, r, h, hC, hB => ⟨h, hC, by simp [rootsM], rfl⟩
  | y :: ys, S, r, h, hC, hB => by
    obtain ⟨a1, a2, a3, a4⟩ := root_all h hC hB r y
    obtain ⟨b1, b2, b3, b4⟩ := roots_all ys (r + 1) a1 a2 (by rw [a4]; exact hB)
    refine ⟨b1, b2, ?_, b4.trans a4⟩
    show eM P (rootsM P.n (rootM P.n S r y) (r + 1) ys) = _
    rw [b3, a3, List.length_cons]
    omega
theorem ch_idle {S : MS} (h : ChM S) : IdleM P S := fun i _ => (h i).1
theorem step_all {T : Nat → MS} (hT : ∀ t, ∃ k, k < P.n ∧ T (t + 1) = stepM P (T t) k) (hA : AllM P (T 0)) (hI : IdleM P (T 0)) (hB : Bt.Bl P.hw.length (T 0).sz) : ∀ t, AllM P (T t) ∧ IdleM P (T t) ∧ Bt.Bl P.hw.length (T t).sz ∧ eM P (T t) ≤ eM P (T 0)
  | 0 => ⟨hA, hI, hB, Int.le_refl _⟩
  | t + 1 => by
    obtain ⟨h1, h2, h3, h4⟩ := step_all hT hA hI hB t
    obtain ⟨k, hk, e⟩ := hT t
    obtain ⟨e1, e2, e3⟩ := e_step h1 h3 hk
    rw [e]
    refine ⟨h1.step hk, h2.step hk, e3, ?_⟩
    by_cases q : QsM P (T t) k
    · rw [e1 q]; exact h4
    · have := e2 q; omega
/-- The bound of the laws is enough. -/
theorem bound_ok {n w r : Nat} (h1 : 1 ≤ n) (h4 : n ≤ 4) (hw : 100 ≤ w) (hr : r ≤ 60) : (28 * n + 1) * (3 * w + 2 * r) + calmB n ≤ (n + 2) * (n + 2) * (100 + 40 * w) := by
  unfold calmB
  have h : n = 1 ∨ n = 2 ∨ n = 3 ∨ n = 4 := by omega
  rcases h with rfl | rfl | rfl | rfl <;> omega
end
end Go.Proofs.YtgbclfhgpkmcnaaGreatDoor

/-
  The marker without memory: what a step does ('EffM', 'eff'), with what is marked and not yet scanned by any weight ('pF'). No Go is walked here.
-/
namespace Go.Proofs.YtgbclfhgpkmcnaaGreatDoor
set_option linter.unusedVariables false
set_option linter.unusedSimpArgs false

def actF (f : Int → Int) : MAct → Int
  | .push b o => f b.t + way true f o
  | .take _ o => way false f o
  | .open_ v => f v
  | _ => 0
def keptF (f : Int → Int) (l : List Blk) : Int := (l.map fun b => f b.t).sum
def gF (f : Int → Int) (x : MW) : Int := keptF f x.kept + actF f x.act
/-- What is marked and not yet scanned, by a weight. -/
def pF (f : Int → Int) (P : MP) (S : MS) : Int := phi (gF f) f P S
theorem keptF_app (f : Int → Int) (l : List Blk) (b : Blk) : keptF f (l ++ [b]) = keptF f l + f b.t := by
  unfold keptF; rw [List.map_append, List.sum_append]; simp
theorem keptF_last (f : Int → Int) {l : List Blk} {b : Blk} (h : l.getLast? = some b) : keptF f l = keptF f l.dropLast + f b.t := by
  obtain ⟨ys, rfl⟩ := List.getLast?_eq_some_iff.1 h
  rw [List.dropLast_concat]
  exact keptF_app f _ b

def noMark (A : MAct) : Prop := ∀ b, A ≠ .mark b
/-- What a step of worker k does. -/
inductive EffM (P : MP) (S : MS) (k : Nat) (S' : MS) : Prop
  | rest (x : MW) (hX : S'.X = updM S.X k x) (hz : S'.sz = S.sz) (hf : S'.fault = S.fault) (hh : x.hands = (S.X k).hands) (hp : x.places = (S.X k).places) (hs : x.seen = (S.X k).seen) (m1 : noMark (S.X k).act) (m2 : noMark x.act) (op : ∀ v, x.act = .open_ v → x.hands = [] ∧ x.places = []) (pd : ∀ f, pF f P S' = pF f P S)
  | zero (hs : List Int) (h0 : (S.X k).hands = 0 :: hs) (ac : (S.X k).act = .choose) (hX : S'.X = updM S.X k { S.X k with hands := hs }) (hz : S'.sz = S.sz) (hf : S'.fault = S.fault) (pd : ∀ f, pF f P S' = pF f P S)
  | bad (r : Int) (hs : List Int) (h0 : (S.X k).hands = r :: hs) (hr : r ≠ 0) (ho : P.obj r = none)
  | good (r : Int) (hs : List Int) (b : Blk) (h0 : (S.X k).hands = r :: hs) (hr : r ≠ 0) (ho : P.obj r = some b) (ac : (S.X k).act = .choose) (hX : S'.X = updM S.X k { S.X k with hands := hs, act := .mark b }) (hz : S'.sz = S.sz) (hf : S'.fault = S.fault) (pd : ∀ f, pF f P S' = pF f P S)
  | first (b : Blk) (ha : (S.X k).act = .mark b) (hc : (Bt.markC P.hw.length S.sz b.t b.s).1 = true) (hX : S'.X = updM S.X k { S.X k with act := .push b (opNew .pushReadBottom b.t) }) (hz : S'.sz = (Bt.markC P.hw.length S.sz b.t b.s).2.2) (hf : S'.fault = if (Bt.markC P.hw.length S.sz b.t b.s).2.1 = 0 then S.fault else 13) (pd : ∀ f, pF f P S' = pF f P S + f b.t)
  | again (b : Blk) (ha : (S.X k).act = .mark b) (hc : (Bt.markC P.hw.length S.sz b.t b.s).1 = false) (hX : S'.X = updM S.X k { S.X k with act := .choose }) (hz : S'.sz = (Bt.markC P.hw.length S.sz b.t b.s).2.2) (hf : S'.fault = if (Bt.markC P.hw.length S.sz b.t b.s).2.1 = 0 then S.fault else 13) (pd : ∀ f, pF f P S' = pF f P S)
  | place (p : Int) (ps : List Int) (h0 : (S.X k).hands = []) (h1 : (S.X k).places = p :: ps) (ac : (S.X k).act = .choose) (hX : S'.X = updM S.X k { S.X k with hands := [P.word p], places := ps, seen := (S.X k).seen + oneIf ps }) (hz : S'.sz = S.sz) (hf : S'.fault = S.fault) (pd : ∀ f, pF f P S' = pF f P S)
  | scan (b : Blk) (x : MW) (ho : P.obj b.t = some b) (h1 : (S.X k).places = [] ∨ ∃ v, (S.X k).act = .open_ v) (m1 : noMark (S.X k).act) (hX : S'.X = updM S.X k x) (m2 : x.act = .choose) (hh : x.hands = (S.X k).hands) (hp : x.places = P.places b) (hs : x.seen = (S.X k).seen + oneIf (P.places b)) (hz : S'.sz = S.sz) (hf : S'.fault = S.fault) (pd : ∀ f, pF f P S' + f b.t = pF f P S)
  | lost (v : Int) (ha : (S.X k).act = .open_ v) (ho : P.obj v = none)

section
variable {P : MP} {S : MS} {k : Nat}
theorem p_loc (f : Int → Int) (hk : k < P.n) (h1 : ∀ v, bot v (ownV (vaM P k (S.X k))) = v.B) {S' : MS} (x : MW) (h2 : ∀ v, bot v (ownV (vaM P k x)) = v.B) (hX : S'.X = updM S.X k x) (hL : S'.l = S.l) {c : Int} (hg : gF f x = gF f (S.X k) + c) : pF f P S' = pF f P S + c := by
  unfold pF
  rw [phi_loc (g := gF f) (f := f) hk h1 hX hL h2]
  omega
theorem p_loc0 (f : Int → Int) (hk : k < P.n) (h1 : ∀ v, bot v (ownV (vaM P k (S.X k))) = v.B) {S' : MS} (x : MW) (h2 : ∀ v, bot v (ownV (vaM P k x)) = v.B) (hX : S'.X = updM S.X k x) (hL : S'.l = S.l) (hg : gF f x = gF f (S.X k)) : pF f P S' = pF f P S :=
  (p_loc f hk h1 x h2 hX hL (c := 0) (hg.trans (Int.add_zero _).symm)).trans (Int.add_zero _)
theorem p_locm (f : Int → Int) (hk : k < P.n) (h1 : ∀ v, bot v (ownV (vaM P k (S.X k))) = v.B) {S' : MS} (x : MW) (h2 : ∀ v, bot v (ownV (vaM P k x)) = v.B) (hX : S'.X = updM S.X k x) (hL : S'.l = S.l) {c : Int} (hg : gF f x + c = gF f (S.X k)) : pF f P S' + c = pF f P S := by
  have := p_loc f hk h1 x h2 hX hL (c := -c) (by omega)
  omega
theorem p_take (f : Int → Int) (h : AllM P S) (hk : k < P.n) {a : Nat} {o : OpS} (ha : (S.X k).act = .take a o) : pF f P (takeM P S k (S.X k) a o) = pF f P S := by
  obtain ⟨i1, i2, i3, i4, i5⟩ := va_take hk ha
  obtain ⟨han, hn⟩ := (h.w k hk).take a o ha
  have el : actL P S.l k (vaM P k (S.X k)) = (stepOf (P.dq k a) S.l o).1 := by unfold actL; rw [i2, i3]
  have eo : actO P S.l k (vaM P k (S.X k)) = (stepOf (P.dq k a) S.l o).2 := by unfold actO; rw [i2, i3]
  have w1 : wayV f (vaM P k (S.X k)) = way false f o := by
    unfold vaM; rw [ha]; simp only
    split <;> rfl
  have w2 : wayV f (withV (vaM P k (S.X k)) (stepOf (P.dq k a) S.l o).2) = way false f (stepOf (P.dq k a) S.l o).2 := by
    unfold vaM; rw [ha]; simp only
    split <;> rfl
  have hphi := fun (x : MW) (hx : _) => phi_op (g := gF f) (f := f) h hk i1 (S' := { S with l := (stepOf (P.dq k a) S.l o).1, X := updM S.X k x, cs := S.cs + 1 }) (x := x) rfl el.symm hx
  rw [eo, w1, w2] at hphi
  have g0 : gF f (S.X k) = way false f o := by unfold gF; rw [hn.2.2, ha]; simp [keptF, actF]
  have gx : ∀ A, gF f { S.X k with act := A } = actF f A := fun A => by unfold gF; simp only; rw [hn.2.2]; simp [keptF]
  unfold takeM pF
  generalize hO : (stepOf (P.dq k a) S.l o).2 = o' at *
  by_cases hd : o'.done = true
  · obtain ⟨ve, vi⟩ := val_of hd
    have hask : ∀ c, c ≤ P.n → Begins none (ownV (vaM P k (askW P (S.X k) c))) ∧ gF f (askW P (S.X k) c) = 0 := fun c hc => by
      rcases ask_cases (k := k) P (S.X k) c hc hk with ⟨_, e1, e2⟩ | ⟨_, _, e1, e2⟩ | ⟨_, _, e1, e2⟩
      · rw [e2, e1, gx]; exact ⟨.inl rfl, rfl⟩
      · rw [e2, e1, gx]; exact ⟨(bg_pop (P := P) (l := S.l) hk).own, by simp [actF, way, opNew]⟩
      · rw [e2, e1, gx]; exact ⟨.inl rfl, by simp [actF, way, opNew]⟩
    unfold tookW
    rw [if_pos hd, ve]
    by_cases e0 : o'.errno = 0
    · rw [if_pos e0, hphi _ (.inr ⟨hd, .inl rfl⟩), gx, g0, (way_done0 hd e0).2, vi e0]
      simp only [actF]
      omega
    · rw [if_neg e0]
      have hw := way_doneE (f := f) hd e0 false
      split
      · obtain ⟨b1, b2⟩ := hask a (by omega)
        rw [hphi _ (.inr ⟨hd, b1⟩), b2, g0, hw]; omega
      · obtain ⟨b1, b2⟩ := hask (a + 1) (by omega)
        rw [hphi _ (.inr ⟨hd, b1⟩), b2, g0, hw]; omega
  · have hd' : o'.done = false := by simpa using hd
    unfold tookW
    rw [if_neg hd, hphi _ (.inl ⟨hd', i5 o'⟩), gx, g0]
    simp only [actF]
    omega
theorem ask_same (P : MP) (x : MW) (a : Nat) : (askW P x a).hands = x.hands ∧ (askW P x a).places = x.places ∧ (askW P x a).seen = x.seen ∧ noMark (askW P x a).act := by
  unfold askW
  split
  · exact ⟨rfl, rfl, rfl, fun b g => by cases g⟩
  · split
    · exact ⟨rfl, rfl, rfl, fun b g => by cases g⟩
    · exact ⟨rfl, rfl, rfl, fun b g => by cases g⟩
theorem took_same (P : MP) (x : MW) (a : Nat) (o : OpS) : (tookW P x a o).hands = x.hands ∧ (tookW P x a o).places = x.places ∧ (tookW P x a o).seen = x.seen ∧ noMark (tookW P x a o).act := by
  unfold tookW
  split
  · split
    · exact ⟨rfl, rfl, rfl, fun b g => by cases g⟩
    · split
      · exact ask_same P x a
      · exact ask_same P x (a + 1)
  · exact ⟨rfl, rfl, rfl, fun b g => by cases g⟩
theorem eff (h : AllM P S) (hk : k < P.n) : EffM P S k (stepM P S k) := by
  have hw := h.w k hk
  by_cases he : (S.X k).ended = true
  · have e : stepM P S k = S := by unfold stepM; rw [if_pos he]
    obtain ⟨o, ho, _⟩ := hw.ended.1 he
    rw [e]
    exact .rest (S.X k) (updM_same _ _).symm rfl rfl rfl rfl rfl (by rw [ho]; intro b g; cases g) (by rw [ho]; intro b g; cases g) (by rw [ho]; intro v g; cases g) (fun f => rfl)
  have he' : (S.X k).ended = false := by simpa using he
  cases ha : (S.X k).act with
  | end_ o =>
    have e : stepM P S k = { S with l := (stepQ (P.Q k) S.l o).1, X := updM S.X k (endedW (S.X k) (stepQ (P.Q k) S.l o).2), cs := S.cs + 1 } := by unfold stepM; rw [if_neg he, ha]
    have hx : ∀ o', (endedW (S.X k) o').hands = (S.X k).hands ∧ (endedW (S.X k) o').places = (S.X k).places ∧ (endedW (S.X k) o').seen = (S.X k).seen ∧ noMark (endedW (S.X k) o').act ∧ (∀ v, (endedW (S.X k) o').act ≠ .open_ v) ∧ (∀ f, gF f (endedW (S.X k) o') = gF f (S.X k)) ∧ ∀ v, bot v (ownV (vaM P k (endedW (S.X k) o'))) = v.B := fun o' => by
      unfold endedW
      split
      · exact ⟨rfl, rfl, rfl, fun b g => (by cases g), fun v g => (by cases g), fun f => (by unfold gF; simp only; rw [ha]; rfl), fun v => rfl⟩
      · split
        · exact ⟨rfl, rfl, rfl, fun b g => (by cases g), fun v g => (by cases g), fun f => (by unfold gF; simp only; rw [ha]; rfl), fun v => rfl⟩
        · exact ⟨rfl, rfl, rfl, fun b g => (by cases g), fun v g => (by cases g), fun f => (by unfold gF; simp only; rw [ha]; rfl), fun v => rfl⟩
    obtain ⟨x1, x2, x3, x4, x7, x5, x6⟩ := hx (stepQ (P.Q k) S.l o).2
    rw [e]
    refine .rest _ rfl rfl rfl x1 x2 x3 (by rw [ha]; intro b g; cases g) x4 (fun v g => absurd g (x7 v)) (fun f => ?_)
    unfold pF
    rw [phi_off (S := S) hk o (bot_va (by rw [ha]; intro b o g; cases g) (by rw [ha]; intro o g; cases g)) rfl rfl x6, x5]
    omega
  | take a o =>
    have e : stepM P S k = takeM P S k (S.X k) a o := by unfold stepM; rw [if_neg he, ha]
    obtain ⟨x1, x2, x3, x4⟩ := took_same P (S.X k) a (stepOf (P.dq k a) S.l o).2
    rw [e]
    obtain ⟨_, hn⟩ := hw.take a o ha
    exact .rest _ rfl rfl rfl x1 x2 x3 (by rw [ha]; intro b g; cases g) x4 (fun v _ => ⟨x1.trans hn.1, x2.trans hn.2.1⟩) (fun f => p_take f h hk ha)
  | push b o =>
    have e : stepM P S k = { S with l := (stepOf (P.dq k 0) S.l o).1, X := updM S.X k (pushedW (S.X k) b (stepOf (P.dq k 0) S.l o).2), cs := S.cs + 1 } := by unfold stepM; rw [if_neg he, ha]
    obtain ⟨hit, hob⟩ := hw.push b o ha
    obtain ⟨i1, i2, i3, i4, i5⟩ := va_push hk ha
    have hO : OpI P k (vaM P k (S.X k)) := (h.v.sh k hk).op i1
    have el : actL P S.l k (vaM P k (S.X k)) = (stepOf (P.dq k 0) S.l o).1 := by unfold actL; rw [i2, i3]
    have eo : actO P S.l k (vaM P k (S.X k)) = (stepOf (P.dq k 0) S.l o).2 := by unfold actO; rw [i2, i3]
    have w1 : ∀ f, wayV f (vaM P k (S.X k)) = way true f o := fun f => by unfold vaM; rw [ha]; rfl
    have w2 : ∀ f, wayV f (withV (vaM P k (S.X k)) (stepOf (P.dq k 0) S.l o).2) = way true f (stepOf (P.dq k 0) S.l o).2 := fun f => by unfold vaM; rw [ha]; rfl
    have hit2 : (stepOf (P.dq k 0) S.l o).2.item = b.t := by
      have := item_pushS (h.v.ok.room hO.dq) h.v.ok.cap hO.cnt (by rw [← i4]; exact hO.kind)
      rw [i2, i3] at this
      rw [this]; exact hit
    have hphi := fun (f : Int → Int) (x : MW) (hx : _) => phi_op (g := gF f) (f := f) h hk i1 (S' := { S with l := (stepOf (P.dq k 0) S.l o).1, X := updM S.X k x, cs := S.cs + 1 }) (x := x) rfl el.symm hx
    simp only [eo, w1, w2] at hphi
    have hsame : (pushedW (S.X k) b (stepOf (P.dq k 0) S.l o).2).hands = (S.X k).hands ∧ (pushedW (S.X k) b (stepOf (P.dq k 0) S.l o).2).places = (S.X k).places ∧ (pushedW (S.X k) b (stepOf (P.dq k 0) S.l o).2).seen = (S.X k).seen ∧ noMark (pushedW (S.X k) b (stepOf (P.dq k 0) S.l o).2).act ∧ ∀ v, (pushedW (S.X k) b (stepOf (P.dq k 0) S.l o).2).act = .open_ v → (pushedW (S.X k) b (stepOf (P.dq k 0) S.l o).2).hands = [] ∧ (pushedW (S.X k) b (stepOf (P.dq k 0) S.l o).2).places = [] := by
      unfold pushedW
      split
      · exact ⟨rfl, rfl, rfl, fun b g => (by cases g), fun v g => (by cases g)⟩
      · exact ⟨rfl, rfl, rfl, fun b g => (by cases g), fun v g => (by cases g)⟩
    rw [e]
    refine .rest _ rfl rfl rfl hsame.1 hsame.2.1 hsame.2.2.1 (by rw [ha]; intro b g; cases g) hsame.2.2.2.1 hsame.2.2.2.2 (fun f => ?_)
    unfold pF
    generalize hO' : (stepOf (P.dq k 0) S.l o).2 = o' at *
    by_cases hd : o'.done = true
    · obtain ⟨ve, vi⟩ := val_of hd
      unfold pushedW
      rw [if_pos hd, ve, hphi f _ (.inr ⟨hd, .inl rfl⟩)]
      by_cases e0 : o'.errno = 0
      · rw [if_pos e0, (way_done0 hd e0).1, hit2]
        unfold gF
        simp only
        rw [ha]
        simp only [actF]
        omega
      · rw [if_neg e0, way_doneE hd e0 true]
        unfold gF
        simp only
        rw [ha, keptF_app]
        simp only [actF]
        omega
    · have hd' : o'.done = false := by simpa using hd
      unfold pushedW
      rw [if_neg hd, hphi f _ (.inl ⟨hd', i5 o'⟩)]
      unfold gF
      simp only
      rw [ha]
      simp only [actF]
      omega
  | mark b =>
    have hbt : ∀ v, bot v (ownV (vaM P k (S.X k))) = v.B := bot_va (by rw [ha]; intro b o g; cases g) (by rw [ha]; intro o g; cases g)
    have e : stepM P S k = { S with sz := (Bt.markC P.hw.length S.sz b.t b.s).2.2, fault := if (Bt.markC P.hw.length S.sz b.t b.s).2.1 = 0 then S.fault else 13, X := updM S.X k (if (Bt.markC P.hw.length S.sz b.t b.s).1 then { S.X k with act := .push b (opNew .pushReadBottom b.t) } else { S.X k with act := .choose }) } := by unfold stepM; rw [if_neg he, ha]
    rw [e]
    by_cases hf : (Bt.markC P.hw.length S.sz b.t b.s).1 = true
    · rw [if_pos hf]
      refine .first b ha hf rfl rfl rfl (fun f => ?_)
      have g1 : gF f { S.X k with act := .push b (opNew .pushReadBottom b.t) } = gF f (S.X k) + f b.t := by unfold gF; simp only; rw [ha]; simp [actF, way, opNew]
      apply p_loc f hk hbt { S.X k with act := .push b (opNew .pushReadBottom b.t) } (fun v => rfl) <;> first | rfl | exact g1
    · rw [if_neg hf]
      refine .again b ha (by simpa using hf) rfl rfl rfl (fun f => ?_)
      have g1 : gF f { S.X k with act := .choose } = gF f (S.X k) := by unfold gF; simp only; rw [ha]; simp only [actF]
      exact p_loc0 f hk hbt { S.X k with act := .choose } (fun v => rfl) rfl rfl g1
  | choose =>
    have e : stepM P S k = chooseM P S k (S.X k) := by unfold stepM; rw [if_neg he, ha]
    have hbt : ∀ v, bot v (ownV (vaM P k (S.X k))) = v.B := bot_va (by rw [ha]; intro b o g; cases g) (by rw [ha]; intro o g; cases g)
    have m1 : noMark (S.X k).act := by rw [ha]; intro b g; cases g
    rw [e]
    unfold chooseM
    cases hh : (S.X k).hands with
    | cons r hs =>
      simp only
      have hb1 : ∀ v, bot v (ownV (vaM P k { S.X k with hands := hs })) = v.B := bot_va (by simp only; rw [ha]; intro b o g; cases g) (by simp only; rw [ha]; intro o g; cases g)
      by_cases h0 : r = 0
      · rw [if_pos h0]
        refine .zero hs (by rw [hh, h0]) ha rfl rfl rfl (fun f => ?_)
        exact p_loc0 f hk hbt { S.X k with hands := hs } hb1 rfl rfl rfl
      · rw [if_neg h0]
        cases ho : P.obj r with
        | none => exact .bad r hs hh h0 ho
        | some b =>
          refine .good r hs b hh h0 ho ha rfl rfl rfl (fun f => ?_)
          have g1 : gF f { S.X k with hands := hs, act := .mark b } = gF f (S.X k) := by unfold gF; simp only; rw [ha]; simp only [actF]
          exact p_loc0 f hk hbt { S.X k with hands := hs, act := .mark b } (fun v => rfl) rfl rfl g1
    | nil =>
      simp only
      cases hp : (S.X k).places with
      | cons p ps =>
        refine .place p ps hh hp ha rfl rfl rfl (fun f => ?_)
        exact p_loc0 f hk hbt { S.X k with hands := [P.word p], places := ps, seen := (S.X k).seen + oneIf ps } (bot_va (by simp only; rw [ha]; intro b o g; cases g) (by simp only; rw [ha]; intro o g; cases g)) rfl rfl rfl
      | nil =>
        simp only
        cases hq : (S.X k).kept.getLast? with
        | some b =>
          have hl := fun f => keptF_last f hq
          have hmem : b ∈ (S.X k).kept := List.mem_of_getLast? hq
          have g1 : ∀ f, gF f (scanW P { S.X k with hands := [], places := [], kept := (S.X k).kept.dropLast } b) + f b.t = gF f (S.X k) := fun f => by unfold gF scanW; simp only; rw [hl f, ha]; simp only [actF]; omega
          exact .scan b (scanW P { S.X k with hands := [], places := [], kept := (S.X k).kept.dropLast } b) (hw.kept b hmem) (.inl hp) m1 rfl rfl hh.symm rfl rfl rfl rfl (fun f => by apply p_locm f hk hbt (scanW P { S.X k with hands := [], places := [], kept := (S.X k).kept.dropLast } b) (fun v => rfl) <;> first | rfl | exact g1 f)
        | none =>
          simp only
          have hkn : (S.X k).kept = [] := List.getLast?_eq_none_iff.1 hq
          obtain ⟨x1, x2, x3, x4⟩ := took_same P (S.X k) 0 (stepOf (P.dq k 0) S.l (opNew .popReadBottom 0)).2
          refine .rest _ rfl rfl rfl x1 x2 x3 m1 x4 (fun v _ => ⟨x1.trans hh, x2.trans hp⟩) (fun f => ?_)
          have h1 := idle_pop h hk ha he' ⟨hh, hp, hkn⟩
          have h2 := p_take f h1 hk (a := 0) (o := opNew .popReadBottom 0) (by rw [pre_at]; rfl)
          rw [← take_pre P S k 0 (opNew .popReadBottom 0)] at h2
          rw [h2]
          have := p_loc (S' := preM S k) f hk hbt (popX (S.X k)) (fun v => rfl) rfl rfl (c := 0) (by unfold popX gF; simp only; rw [ha]; simp [actF, way, opNew])
          omega
  | open_ v =>
    have hbt : ∀ v, bot v (ownV (vaM P k (S.X k))) = v.B := bot_va (by rw [ha]; intro b o g; cases g) (by rw [ha]; intro o g; cases g)
    cases ho : P.obj v with
    | none => exact .lost v ha ho
    | some b =>
      have e : stepM P S k = { S with X := updM S.X k (scanW P (S.X k) b), hs := S.hs + P.acc v } := by unfold stepM; rw [if_neg he, ha]; simp only; rw [ho]
      have hbv := obj_t ho
      rw [e]
      have g1 : ∀ f, gF f (scanW P (S.X k) b) + f b.t = gF f (S.X k) := fun f => by unfold gF scanW; simp only; rw [ha]; simp only [actF]; rw [hbv]; omega
      exact .scan b (scanW P (S.X k) b) (by rw [hbv]; exact ho) (.inr ⟨v, ha⟩) (by rw [ha]; intro b g; cases g) rfl rfl rfl rfl rfl rfl rfl (fun f => by apply p_locm f hk hbt (scanW P (S.X k) b) (fun v => rfl) <;> first | rfl | exact g1 f)
end
end Go.Proofs.YtgbclfhgpkmcnaaGreatDoor

/-
  The marker without memory, where all that is reached are objects that lie apart: what holds at each step ('InvM', 'InvM.step'). No Go is walked here.
-/
namespace Go.Proofs.YtgbclfhgpkmcnaaGreatDoor
set_option linter.unusedVariables false
set_option linter.unusedSimpArgs false

def oneT (t : Int) : Int → Int := fun v => if v = t then 1 else 0
def isM (N : Nat) (sz : Nat → Nat) (t : Int) : Prop := 0 ≤ t ∧ t < N ∧ 0 < sz t.toNat
instance (N : Nat) (sz : Nat → Nat) (t : Int) : Decidable (isM N sz t) := by unfold isM; infer_instance
def mk01 (N : Nat) (sz : Nat → Nat) (t : Int) : Int := if isM N sz t then 1 else 0
/-- What is reached. -/
inductive RchM (P : MP) (R : List Int) : Int → Prop
  | root {r : Int} : r ∈ R → r ≠ 0 → RchM P R r
  | step {t : Int} {b : Blk} {p : Int} : RchM P R t → P.obj t = some b → p ∈ P.places b → P.word p ≠ 0 → RchM P R (P.word p)
/-- All that is reached are objects, apart. -/
structure RightM (P : MP) (R : List Int) : Prop where
  obj : ∀ t, RchM P R t → ∃ b, P.obj t = some b
  apart : ∀ t u b c, RchM P R t → RchM P R u → P.obj t = some b → P.obj u = some c → t < u → t + b.s ≤ u
/-- It is marked, or somebody has it. -/
def GotM (P : MP) (S : MS) (r : Int) : Prop := isM P.hw.length S.sz r ∨ ∃ k, k < P.n ∧ (r ∈ (S.X k).hands ∨ ∃ b, (S.X k).act = .mark b ∧ b.t = r)
def busyP (x : MW) : Int := if x.places = [] then 0 else 1
structure InvM (P : MP) (R : List Int) (S : MS) : Prop where
  bl : Bt.Bl P.hw.length S.sz
  fault : S.fault = 0
  reach : ∀ t, isM P.hw.length S.sz t → RchM P R t ∧ ∃ b, P.obj t = some b ∧ (S.sz t.toNat : Int) = b.s
  hands : ∀ k, k < P.n → ∀ r, r ∈ (S.X k).hands → r ≠ 0 → RchM P R r
  mark : ∀ k, k < P.n → ∀ b, (S.X k).act = .mark b → RchM P R b.t
  places : ∀ k, k < P.n → ∀ p, p ∈ (S.X k).places → P.word p ≠ 0 → RchM P R (P.word p)
  opn : ∀ k, k < P.n → ∀ v, (S.X k).act = .open_ v → (S.X k).hands = [] ∧ (S.X k).places = []
  pend : ∀ t, pF (oneT t) P S ≤ mk01 P.hw.length S.sz t
  root : ∀ r, r ∈ R → r ≠ 0 → GotM P S r
  clos : ∀ t b, isM P.hw.length S.sz t → pF (oneT t) P S ≤ 0 → P.obj t = some b → ∀ p, p ∈ P.places b → P.word p ≠ 0 → GotM P S (P.word p) ∨ ∃ k, k < P.n ∧ p ∈ (S.X k).places
  seen : sumTo (fun k => (S.X k).seen + busyP (S.X k)) P.n + pF oneM P S = (marksTo S.sz P.hw.length : Int)

section
variable {P : MP} {R : List Int} {S : MS} {k : Nat}
theorem oneT_nn (t v : Int) : 0 ≤ oneT t v := by unfold oneT; split <;> omega
theorem gF_nn {f : Int → Int} (hf : ∀ v, 0 ≤ f v) (h : AllM P S) (hk : k < P.n) : 0 ≤ gF f (S.X k) := by
  have h1 : 0 ≤ keptF f (S.X k).kept := by
    unfold keptF
    induction (S.X k).kept with
    | nil => exact Int.le_refl _
    | cons b l ih => rw [List.map_cons, List.sum_cons]; have := hf b.t; omega
  have h4 : 0 ≤ actF f (S.X k).act := by
    cases ha : (S.X k).act with
    | choose => simp [actF]
    | mark b => simp [actF]
    | open_ v => exact hf v
    | end_ o => simp [actF]
    | push b o =>
      obtain ⟨hit, _⟩ := (h.w k hk).push b o ha
      have := hf b.t
      simp only [actF]
      unfold way
      simp only [if_true]
      rw [hit]
      split <;> omega
    | take a o =>
      have := hf o.item
      simp only [actF]
      unfold way
      simp only [Bool.false_eq_true, if_false]
      split <;> omega
  unfold gF
  omega
theorem pF_ge {f : Int → Int} (hf : ∀ v, 0 ≤ f v) (h : AllM P S) (hk : k < P.n) : gF f (S.X k) ≤ pF f P S := by
  have h1 := sumTo_ge (g := fun k => gF f (S.X k)) hk (fun j hj => gF_nn hf h hj)
  have h2 : 0 ≤ totY f P S.l (yM P S.X) := totY_nn hf
  unfold pF phi
  omega
theorem pF_nn {f : Int → Int} (hf : ∀ v, 0 ≤ f v) (h : AllM P S) : 0 ≤ pF f P S := by
  have h1 := sumTo_nn (n := P.n) (g := fun k => gF f (S.X k)) (fun j hj => gF_nn hf h hj)
  have h2 : 0 ≤ totY f P S.l (yM P S.X) := totY_nn hf
  unfold pF phi
  omega
/-- What is marked and not scanned is reached. -/
theorem InvM.held (hI : InvM P R S) {v : Int} (h : 1 ≤ pF (oneT v) P S) : isM P.hw.length S.sz v := by
  have := hI.pend v
  unfold mk01 at this
  split at this
  · assumption
  · omega
theorem upd_seen (hk : k < P.n) (X : Nat → MW) (x : MW) : sumTo (fun j => (updM X k x j).seen + busyP (updM X k x j)) P.n = sumTo (fun j => (X j).seen + busyP (X j)) P.n + (x.seen + busyP x) - ((X k).seen + busyP (X k)) := by
  rw [sumTo_upd (g := fun j => (X j).seen + busyP (X j)) hk (fun j hj hjk => by simp only [updM_ne _ _ hjk])]
  simp only [updM_at]
theorem got_next {S' : MS} {x : MW} (hX : S'.X = updM S.X k x) (hk : k < P.n) (hz : ∀ t, isM P.hw.length S.sz t → isM P.hw.length S'.sz t)
    (hg : ∀ r, r ≠ 0 → (r ∈ (S.X k).hands ∨ ∃ b, (S.X k).act = .mark b ∧ b.t = r) → GotM P S' r) {r : Int} (hr : r ≠ 0) (h : GotM P S r) : GotM P S' r := by
  rcases h with h | ⟨j, hj, h⟩
  · exact .inl (hz r h)
  · by_cases e : j = k
    · subst e; exact hg r hr h
    · exact .inr ⟨j, hj, by rw [hX, updM_ne _ _ e]; exact h⟩
theorem at_next {S' : MS} {x : MW} (hX : S'.X = updM S.X k x) : S'.X k = x ∧ ∀ j, j ≠ k → S'.X j = S.X j := ⟨by rw [hX, updM_at], fun j hj => by rw [hX, updM_ne _ _ hj]⟩
/-- What one worker changes, with the same marks and the same things pending but for a scan. -/
theorem InvM.next (hI : InvM P R S) (hk : k < P.n) {S' : MS} {x : MW} (hX : S'.X = updM S.X k x) (hb : Bt.Bl P.hw.length S'.sz) (hf : S'.fault = 0)
    (hre : ∀ t, isM P.hw.length S'.sz t → RchM P R t ∧ ∃ b, P.obj t = some b ∧ (S'.sz t.toNat : Int) = b.s)
    (hz : ∀ t, isM P.hw.length S.sz t → isM P.hw.length S'.sz t)
    (h1 : ∀ r, r ∈ x.hands → r ≠ 0 → RchM P R r) (h2 : ∀ b, x.act = .mark b → RchM P R b.t) (h3 : ∀ p, p ∈ x.places → P.word p ≠ 0 → RchM P R (P.word p)) (h4 : ∀ v, x.act = .open_ v → x.hands = [] ∧ x.places = [])
    (hp : ∀ t, pF (oneT t) P S' ≤ mk01 P.hw.length S'.sz t)
    (hg : ∀ r, r ≠ 0 → (r ∈ (S.X k).hands ∨ ∃ b, (S.X k).act = .mark b ∧ b.t = r) → GotM P S' r)
    (hc : ∀ t b, isM P.hw.length S'.sz t → pF (oneT t) P S' ≤ 0 → P.obj t = some b → (isM P.hw.length S.sz t ∧ pF (oneT t) P S ≤ 0) ∨ x.places = P.places b)
    (hpl : ∀ p, p ∈ (S.X k).places → P.word p ≠ 0 → GotM P S' (P.word p) ∨ p ∈ x.places)
    (hs : sumTo (fun k => (S.X k).seen + busyP (S.X k)) P.n + (x.seen + busyP x) - ((S.X k).seen + busyP (S.X k)) + pF oneM P S' = (marksTo S'.sz P.hw.length : Int)) : InvM P R S' := by
  obtain ⟨e1, e2⟩ := at_next hX
  refine ⟨hb, hf, hre, fun j hj => ?_, fun j hj => ?_, fun j hj => ?_, fun j hj => ?_, hp, fun r hr h0 => got_next hX hk hz hg h0 (hI.root r hr h0), fun t b hm hq ho p hp hw => ?_, ?_⟩
  · by_cases e : j = k
    · rw [e, e1]; exact h1
    · rw [e2 j e]; exact hI.hands j hj
  · by_cases e : j = k
    · rw [e, e1]; exact h2
    · rw [e2 j e]; exact hI.mark j hj
  · by_cases e : j = k
    · rw [e, e1]; exact h3
    · rw [e2 j e]; exact hI.places j hj
  · by_cases e : j = k
    · rw [e, e1]; exact h4
    · rw [e2 j e]; exact hI.opn j hj
  · rcases hc t b hm hq ho with ⟨g1, g2⟩ | g
    · rcases hI.clos t b g1 g2 ho p hp hw with g | ⟨j, hj, g⟩
      · exact .inl (got_next hX hk hz hg hw g)
      · by_cases e : j = k
        · subst e
          rcases hpl p g hw with q | q
          · exact .inl q
          · exact .inr ⟨j, hj, by rw [e1]; exact q⟩
        · exact .inr ⟨j, hj, by rw [e2 j e]; exact g⟩
    · exact .inr ⟨k, hk, by rw [e1, g]; exact hp⟩
  · rw [hX, upd_seen hk]
    exact hs
/-- Nothing of the marks changes. -/
theorem InvM.same (hI : InvM P R S) (hk : k < P.n) {S' : MS} {x : MW} (hX : S'.X = updM S.X k x) (hz : S'.sz = S.sz) (hf : S'.fault = 0) (pd : ∀ f, pF f P S' = pF f P S)
    (h1 : ∀ r, r ∈ x.hands → r ≠ 0 → RchM P R r) (h2 : ∀ b, x.act = .mark b → RchM P R b.t) (h3 : ∀ p, p ∈ x.places → P.word p ≠ 0 → RchM P R (P.word p)) (h4 : ∀ v, x.act = .open_ v → x.hands = [] ∧ x.places = [])
    (hg : ∀ r, r ≠ 0 → (r ∈ (S.X k).hands ∨ ∃ b, (S.X k).act = .mark b ∧ b.t = r) → GotM P S' r)
    (hpl : ∀ p, p ∈ (S.X k).places → P.word p ≠ 0 → GotM P S' (P.word p) ∨ p ∈ x.places)
    (hs : x.seen + busyP x = (S.X k).seen + busyP (S.X k)) : InvM P R S' := by
  refine hI.next hk hX (by rw [hz]; exact hI.bl) hf (by rw [hz]; exact hI.reach) (fun t g => by rw [hz]; exact g) h1 h2 h3 h4 (fun t => by rw [pd, hz]; exact hI.pend t) hg (fun t b g1 g2 _ => .inl ⟨by rw [hz] at g1; exact g1, by rw [pd] at g2; exact g2⟩) hpl ?_
  rw [pd, hz, ← hI.seen]
  omega
theorem obj_in {t : Int} {b : Blk} (h : P.obj t = some b) : b.t = t ∧ 0 ≤ t ∧ 1 ≤ b.s ∧ t + b.s ≤ P.hw.length := by
  obtain ⟨h1, h2⟩ := obj_some h
  obtain ⟨a1, a2, a3, a4, a5, _⟩ := readOf_some h1
  exact ⟨a1, a2, a3, a5⟩
/-- A mark of what is reached. -/
theorem mark_right (hI : InvM P R S) (hR : RightM P R) {b : Blk} (hr : RchM P R b.t) (ho : P.obj b.t = some b) :
    (isM P.hw.length S.sz b.t ∧ Bt.markC P.hw.length S.sz b.t b.s = (false, 0, S.sz)) ∨ (¬ isM P.hw.length S.sz b.t ∧ S.sz b.t.toNat = 0 ∧ Bt.markC P.hw.length S.sz b.t b.s = (true, 0, Bt.upd S.sz b.t.toNat b.s.toNat)) := by
  obtain ⟨_, o1, o2, o3⟩ := obj_in ho
  rw [Bt.markC_eq]
  by_cases hm : 0 < S.sz b.t.toNat
  · left
    refine ⟨⟨o1, by omega, hm⟩, ?_⟩
    unfold Bt.markT
    rw [if_neg (by omega), if_neg (by omega), if_pos hm]
  · right
    refine ⟨fun g => hm g.2.2, by omega, ?_⟩
    have hfree : Bt.Free S.sz b.t.toNat b.s.toNat := by
      intro j j1 j2
      unfold Bt.live
      rw [Bt.bo_false]
      rintro ⟨a, c1, c2⟩
      have ha : 0 < S.sz a := by omega
      have hin := hI.bl.into a ha
      obtain ⟨r1, c, r2, r3⟩ := hI.reach (a : Int) ⟨by omega, by omega, by simpa using ha⟩
      have e : (a : Int).toNat = a := by omega
      rw [e] at r3
      by_cases g : (a : Int) < b.t
      · have := hR.apart _ _ _ _ r1 hr r2 ho g
        omega
      · by_cases g2 : b.t < (a : Int)
        · have := hR.apart _ _ _ _ hr r1 ho r2 g2
          omega
        · have : a = b.t.toNat := by omega
          subst this
          omega
    unfold Bt.markT
    rw [if_neg (by omega), if_neg (by omega), if_neg (by omega), if_pos hfree]
theorem InvM.step (hI : InvM P R S) (hR : RightM P R) (h : AllM P S) (hk : k < P.n) : InvM P R (stepM P S k) := by
  have hA' := h.step hk
  have hE := eff h hk
  generalize stepM P S k = S' at *
  cases hE with
  | rest x hX hz hf hh hp hs m1 m2 op pd =>
    refine hI.same hk hX hz (hf.trans hI.fault) pd (by rw [hh]; exact hI.hands k hk) (fun b g => absurd g (m2 b)) (by rw [hp]; exact hI.places k hk) op (fun r hr g => ?_) (fun p g _ => .inr (by rw [hp]; exact g)) (by unfold busyP; rw [hp, hs])
    rcases g with g | ⟨b, g, _⟩
    · exact .inr ⟨k, hk, .inl (by rw [hX, updM_at, hh]; exact g)⟩
    · exact absurd g (m1 b)
  | zero hs h0 ac hX hz hf pd =>
    refine hI.same hk hX hz (hf.trans hI.fault) pd (fun r hr => hI.hands k hk r (by rw [h0]; exact List.mem_cons_of_mem _ hr)) (fun b g => by simp only at g; rw [ac] at g; cases g) (hI.places k hk) (fun v g => by simp only at g; rw [ac] at g; cases g) (fun r hr g => ?_) (fun p g _ => .inr g) rfl
    rcases g with g | ⟨b, g, _⟩
    · rw [h0] at g
      rcases List.mem_cons.1 g with g | g
      · exact absurd g hr
      · exact .inr ⟨k, hk, .inl (by rw [hX, updM_at]; exact g)⟩
    · rw [ac] at g; cases g
  | bad r hs h0 hr ho =>
    exfalso
    obtain ⟨b, hb⟩ := hR.obj r (hI.hands k hk r (by rw [h0]; simp) hr)
    rw [ho] at hb; cases hb
  | good r hs b h0 hr ho ac hX hz hf pd =>
    have hbt : b.t = r := obj_t ho
    have hrr := hI.hands k hk r (by rw [h0]; simp) hr
    refine hI.same hk hX hz (hf.trans hI.fault) pd (fun r hr => hI.hands k hk r (by rw [h0]; exact List.mem_cons_of_mem _ hr)) (fun c g => by cases g; rw [hbt]; exact hrr) (hI.places k hk) (fun v g => by cases g) (fun r' hr' g => ?_) (fun p g _ => .inr g) rfl
    rcases g with g | ⟨c, g, _⟩
    · rw [h0] at g
      rcases List.mem_cons.1 g with g | g
      · exact .inr ⟨k, hk, .inr ⟨b, by rw [hX, updM_at], by rw [hbt, g]⟩⟩
      · exact .inr ⟨k, hk, .inl (by rw [hX, updM_at]; exact g)⟩
    · rw [ac] at g; cases g
  | again b ha hc hX hz hf pd =>
    have ho := (h.w k hk).mark b ha
    rcases mark_right hI hR (hI.mark k hk b ha) ho with ⟨g1, g2⟩ | ⟨g1, g0, g2⟩
    · rw [g2] at hz hf
      refine hI.same hk hX hz (hf.trans hI.fault) pd (hI.hands k hk) (fun c g => by cases g) (hI.places k hk) (fun v g => by cases g) (fun r hr g => ?_) (fun p g _ => .inr g) rfl
      rcases g with g | ⟨c, g, e⟩
      · exact .inr ⟨k, hk, .inl (by rw [hX, updM_at]; exact g)⟩
      · rw [ha] at g; cases g
        exact .inl (by rw [hz, ← e]; exact g1)
    · rw [g2] at hc; cases hc
  | first b ha hc hX hz hf pd =>
    have ho := (h.w k hk).mark b ha
    have hbr := hI.mark k hk b ha
    obtain ⟨_, o1, o2, o3⟩ := obj_in ho
    rcases mark_right hI hR hbr ho with ⟨g1, g2⟩ | ⟨g1, g0, g2⟩
    · rw [g2] at hc; cases hc
    · rw [g2] at hz hf
      replace hz : S'.sz = Bt.upd S.sz b.t.toNat b.s.toNat := hz
      have hm : ∀ t, isM P.hw.length S'.sz t ↔ isM P.hw.length S.sz t ∨ t = b.t := fun t => by
        rw [hz]
        unfold isM Bt.upd
        by_cases e : t.toNat = b.t.toNat
        · rw [if_pos e, e]
          constructor
          · intro g; right; omega
          · rintro (g | g)
            · omega
            · subst g; omega
        · rw [if_neg e]
          constructor
          · intro g; exact .inl g
          · rintro (g | g)
            · exact g
            · subst g; exact absurd rfl e
      have hnew : isM P.hw.length S'.sz b.t := (hm _).2 (.inr rfl)
      have hp0 : pF (oneT b.t) P S = 0 := by
        have q1 := hI.pend b.t
        have q2 := pF_nn (oneT_nn b.t) h
        unfold mk01 at q1
        rw [if_neg g1] at q1
        omega
      refine hI.next hk hX (by rw [hz]; have := Bt.markT_bl hI.bl b.t b.s; rw [← Bt.markC_eq, g2] at this; exact this) (hf.trans hI.fault) (fun t g => ?_) (fun t g => (hm t).2 (.inl g)) (hI.hands k hk) (fun c g => by cases g) (hI.places k hk) (fun v g => by cases g) (fun t => ?_) (fun r hr g => ?_) (fun t c q1 q2 q3 => ?_) (fun p g _ => .inr g) ?_
      · by_cases e : t = b.t
        · subst e
          refine ⟨hbr, b, ho, ?_⟩
          rw [hz]
          unfold Bt.upd
          rw [if_pos rfl]
          omega
        · have q := ((hm t).1 g).resolve_right e
          obtain ⟨r1, c, r2, r3⟩ := hI.reach t q
          refine ⟨r1, c, r2, ?_⟩
          rw [hz]
          unfold Bt.upd
          rw [if_neg (by have := q.1; omega)]
          exact r3
      · rw [pd]
        unfold mk01
        by_cases e : t = b.t
        · subst e
          rw [if_pos hnew, hp0]
          simp [oneT]
        · have q := hI.pend t
          unfold mk01 at q
          have e2 : oneT t b.t = 0 := by unfold oneT; rw [if_neg (fun g => e g.symm)]
          rw [e2]
          by_cases g : isM P.hw.length S.sz t
          · rw [if_pos g] at q
            rw [if_pos ((hm t).2 (.inl g))]
            omega
          · rw [if_neg g] at q
            split <;> omega
      · rcases g with g | ⟨c, g, e⟩
        · exact .inr ⟨k, hk, .inl (by rw [hX, updM_at]; exact g)⟩
        · rw [ha] at g; cases g
          exact .inl (by rw [← e]; exact hnew)
      · rw [pd] at q2
        by_cases e : t = b.t
        · subst e
          rw [hp0] at q2
          simp [oneT] at q2
        · have e2 : oneT t b.t = 0 := by unfold oneT; rw [if_neg (fun g => e g.symm)]
          rw [e2] at q2
          exact .inl ⟨((hm t).1 q1).resolve_right e, by omega⟩
      · rw [pd, hz, marks_upd g0 (by omega) _ (by omega)]
        have := hI.seen
        have e1 : busyP { S.X k with act := .push b (opNew .pushReadBottom b.t) } = busyP (S.X k) := rfl
        rw [e1]
        simp only [oneM]
        omega
  | place p ps h0 h1 ac hX hz hf pd =>
    have hpr := hI.places k hk
    rw [h1] at hpr
    refine hI.same hk hX hz (hf.trans hI.fault) pd (fun r hr h => ?_) (fun c g => by simp only at g; rw [ac] at g; cases g) (fun q hq => hpr q (List.mem_cons_of_mem _ hq)) (fun v g => by simp only at g; rw [ac] at g; cases g) (fun r hr g => ?_) (fun q g hw => ?_) ?_
    · simp at hr
      subst hr
      exact hpr p (by simp) h
    · rcases g with g | ⟨c, g, _⟩
      · rw [h0] at g; cases g
      · rw [ac] at g; cases g
    · rw [h1] at g
      rcases List.mem_cons.1 g with g | g
      · subst g
        exact .inl (.inr ⟨k, hk, .inl (by rw [hX, updM_at]; simp)⟩)
      · exact .inr g
    · unfold busyP oneIf
      rw [h1]
      simp only
      split <;> simp_all
  | scan b x ho h1 m1 hX m2 hh hp hs hz hf pd =>
    have hpl0 : (S.X k).places = [] := by
      rcases h1 with g | ⟨v, g⟩
      · exact g
      · exact (hI.opn k hk v g).2
    have hbm : isM P.hw.length S.sz b.t := hI.held (by
      have q1 := pd (oneT b.t)
      have q2 := pF_nn (oneT_nn b.t) hA'
      have q3 : oneT b.t b.t = 1 := by simp [oneT]
      omega)
    have hbr := (hI.reach _ hbm).1
    refine hI.next hk hX (by rw [hz]; exact hI.bl) (hf.trans hI.fault) (by rw [hz]; exact hI.reach) (fun t g => by rw [hz]; exact g) (by rw [hh]; exact hI.hands k hk) (fun c g => by rw [m2] at g; cases g) (fun p g hw => ?_) (fun v g => by rw [m2] at g; cases g) (fun t => ?_) (fun r hr g => ?_) (fun t c q1 q2 q3 => ?_) (fun p g _ => by rw [hpl0] at g; cases g) ?_
    · rw [hp] at g
      exact .step hbr ho g hw
    · have q1 := pd (oneT t)
      have q2 := hI.pend t
      have q3 := oneT_nn t b.t
      rw [hz]
      omega
    · rcases g with g | ⟨c, g, _⟩
      · exact .inr ⟨k, hk, .inl (by rw [hX, updM_at, hh]; exact g)⟩
      · exact absurd g (m1 c)
    · by_cases e : t = b.t
      · subst e
        rw [ho] at q3
        cases q3
        exact .inr hp
      · have q4 := pd (oneT t)
        have e2 : oneT t b.t = 0 := by unfold oneT; rw [if_neg (fun g => e g.symm)]
        rw [hz] at q1
        exact .inl ⟨q1, by omega⟩
    · have q4 := pd oneM
      have q5 := hI.seen
      have e1 : busyP (S.X k) = 0 := by unfold busyP; rw [if_pos hpl0]
      have e2 : x.seen + busyP x = (S.X k).seen + 1 := by
        unfold busyP oneIf at *
        rw [hs, hp]
        split <;> omega
      rw [hz, e1, e2]
      simp only [oneM] at q4
      omega
  | lost v ha ho =>
    exfalso
    have q1 := pF_ge (oneT_nn v) h hk
    have q2 : 1 ≤ gF (oneT v) (S.X k) := by
      unfold gF
      rw [ha]
      have : 0 ≤ keptF (oneT v) (S.X k).kept := by
        unfold keptF
        induction (S.X k).kept with
        | nil => exact Int.le_refl _
        | cons b l ih => rw [List.map_cons, List.sum_cons]; have := oneT_nn v b.t; omega
      have q3 : oneT v v = 1 := by simp [oneT]
      simp only [actF]
      omega
    obtain ⟨_, b, hb, _⟩ := hI.reach v (hI.held (by omega))
    rw [ho] at hb; cases hb
end
end Go.Proofs.YtgbclfhgpkmcnaaGreatDoor

/-
  The marker without memory: a new marker with roots ('start_inv'), and what is marked at the end ('InvM.over'). No Go is walked here.
-/
namespace Go.Proofs.YtgbclfhgpkmcnaaGreatDoor
set_option linter.unusedVariables false
set_option linter.unusedSimpArgs false

section
variable {P : MP} {R : List Int} {S : MS}
theorem RchM.mono {R' : List Int} (h : ∀ r, r ∈ R → r ∈ R') {t : Int} (ht : RchM P R t) : RchM P R' t := by
  induction ht with
  | root h1 h2 => exact .root (h _ h1) h2
  | step _ h1 h2 h3 ih => exact .step ih h1 h2 h3
theorem no_marks {N : Nat} {sz : Nat → Nat} (hz : ∀ t, sz t = 0) (t : Int) : ¬ isM N sz t := fun g => by have := g.2.2; rw [hz] at this; omega
theorem fresh_inv {sz : Nat → Nat} (hz : ∀ t, sz t = 0) (hs cs : Int) (L : Nat) : InvM P [] (MS.fresh (List.replicate L 0) sz hs cs) := by
  have hp : ∀ f, pF f P (MS.fresh (List.replicate L 0) sz hs cs) = 0 := fun f => by
    have h1 : sumTo (fun k => gF f ((MS.fresh (List.replicate L 0) sz hs cs).X k)) P.n = 0 := sumTo_zero (fun j hj => rfl)
    have h2 : totY f P (List.replicate L 0) (yM P (MS.fresh (List.replicate L 0) sz hs cs).X) = 0 := sumTo_zero (fun j hj => empty_hasY _ (by unfold EmptyV; rw [view_zero]; exact ⟨rfl, rfl⟩) rfl)
    unfold pF phi
    rw [h1, show (MS.fresh (List.replicate L 0) sz hs cs).l = List.replicate L 0 from rfl, h2]
    rfl
  refine ⟨⟨fun a ha => (by have := hz a; have e : (MS.fresh (List.replicate L 0) sz hs cs).sz a = sz a := rfl; omega), fun a b _ ha => (by have := hz a; have e : (MS.fresh (List.replicate L 0) sz hs cs).sz a = sz a := rfl; omega)⟩, rfl, fun t g => absurd g (no_marks hz t), fun k hk r hr => (by cases hr), fun k hk b g => (by cases g), fun k hk p g => (by cases g), fun k hk v g => (by cases g), fun t => ?_, fun r hr => (by cases hr), fun t b g => absurd g (no_marks hz t), ?_⟩
  · rw [hp]
    unfold mk01
    split <;> omega
  · rw [hp]
    have h1 : sumTo (fun k => ((MS.fresh (List.replicate L 0) sz hs cs).X k).seen + busyP ((MS.fresh (List.replicate L 0) sz hs cs).X k)) P.n = 0 := sumTo_zero (fun j hj => rfl)
    rw [h1]
    have : marksTo (MS.fresh (List.replicate L 0) sz hs cs).sz P.hw.length = 0 := by
      unfold marksTo
      exact Bt.cnt_zero fun j _ => by
        unfold Bt.begs
        rw [show (MS.fresh (List.replicate L 0) sz hs cs).sz j = 0 from hz j]
        rfl
    rw [this]
    rfl
theorem root_inv (h : AllM P S) (hC : ChM S) (hI : InvM P R S) (r : Nat) (y : Int) : InvM P (R ++ [y]) (rootM P.n S r y) := by
  have h1 := h.v.ok.n1
  have hk : r % P.n < P.n := Nat.mod_lt _ (by omega)
  obtain ⟨ha, he⟩ := hC (r % P.n)
  have hX : (rootM P.n S r y).X = updM S.X (r % P.n) { S.X (r % P.n) with hands := (S.X (r % P.n)).hands ++ [y] } := rfl
  obtain ⟨e1, e2⟩ := at_next hX
  have hmono : ∀ t, RchM P R t → RchM P (R ++ [y]) t := fun t g => g.mono (fun x hx => List.mem_append_left _ hx)
  have hv : vaM P (r % P.n) (S.X (r % P.n)) = .loc := by unfold vaM; rw [ha]
  have hv2 : vaM P (r % P.n) { S.X (r % P.n) with hands := (S.X (r % P.n)).hands ++ [y] } = .loc := by unfold vaM; simp only; rw [ha]
  have pd : ∀ f, pF f P (rootM P.n S r y) = pF f P S := fun f => p_loc0 f hk (fun v => by rw [hv]; rfl) { S.X (r % P.n) with hands := (S.X (r % P.n)).hands ++ [y] } (fun v => by rw [hv2]; rfl) rfl rfl rfl
  have hg : ∀ t, GotM P S t → GotM P (rootM P.n S r y) t := fun t g => by
    rcases g with g | ⟨j, hj, g⟩
    · exact .inl g
    · refine .inr ⟨j, hj, ?_⟩
      by_cases e : j = r % P.n
      · subst e
        rw [e1]
        rcases g with g | ⟨b, g, _⟩
        · exact .inl (List.mem_append_left _ g)
        · rw [ha] at g; cases g
      · rw [e2 j e]; exact g
  refine ⟨hI.bl, hI.fault, fun t g => ⟨hmono t (hI.reach t g).1, (hI.reach t g).2⟩, fun j hj z hz h0 => ?_, fun j hj b g => ?_, fun j hj p g hw => ?_, fun j hj v g => ?_, fun t => by rw [pd]; exact hI.pend t, fun z hz h0 => ?_, fun t b g q ho p hp hw => ?_, ?_⟩
  · by_cases e : j = r % P.n
    · subst e
      rw [e1] at hz
      rcases List.mem_append.1 hz with g | g
      · exact hmono z (hI.hands _ hj z g h0)
      · simp at g
        subst g
        exact .root (by simp) h0
    · rw [e2 j e] at hz
      exact hmono z (hI.hands j hj z hz h0)
  · by_cases e : j = r % P.n
    · subst e
      rw [e1] at g
      simp only at g
      rw [ha] at g; cases g
    · rw [e2 j e] at g
      exact hmono _ (hI.mark j hj b g)
  · by_cases e : j = r % P.n
    · subst e
      rw [e1] at g
      exact hmono _ (hI.places _ hj p g hw)
    · rw [e2 j e] at g
      exact hmono _ (hI.places j hj p g hw)
  · by_cases e : j = r % P.n
    · subst e
      rw [e1] at g
      simp only at g
      rw [ha] at g; cases g
    · rw [e2 j e] at g ⊢
      exact hI.opn j hj v g
  · rcases List.mem_append.1 hz with g | g
    · exact hg z (hI.root z g h0)
    · simp at g
      subst g
      exact .inr ⟨r % P.n, hk, .inl (by rw [e1]; simp)⟩
  · rw [pd] at q
    rcases hI.clos t b g q ho p hp hw with g2 | ⟨j, hj, g2⟩
    · exact .inl (hg _ g2)
    · refine .inr ⟨j, hj, ?_⟩
      by_cases e : j = r % P.n
      · subst e; rw [e1]; exact g2
      · rw [e2 j e]; exact g2
  · rw [hX, upd_seen hk, pd]
    have := hI.seen
    have e3 : busyP { S.X (r % P.n) with hands := (S.X (r % P.n)).hands ++ [y] } = busyP (S.X (r % P.n)) := rfl
    rw [e3]
    simp only
    show _ = (marksTo S.sz P.hw.length : Int)
    omega
theorem roots_inv : ∀ (rs : List Int) {R : List Int} {S : MS} (r : Nat), AllM P S → ChM S → Bt.Bl P.hw.length S.sz → InvM P R S → InvM P (R ++ rs) (rootsM P.n S r rs)
  | [], R, S, r, h, hC, hB, hI => by rw [List.append_nil]; exact hI
  | y :: ys, R, S, r, h, hC, hB, hI => by
    obtain ⟨a1, a2, a3, a4⟩ := root_all h hC hB r y
    have := roots_inv ys (r + 1) a1 a2 (by rw [a4]; exact hB) (root_inv h hC hI r y)
    rw [List.append_assoc] at this
    exact this
/-- Where all have ended: nothing is pending. -/
theorem ended_none (h : AllM P S) (he : ∀ k, k < P.n → (S.X k).ended = true) : (∀ f, pF f P S = 0) ∧ ∀ k, k < P.n → (S.X k).hands = [] ∧ (S.X k).places = [] ∧ noMark (S.X k).act := by
  have hact : ∀ k, k < P.n → ∃ o, (S.X k).act = .end_ o ∧ o.state = 2 := fun k hk => (h.w k hk).ended.1 (he k hk)
  have hcnt : S.l.getD 0 0 = (P.n : Int) := by
    have hC := h.v.cnt
    unfold CntV at hC
    rw [hC, sumTo_congr (h := fun _ => (1 : Int)) (fun k hk => ?_), sumTo_const _ 1 P.n (fun _ => rfl)]
    · omega
    · obtain ⟨o, g1, g2⟩ := hact k hk
      have hv : yM P S.X k = .offer o := by unfold yM vaM; rw [g1]
      rw [hv]
      exact if_neg (fun q => by rw [g2] at q; exact absurd q.1 (by decide))
  have hE := h.v.full hcnt
  refine ⟨fun f => ?_, fun k hk => ?_⟩
  · have h1 : sumTo (fun k => gF f (S.X k)) P.n = 0 := sumTo_zero (fun k hk => by
      obtain ⟨o, g1, g2⟩ := hact k hk
      have hn := (h.w k hk).offer o g1
      unfold gF
      rw [g1, hn.2.2]
      rfl)
    have h2 : totY f P S.l (yM P S.X) = 0 := sumTo_zero (fun k hk => by
      obtain ⟨o, g1, g2⟩ := hact k hk
      have hv : yM P S.X k = .offer o := by unfold yM vaM; rw [g1]
      exact empty_hasY _ (hE k hk).1 (by rw [hv]; rfl))
    unfold pF phi
    rw [h1, h2]
    rfl
  · obtain ⟨o, g1, g2⟩ := hact k hk
    have hn := (h.w k hk).offer o g1
    exact ⟨hn.1, hn.2.1, fun b g => by rw [g1] at g; cases g⟩
/-- What is marked at the end: just what is reached, each by its size, and each was scanned once. -/
theorem InvM.over (hI : InvM P R S) (h : AllM P S) (he : ∀ k, k < P.n → (S.X k).ended = true) : (∀ t, isM P.hw.length S.sz t ↔ RchM P R t) ∧ sumTo (fun k => (S.X k).seen) P.n = (marksTo S.sz P.hw.length : Int) := by
  obtain ⟨p0, pn⟩ := ended_none h he
  have hgot : ∀ r, GotM P S r → isM P.hw.length S.sz r := fun r g => by
    rcases g with g | ⟨k, hk, g | ⟨b, g, _⟩⟩
    · exact g
    · rw [(pn k hk).1] at g; cases g
    · exact absurd g ((pn k hk).2.2 b)
  refine ⟨fun t => ⟨fun g => (hI.reach t g).1, fun g => ?_⟩, ?_⟩
  · induction g with
    | root h1 h2 => exact hgot _ (hI.root _ h1 h2)
    | step _ h1 h2 h3 ih =>
      rcases hI.clos _ _ ih (by rw [p0]; exact Int.le_refl _) h1 _ h2 h3 with g | ⟨k, hk, g⟩
      · exact hgot _ g
      · rw [(pn k hk).2.1] at g; cases g
  · rw [← hI.seen, p0, Int.add_zero]
    refine sumTo_congr (fun k hk => ?_)
    unfold busyP
    rw [if_pos (pn k hk).2.1]
    omega
end
end Go.Proofs.YtgbclfhgpkmcnaaGreatDoor

/-
  The example in every statement of layer 11, without memory: it is played out.
-/
namespace Go.Proofs.YtgbclfhgpkmcnaaGreatDoor
open Go.RowKit
set_option linter.unusedVariables false

def H11 : List Int × List Int := heapOf [⟨0, 0, [1]⟩, ⟨2, 2, []⟩] 11
def P11 : MP := ⟨H11.1, four, 1, 2, 2⟩
def S11 : MS := rootsM 1 (MS.fresh (List.replicate 9 0) (fun _ => 0) 0 0) 0 [1, 0]
def it11 : Nat → MS
  | 0 => S11
  | j + 1 => stepM P11 (it11 j) 0

instance (C : Cfg) (o : OpS) : Decidable (CntOk C o) := by unfold CntOk; split <;> infer_instance
instance (C : Cfg) (l : List Int) (o : OpS) (N : Int) : Decidable (Fit C l o N) :=
  decidable_of_iff ((-N ≤ rd C l 0 ∧ rd C l 0 ≤ N) ∧ (-N ≤ rd C l 1 ∧ rd C l 1 ≤ N) ∧ (-N ≤ o.top ∧ o.top ≤ N) ∧ (-N ≤ o.bottom ∧ o.bottom ≤ N) ∧ CntOk C o) ⟨fun h => ⟨h.1, h.2.1, h.2.2.1, h.2.2.2.1, h.2.2.2.2⟩, fun h => ⟨h.t, h.b, h.ot, h.ob, h.cnt⟩⟩
instance (Q : QC) (o : OfS) : Decidable (QOk Q o) := by unfold QOk; split <;> infer_instance
instance (x : Int) : Decidable (In64 x) := by unfold In64; infer_instance
def decAnd {p q : Prop} (h1 : Decidable p) (h2 : Decidable q) : Decidable (p ∧ q) := inferInstance
def decImp {p q : Prop} (h1 : Decidable p) (h2 : Decidable q) : Decidable (p → q) := inferInstance
instance (P : MP) (S : MS) (k : Nat) : Decidable (MayM P S k) := by
  unfold MayM
  refine decImp inferInstance (decAnd inferInstance (decAnd inferInstance (decAnd inferInstance (decAnd inferInstance (decAnd inferInstance (decAnd inferInstance ?_))))))
  split
  · split
    · infer_instance
    · split
      · infer_instance
      · split <;> infer_instance
  · infer_instance
  · infer_instance
  · infer_instance
  · infer_instance
  · infer_instance

theorem h11_is : H11 = ([0, 4611686022722355200, 5, 0, 100003, 4611686031312289794, 100065, 100066, 4611686018427387906, 0, 0], [1, 5]) := by decide +kernel
set_option maxRecDepth 100000 in
/-- Each step may be done; the worker has ended with the 39th. -/
theorem aw11 : ∀ j, j < 39 → MayM P11 (it11 j) 0 ∧ ((it11 (j + 1)).X 0).ended = decide (j + 1 = 39) := by decide +kernel
theorem aw11_end : ((it11 39).X 0).ended = true ∧ ((it11 39).X 0).seen = 2 ∧ (it11 39).fault = 0 ∧ (it11 39).sz 1 = 4 ∧ (it11 39).sz 5 = 3 ∧ (List.range 11).map (it11 39).sz = [0, 4, 0, 0, 0, 3, 0, 0, 0, 0, 0] := by decide +kernel
end Go.Proofs.YtgbclfhgpkmcnaaGreatDoor

/-
  Root of a marker, with another row of refs that stays to be read ('mroot_two': for a Root that is said again).
-/
namespace Go.Proofs.YtgbclfhgpkmcnaaGreatDoor
open Go.RowKit
set_option linter.unusedVariables false
set_option linter.unusedSimpArgs false
section
variable {P : MP} {I : Ids} {w0 w : World} {ds ws : List Nat} {S : MS} {Bs : Nat → List Nat}
set_option maxRecDepth 100000 in
set_option maxHeartbeats 4000000 in
theorem mroot_two (bo : Option Addr) (U : List Int) (r : Nat) (T : List Int) (ao : Option Addr) (cap : Nat) (h : Mk P { I with roots := (r : Int) } w0 w ds ws S Bs) (hb : r + T.length ≤ 1000000) (ha : ∀ k, k < P.n → (S.X k).act = .choose) (hh : ∀ k, k < P.n → (S.X k).hands.length ≤ 1000000) (hT : RootRd w ao T P.n Bs) (hU : RootRd w bo U P.n Bs) :
    Calls Tryz.prog 14 #[.pointer (some ⟨I.M, 0, none⟩), .slice ao T.length cap] w fun e w' => e = .returned (.tuple #[]) ∧ ∃ Bs', Mk P { I with roots := ((r + T.length : Nat) : Int) } w0 w' ds ws (rootsM P.n S r T) Bs' ∧ RootRd w' bo U P.n Bs' := by
  have HN := hide (none_false P { I with roots := (r : Int) } w0 w ds ws S Bs h 0)
  have hn := h.n
  have HRound : Hid (∀ (j : Nat) (y : Int) (wr : World) (Bs' : Nat → List Nat), T[j]? = some y → RootRd wr ao T P.n Bs' → RootRd wr bo U P.n Bs' → Mk P { I with roots := ((r + j : Nat) : Int) } w0 wr ds ws (rootsM P.n S r (T.take j)) Bs' → ∃ zb off, ao = some ⟨zb, off, none⟩ ∧ wr.cell? ⟨zb, off + j, none⟩ = some (.int .i64 y) ∧ wr.cell? ⟨I.M, 3, none⟩ = some (.slice (some ⟨I.gw, 0, none⟩) P.n I.cw) ∧ wr.cell? ⟨I.M, 4, none⟩ = some (.int .i64 ((r + j : Nat) : Int)) ∧
      ∃ (b m : Nat) (hv : Value) (gh : List Nat) (H : List Int), H.length = m ∧ m ≤ 2000000 ∧ wr.cell? ⟨I.gw, (r + j) % P.n, none⟩ = some (.pointer (some ⟨b, 0, none⟩)) ∧ wr.cell? ⟨b, 3, none⟩ = some hv ∧ (∀ d, Sl 2 ((wr.drewN d).alloc (.cells #[.int .i64 y] 2)) hv H gh) ∧
      ∀ (d b3 off3 cap3 : Nat) (w3 : World), Sl 2 w3 (.slice (some ⟨b3, off3, none⟩) (H.length + 1) cap3) (H ++ [y]) [b3] → (b3 ∈ gh ∨ ((wr.drewN d).alloc (.cells #[.int .i64 y] 2)).heap.size ≤ b3) → Turned gh ((wr.drewN d).alloc (.cells #[.int .i64 y] 2)) w3 →
        w3.cell? ⟨b, 3, none⟩ = some hv ∧ w3.frozen? ⟨b, 3, none⟩ = false ∧ (w3.cell? ⟨I.M, 4, none⟩ = some (.int .i64 ((r + j : Nat) : Int)) ∧ b ≠ I.M) ∧ w3.frozen? ⟨I.M, 4, none⟩ = false ∧
        ∃ Bs2, Mk P { I with roots := ((r + (j + 1) : Nat) : Int) } w0 ((w3.setCell ⟨b, 3, none⟩ (.slice (some ⟨b3, off3, none⟩) (H.length + 1) cap3)).setCell ⟨I.M, 4, none⟩ (.int .i64 ((r + (j + 1) : Nat) : Int))) ds ws (rootsM P.n S r (T.take (j + 1))) Bs2 ∧ RootRd ((w3.setCell ⟨b, 3, none⟩ (.slice (some ⟨b3, off3, none⟩) (H.length + 1) cap3)).setCell ⟨I.M, 4, none⟩ (.int .i64 ((r + (j + 1) : Nat) : Int))) ao T P.n Bs2 ∧ RootRd ((w3.setCell ⟨b, 3, none⟩ (.slice (some ⟨b3, off3, none⟩) (H.length + 1) cap3)).setCell ⟨I.M, 4, none⟩ (.int .i64 ((r + (j + 1) : Nat) : Int))) bo U P.n Bs2) := by
    intro j y wr Bs' hy hR hR2 hM
    have hk : (r + j) % P.n < P.n := Nat.mod_lt _ (by omega)
    have hjl := (List.getElem?_eq_some_iff.1 hy).1
    obtain ⟨zb, off, c, fr, e1, e2, e3, e4⟩ := hR j y hy
    have hact : ∀ (T : List Int) (S : MS) (r : Nat) k, (S.X k).act = .choose → ((rootsM P.n S r T).X k).act = .choose := by
      intro T
      induction T with
      | nil => intro S r k h; exact h
      | cons x T ih =>
        intro S r k h
        refine ih _ _ k ?_
        unfold rootM updM
        simp only
        split
        · rename_i e; subst e; exact h
        · exact h
    obtain ⟨b, hv, gh, f1, f2, f3, f4⟩ := hM.hand ((r + j) % P.n) hk (hact _ _ _ _ (ha _ hk)) y
    have hlen := rootsM_hands P.n ((r + j) % P.n) (T.take j) S r
    have hh2 := hh _ hk
    have htl : (T.take j).length ≤ 1000000 := by simp; omega
    refine ⟨zb, off, e1, by rw [cell_of_heap e2]; exact e3, by rw [hM.mkr.f 3]; show some (Value.slice _ I.n I.cw) = _; rw [hn.2.2.2.2], hM.mkr.f 4, b, _, hv, gh, _, rfl, by omega, f1, f2, fun d => f3, fun d b3 off3 cap3 w3 q1 q2 q3 => ?_⟩
    obtain ⟨g1, g2, g3, g4, g5⟩ := f4 b3 off3 cap3 w3 q1 q2 ⟨q3.os, q3.tape, q3.output, q3.size, q3.block⟩
    obtain ⟨Bs2, k1, k2, k3⟩ := g5 ((r + (j + 1) : Nat) : Int)
    have keep : ∀ (ao : Option Addr) (T : List Int), RootRd wr ao T P.n Bs' → RootRd ((w3.setCell ⟨b, 3, none⟩ (.slice (some ⟨b3, off3, none⟩) (_ + 1) cap3)).setCell ⟨I.M, 4, none⟩ (.int .i64 ((r + (j + 1) : Nat) : Int))) ao T P.n Bs2 := fun ao T hR i x hx => by
      obtain ⟨zb2, off2, c2, fr2, d1, d2, d3, d4⟩ := hR i x hx
      refine ⟨zb2, off2, c2, fr2, d1, k3 zb2 c2 fr2 d2 (d4 _ hk), d3, fun j' hj' hm => ?_⟩
      rcases k2 j' zb2 hm with g | g
      · exact d4 j' hj' g
      · have := lt_of_heap d2
        omega
    refine ⟨g1, g2, g3, g4, Bs2, ?_, keep ao T hR, keep bo U hR2⟩
    · have e5 : rootsM P.n S r (T.take (j + 1)) = rootM P.n (rootsM P.n S r (T.take j)) (r + j) y := by
        rw [take_snocL hy, rootsM_snoc]
        congr 2
        simp
        omega
      rw [e5]
      exact k1
  have hn4 := hn.2.2.2.1
  have hn1 := hn.2.2.1
  have h00 := hide h
  have hT0 := hide hT
  have hU0 := hide hU
  clear h hn ha hh hT hU
  have HS0 : Hid (rootsM P.n S r (T.take 0) = S) := rfl
  have HE : Hid (∀ j, T.length ≤ j → T.take j = T) := fun j hj => List.take_of_length_le (by omega)
  have HTl : Hid (∀ j, j < T.length → ∃ y, T[j]? = some y) := fun j hj => ⟨T[j]'(by omega), by simp⟩
  generalize rootsM P.n S r = SS at *
  generalize P.n = n at *
  generalize T.length = L at *
  go_enter Tryz.func14, Tryz.ntmps14
  go_wp2_with fail
  refine HN.out.mono ?_
  rintro e wz ⟨rfl, hwz⟩
  rw [hwz, World.drewN_zero]
  clear hwz wz HN
  go_wp2_with fail
  go_loopg [5, 6, 11, 12, 13, 14, 15, 16, 17, 18, 19, 20, 21, 22, 23, 24, 25, 26, 27, 28, 29, 30, 31, 32, 33, 34, 35, 36, 37, 38, 39, 40, 41, 42, 43, 44, 45, 46, 47, 48] L (fun gg _ _ s11 _ _ _ _ _ _ _ _ _ _ _ _ _ _ _ _ _ _ _ _ _ _ _ _ _ _ _ _ _ _ _ _ _ _ _ _ _ wr => ∃ (j : Nat), s11 = .int .i64 (j : Int) ∧ j ≤ L ∧ L - j ≤ gg ∧ Aside (∃ Bs', Mk P { I with roots := ((r + j : Nat) : Int) } w0 wr ds ws (SS (T.take j)) Bs' ∧ RootRd wr ao T n Bs' ∧ RootRd wr bo U n Bs'))
  case atStart => exact ⟨0, rfl, Nat.zero_le _, by omega, Bs, by rw [HS0.out]; exact h00.out, hT0.out, hU0.out⟩
  case round =>
    obtain ⟨j, rfl, hj, hgg, HI⟩ := hrel
    by_cases hlt : j < L
    · have hltz : (j : Int) < (L : Int) := by omega
      obtain ⟨y, hy⟩ := HTl.out j hlt
      obtain ⟨Bs', hM, hR, hR2⟩ := HI.out
      obtain ⟨zb, off, rfl, c1, c2, c3, b, m, hv, gh, H, hHm, hm2, c4, c5, c6, c7⟩ := HRound.out j y wr Bs' hy hR hR2 hM
      have H6 := hide (And.intro c6 c7)
      have hmod : ((r + j : Nat) : Int).tmod (n : Int) = (((r + j) % n : Nat) : Int) := by
        rw [Int.tmod_eq_emod_of_nonneg (by omega)]; simp
      have hnz : ¬ ((n : Int) = 0) := by omega
      have hmlt : (r + j) % n < n := Nat.mod_lt _ (by omega)
      have hadd : wrap64 (((r + j : Nat) : Int) + 1) = ((r + (j + 1) : Nat) : Int) := by rw [w64 _ (by omega)]; omega
      generalize (r + j) % n = k at *
      generalize hr2 : ((r + (j + 1) : Nat) : Int) = r2 at *
      have HR2 := hide hr2
      clear hr2
      generalize ((r + j : Nat) : Int) = r1 at *
      clear HI hM hR hR2 HRound c6 c7 hy HTl HE HS0 h00 hT0 hU0
      go_wp2_with fail
      go_quiet (fail)
      go_wp2_with (at_builtin; (refine wpList_append_sl _ rfl _ _ rfl hv H y gh rfl (H6.out.1 _) wr.heap.size rfl (cell_of_heap (heap_alloc_new _ _) 0) (by omega) ?_); intro b3 off3 cap3 w3 q1 q2 q3; obtain ⟨r1', r2', ⟨r3', r6'⟩, r4', r5'⟩ := H6.out.2 _ b3 off3 cap3 w3 q1 q2 q3; have H7 := hide r5'; clear q1 q2 q3 r5' H6)
      obtain ⟨Bs2, h8, h9, h10⟩ := H7.out
      have H8 := hide (And.intro h8 (And.intro h9 h10))
      clear h8 h9 h10 H7
      go_roundg (L - (j + 1))
      case measure => omega
      case rel => exact ⟨j + 1, by go_num, by omega, Nat.le_refl _, Bs2, (by rw [HR2.out, ← hHm]; exact H8.out.1), (by rw [← hHm]; exact H8.out.2.1), (by rw [← hHm]; exact H8.out.2.2)⟩
    · have hjm : j = L := by omega
      have hltz : ¬ (j : Int) < (L : Int) := by omega
      subst hjm
      obtain ⟨Bs', hM, _, hR⟩ := HI.out
      rw [HE.out j (Nat.le_refl _)] at hM
      have HM := hide (And.intro hM hR)
      clear hM hR HI HRound
      go_wp2_with fail
      first | refine bodyPost_end (results_none rfl _ _ _) rfl ?_ | refine bodyPost_ret (results_none rfl _ _ _) rfl ?_
      exact ⟨rfl, _, HM.out.1, HM.out.2⟩
end
end Go.Proofs.YtgbclfhgpkmcnaaGreatDoor

/-
  Root of a marker with refs that stood there ahead of it ('mroot_old').
-/
namespace Go.Proofs.YtgbclfhgpkmcnaaGreatDoor
open Go.RowKit
set_option linter.unusedVariables false
set_option linter.unusedSimpArgs false

/-- Refs that stood at w0, in no block of F. -/
def RootOld (w0 : World) (F : List Nat) (ao : Option Addr) (T : List Int) : Prop :=
  ∀ (i : Nat) x, T[i]? = some x → ∃ b off, ao = some ⟨b, off, none⟩ ∧ b < w0.heap.size ∧ b ∉ F ∧ w0.cell? ⟨b, off + i, none⟩ = some (.int .i64 x)
section
variable {P : MP} {I : Ids} {w0 w : World} {ds ws : List Nat} {S : MS} {Bs : Nat → List Nat}
set_option maxRecDepth 100000 in
set_option maxHeartbeats 4000000 in
theorem mroot_old (r : Nat) (T : List Int) (ao : Option Addr) (cap : Nat) (h : Mk P { I with roots := (r : Int) } w0 w ds ws S Bs) (hb : r + T.length ≤ 1000000) (ha : ∀ k, k < P.n → (S.X k).act = .choose) (hh : ∀ k, k < P.n → (S.X k).hands.length ≤ 1000000) (hT : RootOld w0 I.five ao T) :
    Calls Tryz.prog 14 #[.pointer (some ⟨I.M, 0, none⟩), .slice ao T.length cap] w fun e w' => e = .returned (.tuple #[]) ∧ ∃ Bs', Mk P { I with roots := ((r + T.length : Nat) : Int) } w0 w' ds ws (rootsM P.n S r T) Bs' := by
  have HN := hide (none_false P { I with roots := (r : Int) } w0 w ds ws S Bs h 0)
  have hn := h.n
  have HRound : Hid (∀ (j : Nat) (y : Int) (wr : World) (Bs' : Nat → List Nat), T[j]? = some y → Mk P { I with roots := ((r + j : Nat) : Int) } w0 wr ds ws (rootsM P.n S r (T.take j)) Bs' → ∃ zb off, ao = some ⟨zb, off, none⟩ ∧ wr.cell? ⟨zb, off + j, none⟩ = some (.int .i64 y) ∧ wr.cell? ⟨I.M, 3, none⟩ = some (.slice (some ⟨I.gw, 0, none⟩) P.n I.cw) ∧ wr.cell? ⟨I.M, 4, none⟩ = some (.int .i64 ((r + j : Nat) : Int)) ∧
      ∃ (b m : Nat) (hv : Value) (gh : List Nat) (H : List Int), H.length = m ∧ m ≤ 2000000 ∧ wr.cell? ⟨I.gw, (r + j) % P.n, none⟩ = some (.pointer (some ⟨b, 0, none⟩)) ∧ wr.cell? ⟨b, 3, none⟩ = some hv ∧ (∀ d, Sl 2 ((wr.drewN d).alloc (.cells #[.int .i64 y] 2)) hv H gh) ∧
      ∀ (d b3 off3 cap3 : Nat) (w3 : World), Sl 2 w3 (.slice (some ⟨b3, off3, none⟩) (H.length + 1) cap3) (H ++ [y]) [b3] → (b3 ∈ gh ∨ ((wr.drewN d).alloc (.cells #[.int .i64 y] 2)).heap.size ≤ b3) → Turned gh ((wr.drewN d).alloc (.cells #[.int .i64 y] 2)) w3 →
        w3.cell? ⟨b, 3, none⟩ = some hv ∧ w3.frozen? ⟨b, 3, none⟩ = false ∧ (w3.cell? ⟨I.M, 4, none⟩ = some (.int .i64 ((r + j : Nat) : Int)) ∧ b ≠ I.M) ∧ w3.frozen? ⟨I.M, 4, none⟩ = false ∧
        ∃ Bs2, Mk P { I with roots := ((r + (j + 1) : Nat) : Int) } w0 ((w3.setCell ⟨b, 3, none⟩ (.slice (some ⟨b3, off3, none⟩) (H.length + 1) cap3)).setCell ⟨I.M, 4, none⟩ (.int .i64 ((r + (j + 1) : Nat) : Int))) ds ws (rootsM P.n S r (T.take (j + 1))) Bs2) := by
    intro j y wr Bs' hy hM
    have hk : (r + j) % P.n < P.n := Nat.mod_lt _ (by omega)
    have hjl := (List.getElem?_eq_some_iff.1 hy).1
    obtain ⟨zb, off, e1, e2, e3, e4⟩ := hT j y hy
    have hact : ∀ (T : List Int) (S : MS) (r : Nat) k, (S.X k).act = .choose → ((rootsM P.n S r T).X k).act = .choose := by
      intro T
      induction T with
      | nil => intro S r k h; exact h
      | cons x T ih =>
        intro S r k h
        refine ih _ _ k ?_
        unfold rootM updM
        simp only
        split
        · rename_i e; subst e; exact h
        · exact h
    obtain ⟨b, hv, gh, f1, f2, f3, f4⟩ := hM.hand ((r + j) % P.n) hk (hact _ _ _ _ (ha _ hk)) y
    have hlen := rootsM_hands P.n ((r + j) % P.n) (T.take j) S r
    have hh2 := hh _ hk
    have htl : (T.take j).length ≤ 1000000 := by simp; omega
    refine ⟨zb, off, e1, by rw [hM.tu.cell (p := ⟨zb, off + j, none⟩) e2 e3]; exact e4, by rw [hM.mkr.f 3]; show some (Value.slice _ I.n I.cw) = _; rw [hn.2.2.2.2], hM.mkr.f 4, b, _, hv, gh, _, rfl, by omega, f1, f2, fun d => f3, fun d b3 off3 cap3 w3 q1 q2 q3 => ?_⟩
    obtain ⟨g1, g2, g3, g4, g5⟩ := f4 b3 off3 cap3 w3 q1 q2 ⟨q3.os, q3.tape, q3.output, q3.size, q3.block⟩
    obtain ⟨Bs2, k1, k2, k3⟩ := g5 ((r + (j + 1) : Nat) : Int)
    refine ⟨g1, g2, g3, g4, Bs2, ?_⟩
    have e5 : rootsM P.n S r (T.take (j + 1)) = rootM P.n (rootsM P.n S r (T.take j)) (r + j) y := by
      rw [take_snocL hy, rootsM_snoc]
      congr 2
      simp
      omega
    rw [e5]
    exact k1
  have hn4 := hn.2.2.2.1
  have hn1 := hn.2.2.1
  have h00 := hide h
  clear h hn ha hh hT
  have HS0 : Hid (rootsM P.n S r (T.take 0) = S) := rfl
  have HE : Hid (∀ j, T.length ≤ j → T.take j = T) := fun j hj => List.take_of_length_le (by omega)
  have HTl : Hid (∀ j, j < T.length → ∃ y, T[j]? = some y) := fun j hj => ⟨T[j]'(by omega), by simp⟩
  generalize rootsM P.n S r = SS at *
  generalize P.n = n at *
  generalize T.length = L at *
  go_enter Tryz.func14, Tryz.ntmps14
  go_wp2_with fail
  refine HN.out.mono ?_
  rintro e wz ⟨rfl, hwz⟩
  rw [hwz, World.drewN_zero]
  clear hwz wz HN
  go_wp2_with fail
  go_loopg [5, 6, 11, 12, 13, 14, 15, 16, 17, 18, 19, 20, 21, 22, 23, 24, 25, 26, 27, 28, 29, 30, 31, 32, 33, 34, 35, 36, 37, 38, 39, 40, 41, 42, 43, 44, 45, 46, 47, 48] L (fun gg _ _ s11 _ _ _ _ _ _ _ _ _ _ _ _ _ _ _ _ _ _ _ _ _ _ _ _ _ _ _ _ _ _ _ _ _ _ _ _ _ wr => ∃ (j : Nat), s11 = .int .i64 (j : Int) ∧ j ≤ L ∧ L - j ≤ gg ∧ Aside (∃ Bs', Mk P { I with roots := ((r + j : Nat) : Int) } w0 wr ds ws (SS (T.take j)) Bs'))
  case atStart => exact ⟨0, rfl, Nat.zero_le _, by omega, Bs, by rw [HS0.out]; exact h00.out⟩
  case round =>
    obtain ⟨j, rfl, hj, hgg, HI⟩ := hrel
    by_cases hlt : j < L
    · have hltz : (j : Int) < (L : Int) := by omega
      obtain ⟨y, hy⟩ := HTl.out j hlt
      obtain ⟨Bs', hM⟩ := HI.out
      obtain ⟨zb, off, rfl, c1, c2, c3, b, m, hv, gh, H, hHm, hm2, c4, c5, c6, c7⟩ := HRound.out j y wr Bs' hy hM
      have H6 := hide (And.intro c6 c7)
      have hmod : ((r + j : Nat) : Int).tmod (n : Int) = (((r + j) % n : Nat) : Int) := by
        rw [Int.tmod_eq_emod_of_nonneg (by omega)]; simp
      have hnz : ¬ ((n : Int) = 0) := by omega
      have hmlt : (r + j) % n < n := Nat.mod_lt _ (by omega)
      have hadd : wrap64 (((r + j : Nat) : Int) + 1) = ((r + (j + 1) : Nat) : Int) := by rw [w64 _ (by omega)]; omega
      generalize (r + j) % n = k at *
      generalize hr2 : ((r + (j + 1) : Nat) : Int) = r2 at *
      have HR2 := hide hr2
      clear hr2
      generalize ((r + j : Nat) : Int) = r1 at *
      clear HI hM HRound c6 c7 hy HTl HE HS0 h00
      go_wp2_with fail
      go_quiet (fail)
      go_wp2_with (at_builtin; (refine wpList_append_sl _ rfl _ _ rfl hv H y gh rfl (H6.out.1 _) wr.heap.size rfl (cell_of_heap (heap_alloc_new _ _) 0) (by omega) ?_); intro b3 off3 cap3 w3 q1 q2 q3; obtain ⟨r1', r2', ⟨r3', r6'⟩, r4', r5'⟩ := H6.out.2 _ b3 off3 cap3 w3 q1 q2 q3; have H7 := hide r5'; clear q1 q2 q3 r5' H6)
      obtain ⟨Bs2, h8⟩ := H7.out
      have H8 := hide h8
      clear h8 H7
      go_roundg (L - (j + 1))
      case measure => omega
      case rel => exact ⟨j + 1, by go_num, by omega, Nat.le_refl _, Bs2, (by rw [HR2.out, ← hHm]; exact H8.out)⟩
    · have hjm : j = L := by omega
      have hltz : ¬ (j : Int) < (L : Int) := by omega
      subst hjm
      obtain ⟨Bs', hM⟩ := HI.out
      rw [HE.out j (Nat.le_refl _)] at hM
      have HM := hide hM
      clear hM HI HRound
      go_wp2_with fail
      first | refine bodyPost_end (results_none rfl _ _ _) rfl ?_ | refine bodyPost_ret (results_none rfl _ _ _) rfl ?_
      exact ⟨rfl, _, HM.out⟩
end
end Go.Proofs.YtgbclfhgpkmcnaaGreatDoor
