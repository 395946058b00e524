/-
  The heap as segments that lie one behind the other: told blocks, fillers, buffers ('Tl'); what asks do to it, without memory.
-/
import Derived.Test.YtelljfckffmjmaaArenaAlone
namespace Go.Proofs.Ytelljfckffmjmaa
open Go.RowKit
set_option linter.unusedVariables false

inductive Kd
  | obj | fil | buf (w : Nat)
deriving DecidableEq

/-- How many told blocks begin below n. -/
def objs (nx : Nat → Nat) (kd : Nat → Kd) : Nat → Nat
  | 0 => 0
  | n + 1 => objs nx kd n + if 0 < nx n ∧ kd n = .obj then 1 else 0

theorem objs_same {nx nx' : Nat → Nat} {kd kd' : Nat → Kd} (n : Nat) (h : ∀ p, p < n → ((0 < nx' p ∧ kd' p = .obj) ↔ (0 < nx p ∧ kd p = .obj))) : objs nx' kd' n = objs nx kd n := by
  induction n with
  | zero => rfl
  | succ n ih =>
    unfold objs
    rw [ih (fun p hp => h p (by omega))]
    have := h n (by omega)
    by_cases c : 0 < nx n ∧ kd n = .obj
    · rw [if_pos c, if_pos (this.2 c)]
    · rw [if_neg c, if_neg (fun hh => c (this.1 hh))]
theorem objs_one {nx nx' : Nat → Nat} {kd kd' : Nat → Kd} (s n : Nat) (hs : s < n) (h0 : ¬ (0 < nx s ∧ kd s = .obj)) (h1 : 0 < nx' s ∧ kd' s = .obj) (h : ∀ p, p < n → p ≠ s → ((0 < nx' p ∧ kd' p = .obj) ↔ (0 < nx p ∧ kd p = .obj))) : objs nx' kd' n = objs nx kd n + 1 := by
  induction n with
  | zero => omega
  | succ n ih =>
    unfold objs
    by_cases e : s = n
    · subst e
      rw [if_neg h0, if_pos h1, objs_same s (fun p hp => h p (by omega) (by omega))]
    · rw [ih (by omega) (fun p hp hne => h p (by omega) hne)]
      have := h n (by omega) (fun hh => e hh.symm)
      by_cases c : 0 < nx n ∧ kd n = .obj
      · rw [if_pos c, if_pos (this.2 c)]
      · rw [if_neg c, if_neg (fun hh => c (this.1 hh))]

structure Tl (A : AC) (l bl : List Int) (tp : Nat) (F G : Nat → Nat) (ow : Nat → Nat) (made : Nat) (nx : Nat → Nat) (kd : Nat → Kd) : Prop where
  z : A.top = 0
  len : l.length = 401
  til : 10 ≤ A.to ∧ A.to ≤ 399
  bfr : 2 ≤ A.buf ∧ A.buf ≤ 40
  b8 : bl.length = 8
  top : topOf A l = (tp : Int) ∧ 1 ≤ tp ∧ tp ≤ A.to
  bls : ∀ w, w < 4 → bl.getD (2 * w) 0 = (F w : Int) ∧ bl.getD (2 * w + 1) 0 = (G w : Int)
  one : tp = 1 ∨ 0 < nx 1
  seg : ∀ p, 0 < nx p → 1 ≤ p ∧ p + nx p ≤ tp ∧ (p + nx p = tp ∨ 0 < nx (p + nx p)) ∧ ∀ q, p < q → q < p + nx p → nx q = 0
  obj : ∀ p, 0 < nx p → kd p = .obj → l[p]? = some (headOf 1 ((nx p : Int) - 1)) ∧ nx p ≤ 40 ∧ ow p ≠ 0 ∧ ow (p + nx p - 1) = ow p
  fil : ∀ p, 0 < nx p → kd p = .fil → l[p]? = some (headOf 0 ((nx p : Int) - 1)) ∧ ow p = 0
  buf : ∀ p w, 0 < nx p → kd p = .buf w → w < 4 ∧ F w = p ∧ G w = p + nx p ∧ ∀ q, p ≤ q → q < p + nx p → ow q = 0
  bfs : ∀ w, w < 4 → F w ≤ G w ∧ G w ≤ A.to ∧ (F w < G w → nx (F w) = G w - F w ∧ kd (F w) = .buf w)
  free : ∀ q, tp ≤ q → ow q = 0
  cnt : objs nx kd 401 = made

def nxC (nx : Nat → Nat) (s n r : Nat) : Nat → Nat := fun p => if p = s then n else if p = s + n ∧ 0 < r then r else nx p
def kdC (kd : Nat → Kd) (s n r w : Nat) : Nat → Kd := fun p => if p = s then .obj else if p = s + n ∧ 0 < r then .buf w else kd p
def owC (ow : Nat → Nat) (s n k : Nat) : Nat → Nat := fun q => if s ≤ q ∧ q < s + n then k else ow q

/-- A block is told at s, and behind it lies what is left of a buffer. -/
theorem Tl.carve {A : AC} {l bl l' bl' : List Int} {tp tp' : Nat} {F G F' G' : Nat → Nat} {ow : Nat → Nat} {made : Nat} {nx : Nat → Nat} {kd : Nat → Kd} (h : Tl A l bl tp F G ow made nx kd) (s n r w : Nat) (hn : 1 ≤ n ∧ n ≤ 40) (hs1 : 1 ≤ s)
    (hcase : (0 < nx s ∧ kd s = .buf w ∧ nx s = n + r ∧ tp' = tp) ∨ (s = tp ∧ tp' = tp + n + r ∧ tp' ≤ A.to))
    (hl : l'.length = 401) (hlt : topOf A l' = (tp' : Int)) (hls : l'[s]? = some (headOf 1 ((n : Int) - 1))) (hlo : ∀ p, 1 ≤ p → p ≠ s → l'[p]? = l[p]?)
    (hb8 : bl'.length = 8) (hbls : ∀ u, u < 4 → bl'.getD (2 * u) 0 = (F' u : Int) ∧ bl'.getD (2 * u + 1) 0 = (G' u : Int))
    (h5 : ∀ p u, p ≠ s → 0 < nx p → kd p = .buf u → F' u = F u ∧ G' u = G u)
    (h6 : 0 < r → w < 4 ∧ F' w = s + n ∧ G' w = s + n + r)
    (h7 : ∀ u, u < 4 → F' u ≤ G' u ∧ G' u ≤ A.to ∧ (F' u < G' u → (u = w ∧ F' u = s + n ∧ G' u = s + n + r ∧ 0 < r) ∨ (F' u = F u ∧ G' u = G u ∧ F u ≠ s))) :
    (∀ q, s ≤ q → q < s + n → ow q = 0) ∧ s + n ≤ A.to ∧ Tl A l' bl' tp' F' G' (owC ow s n (made + 1)) (made + 1) (nxC nx s n r) (kdC kd s n r w) := by
  have htop := h.top
  -- no segment begins inside
  have H1 : ∀ q, s < q → q < s + n + r → nx q = 0 := by
    intro q h1 h2
    rcases hcase with ⟨c1, c2, c3, c4⟩ | ⟨c1, c2, c3⟩
    · exact (h.seg s c1).2.2.2 q h1 (by omega)
    · by_cases hq : 0 < nx q
      · have := (h.seg q hq).2.1
        omega
      · omega
  have H2 : s + n + r = tp' ∨ 0 < nx (s + n + r) := by
    rcases hcase with ⟨c1, c2, c3, c4⟩ | ⟨c1, c2, c3⟩
    · have := (h.seg s c1).2.2.1
      rw [c3, ← Nat.add_assoc] at this
      rw [c4]
      exact this
    · left; omega
  have HB : s + n + r ≤ tp' := by
    rcases hcase with ⟨c1, c2, c3, c4⟩ | ⟨c1, c2, c3⟩
    · have := (h.seg s c1).2.1
      omega
    · omega
  have HT : tp ≤ tp' ∧ tp' ≤ A.to := by
    rcases hcase with ⟨c1, c2, c3, c4⟩ | ⟨c1, c2, c3⟩ <;> omega
  have H3 : ∀ p, 0 < nx p → p ≠ s → p + nx p ≤ s ∨ s + n + r ≤ p := by
    intro p hp hne
    by_cases hps : p < s
    · left
      rcases hcase with ⟨c1, c2, c3, c4⟩ | ⟨c1, c2, c3⟩
      · by_cases hh : s < p + nx p
        · have := (h.seg p hp).2.2.2 s hps hh
          omega
        · omega
      · have := (h.seg p hp).2.1
        omega
    · right
      by_cases hh : p < s + n + r
      · have := H1 p (by omega) hh
        omega
      · omega
  have H4 : ∀ q, s ≤ q → q < s + n + r → ow q = 0 := by
    intro q h1 h2
    rcases hcase with ⟨c1, c2, c3, c4⟩ | ⟨c1, c2, c3⟩
    · exact (h.buf s w c1 c2).2.2.2 q h1 (by omega)
    · exact h.free q (by omega)
  have Hs0 : ¬ (0 < nx s ∧ kd s = .obj) := by
    rcases hcase with ⟨c1, c2, c3, c4⟩ | ⟨c1, c2, c3⟩
    · rintro ⟨_, e⟩
      rw [c2] at e
      cases e
    · rintro ⟨e, _⟩
      have := (h.seg s e).2.1
      omega
  have nx_s : nxC nx s n r s = n := by unfold nxC; rw [if_pos rfl]
  have nx_r : 0 < r → nxC nx s n r (s + n) = r := fun hr => by unfold nxC; rw [if_neg (by omega), if_pos ⟨rfl, hr⟩]
  have nx_o : ∀ p, p ≠ s → ¬ (p = s + n ∧ 0 < r) → nxC nx s n r p = nx p := fun p h1 h2 => by unfold nxC; rw [if_neg h1, if_neg h2]
  have kd_s : kdC kd s n r w s = .obj := by unfold kdC; rw [if_pos rfl]
  have kd_r : 0 < r → kdC kd s n r w (s + n) = .buf w := fun hr => by unfold kdC; rw [if_neg (by omega), if_pos ⟨rfl, hr⟩]
  have kd_o : ∀ p, p ≠ s → ¬ (p = s + n ∧ 0 < r) → kdC kd s n r w p = kd p := fun p h1 h2 => by unfold kdC; rw [if_neg h1, if_neg h2]
  have ow_in : ∀ q, s ≤ q → q < s + n → owC ow s n (made + 1) q = made + 1 := fun q h1 h2 => by unfold owC; rw [if_pos ⟨h1, h2⟩]
  have ow_o : ∀ q, q < s ∨ s + n ≤ q → owC ow s n (made + 1) q = ow q := fun q h1 => by unfold owC; rw [if_neg (by omega)]
  have pos_o : ∀ p, 0 < nx p → 0 < nxC nx s n r p := by
    intro p hp
    by_cases h1 : p = s
    · rw [h1, nx_s]; omega
    · by_cases h2 : p = s + n ∧ 0 < r
      · rw [h2.1, nx_r h2.2]; exact h2.2
      · rw [nx_o p h1 h2]; exact hp
  refine ⟨fun q h1 h2 => H4 q h1 (by omega), by omega, ⟨h.z, hl, h.til, h.bfr, hb8, ⟨hlt, by omega, HT.2⟩, hbls, ?_, ?_, ?_, ?_, ?_, ?_, ?_, ?_⟩⟩
  · -- one
    rcases h.one with h1 | h1
    · right
      rcases hcase with ⟨c1, c2, c3, c4⟩ | ⟨c1, c2, c3⟩
      · have := (h.seg s c1).2.1
        omega
      · have : s = 1 := by omega
        rw [← this, nx_s]
        omega
    · exact .inr (pos_o 1 h1)
  · -- seg
    intro p hp
    by_cases h1 : p = s
    · subst h1
      rw [nx_s]
      refine ⟨hs1, by omega, ?_, fun q hq1 hq2 => ?_⟩
      · by_cases hr : 0 < r
        · right; rw [nx_r hr]; exact hr
        · have hr0 : r = 0 := by omega
          rcases H2 with h2 | h2
          · left; omega
          · right
            have : p + n + r = p + n := by omega
            rw [this] at h2
            exact pos_o _ h2
      · rw [nx_o q (by omega) (by omega)]
        exact H1 q hq1 (by omega)
    · by_cases h2 : p = s + n ∧ 0 < r
      · obtain ⟨rfl, hr⟩ := h2
        rw [nx_r hr]
        refine ⟨by omega, by omega, ?_, fun q hq1 hq2 => ?_⟩
        · rcases H2 with h3 | h3
          · left; exact h3
          · right; exact pos_o _ h3
        · rw [nx_o q (by omega) (by omega)]
          exact H1 q (by omega) hq2
      · rw [nx_o p h1 h2] at hp ⊢
        have hd := H3 p hp h1
        obtain ⟨g1, g2, g3, g4⟩ := h.seg p hp
        refine ⟨g1, by omega, ?_, fun q hq1 hq2 => ?_⟩
        · rcases g3 with g3 | g3
          · rcases hcase with ⟨c1, c2, c3, c4⟩ | ⟨c1, c2, c3⟩
            · left; omega
            · right
              rw [g3, ← c1, nx_s]
              omega
          · right; exact pos_o _ g3
        · rw [nx_o q (by rcases hd with hd | hd <;> omega) (by rcases hd with hd | hd <;> omega)]
          exact g4 q hq1 hq2
  · -- obj
    intro p hp hk
    by_cases h1 : p = s
    · subst h1
      rw [nx_s]
      refine ⟨hls, hn.2, ?_, ?_⟩
      · rw [ow_in p (by omega) (by omega)]; omega
      · rw [ow_in p (by omega) (by omega), ow_in (p + n - 1) (by omega) (by omega)]
    · by_cases h2 : p = s + n ∧ 0 < r
      · obtain ⟨rfl, hr⟩ := h2
        rw [kd_r hr] at hk
        cases hk
      · rw [nx_o p h1 h2] at hp ⊢
        rw [kd_o p h1 h2] at hk
        have hd := H3 p hp h1
        obtain ⟨g1, g2, g3, g4⟩ := h.obj p hp hk
        have := (h.seg p hp).1
        rw [hlo p this h1, ow_o p (by omega), ow_o (p + nx p - 1) (by omega)]
        exact ⟨g1, g2, g3, g4⟩
  · -- fil
    intro p hp hk
    by_cases h1 : p = s
    · subst h1
      rw [kd_s] at hk
      cases hk
    · by_cases h2 : p = s + n ∧ 0 < r
      · obtain ⟨rfl, hr⟩ := h2
        rw [kd_r hr] at hk
        cases hk
      · rw [nx_o p h1 h2] at hp ⊢
        rw [kd_o p h1 h2] at hk
        have hd := H3 p hp h1
        obtain ⟨g1, g2⟩ := h.fil p hp hk
        have := (h.seg p hp).1
        rw [hlo p this h1, ow_o p (by omega)]
        exact ⟨g1, g2⟩
  · -- buf
    intro p u hp hk
    by_cases h1 : p = s
    · subst h1
      rw [kd_s] at hk
      cases hk
    · by_cases h2 : p = s + n ∧ 0 < r
      · obtain ⟨rfl, hr⟩ := h2
        rw [kd_r hr] at hk
        cases hk
        rw [nx_r hr]
        obtain ⟨k1, k2, k3⟩ := h6 hr
        exact ⟨k1, k2, k3, fun q hq1 hq2 => by rw [ow_o q (by omega)]; exact H4 q (by omega) hq2⟩
      · rw [nx_o p h1 h2] at hp ⊢
        rw [kd_o p h1 h2] at hk
        have hd := H3 p hp h1
        obtain ⟨g1, g2, g3, g4⟩ := h.buf p u hp hk
        obtain ⟨k1, k2⟩ := h5 p u h1 hp hk
        exact ⟨g1, by rw [k1]; exact g2, by rw [k2]; exact g3, fun q hq1 hq2 => by rw [ow_o q (by omega)]; exact g4 q hq1 hq2⟩
  · -- bfs
    intro u hu
    obtain ⟨g1, g2, g3⟩ := h7 u hu
    refine ⟨g1, g2, fun hlt => ?_⟩
    rcases g3 hlt with ⟨rfl, k1, k2, hr⟩ | ⟨k1, k2, k3⟩
    · rw [k1, k2, nx_r hr, kd_r hr]
      exact ⟨by omega, rfl⟩
    · have hb := (h.bfs u hu).2.2 (by omega)
      have hp : 0 < nx (F u) := by omega
      have hd := H3 (F u) hp k3
      have h2 : ¬ (F u = s + n ∧ 0 < r) := by omega
      rw [k1, k2, nx_o _ k3 h2, kd_o _ k3 h2]
      exact hb
  · -- free
    intro q hq
    rw [ow_o q (by omega)]
    exact h.free q (by omega)
  · -- cnt
    rw [← h.cnt]
    refine objs_one s 401 (by have := h.til; omega) Hs0 ⟨by rw [nx_s]; omega, kd_s⟩ (fun p hp hne => ?_)
    by_cases h2 : p = s + n ∧ 0 < r
    · obtain ⟨rfl, hr⟩ := h2
      have := H1 (s + n) (by omega) (by omega)
      rw [kd_r hr]
      constructor
      · rintro ⟨_, e⟩; cases e
      · rintro ⟨e, _⟩; omega
    · rw [nx_o p hne h2, kd_o p hne h2]

/-- What a buffer has left becomes a filler. -/
theorem Tl.fill {A : AC} {l bl l' bl' : List Int} {tp : Nat} {F G F' G' : Nat → Nat} {ow : Nat → Nat} {made : Nat} {nx : Nat → Nat} {kd : Nat → Kd} (h : Tl A l bl tp F G ow made nx kd) (w : Nat) (hw : w < 4) (hfg : F w < G w)
    (hl : l'.length = 401) (hlt : topOf A l' = (tp : Int)) (hls : l'[F w]? = some (headOf 0 (((G w - F w : Nat) : Int) - 1))) (hlo : ∀ p, p ≠ F w → l'[p]? = l[p]?)
    (hb8 : bl'.length = 8) (hbls : ∀ u, u < 4 → bl'.getD (2 * u) 0 = (F' u : Int) ∧ bl'.getD (2 * u + 1) 0 = (G' u : Int)) (hF : F' w = 0 ∧ G' w = 0) (hFo : ∀ u, u ≠ w → F' u = F u ∧ G' u = G u) :
    Tl A l' bl' tp F' G' ow made nx (fun p => if p = F w then .fil else kd p) := by
  obtain ⟨hx, hk⟩ := (h.bfs w hw).2.2 hfg
  have hp : 0 < nx (F w) := by omega
  have hb := h.buf (F w) w hp hk
  refine ⟨h.z, hl, h.til, h.bfr, hb8, ⟨hlt, h.top.2⟩, hbls, h.one, h.seg, fun p hp1 hk1 => ?_, fun p hp1 hk1 => ?_, fun p u hp1 hk1 => ?_, fun u hu => ?_, h.free, ?_⟩
  · by_cases e : p = F w
    · rw [if_pos e] at hk1; cases hk1
    · rw [if_neg e] at hk1
      rw [hlo p e]
      exact h.obj p hp1 hk1
  · by_cases e : p = F w
    · subst e
      rw [hx]
      exact ⟨hls, hb.2.2.2 _ (by omega) (by omega)⟩
    · rw [if_neg e] at hk1
      rw [hlo p e]
      exact h.fil p hp1 hk1
  · by_cases e : p = F w
    · rw [if_pos e] at hk1; cases hk1
    · rw [if_neg e] at hk1
      obtain ⟨g1, g2, g3, g4⟩ := h.buf p u hp1 hk1
      have hne : u ≠ w := fun e2 => e (by rw [← g2, e2])
      exact ⟨g1, by rw [(hFo u hne).1]; exact g2, by rw [(hFo u hne).2]; exact g3, g4⟩
  · by_cases e : u = w
    · subst e
      rw [hF.1, hF.2]
      exact ⟨by omega, by omega, fun hh => by omega⟩
    · rw [(hFo u e).1, (hFo u e).2]
      refine ⟨(h.bfs u hu).1, (h.bfs u hu).2.1, fun hh => ?_⟩
      obtain ⟨k1, k2⟩ := (h.bfs u hu).2.2 hh
      refine ⟨k1, ?_⟩
      rw [if_neg (fun e2 => ?_)]
      · exact k2
      · rw [e2, hk] at k2
        injection k2 with k2
        exact e k2.symm
  · rw [← h.cnt]
    refine objs_same 401 (fun p hp1 => ?_)
    by_cases e : p = F w
    · subst e
      simp only [if_true]
      rw [hk]
      constructor <;> (rintro ⟨_, e⟩; cases e)
    · simp only [if_neg e]
end Go.Proofs.Ytelljfckffmjmaa
