/-
  What holds at each step of ArenaApart, without memory: an ask's step over the segments; all asks come to an end.
-/
import Derived.Test.YtelljfckffmjmaaArenaTile
namespace Go.Proofs.Ytelljfckffmjmaa
open Go.RowKit
set_option linter.unusedVariables false

/-- An ask under way, of thread w, for n words. -/
structure KI (A : AC) (F G : Nat → Nat) (n w : Nat) (k : AkS) : Prop where
  nd : k.done = false
  sz : k.size = n ∧ 1 ≤ n ∧ n ≤ 40
  em : k.at_ ≠ .begin → lg A n = false → ¬ F w < G w
  sw : k.at_ = .swapTop → 0 ≤ k.top ∧ k.size ≤ k.wanted ∧ k.top + k.wanted ≤ A.to ∧ (lg A n = true → k.wanted = k.size)
theorem KI.of {A : AC} {F G F' G' : Nat → Nat} {n w : Nat} {k : AkS} (h : KI A F G n w k) (e : F' w = F w ∧ G' w = G w) : KI A F' G' n w k := ⟨h.nd, h.sz, fun h1 h2 => by rw [e.1, e.2]; exact h.em h1 h2, h.sw⟩

def updN (F : Nat → Nat) (w x : Nat) : Nat → Nat := fun u => if u = w then x else F u
theorem updN_self (F : Nat → Nat) (w x : Nat) : updN F w x w = x := by unfold updN; rw [if_pos rfl]
theorem updN_ne (F : Nat → Nat) {w u : Nat} (x : Nat) (h : u ≠ w) : updN F w x u = F u := by unfold updN; rw [if_neg h]

section
variable {A : AC} {l bl : List Int} {tp : Nat} {F G : Nat → Nat} {ow : Nat → Nat} {made : Nat} {nx : Nat → Nat} {kd : Nat → Kd}
theorem Tl.above (h : Tl A l bl tp F G ow made nx kd) : aboveOf A (topOf A l) = (A.to : Int) - tp := by
  rw [h.top.1]
  unfold aboveOf
  rw [if_neg (by have := h.top; omega)]

theorem bls_one (h : ∀ w, w < 4 → bl.getD (2 * w) 0 = (F w : Int) ∧ bl.getD (2 * w + 1) 0 = (G w : Int)) (h8 : bl.length = 8) {w : Nat} (hw : w < 4) (x : Nat) : ∀ u, u < 4 → (bl.set (2 * w) (x : Int)).getD (2 * u) 0 = (updN F w x u : Int) ∧ (bl.set (2 * w) (x : Int)).getD (2 * u + 1) 0 = (G u : Int) := by
  intro u hu
  rw [getD_set, getD_set]
  by_cases e : u = w
  · subst e
    rw [if_pos ⟨rfl, by omega⟩, if_neg (by omega), updN_self]
    exact ⟨rfl, (h u hu).2⟩
  · rw [if_neg (by omega), if_neg (by omega), updN_ne F x e]
    exact h u hu
theorem bls_two (h : ∀ w, w < 4 → bl.getD (2 * w) 0 = (F w : Int) ∧ bl.getD (2 * w + 1) 0 = (G w : Int)) (h8 : bl.length = 8) {w : Nat} (hw : w < 4) (x y : Nat) : ∀ u, u < 4 → ((bl.set (2 * w) (x : Int)).set (2 * w + 1) (y : Int)).getD (2 * u) 0 = (updN F w x u : Int) ∧ ((bl.set (2 * w) (x : Int)).set (2 * w + 1) (y : Int)).getD (2 * u + 1) 0 = (updN G w y u : Int) := by
  intro u hu
  rw [getD_set, getD_set, getD_set, getD_set]
  by_cases e : u = w
  · subst e
    rw [if_neg (by omega), if_pos ⟨rfl, by omega⟩, if_pos ⟨rfl, by simp; omega⟩, updN_self, updN_self]
    exact ⟨rfl, rfl⟩
  · rw [if_neg (by omega), if_neg (by omega), if_neg (by omega), if_neg (by omega), updN_ne F x e, updN_ne G y e]
    exact h u hu

/-- What a step of thread w's ask comes to. -/
inductive Went (A : AC) (tp : Nat) (F G : Nat → Nat) (ow : Nat → Nat) (made : Nat) (nx : Nat → Nat) (n w : Nat) (k : AkS) (y : ASt) : Prop
  | on (F' G' : Nat → Nat) (kd' : Nat → Kd) (hd : y.k.done = false) (ht : Tl A y.l y.bl tp F' G' ow made nx kd') (hk : KI A F' G' n w y.k) (ho : ∀ u, u ≠ w → F' u = F u ∧ G' u = G u)
  | full (F' G' : Nat → Nat) (kd' : Nat → Kd) (hd : y.k.done = true) (he : y.k.errno = 14) (ht : Tl A y.l y.bl tp F' G' ow made nx kd') (ho : ∀ u, u ≠ w → F' u = F u ∧ G' u = G u)
  | told (pos tp' : Nat) (F' G' : Nat → Nat) (nx' : Nat → Nat) (kd' : Nat → Kd) (hd : y.k.done = true) (he : y.k.errno = 0) (hp : y.k.pos = (pos : Int)) (h1 : 1 ≤ pos) (h2 : pos + n ≤ A.to) (h3 : ∀ q, pos ≤ q → q < pos + n → ow q = 0) (ht : Tl A (y.l.set pos (headOf 1 ((n : Int) - 1))) y.bl tp' F' G' (owC ow pos n (made + 1)) (made + 1) nx' kd') (ho : ∀ u, u ≠ w → F' u = F u ∧ G' u = G u)

theorem went_read (h : Tl A l bl tp F G ow made nx kd) {n w : Nat} (hw : w < 4) {kat : AStp} {kt kw kp ke : Int} (hn : 1 ≤ n ∧ n ≤ 40) (hkat : kat ≠ .swapTop) (hem : lg A n = false → ¬ F w < G w) (k0 : AkS) (s : Int) :
    Went A tp F G ow made nx n w k0 ⟨l, bl, readA A l ⟨kat, false, n, kt, kw, kp, ke⟩, s⟩ := by
  have hab := h.above
  by_cases hz : aboveOf A (topOf A l) < (n : Int)
  · rw [readA_full A l _ hz]
    exact .full F G kd rfl rfl h (fun _ _ => ⟨rfl, rfl⟩)
  · have hf := readA_fit A l ⟨kat, false, n, kt, kw, kp, ke⟩ (by simp; omega)
    have hr := readA_ok A l ⟨kat, false, n, kt, kw, kp, ke⟩ hz
    rw [hr] at hf ⊢
    refine .on F G kd rfl h ⟨rfl, ⟨rfl, hn⟩, fun _ hg => hem hg, fun _ => ?_⟩ (fun _ _ => ⟨rfl, rfl⟩)
    have h2 := hf.2 rfl hkat
    refine ⟨h2.1, h2.2.1, h2.2.2, fun hg => ?_⟩
    show (if lg A (n : Int) then (n : Int) else _) = (n : Int)
    rw [if_pos hg]

theorem went (h : Tl A l bl tp F G ow made nx kd) {n w : Nat} (hw : w < 4) {k : AkS} (hk : KI A F G n w k) (s : Int) : Went A tp F G ow made nx n w k (stepA A (2 * w) ⟨l, bl, k, s⟩) := by
  obtain ⟨kat, kd', ks, kt, kw, kp, ke⟩ := k
  have hnd : kd' = false := hk.nd
  subst hnd
  obtain ⟨hsz, hn⟩ := hk.sz
  have hsz' : ks = (n : Int) := hsz
  subst hsz'
  have hbl := h.bls w hw
  have hbf := h.bfs w hw
  have hz := h.z
  have hlen := h.len
  have htop := h.top
  have htil := h.til
  have hcell : A.top < l.length := by omega
  cases kat with
  | readTop => exact went_read h hw hn (by simp) (hk.em (by simp)) _ _
  | swapTop =>
    obtain ⟨s1, s2, s3, s4⟩ := hk.sw rfl
    simp only at s1 s2 s3 s4
    by_cases hx : topOf A l = kt
    · rw [stepA_hit A (2 * w) l bl n kt kw kp ke s hx]
      have hkt : kt = (tp : Int) := by rw [← hx]; exact htop.1
      subst hkt
      obtain ⟨wn, rfl⟩ : ∃ wn : Nat, kw = wn := ⟨kw.toNat, by omega⟩
      have hL : ∀ r, (l.set A.top ((tp : Int) + (wn : Int))).set tp r = (l.set A.top ((tp : Int) + (wn : Int))).set tp r := fun _ => rfl
      have hlt : topOf A ((l.set A.top ((tp : Int) + (wn : Int))).set tp (headOf 1 ((n : Int) - 1))) = ((tp + wn : Nat) : Int) := by
        unfold topOf
        rw [getD_set, if_neg (by omega), getD_set, if_pos ⟨rfl, hcell⟩]
        omega
      have hls : ((l.set A.top ((tp : Int) + (wn : Int))).set tp (headOf 1 ((n : Int) - 1)))[tp]? = some (headOf 1 ((n : Int) - 1)) := by
        rw [List.getElem?_set_self (by simp; omega)]
      have hlo : ∀ p, 1 ≤ p → p ≠ tp → ((l.set A.top ((tp : Int) + (wn : Int))).set tp (headOf 1 ((n : Int) - 1)))[p]? = l[p]? := by
        intro p h1 h2
        rw [List.getElem?_set_ne (by omega), List.getElem?_set_ne (by omega)]
      cases hg : lg A (n : Int) with
      | true =>
        have hwn : (wn : Int) = n := s4 hg
        have hwn' : wn = n := by omega
        subst hwn'
        obtain ⟨c1, c2, c3⟩ := h.carve (l' := (l.set A.top ((tp : Int) + (wn : Int))).set tp (headOf 1 ((wn : Int) - 1))) (bl' := bl) (tp' := tp + wn) (F' := F) (G' := G) tp wn 0 4 hn htop.2.1 (.inr ⟨rfl, rfl, by omega⟩) (by simp; exact hlen) hlt hls hlo h.b8 h.bls (fun _ _ _ _ _ => ⟨rfl, rfl⟩) (fun hr => by omega) (fun u hu => ⟨(h.bfs u hu).1, (h.bfs u hu).2.1, fun hlt => .inr ⟨rfl, rfl, fun e => by
          have := (h.bfs u hu).2.2 hlt
          have h3 : 0 < nx (F u) := by omega
          have := (h.seg (F u) h3).2.1
          omega⟩⟩)
        exact .told tp (tp + wn) F G _ _ rfl rfl rfl htop.2.1 c2 c1 c3 (fun _ _ => ⟨rfl, rfl⟩)
      | false =>
        have hemp := hk.em (by simp) hg
        obtain ⟨c1, c2, c3⟩ := h.carve (l' := (l.set A.top ((tp : Int) + (wn : Int))).set tp (headOf 1 ((n : Int) - 1))) (bl' := (bl.set (2 * w) ((tp + n : Nat) : Int)).set (2 * w + 1) ((tp + wn : Nat) : Int)) (tp' := tp + wn) (F' := updN F w (tp + n)) (G' := updN G w (tp + wn)) tp n (wn - n) w hn htop.2.1 (.inr ⟨rfl, by omega, by omega⟩) (by simp; exact hlen) hlt hls hlo (by simp; exact h.b8) (bls_two h.bls h.b8 hw _ _)
          (fun p u hne hp hkd => by
            obtain ⟨g1, g2, g3, g4⟩ := h.buf p u hp hkd
            have hne2 : u ≠ w := fun e => hemp (by rw [← e, g2, g3]; omega)
            exact ⟨updN_ne F _ hne2, updN_ne G _ hne2⟩)
          (fun hr => ⟨hw, updN_self _ _ _, by rw [updN_self]; omega⟩)
          (fun u hu => by
            by_cases e : u = w
            · subst e
              rw [updN_self, updN_self]
              exact ⟨by omega, by omega, fun hlt => .inl ⟨rfl, rfl, by omega, by omega⟩⟩
            · rw [updN_ne F _ e, updN_ne G _ e]
              exact ⟨(h.bfs u hu).1, (h.bfs u hu).2.1, fun hlt => .inr ⟨rfl, rfl, fun e2 => by
                have := (h.bfs u hu).2.2 hlt
                have h3 : 0 < nx (F u) := by omega
                have := (h.seg (F u) h3).2.1
                omega⟩⟩)
        refine .told tp (tp + wn) (updN F w (tp + n)) (updN G w (tp + wn)) (nxC nx tp n (wn - n)) (kdC kd tp n (wn - n) w) rfl rfl rfl htop.2.1 c2 c1 ?_ (fun u hu => ⟨updN_ne F _ hu, updN_ne G _ hu⟩)
        simpa using c3
    · rw [stepA_miss A (2 * w) l bl n kt kw kp ke s hx]
      exact .on F G kd rfl h ⟨rfl, ⟨rfl, hn⟩, fun _ hg => hk.em (by simp) hg, fun hh => by cases hh⟩ (fun _ _ => ⟨rfl, rfl⟩)
  | begin =>
    have h1 : ¬ ((n : Int) < 1 ∨ 65536 < (n : Int)) := by omega
    by_cases h2 : (n : Int) ≤ bl.getD (2 * w + 1) 0 - bl.getD (2 * w) 0
    · rw [stepA_take A (2 * w) l bl n kt kw kp ke s h1 h2]
      rw [hbl.1, hbl.2] at h2
      have hlt : F w < G w := by omega
      obtain ⟨g1, g2⟩ := hbf.2.2 hlt
      have hp : 0 < nx (F w) := by omega
      have hs1 := (h.seg (F w) hp).1
      have hsp := (h.seg (F w) hp).2.1
      obtain ⟨c1, c2, c3⟩ := h.carve (l' := l.set (F w) (headOf 1 ((n : Int) - 1))) (bl' := bl.set (2 * w) ((F w + n : Nat) : Int)) (tp' := tp) (F' := updN F w (F w + n)) (G' := G) (F w) n (G w - F w - n) w hn hs1 (.inl ⟨hp, g2, by omega, rfl⟩) (by simp; exact hlen) (by unfold topOf; rw [getD_set, if_neg (by omega)]; exact htop.1) (by rw [List.getElem?_set_self (by omega)]) (fun p _ hne => by rw [List.getElem?_set_ne (by omega)]) (by simp; exact h.b8) (bls_one h.bls h.b8 hw _)
        (fun p u hne hp2 hkd => by
          obtain ⟨e1, e2, e3, e4⟩ := h.buf p u hp2 hkd
          have hne2 : u ≠ w := fun e => hne (by rw [← e2, e])
          exact ⟨updN_ne F _ hne2, rfl⟩)
        (fun hr => ⟨hw, updN_self _ _ _, by omega⟩)
        (fun u hu => by
          by_cases e : u = w
          · subst e
            rw [updN_self]
            exact ⟨by omega, by omega, fun hlt2 => .inl ⟨rfl, rfl, by omega, by omega⟩⟩
          · rw [updN_ne F _ e]
            exact ⟨(h.bfs u hu).1, (h.bfs u hu).2.1, fun hlt2 => .inr ⟨rfl, rfl, fun e2 => by
              have h3 := ((h.bfs u hu).2.2 hlt2).2
              rw [e2, g2] at h3
              injection h3 with h3
              exact e h3.symm⟩⟩)
      refine .told (F w) tp (updN F w (F w + n)) G (nxC nx (F w) n (G w - F w - n)) (kdC kd (F w) n (G w - F w - n) w) rfl rfl hbl.1 hs1 c2 c1 ?_ (fun u hu => ⟨updN_ne F _ hu, rfl⟩)
      rw [hbl.1]
      simpa using c3
    · by_cases h3 : bl.getD (2 * w) 0 < bl.getD (2 * w + 1) 0 ∧ lg A (n : Int) = false
      · rw [stepA_fill A (2 * w) l bl n kt kw kp ke s h1 h2 h3]
        rw [hbl.1, hbl.2] at h3 ⊢
        have hlt : F w < G w := by omega
        obtain ⟨g1, g2⟩ := hbf.2.2 hlt
        have hp : 0 < nx (F w) := by omega
        have hs1 := (h.seg (F w) hp).1
        have hsp := (h.seg (F w) hp).2.1
        have e0 : ((F w : Int)).toNat = F w := by omega
        have e1 : ((G w : Int) - (F w : Int) - 1) = (((G w - F w : Nat) : Int) - 1) := by omega
        rw [e0, e1]
        have ht := h.fill (l' := l.set (F w) (headOf 0 (((G w - F w : Nat) : Int) - 1))) (bl' := (bl.set (2 * w) ((0 : Nat) : Int)).set (2 * w + 1) ((0 : Nat) : Int)) (F' := updN F w 0) (G' := updN G w 0) w hw hlt (by simp; exact hlen) (by unfold topOf; rw [getD_set, if_neg (by omega)]; exact htop.1) (by rw [List.getElem?_set_self (by omega)]) (fun p hne => by rw [List.getElem?_set_ne (by omega)]) (by simp; exact h.b8) (bls_two h.bls h.b8 hw _ _) ⟨updN_self _ _ _, updN_self _ _ _⟩ (fun u hu => ⟨updN_ne F _ hu, updN_ne G _ hu⟩)
        exact .on _ _ _ rfl ht ⟨rfl, ⟨rfl, hn⟩, fun _ _ => by rw [updN_self, updN_self]; omega, fun hh => by cases hh⟩ (fun u hu => ⟨updN_ne F _ hu, updN_ne G _ hu⟩)
      · rw [stepA_read A (2 * w) l bl n kt kw kp ke s h1 h2 h3]
        rw [hbl.1, hbl.2] at h3
        exact went_read h hw hn (by simp) (fun hg hlt => h3 ⟨by omega, hg⟩) _ _
end
end Go.Proofs.Ytelljfckffmjmaa
