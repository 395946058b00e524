/-
  Three threads' asks through what a law does: a new ask, a buffer that is retired.
-/
import Derived.Test.YtelljfckffmjmaaArenaPlaysP
namespace Go.Proofs.Ytelljfckffmjmaa
open Go.RowKit
set_option linter.unusedVariables false

section
variable {L : Nat} {w w1 w' : World} {a v p q B g m p2 q2 D g2 : Nat} {A : AC} {l bl l2 bl2 : List Int} {s s2 : Int} {xs ys : Nat → Option Nat} {K : Nat → AkS} {R : Nat → RkS}

theorem PA.ask (h : PA L w a v p q B g A l bl s xs K) (t : Turned [] w w1) {i b : Nat} (hi : i < 3) {z : Int} (hk : AkB w1 b a B (2 * i) (akNew z)) (hb : b = w.heap.size) (hL : L ≤ w.heap.size) :
    PA L (w1.setCell ⟨g, i, none⟩ (pv (some b))) a v p q B g A l bl s (updx xs i (some b)) (updx K i (akNew z)) := by
  have h1 := h.t0 t
  have t2 : Turned [g] w1 (w1.setCell ⟨g, i, none⟩ (pv (some b))) := (Turned.refl _ _).setCell (by simp) _
  have fresh : ∀ j c, j < 3 → xs j = some c → c ≠ b := fun j c hj hc e => by
    have := (h.ak j c hj hc).lt
    omega
  refine ⟨h1.ar.turned t2 ?_ ?_ ?_ ?_, h1.bf.turned t2 ?_, h1.ax.set i hi (some b), fun j c hj hc => ?_, fun j1 j2 c h3 h4 h5 h6 => ?_, h.lo, fun j c hj hc => ?_⟩
  · simp; exact ne_of_type h1.ar.head h1.ax (by decide)
  · simp; exact ne_of_type h1.ar.var h1.ax (by decide)
  · simp; exact ne_of_type h1.ar.mem.head h1.ax (by decide)
  · simp; exact ne_of_type h1.ar.mem.row h1.ax (by decide)
  · simp; exact ne_of_type h1.bf h1.ax (by decide)
  · unfold updx at hc ⊢
    by_cases e : j = i
    · rw [if_pos e] at hc
      cases hc
      subst e
      rw [if_pos rfl]
      exact hk.turned t2 (by simp; exact ne_of_type hk h1.ax (by decide))
    · rw [if_neg e] at hc
      rw [if_neg e]
      have h7 := h1.ak j c hj hc
      exact h7.turned t2 (by simp; exact ne_of_type h7 h1.ax (by decide))
  · unfold updx at h5 h6
    by_cases e1 : j1 = i
    · by_cases e2 : j2 = i
      · omega
      · rw [if_pos e1] at h5
        rw [if_neg e2] at h6
        cases h5
        exact absurd rfl (fresh j2 b h4 h6)
    · rw [if_neg e1] at h5
      by_cases e2 : j2 = i
      · rw [if_pos e2] at h6
        cases h6
        exact absurd rfl (fresh j1 b h3 h5)
      · rw [if_neg e2] at h6
        exact h.nd j1 j2 c h3 h4 h5 h6
  · unfold updx at hc
    by_cases e : j = i
    · rw [if_pos e] at hc
      cases hc
      omega
    · rw [if_neg e] at hc
      exact h.lb j c hj hc
theorem PR.ask (h : PR L w m p q D g A l bl s ys R) (t : Turned [] w w1) {i b : Nat} (hi : i < 3) {r : RkS} (hk : RkB w1 b m D (2 * i) r) (hb : b = w.heap.size) (hL : L ≤ w.heap.size) :
    PR L (w1.setCell ⟨g, i, none⟩ (pv (some b))) m p q D g A l bl s (updx ys i (some b)) (updx R i r) := by
  have h1 := h.t0 t
  have t2 : Turned [g] w1 (w1.setCell ⟨g, i, none⟩ (pv (some b))) := (Turned.refl _ _).setCell (by simp) _
  have fresh : ∀ j c, j < 3 → ys j = some c → c ≠ b := fun j c hj hc e => by
    have := RkG.lt (h.ak j c hj hc)
    omega
  refine ⟨h1.ar.turned t2 ?_ ?_ ?_, h1.bf.turned t2 ?_, h1.ax.set i hi (some b), fun j c hj hc => ?_, fun j1 j2 c h3 h4 h5 h6 => ?_, h.lo, fun j c hj hc => ?_⟩
  · simp; exact ne_of_type h1.ar.head h1.ax (by decide)
  · simp; exact ne_of_type h1.ar.mem.head h1.ax (by decide)
  · simp; exact ne_of_type h1.ar.mem.row h1.ax (by decide)
  · simp; exact ne_of_type h1.bf h1.ax (by decide)
  · unfold updx at hc ⊢
    by_cases e : j = i
    · rw [if_pos e] at hc
      cases hc
      subst e
      rw [if_pos rfl]
      exact RkG.turned hk t2 (by simp; exact ne_of_type hk h1.ax (by decide))
    · rw [if_neg e] at hc
      rw [if_neg e]
      have h7 := h1.ak j c hj hc
      exact RkG.turned h7 t2 (by simp; exact ne_of_type h7 h1.ax (by decide))
  · unfold updx at h5 h6
    by_cases e1 : j1 = i
    · by_cases e2 : j2 = i
      · omega
      · rw [if_pos e1] at h5
        rw [if_neg e2] at h6
        cases h5
        exact absurd rfl (fresh j2 b h4 h6)
    · rw [if_neg e1] at h5
      by_cases e2 : j2 = i
      · rw [if_pos e2] at h6
        cases h6
        exact absurd rfl (fresh j1 b h3 h5)
      · rw [if_neg e2] at h6
        exact h.nd j1 j2 c h3 h4 h5 h6
  · unfold updx at hc
    by_cases e : j = i
    · rw [if_pos e] at hc
      cases hc
      omega
    · rw [if_neg e] at hc
      exact h.lb j c hj hc
/-- The other side through a store into the array variable. -/
theorem PA.keepG (h : PA L w a v p q B g A l bl s xs K) (r : PR L w m p2 q2 D g2 A l2 bl2 s2 ys R) (i : Nat) (x : Value) : PA L (w.setCell ⟨g2, i, none⟩ x) a v p q B g A l bl s xs K := by
  have n := h.not r.ax (by decide) (by decide) (by decide) (by decide) (by decide) (by decide)
  have t2 : Turned [g2] w (w.setCell ⟨g2, i, none⟩ x) := (Turned.refl _ _).setCell (by simp) _
  exact h.turned t2 (by simp; exact Ne.symm n.1) (by simp; exact Ne.symm n.2.1) (by simp; exact Ne.symm n.2.2.1) (by simp; exact ne_of_type h.ar.mem.row r.ax (by decide)) (by simp; exact Ne.symm n.2.2.2.1) (by simp; exact Ne.symm n.2.2.2.2.1) (fun i b hi hx => by simp; exact Ne.symm (n.2.2.2.2.2 i b hi hx))
theorem PR.keepG (r : PR L w m p2 q2 D g2 A l2 bl2 s2 ys R) (h : PA L w a v p q B g A l bl s xs K) (i : Nat) (x : Value) : PR L (w.setCell ⟨g, i, none⟩ x) m p2 q2 D g2 A l2 bl2 s2 ys R := by
  have n := r.not h.ax (by decide) (by decide) (by decide) (by decide) (by decide)
  have t2 : Turned [g] w (w.setCell ⟨g, i, none⟩ x) := (Turned.refl _ _).setCell (by simp) _
  exact r.turned t2 (by simp; exact Ne.symm n.1) (by simp; exact Ne.symm n.2.1) (by simp; exact ne_of_type r.ar.mem.row h.ax (by decide)) (by simp; exact Ne.symm n.2.2.1) (by simp; exact Ne.symm n.2.2.2.1) (fun i b hi hx => by simp; exact Ne.symm (n.2.2.2.2 i b hi hx))

/-- A buffer was retired. -/
theorem PA.retired (h : PA L w a v p q B g A l bl s xs K) (y : Ab w w' a v p q B TB3 A l2 bl2 s2) : PA L w' a v p q B g A l2 bl2 s2 xs K :=
  ⟨y.ar, y.bf, h.ax.turned y.tu (by simp; exact ⟨ne_of_type h.ax h.ar.mem.head (by decide), ne_of_type h.ax h.ar.mem.row (by decide), ne_of_type h.ax h.bf (by decide)⟩), fun i b hi hx => by
    have hB := h.ak i b hi hx
    exact hB.turned y.tu (by simp; exact ⟨ne_of_type hB h.ar.mem.head (by decide), ne_of_type hB h.ar.mem.row (by decide), ne_of_type hB h.bf (by decide)⟩), h.nd, h.lo, h.lb⟩
theorem PR.retired (h : PR L w m p q D g A l bl s ys R) (y : Rb w w' m p q D TR3 A l2 bl2 s2) : PR L w' m p q D g A l2 bl2 s2 ys R :=
  ⟨y.ar, y.bf, h.ax.turned y.tu (by simp; exact ⟨ne_of_type h.ax h.ar.mem.head (by decide), ne_of_type h.ax h.ar.mem.row (by decide), ne_of_type h.ax h.bf (by decide)⟩), fun i b hi hx => by
    have hB := h.ak i b hi hx
    exact RkG.turned hB y.tu (by simp; exact ⟨ne_of_type hB h.ar.mem.head (by decide), ne_of_type hB h.ar.mem.row (by decide), ne_of_type hB h.bf (by decide)⟩), h.nd, h.lo, h.lb⟩
theorem PA.keepD (h : PA L w a v p q B g A l bl s xs K) (r : PR L w m p2 q2 D g2 A l2 bl2 s2 ys R) (hq : q ≠ q2) (t : Turned [p2, q2, D] w w') : PA L w' a v p q B g A l bl s xs K := by
  have n1 := h.not r.ar.mem.head (by decide) (by decide) (by decide) (by decide) (by decide) (by decide)
  have n3 := h.not r.bf (by decide) (by decide) (by decide) (by decide) (by decide) (by decide)
  have n2 := h.not r.ar.mem.row (by decide) (by decide) (by decide) (by decide) (by decide) (by decide)
  refine h.turned t ?_ ?_ ?_ ?_ ?_ ?_ (fun i b hi hx => ?_)
  · simp; exact ⟨Ne.symm n1.1, Ne.symm n2.1, Ne.symm n3.1⟩
  · simp; exact ⟨Ne.symm n1.2.1, Ne.symm n2.2.1, Ne.symm n3.2.1⟩
  · simp; exact ⟨Ne.symm n1.2.2.1, Ne.symm n2.2.2.1, Ne.symm n3.2.2.1⟩
  · simp; exact ⟨ne_of_type h.ar.mem.row r.ar.mem.head (by decide), hq, ne_of_type h.ar.mem.row r.bf (by decide)⟩
  · simp; exact ⟨Ne.symm n1.2.2.2.1, Ne.symm n2.2.2.2.1, Ne.symm n3.2.2.2.1⟩
  · simp; exact ⟨Ne.symm n1.2.2.2.2.1, Ne.symm n2.2.2.2.2.1, Ne.symm n3.2.2.2.2.1⟩
  · simp; exact ⟨Ne.symm (n1.2.2.2.2.2 i b hi hx), Ne.symm (n2.2.2.2.2.2 i b hi hx), Ne.symm (n3.2.2.2.2.2 i b hi hx)⟩
theorem PR.keepB (r : PR L w m p2 q2 D g2 A l2 bl2 s2 ys R) (h : PA L w a v p q B g A l bl s xs K) (hq : q ≠ q2) (t : Turned [p, q, B] w w') : PR L w' m p2 q2 D g2 A l2 bl2 s2 ys R := by
  have n1 := r.not h.ar.mem.head (by decide) (by decide) (by decide) (by decide) (by decide)
  have n3 := r.not h.bf (by decide) (by decide) (by decide) (by decide) (by decide)
  have n2 := r.not h.ar.mem.row (by decide) (by decide) (by decide) (by decide) (by decide)
  refine r.turned t ?_ ?_ ?_ ?_ ?_ (fun i b hi hx => ?_)
  · simp; exact ⟨Ne.symm n1.1, Ne.symm n2.1, Ne.symm n3.1⟩
  · simp; exact ⟨Ne.symm n1.2.1, Ne.symm n2.2.1, Ne.symm n3.2.1⟩
  · simp; exact ⟨ne_of_type r.ar.mem.row h.ar.mem.head (by decide), Ne.symm hq, ne_of_type r.ar.mem.row h.bf (by decide)⟩
  · simp; exact ⟨Ne.symm n1.2.2.1, Ne.symm n2.2.2.1, Ne.symm n3.2.2.1⟩
  · simp; exact ⟨Ne.symm n1.2.2.2.1, Ne.symm n2.2.2.2.1, Ne.symm n3.2.2.2.1⟩
  · simp; exact ⟨Ne.symm (n1.2.2.2.2 i b hi hx), Ne.symm (n2.2.2.2.2 i b hi hx), Ne.symm (n3.2.2.2.2 i b hi hx)⟩
end

theorem Sync.ask {A : AC} {K : Nat → AkS} {R : Nat → RkS} {xs ys : Nat → Option Nat} (h : Sync A K R xs ys) {i b c : Nat} {z : Int} {r : RkS} (hr : RelA A (akNew z) r) : Sync A (updx K i (akNew z)) (updx R i r) (updx xs i (some b)) (updx ys i (some c)) := by
  intro j hj
  unfold updx
  by_cases e : j = i
  · simp only [if_pos e]
    exact .inr ⟨b, c, rfl, rfl, hr⟩
  · simp only [if_neg e]
    exact h j hj
theorem Sync.step {A : AC} {K : Nat → AkS} {R : Nat → RkS} {xs ys : Nat → Option Nat} (h : Sync A K R xs ys) {i b c : Nat} (hi : i < 3) (hx : xs i = some b) (hy : ys i = some c) {k : AkS} {r : RkS} (hr : RelA A k r) : Sync A (updx K i k) (updx R i r) xs ys := by
  intro j hj
  unfold updx
  by_cases e : j = i
  · subst e
    simp only [if_true]
    exact .inr ⟨b, c, hx, hy, hr⟩
  · simp only [if_neg e]
    exact h j hj
theorem rel_new (A : AC) (z : Int) : RelA A (akNew z) ⟨z, 0, false, 0, 0, false, 0, 0⟩ :=
  ⟨rfl, fun h => (by cases h), fun _ => rfl, fun _ => rfl, fun _ h => absurd rfl h, fun _ h => (by cases h)⟩
end Go.Proofs.Ytelljfckffmjmaa
