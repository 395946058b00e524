/-
  An owner and three thieves in the model's heap: the array of the four operations, and what stays true as they begin and step ('Play').
-/
import Derived.Test.YtdhfggdmlhgdoaaDequeFreeP
import Derived.Test.YtdhfggdmlhgdoaaActsOpen
namespace Go.Proofs.Ytdhfggdmlhgdoaa
open Go.RowKit

theorem FI.congr {C : Cfg} {l : List Int} {a a' : Nat → OpS} (h : FI C l a) (e : ∀ i, i ≤ 3 → a' i = a i) : FI C l a' := by
  refine ⟨?_, h.one, ?_, fun i h1 h2 => ?_, ?_, fun i h1 h2 => ?_, h.stk, fun i h1 => ?_, h.room, h.cap⟩
  · rw [e 0 (by omega), e 1 (by omega), e 2 (by omega), e 3 (by omega)]; exact h.lock
  · rw [e 0 (by omega)]; exact h.kind
  · rw [e i h2]; exact h.kinds i h1 h2
  · rw [e 0 (by omega)]; exact h.own
  · rw [e 0 (by omega), e i h2]; exact h.thf i h1 h2
  · rw [e i h1]; exact h.cnt i h1

/-- The array of the four operations: block g. -/
structure Ar (w : World) (g : Nat) (xs : Nat → Option Nat) : Prop where
  at_ : ∀ i, i ≤ 3 → w.cell? ⟨g, i, none⟩ = some (pv (xs i))
  fz : ∀ i, w.frozen? ⟨g, i, none⟩ = false
  lt : g < w.heap.size
theorem Ar.turned {w w' : World} {g : Nat} {xs : Nat → Option Nat} (h : Ar w g xs) {S : List Nat} (t : Turned S w w') (hg : g ∉ S) : Ar w' g xs :=
  ⟨fun i hi => by rw [t.cell (p := ⟨g, i, none⟩) h.lt hg]; exact h.at_ i hi, fun i => by rw [t.frozen (p := ⟨g, i, none⟩) h.lt hg]; exact h.fz i, Nat.lt_of_lt_of_le h.lt t.size⟩

def updx (xs : Nat → Option Nat) (i : Nat) (x : Option Nat) : Nat → Option Nat := fun k => if k = i then x else xs k

theorem Ar.set {w : World} {g : Nat} {xs : Nat → Option Nat} (h : Ar w g xs) (i : Nat) (hi : i ≤ 3) (x : Option Nat) : Ar (w.setCell ⟨g, i, none⟩ (pv x)) g (updx xs i x) := by
  refine ⟨fun j hj => ?_, fun j => by rw [World.frozen?_setCell]; exact h.fz j, by simpa using h.lt⟩
  unfold updx
  split
  · rename_i e
    subst e
    exact World.cell?_setCell_same _ _ _ (h.at_ j hj)
  · rename_i e
    rw [World.cell?_setCell_other _ _ _ _ (by intro e2; cases e2; exact e rfl)]
    exact h.at_ j hj

structure Play (L0 : Nat) (w : World) (g d p q : Nat) (C : Cfg) (l : List Int) (xs : Nat → Option Nat) (m : Nat → OpS) (N : Int) : Prop where
  dn : Dn w d p q C l
  ar : Ar w g xs
  gne : g ≠ d ∧ g ≠ p ∧ g ≠ q
  ops : ∀ i b, i ≤ 3 → xs i = some b → OpB w b d (m b) ∧ (b ≠ d ∧ b ≠ p ∧ b ≠ q) ∧ b ≠ g ∧ L0 ≤ b
  apart : Apart xs
  fi : FI C l (act xs m)
  fit : ∀ i b, i ≤ 3 → xs i = some b → Fit C l (m b) N
  t : -N ≤ rd C l 0 ∧ rd C l 0 ≤ N
  b : -N ≤ rd C l 1 ∧ rd C l 1 ≤ N
  lo : L0 ≤ g ∧ L0 ≤ p ∧ L0 ≤ q ∧ L0 ≤ d

section
variable {L0 : Nat} {w w' : World} {g d p q : Nat} {C : Cfg} {l : List Int} {xs : Nat → Option Nat} {m : Nat → OpS} {N : Int}

theorem Play.turned (h : Play L0 w g d p q C l xs m N) (t : Turned [] w w') : Play L0 w' g d p q C l xs m N :=
  ⟨h.dn.turned t (by simp) (by simp) (by simp), h.ar.turned t (by simp), h.gne, fun i b hi hb => ⟨(h.ops i b hi hb).1.turned t (by simp), (h.ops i b hi hb).2⟩, h.apart, h.fi, h.fit, h.t, h.b, h.lo⟩
theorem Play.more (h : Play L0 w g d p q C l xs m N) {M : Int} (hm : N ≤ M) : Play L0 w g d p q C l xs m M :=
  ⟨h.dn, h.ar, h.gne, h.ops, h.apart, h.fi, fun i b hi hb => (h.fit i b hi hb).mono hm, by have := h.t; constructor <;> omega, by have := h.b; constructor <;> omega, h.lo⟩

/-- Whether an operation is done: nil or not. -/
theorem Play.done (h : Play L0 w g d p q C l xs m N) (i : Nat) (hi : i ≤ 3) :
    Calls Try.prog 23 #[pv (xs i)] w fun e w' => e = .returned (.bool (act xs m i).done) ∧ w' = w := by
  cases hx : xs i with
  | none => simp only [act, hx]; exact done_nil w
  | some b => simp only [act, hx]; exact done_any w d b (m b) (h.ops i b hi hx).1

/-- A new operation in a done one's place. -/
theorem Play.begin (h : Play L0 w g d p q C l xs m N) (i : Nat) (hi : i ≤ 3) (hd : (act xs m i).done = true) (st : Stp) (v : Int) (hst : (i = 0 ∧ (st = .pushReadBottom ∨ st = .popReadBottom)) ∨ (1 ≤ i ∧ st = .stealReadTop)) (hL : L0 ≤ w.heap.size)
    (h1 : Dn w' d p q C l) (h2 : OpB w' w.heap.size d (opNew st v)) (h3 : Turned [] w w') (hne : w.heap.size ≠ d ∧ w.heap.size ≠ p ∧ w.heap.size ≠ q) :
    Play L0 (w'.setCell ⟨g, i, none⟩ (pv (some w.heap.size))) g d p q C l (updx xs i (some w.heap.size)) (upd m w.heap.size (opNew st v)) N ∧ Turned [g] w (w'.setCell ⟨g, i, none⟩ (pv (some w.heap.size))) := by
  have hlt : ∀ j b, j ≤ 3 → xs j = some b → b < w.heap.size := fun j b hj hb => (h.ops j b hj hb).1.lt
  have hg := h.ar.lt
  have ts : Turned [g] w' (w'.setCell ⟨g, i, none⟩ (pv (some w.heap.size))) := (Turned.refl _ _).setCell (by simp) _
  have key : ∀ j, j ≤ 3 → act (updx xs i (some w.heap.size)) (upd m w.heap.size (opNew st v)) j = upd (act xs m) i (opNew st v) j := by
    intro j hj
    by_cases e : j = i
    · subst e; simp [act, updx, upd]
    · simp only [act, updx, upd, if_neg e]
      cases hx : xs j with
      | none => rfl
      | some b => have := hlt j b hj hx; simp only [if_neg (show ¬ b = w.heap.size by omega)]
  refine ⟨⟨h1.turned ts (by simp; exact Ne.symm h.gne.1) (by simp; exact Ne.symm h.gne.2.1) (by simp; exact Ne.symm h.gne.2.2), (h.ar.turned h3 (by simp)).set i hi _, h.gne, fun j b hj hb => ?_, ?_, (fi_begin h.fi i hi hd st v hst).congr key, fun j b hj hb => ?_, h.t, h.b, h.lo⟩, (h3.mono (by simp)).trans ts⟩
  · unfold updx at hb
    split at hb
    · cases hb
      refine ⟨?_, hne, by omega, hL⟩
      have e : upd m w.heap.size (opNew st v) w.heap.size = opNew st v := by simp [upd]
      rw [e]
      exact h2.turned ts (by simp; omega)
    · have h4 := h.ops j b hj hb
      have h5 := hlt j b hj hb
      refine ⟨?_, h4.2⟩
      have e : upd m w.heap.size (opNew st v) b = m b := by simp [upd, show ¬ b = w.heap.size by omega]
      rw [e]
      exact (h4.1.turned h3 (by simp)).turned ts (by simp; exact h4.2.2.1)
  · intro j k b hj hk hjb hkb
    unfold updx at hjb hkb
    split at hjb <;> split at hkb
    · omega
    · cases hjb; have := hlt k _ hk hkb; omega
    · cases hkb; have := hlt j _ hj hjb; omega
    · exact h.apart j k b hj hk hjb hkb
  · unfold updx at hb
    split at hb
    · cases hb
      have e : upd m w.heap.size (opNew st v) w.heap.size = opNew st v := by simp [upd]
      rw [e]
      exact fit_new (by rcases hst with ⟨_, rfl | rfl⟩ | ⟨_, rfl⟩ <;> simp) h.t h.b
    · have h5 := hlt j b hj hb
      have e : upd m w.heap.size (opNew st v) b = m b := by simp [upd, show ¬ b = w.heap.size by omega]
      rw [e]
      exact h.fit j b hj hb

/-- A step of one of the four. -/
theorem Play.step (h : Play L0 w g d p q C l xs m N) (i : Nat) (hi : i ≤ 3) (b : Nat) (hb : xs i = some b) {s : Int}
    (h1 : Dq w' d p q C (stepOf C l (m b)).1 s) (h2 : OpB w' b d (stepOf C l (m b)).2) (h3 : Turned [p, q, b] w w') :
    Play L0 w' g d p q C (stepOf C l (m b)).1 xs (upd m b (stepOf C l (m b)).2) (N + 1) := by
  have hob := h.ops i b hi hb
  have e0 : act xs m i = m b := by simp [act, hb]
  have key : ∀ j, j ≤ 3 → act xs (upd m b (stepOf C l (m b)).2) j = upd (act xs m) i (stepOf C l (m b)).2 j := by
    intro j hj
    by_cases e : j = i
    · subst e; simp [act, upd, hb]
    · simp only [act, upd, if_neg e]
      cases hx : xs j with
      | none => rfl
      | some c => simp only [if_neg (show ¬ c = b by rintro rfl; exact e (h.apart j i c hj hi hx hb))]
  have hfi := fi_step h.fi i hi
  rw [e0] at hfi
  have hfit := h.fit i b hi hb
  have tb := step_tb C l (m b) N hfit
  refine ⟨⟨s, h1⟩, h.ar.turned h3 (by simp; exact ⟨h.gne.2.1, h.gne.2.2, Ne.symm hob.2.2.1⟩), h.gne, fun j c hj hc => ?_, h.apart, hfi.congr key, fun j c hj hc => ?_, tb.1, tb.2, h.lo⟩
  · have h4 := h.ops j c hj hc
    refine ⟨?_, h4.2⟩
    unfold upd
    split
    · rename_i e; subst e; exact h2
    · rename_i e
      exact h4.1.turned h3 (by simp; exact ⟨h4.2.1.2.1, h4.2.1.2.2, e⟩)
  · unfold upd
    split
    · exact fit_own C l (m b) N hfit
    · exact fit_other C l (m b) (m c) N hfit (h.fit j c hj hc)
end
end Go.Proofs.Ytdhfggdmlhgdoaa
