/-
  The program's deque and the document's, side by side: the same cells, the same counts, operations that go together ('Both').
-/
import Derived.Test.YtdhfggdmlhgdoaaDequeRItems
import Derived.Test.YtdhfggdmlhgdoaaDequePlay
namespace Go.Proofs.Ytdhfggdmlhgdoaa
open Go.RowKit
set_option linter.unusedVariables false

theorem stk_keep {C : Cfg} {T B L N T' B' L' N' : Int} {o o' : OpS} (h : StepSees T B L N T' B' L' N' o o') (hN : 0 ≤ N ∧ N ≤ C.over) (hc : CntOk C o) : 0 ≤ N' ∧ N' ≤ C.over := by
  obtain ⟨a, dn, t, u, n, v, en⟩ := o
  unfold StepSees at h
  unfold CntOk at hc
  cases a <;> simp only at h hc <;> omega

theorem op_ne {w : World} {b d c e : Nat} {o : OpS} {r : RO} (h : OpB w b d o) (k : RB w c e r) : b ≠ c := by
  rintro rfl
  unfold OpB at h
  unfold RB at k
  rw [h] at k
  simp at k

def updr (m : Nat → RO) (b : Nat) (o : RO) : Nat → RO := fun k => if k = b then o else m k

/-- q, p the program's memory, d its deque, ga the array of its operations; rq, rp, e, gb the document's. -/
structure Both (L0 : Nat) (w : World) (q p rq rp d e ga gb : Nat) (C : Cfg) (l : List Int) (s : Int) (xs ys : Nat → Option Nat) (m : Nat → OpS) (rm : Nat → RO) (N : Int) : Prop where
  ord : L0 ≤ q ∧ q < p ∧ p < rq ∧ rq < rp ∧ rp < d ∧ d < e ∧ e < ga ∧ ga < gb
  dq : Dq w d p q C l s
  rdq : RDq w e rp rq C l s
  arA : Ar w ga xs
  arB : Ar w gb ys
  ops : ∀ i b, i ≤ 3 → xs i = some b → OpB w b d (m b) ∧ gb < b
  rops : ∀ i c, i ≤ 3 → ys i = some c → RB w c e (rm c) ∧ gb < c
  pair : ∀ i, i ≤ 3 → (xs i = none ∧ ys i = none) ∨ ∃ b c, xs i = some b ∧ ys i = some c ∧ RelOp (m b) (rm c)
  apA : Apart xs
  apB : Apart ys
  fit : ∀ i b, i ≤ 3 → xs i = some b → Fit C l (m b) N
  t : -N ≤ rd C l 0 ∧ rd C l 0 ≤ N
  b : -N ≤ rd C l 1 ∧ rd C l 1 ≤ N
  stk : 0 ≤ rd C l 3 ∧ rd C l 3 ≤ C.over

section
variable {L0 : Nat} {w : World} {q p rq rp d e ga gb : Nat} {C : Cfg} {l : List Int} {s : Int} {xs ys : Nat → Option Nat} {m : Nat → OpS} {rm : Nat → RO} {N : Int}

theorem Both.turned (h : Both L0 w q p rq rp d e ga gb C l s xs ys m rm N) {w' : World} (t : Turned [] w w') : Both L0 w' q p rq rp d e ga gb C l s xs ys m rm N :=
  ⟨h.ord, h.dq.turned t (by simp) (by simp) (by simp), h.rdq.turned t (by simp) (by simp) (by simp), h.arA.turned t (by simp), h.arB.turned t (by simp), fun i b hi hb => ⟨(h.ops i b hi hb).1.turned t (by simp), (h.ops i b hi hb).2⟩, fun i b hi hb => ⟨(h.rops i b hi hb).1.turned t (by simp), (h.rops i b hi hb).2⟩, h.pair, h.apA, h.apB, h.fit, h.t, h.b, h.stk⟩
theorem Both.more (h : Both L0 w q p rq rp d e ga gb C l s xs ys m rm N) {M : Int} (hm : N ≤ M) : Both L0 w q p rq rp d e ga gb C l s xs ys m rm M :=
  ⟨h.ord, h.dq, h.rdq, h.arA, h.arB, h.ops, h.rops, h.pair, h.apA, h.apB, fun i b hi hb => (h.fit i b hi hb).mono hm, by have := h.t; constructor <;> omega, by have := h.b; constructor <;> omega, h.stk⟩

/-- Both begin an operation in the same place. -/
theorem Both.begin (h : Both L0 w q p rq rp d e ga gb C l s xs ys m rm N) (i : Nat) (hi : i ≤ 3) (st : Stp) (kk v : Int) (hst : (st = .pushReadBottom ∧ kk = 0) ∨ (st = .popReadBottom ∧ kk = 1) ∨ (st = .stealReadTop ∧ kk = 2))
    {w1 w3 : World} {b c : Nat} (hb : b = w.heap.size) (h1 : Dq w1 d p q C l s) (h2 : OpB w1 b d (opNew st v)) (h3 : Turned [] w w1)
    (hc : c = (w1.setCell ⟨ga, i, none⟩ (.pointer (some ⟨b, 0, none⟩))).heap.size) (h5 : RB w3 c e (roNew kk v)) (h6 : Turned [] (w1.setCell ⟨ga, i, none⟩ (.pointer (some ⟨b, 0, none⟩))) w3) :
    Both L0 (w3.setCell ⟨gb, i, none⟩ (.pointer (some ⟨c, 0, none⟩))) q p rq rp d e ga gb C l s (updx xs i (some b)) (updx ys i (some c)) (upd m b (opNew st v)) (updr rm c (roNew kk v)) N ∧ Turned [ga, gb] w (w3.setCell ⟨gb, i, none⟩ (.pointer (some ⟨c, 0, none⟩))) := by
  have ho := h.ord
  have lb := h2.lt
  have hsz : (w1.setCell ⟨ga, i, none⟩ (.pointer (some ⟨b, 0, none⟩))).heap.size = w1.heap.size := by simp
  have s1 := h3.size
  have hgb := h.arB.lt
  have hcb : b < c := by rw [hc, hsz]; exact lb
  have xlt : ∀ j x, j ≤ 3 → xs j = some x → x < b := fun j x hj hx => by rw [hb]; exact (h.ops j x hj hx).1.lt
  have ylt : ∀ j x, j ≤ 3 → ys j = some x → x < b := fun j x hj hx => by rw [hb]; exact (h.rops j x hj hx).1.lt
  have ta : Turned [ga] w1 (w1.setCell ⟨ga, i, none⟩ (.pointer (some ⟨b, 0, none⟩))) := (Turned.refl _ _).setCell (by simp) _
  have tb : Turned [gb] w3 (w3.setCell ⟨gb, i, none⟩ (.pointer (some ⟨c, 0, none⟩))) := (Turned.refl _ _).setCell (by simp) _
  have T13 : Turned [ga, gb] w1 (w3.setCell ⟨gb, i, none⟩ (.pointer (some ⟨c, 0, none⟩))) := ((ta.mono (by simp)).trans (h6.mono (by simp))).trans (tb.mono (by simp))
  have TT : Turned [ga, gb] w (w3.setCell ⟨gb, i, none⟩ (.pointer (some ⟨c, 0, none⟩))) := (h3.mono (by simp)).trans T13
  have hA : Ar (w3.setCell ⟨gb, i, none⟩ (.pointer (some ⟨c, 0, none⟩))) ga (updx xs i (some b)) := (((h.arA.turned h3 (by simp)).set i hi (some b)).turned h6 (by simp)).turned tb (by simp; omega)
  have hB : Ar (w3.setCell ⟨gb, i, none⟩ (.pointer (some ⟨c, 0, none⟩))) gb (updx ys i (some c)) := (((h.arB.turned h3 (by simp)).turned ta (by simp; omega)).turned h6 (by simp)).set i hi (some c)
  refine ⟨⟨ho, h1.turned T13 (by simp; omega) (by simp; omega) (by simp; omega), h.rdq.turned TT (by simp; omega) (by simp; omega) (by simp; omega), hA, hB, fun j x hj hx => ?_, fun j x hj hx => ?_, fun j hj => ?_, ?_, ?_, fun j x hj hx => ?_, h.t, h.b, h.stk⟩, TT⟩
  · unfold updx at hx
    split at hx
    · cases hx
      refine ⟨?_, by omega⟩
      rw [show upd m b (opNew st v) b = opNew st v by simp [upd]]
      exact h2.turned T13 (by simp; omega)
    · have h7 := h.ops j x hj hx
      have h8 := xlt j x hj hx
      refine ⟨?_, h7.2⟩
      rw [show upd m b (opNew st v) x = m x by simp [upd, show ¬ x = b by omega]]
      exact h7.1.turned TT (by simp; omega)
  · unfold updx at hx
    split at hx
    · cases hx
      refine ⟨?_, by omega⟩
      rw [show updr rm c (roNew kk v) c = roNew kk v by simp [updr]]
      exact h5.turned tb (by simp; omega)
    · have h7 := h.rops j x hj hx
      have h8 := ylt j x hj hx
      refine ⟨?_, h7.2⟩
      rw [show updr rm c (roNew kk v) x = rm x by simp [updr, show ¬ x = c by omega]]
      exact h7.1.turned TT (by simp; omega)
  · unfold updx
    by_cases ej : j = i
    · simp only [if_pos ej]
      exact .inr ⟨b, c, rfl, rfl, by rw [show upd m b (opNew st v) b = opNew st v by simp [upd], show updr rm c (roNew kk v) c = roNew kk v by simp [updr]]; exact rel_new st kk v hst⟩
    · simp only [if_neg ej]
      rcases h.pair j hj with h7 | ⟨x, y, h7, h8, h9⟩
      · exact .inl h7
      · have := xlt j x hj h7
        have := ylt j y hj h8
        exact .inr ⟨x, y, h7, h8, by rw [show upd m b (opNew st v) x = m x by simp [upd, show ¬ x = b by omega], show updr rm c (roNew kk v) y = rm y by simp [updr, show ¬ y = c by omega]]; exact h9⟩
  · intro j k x hj hk hjb hkb
    unfold updx at hjb hkb
    split at hjb <;> split at hkb
    · omega
    · cases hjb; have := xlt k _ hk hkb; omega
    · cases hkb; have := xlt j _ hj hjb; omega
    · exact h.apA j k x hj hk hjb hkb
  · intro j k x hj hk hjb hkb
    unfold updx at hjb hkb
    split at hjb <;> split at hkb
    · omega
    · cases hjb; have := ylt k _ hk hkb; omega
    · cases hkb; have := ylt j _ hj hjb; omega
    · exact h.apB j k x hj hk hjb hkb
  · unfold updx at hx
    split at hx
    · cases hx
      rw [show upd m b (opNew st v) b = opNew st v by simp [upd]]
      exact fit_new (by rcases hst with ⟨rfl, _⟩ | ⟨rfl, _⟩ | ⟨rfl, _⟩ <;> simp) h.t h.b
    · have h8 := xlt j x hj hx
      rw [show upd m b (opNew st v) x = m x by simp [upd, show ¬ x = b by omega]]
      exact h.fit j x hj hx

/-- Both take a step of the same operation. -/
theorem Both.step (h : Both L0 w q p rq rp d e ga gb C l s xs ys m rm N) (i : Nat) (hi : i ≤ 3) {b c : Nat} (hx : xs i = some b) (hy : ys i = some c) (hd : (m b).done = false)
    {w1 w2 : World} {r' : RO} (h1 : Dq w1 d p q C (stepOf C l (m b)).1 (wrap64 (s + 1))) (h2 : OpB w1 b d (stepOf C l (m b)).2) (h3 : Turned [p, q, b] w w1)
    (h4 : RDq w2 e rp rq C (stepOf C l (m b)).1 (wrap64 (s + 1))) (h5 : RB w2 c e r') (h6 : Turned [rp, rq, c] w1 w2) (h7 : RelOp (stepOf C l (m b)).2 r') :
    Both L0 w2 q p rq rp d e ga gb C (stepOf C l (m b)).1 (wrap64 (s + 1)) xs ys (upd m b (stepOf C l (m b)).2) (updr rm c r') (N + 1) ∧ Turned [p, q, b, rp, rq, c] w w2 := by
  have ho := h.ord
  have hb := h.ops i b hi hx
  have hc := h.rops i c hi hy
  have hbc := op_ne hb.1 hc.1
  have hfit := h.fit i b hi hx
  have tb := step_tb C l (m b) N hfit
  obtain ⟨hlen, hss⟩ := step_sees C l (m b) h.dq.room hd
  have hst := stk_keep hss h.stk hfit.cnt
  have TT : Turned [p, q, b, rp, rq, c] w w2 := (h3.mono (by intro k hk; simp at hk; rcases hk with rfl | rfl | rfl <;> simp)).trans (h6.mono (by intro k hk; simp at hk; rcases hk with rfl | rfl | rfl <;> simp))
  refine ⟨⟨ho, h1.turned h6 (by simp; omega) (by simp; omega) (by simp; omega), h4, h.arA.turned TT (by simp; omega), h.arB.turned TT (by simp; omega), fun j x hj hxx => ?_, fun j y hj hyy => ?_, fun j hj => ?_, h.apA, h.apB, fun j x hj hxx => ?_, tb.1, tb.2, hst⟩, TT⟩
  · have h8 := h.ops j x hj hxx
    have h9 := op_ne h8.1 hc.1
    refine ⟨?_, h8.2⟩
    unfold upd
    split
    · rename_i ex; subst ex; exact h2.turned h6 (by simp; omega)
    · rename_i ex; exact (h8.1.turned TT (by simp; omega))
  · have h8 := h.rops j y hj hyy
    have h9 := op_ne hb.1 h8.1
    refine ⟨?_, h8.2⟩
    unfold updr
    split
    · rename_i ex; subst ex; exact h5
    · rename_i ex; exact (h8.1.turned TT (by simp; omega))
  · rcases h.pair j hj with h8 | ⟨x, y, h8, h9, h10⟩
    · exact .inl h8
    · refine .inr ⟨x, y, h8, h9, ?_⟩
      by_cases ej : j = i
      · subst ej
        rw [hx] at h8
        rw [hy] at h9
        cases h8
        cases h9
        rw [show upd m b (stepOf C l (m b)).2 b = (stepOf C l (m b)).2 by simp [upd], show updr rm c r' c = r' by simp [updr]]
        exact h7
      · have e1 : ¬ x = b := by rintro rfl; exact ej (h.apA j i x hj hi h8 hx)
        have e2 : ¬ y = c := by rintro rfl; exact ej (h.apB j i y hj hi h9 hy)
        rw [show upd m b (stepOf C l (m b)).2 x = m x by simp [upd, e1], show updr rm c r' y = rm y by simp [updr, e2]]
        exact h10
  · unfold upd
    split
    · exact fit_own C l (m b) N hfit
    · exact fit_other C l (m b) (m x) N hfit (h.fit j x hj hxx)
end
end Go.Proofs.Ytdhfggdmlhgdoaa
