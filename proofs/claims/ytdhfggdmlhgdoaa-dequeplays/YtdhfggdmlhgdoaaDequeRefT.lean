/-
  The document's Step goes with the program's: what both hold ('RelOp') stays the same, step by step. (Text by DequeRefT.gen.py.)
-/
import Derived.Test.YtdhfggdmlhgdoaaDequeRefS
import Derived.Test.YtdhfggdmlhgdoaaDequeFreeP
namespace Go.Proofs.Ytdhfggdmlhgdoaa
open Go.RowKit

/-- The document's number for the program's next step. -/
def AtOk (o : OpS) (r : RO) : Prop :=
  match o.at_ with
  | .pushReadBottom => r.kind = 0 ∧ r.at_ = 0
  | .pushReadTop => r.kind = 0 ∧ r.at_ = 1
  | .pushSlot => r.kind = 0 ∧ r.at_ = 2
  | .pushBottom => r.kind = 0 ∧ r.at_ = 3
  | .pushLock => r.kind = 0 ∧ r.at_ = 20
  | .pushCount => r.kind = 0 ∧ r.at_ = 21
  | .pushCell => r.kind = 0 ∧ r.at_ = 22
  | .pushCounted => r.kind = 0 ∧ r.at_ = 23
  | .free => r.at_ = 24
  | .popReadBottom => r.kind = 1 ∧ r.at_ = 0
  | .popBottom => r.kind = 1 ∧ r.at_ = 1
  | .popReadTop => r.kind = 1 ∧ r.at_ = 2
  | .popSlot => r.kind = 1 ∧ r.at_ = 3 ∧ r.t = o.top ∧ o.top < o.bottom
  | .popLast => r.kind = 1 ∧ r.at_ = 3 ∧ r.t = o.top ∧ ¬ o.top < o.bottom
  | .popSwap => r.kind = 1 ∧ r.at_ = 4 ∧ r.t = o.top
  | .popWon => r.kind = 1 ∧ r.at_ = 5 ∧ r.t + 1 = o.top ∧ r.won = true
  | .popNothing => r.kind = 1 ∧ ((r.at_ = 5 ∧ r.t + 1 = o.top ∧ r.won = false) ∨ (r.at_ = 6 ∧ r.t = o.top))
  | .stealReadTop => r.kind = 2 ∧ r.at_ = 0
  | .stealReadBottom => r.kind = 2 ∧ r.at_ = 1 ∧ r.t = o.top
  | .stealSlot => r.kind = 2 ∧ r.at_ = 2 ∧ r.t = o.top
  | .stealSwap => r.kind = 2 ∧ r.at_ = 3 ∧ r.t = o.top
  | .takeLock => r.kind ≠ 0 ∧ r.at_ = 20
  | .takeCount => r.kind ≠ 0 ∧ r.at_ = 21
  | .takeCell => r.kind ≠ 0 ∧ r.at_ = 22
  | .takeCounted => r.kind ≠ 0 ∧ r.at_ = 23

structure RelOp (o : OpS) (r : RO) : Prop where
  ended : r.ended = o.done
  err : r.err = o.errno
  v : o.done = false → r.v = o.item
  b : o.done = false → r.b = o.bottom
  n : o.done = false → r.n = o.count
  at_ : o.done = false → AtOk o r
  told : o.done = true → r.v = if o.errno = 0 then o.item else 0

section
variable (w : World) (d p q f : Nat) (C : Cfg) (L : List Int) (s : Int) (t b n v : Int) (won : Bool) (en : Int) (r' : RO)


theorem rt_stack (kk aa : Int) (haa : 20 ≤ aa) (ho : RB w f d ⟨kk, aa, t, b, n, v, won, false, en⟩)
    (H : Calls Try.prog 40 #[.pointer (some ⟨f, 0, none⟩)] w fun e w' => e = .returned (.tuple #[]) ∧ RDq w' d p q C L s ∧ RB w' f d r' ∧ Turned [p, q, f] w w') :
    Calls Try.prog 21 #[.pointer (some ⟨f, 0, none⟩)] w fun e w' => e = .returned (.bool r'.ended) ∧ RDq w' d p q C L s ∧ RB w' f d r' ∧ Turned [p, q, f] w w' := by
  have g1 := ho.g1
  have g2 := ho.g2
  have g8 := ho.g8
  have HI := hide H
  clear ho H
  go_enter Try.func21, Try.ntmps21
  go_wp2_with fail
  refine HI.out.mono ?_
  rintro e w1 ⟨rfl, h1, h2, h3⟩
  have k8 := h2.g8
  have H3 := hide (And.intro h1 (And.intro h2 h3))
  clear h1 h2 h3 HI g1 g2 g8
  go_wp2_with fail
  go_ret
  exact ⟨rfl, H3.out⟩


theorem rt_push (aa : Int) (haa : aa < 20) (ho : RB w f d ⟨0, aa, t, b, n, v, won, false, en⟩)
    (H : Calls Try.prog 41 #[.pointer (some ⟨f, 0, none⟩)] w fun e w' => e = .returned (.tuple #[]) ∧ RDq w' d p q C L s ∧ RB w' f d r' ∧ Turned [p, q, f] w w') :
    Calls Try.prog 21 #[.pointer (some ⟨f, 0, none⟩)] w fun e w' => e = .returned (.bool r'.ended) ∧ RDq w' d p q C L s ∧ RB w' f d r' ∧ Turned [p, q, f] w w' := by
  have g1 := ho.g1
  have g2 := ho.g2
  have g8 := ho.g8
  have HI := hide H
  clear ho H
  go_enter Try.func21, Try.ntmps21
  go_wp2_with fail
  refine HI.out.mono ?_
  rintro e w1 ⟨rfl, h1, h2, h3⟩
  have k8 := h2.g8
  have H3 := hide (And.intro h1 (And.intro h2 h3))
  clear h1 h2 h3 HI g1 g2 g8
  go_wp2_with fail
  go_ret
  exact ⟨rfl, H3.out⟩


theorem rt_pop (aa : Int) (haa : aa < 20) (ho : RB w f d ⟨1, aa, t, b, n, v, won, false, en⟩)
    (H : Calls Try.prog 42 #[.pointer (some ⟨f, 0, none⟩)] w fun e w' => e = .returned (.tuple #[]) ∧ RDq w' d p q C L s ∧ RB w' f d r' ∧ Turned [p, q, f] w w') :
    Calls Try.prog 21 #[.pointer (some ⟨f, 0, none⟩)] w fun e w' => e = .returned (.bool r'.ended) ∧ RDq w' d p q C L s ∧ RB w' f d r' ∧ Turned [p, q, f] w w' := by
  have g1 := ho.g1
  have g2 := ho.g2
  have g8 := ho.g8
  have HI := hide H
  clear ho H
  go_enter Try.func21, Try.ntmps21
  go_wp2_with fail
  refine HI.out.mono ?_
  rintro e w1 ⟨rfl, h1, h2, h3⟩
  have k8 := h2.g8
  have H3 := hide (And.intro h1 (And.intro h2 h3))
  clear h1 h2 h3 HI g1 g2 g8
  go_wp2_with fail
  go_ret
  exact ⟨rfl, H3.out⟩


theorem rt_steal (aa : Int) (haa : aa < 20) (ho : RB w f d ⟨2, aa, t, b, n, v, won, false, en⟩)
    (H : Calls Try.prog 43 #[.pointer (some ⟨f, 0, none⟩)] w fun e w' => e = .returned (.tuple #[]) ∧ RDq w' d p q C L s ∧ RB w' f d r' ∧ Turned [p, q, f] w w') :
    Calls Try.prog 21 #[.pointer (some ⟨f, 0, none⟩)] w fun e w' => e = .returned (.bool r'.ended) ∧ RDq w' d p q C L s ∧ RB w' f d r' ∧ Turned [p, q, f] w w' := by
  have g1 := ho.g1
  have g2 := ho.g2
  have g8 := ho.g8
  have HI := hide H
  clear ho H
  go_enter Try.func21, Try.ntmps21
  go_wp2_with fail
  refine HI.out.mono ?_
  rintro e w1 ⟨rfl, h1, h2, h3⟩
  have k8 := h2.g8
  have H3 := hide (And.intro h1 (And.intro h2 h3))
  clear h1 h2 h3 HI g1 g2 g8
  go_wp2_with fail
  go_ret
  exact ⟨rfl, H3.out⟩


theorem rstep_done (r : RO) (hr : r.ended = true) (ho : RB w f d r) :
    Calls Try.prog 21 #[.pointer (some ⟨f, 0, none⟩)] w fun e w' => e = .returned (.bool true) ∧ w' = w := by
  have g8 := ho.g8
  rw [hr] at g8
  clear ho
  go_enter Try.func21, Try.ntmps21
  go_wp2_with fail
  go_ret
  exact ⟨rfl, rfl⟩
end

section
variable (w : World) (d p q f : Nat) (C : Cfg) (l : List Int) (s : Int)

theorem rstep_open (N : Int) (hN : N ≤ 2305843009213693951) (o : OpS) (r : RO) (fit : Fit C l o N) (hd : o.done = false) (hs : 0 ≤ rd C l 3 ∧ rd C l 3 ≤ C.over) (rel : RelOp o r) (hne : f ≠ d ∧ f ≠ p ∧ f ≠ q) (h : RDq w d p q C l s) (ho : RB w f d r) :
    Calls Try.prog 21 #[.pointer (some ⟨f, 0, none⟩)] w fun e w' => e = .returned (.bool (stepOf C l o).2.done) ∧ RDq w' d p q C (stepOf C l o).1 (wrap64 (s + 1)) ∧ (∃ r', RB w' f d r' ∧ RelOp (stepOf C l o).2 r') ∧ Turned [p, q, f] w w' := by
  have fin : ∀ {L : List Int} {r' : RO}, (Calls Try.prog 21 #[.pointer (some ⟨f, 0, none⟩)] w fun e w' => e = .returned (.bool r'.ended) ∧ RDq w' d p q C L (wrap64 (s + 1)) ∧ RB w' f d r' ∧ Turned [p, q, f] w w') → L = (stepOf C l o).1 → RelOp (stepOf C l o).2 r' →
      Calls Try.prog 21 #[.pointer (some ⟨f, 0, none⟩)] w fun e w' => e = .returned (.bool (stepOf C l o).2.done) ∧ RDq w' d p q C (stepOf C l o).1 (wrap64 (s + 1)) ∧ (∃ r', RB w' f d r' ∧ RelOp (stepOf C l o).2 r') ∧ Turned [p, q, f] w w' := by
    intro L r' hc hL hr
    refine hc.mono ?_
    rintro e w' ⟨rfl, h1, h2, h3⟩
    rw [hL] at h1
    exact ⟨by rw [hr.ended], h1, ⟨r', h2, hr⟩, h3⟩
  have hst : ((stackedOf C (rd C l 3) : Nat) : Int) = rd C l 3 := by unfold stackedOf; omega
  obtain ⟨a, dn, t, u, m, v, en⟩ := o
  obtain ⟨kk, aa, rt, rb, rn, rv, won, ee, er⟩ := r
  have hd' : dn = false := hd
  subst hd'
  have q1 : ee = false := rel.ended
  have q2 : er = en := rel.err
  have q3 : rv = v := rel.v rfl
  have q4 : rb = u := rel.b rfl
  have q5 : rn = (m : Int) := rel.n rfl
  have q6 := rel.at_ rfl
  have f1 := fit.t
  have f2 := fit.b
  have f3 : -N ≤ t ∧ t ≤ N := fit.ot
  have f4 : -N ≤ u ∧ u ≤ N := fit.ob
  have f5 := fit.cnt
  subst q1 q2 q3 q4 q5
  have hcap := h.cap
  unfold AtOk at q6
  cases a <;> simp only at q6
  case pushReadBottom =>
    obtain ⟨rfl, rfl⟩ := q6
    refine fin (rt_push w d p q f C _ _ rt rb (m : Int) rv won er _ 0 (by omega) ho (rs_push0 w d p q f C l s rt rb (m : Int) rv won er hne h ho)) ?_ ?_
    · rfl
    · exact ⟨rfl, rfl, fun _ => rfl, fun _ => rfl, fun _ => rfl, fun _ => ⟨rfl, rfl⟩, fun h => by simp [stepOf] at h⟩
  case pushReadTop =>
    obtain ⟨rfl, rfl⟩ := q6
    refine fin (rt_push w d p q f C _ _ rt rb (m : Int) rv won er _ 1 (by omega) ho (rs_push1 w d p q f C l s rt rb (m : Int) rv won er (by omega) (by omega) hne h ho)) rfl ?_
    have hh : heldOf C (rd C l 0) rb < C.cap ↔ ¬ ((C.cap : Int) ≤ rb - rd C l 0) := by unfold heldOf; split <;> omega
    by_cases hz : (C.cap : Int) ≤ rb - rd C l 0
    · have hz2 : ¬ heldOf C (rd C l 0) rb < C.cap := fun h => hh.1 h hz
      rw [if_pos hz]
      refine ⟨rfl, rfl, fun _ => rfl, fun _ => rfl, fun _ => rfl, fun _ => ?_, fun h => by simp [stepOf] at h⟩
      simp only [stepOf, Bool.false_eq_true, if_false, if_neg hz2, AtOk]
      exact ⟨trivial, trivial⟩
    · have hz2 : heldOf C (rd C l 0) rb < C.cap := hh.2 hz
      rw [if_neg hz]
      refine ⟨rfl, rfl, fun _ => rfl, fun _ => rfl, fun _ => rfl, fun _ => ?_, fun h => by simp [stepOf] at h⟩
      simp only [stepOf, Bool.false_eq_true, if_false, if_pos hz2, AtOk]
      exact ⟨trivial, trivial⟩
  case pushSlot =>
    obtain ⟨rfl, rfl⟩ := q6
    refine fin (rt_push w d p q f C _ _ rt rb (m : Int) rv won er _ 2 (by omega) ho (rs_push2 w d p q f C l s rt rb (m : Int) rv won er hne h ho)) ?_ ?_
    · rfl
    · exact ⟨rfl, rfl, fun _ => rfl, fun _ => rfl, fun _ => rfl, fun _ => ⟨rfl, rfl⟩, fun h => by simp [stepOf] at h⟩
  case pushBottom =>
    obtain ⟨rfl, rfl⟩ := q6
    refine fin (rt_push w d p q f C _ _ rt rb (m : Int) rv won er _ 3 (by omega) ho (rs_push3 w d p q f C l s rt rb (m : Int) rv won er (by omega) hne h ho)) ?_ ?_
    · rfl
    · exact ⟨rfl, rfl, fun h => by simp [stepOf] at h, fun h => by simp [stepOf] at h, fun h => by simp [stepOf] at h, fun h => by simp [stepOf] at h, fun _ => rfl⟩
  case pushLock =>
    obtain ⟨rfl, rfl⟩ := q6
    by_cases hz : rd C l 2 = 0
    · have e1 : stepOf C l ⟨.pushLock, false, t, rb, m, rv, er⟩ = (wr C l 2 1, ⟨.pushCount, false, t, rb, m, rv, er⟩) := by simp [stepOf, hz]
      refine fin (rt_stack w d p q f C _ _ rt rb (m : Int) rv won er _ 0 20 (by omega) ho (rs_stk20 w d p q f C l s rt rb (m : Int) rv won er 0 hne h ho)) (by rw [e1, if_pos hz]) ?_
      rw [e1, if_pos hz]
      exact ⟨rfl, rfl, fun _ => rfl, fun _ => rfl, fun _ => rfl, fun _ => ⟨rfl, rfl⟩, fun h => by simp at h⟩
    · have e1 : stepOf C l ⟨.pushLock, false, t, rb, m, rv, er⟩ = (l, ⟨.pushLock, false, t, rb, m, rv, er⟩) := by simp [stepOf, hz]
      refine fin (rt_stack w d p q f C _ _ rt rb (m : Int) rv won er _ 0 20 (by omega) ho (rs_stk20 w d p q f C l s rt rb (m : Int) rv won er 0 hne h ho)) (by rw [e1, if_neg hz]) ?_
      rw [e1, if_neg hz]
      exact ⟨rfl, rfl, fun _ => rfl, fun _ => rfl, fun _ => rfl, fun _ => ⟨rfl, rfl⟩, fun h => by simp at h⟩
  case takeLock =>
    obtain ⟨hkk, rfl⟩ := q6
    by_cases hz : rd C l 2 = 0
    · have e1 : stepOf C l ⟨.takeLock, false, t, rb, m, rv, er⟩ = (wr C l 2 1, ⟨.takeCount, false, t, rb, m, rv, er⟩) := by simp [stepOf, hz]
      refine fin (rt_stack w d p q f C _ _ rt rb (m : Int) rv won er _ kk 20 (by omega) ho (rs_stk20 w d p q f C l s rt rb (m : Int) rv won er kk hne h ho)) (by rw [e1, if_pos hz]) ?_
      rw [e1, if_pos hz]
      exact ⟨rfl, rfl, fun _ => rfl, fun _ => rfl, fun _ => rfl, fun _ => ⟨hkk, rfl⟩, fun h => by simp at h⟩
    · have e1 : stepOf C l ⟨.takeLock, false, t, rb, m, rv, er⟩ = (l, ⟨.takeLock, false, t, rb, m, rv, er⟩) := by simp [stepOf, hz]
      refine fin (rt_stack w d p q f C _ _ rt rb (m : Int) rv won er _ kk 20 (by omega) ho (rs_stk20 w d p q f C l s rt rb (m : Int) rv won er kk hne h ho)) (by rw [e1, if_neg hz]) ?_
      rw [e1, if_neg hz]
      exact ⟨rfl, rfl, fun _ => rfl, fun _ => rfl, fun _ => rfl, fun _ => ⟨hkk, rfl⟩, fun h => by simp at h⟩
  case pushCount =>
    obtain ⟨rfl, rfl⟩ := q6
    by_cases hz : C.over ≤ stackedOf C (rd C l 3)
    · have hz2 : (C.over : Int) ≤ rd C l 3 := by omega
      have e1 : stepOf C l ⟨.pushCount, false, t, rb, m, rv, er⟩ = (l, ⟨.free, false, t, rb, stackedOf C (rd C l 3), rv, 14⟩) := by simp [stepOf, hz]
      refine fin (rt_stack w d p q f C _ _ rt rb (m : Int) rv won er _ 0 21 (by omega) ho (rs_stk21a w d p q f C l s rt rb (m : Int) rv won er hne h ho)) (by rw [e1]) ?_
      rw [e1, if_pos hz2]
      exact ⟨rfl, rfl, fun _ => rfl, fun _ => rfl, fun _ => hst.symm, fun _ => rfl, fun h => by simp at h⟩
    · have hz2 : ¬ (C.over : Int) ≤ rd C l 3 := by omega
      have e1 : stepOf C l ⟨.pushCount, false, t, rb, m, rv, er⟩ = (l, ⟨.pushCell, false, t, rb, stackedOf C (rd C l 3), rv, er⟩) := by simp [stepOf, hz]
      refine fin (rt_stack w d p q f C _ _ rt rb (m : Int) rv won er _ 0 21 (by omega) ho (rs_stk21a w d p q f C l s rt rb (m : Int) rv won er hne h ho)) (by rw [e1]) ?_
      rw [e1, if_neg hz2]
      exact ⟨rfl, rfl, fun _ => rfl, fun _ => rfl, fun _ => hst.symm, fun _ => ⟨rfl, rfl⟩, fun h => by simp at h⟩
  case takeCount =>
    obtain ⟨hkk, rfl⟩ := q6
    by_cases hz : stackedOf C (rd C l 3) = 0
    · have hz2 : rd C l 3 = 0 := by omega
      have e1 : stepOf C l ⟨.takeCount, false, t, rb, m, rv, er⟩ = (l, ⟨.free, false, t, rb, stackedOf C (rd C l 3), rv, 15⟩) := by simp [stepOf, hz]
      refine fin (rt_stack w d p q f C _ _ rt rb (m : Int) rv won er _ kk 21 (by omega) ho (rs_stk21b w d p q f C l s rt rb (m : Int) rv won er kk hkk hne h ho)) (by rw [e1]) ?_
      rw [e1, if_pos hz2]
      exact ⟨rfl, rfl, fun _ => rfl, fun _ => rfl, fun _ => hst.symm, fun _ => rfl, fun h => by simp at h⟩
    · have hz2 : ¬ rd C l 3 = 0 := by omega
      have e1 : stepOf C l ⟨.takeCount, false, t, rb, m, rv, er⟩ = (l, ⟨.takeCell, false, t, rb, stackedOf C (rd C l 3), rv, er⟩) := by simp [stepOf, hz]
      refine fin (rt_stack w d p q f C _ _ rt rb (m : Int) rv won er _ kk 21 (by omega) ho (rs_stk21b w d p q f C l s rt rb (m : Int) rv won er kk hkk hne h ho)) (by rw [e1]) ?_
      rw [e1, if_neg hz2]
      exact ⟨rfl, rfl, fun _ => rfl, fun _ => rfl, fun _ => hst.symm, fun _ => ⟨hkk, rfl⟩, fun h => by simp at h⟩
  case pushCell =>
    obtain ⟨rfl, rfl⟩ := q6
    refine fin (rt_stack w d p q f C _ _ rt rb (m : Int) rv won er _ 0 22 (by omega) ho (rs_stk22a w d p q f C l s rt rb (m : Int) rv won er m rfl f5 hne h ho)) ?_ ?_
    · rfl
    · exact ⟨rfl, rfl, fun _ => rfl, fun _ => rfl, fun _ => rfl, fun _ => ⟨rfl, rfl⟩, fun h => by simp [stepOf] at h⟩
  case takeCell =>
    obtain ⟨hkk, rfl⟩ := q6
    refine fin (rt_stack w d p q f C _ _ rt rb (m : Int) rv won er _ kk 22 (by omega) ho (rs_stk22b w d p q f C l s rt rb (m : Int) rv won er kk hkk m rfl f5 hne h ho)) ?_ ?_
    · rfl
    · exact ⟨rfl, rfl, fun _ => rfl, fun _ => rfl, fun _ => rfl, fun _ => ⟨hkk, rfl⟩, fun h => by simp [stepOf] at h⟩
  case pushCounted =>
    obtain ⟨rfl, rfl⟩ := q6
    refine fin (rt_stack w d p q f C _ _ rt rb (m : Int) rv won er _ 0 23 (by omega) ho (rs_stk23a w d p q f C l s rt rb (m : Int) rv won er (by have := h.over; have : m < C.over := f5; omega) hne h ho)) ?_ ?_
    · rfl
    · exact ⟨rfl, rfl, fun _ => rfl, fun _ => rfl, fun _ => rfl, fun _ => rfl, fun h => by simp [stepOf] at h⟩
  case takeCounted =>
    obtain ⟨hkk, rfl⟩ := q6
    refine fin (rt_stack w d p q f C _ _ rt rb (m : Int) rv won er _ kk 23 (by omega) ho (rs_stk23b w d p q f C l s rt rb (m : Int) rv won er kk hkk (by have := h.over; have : 0 < m ∧ m ≤ C.over := f5; omega) hne h ho)) ?_ ?_
    · rfl
    · exact ⟨rfl, rfl, fun _ => rfl, fun _ => rfl, fun _ => rfl, fun _ => rfl, fun h => by simp [stepOf] at h⟩
  case free =>
    have q6' : aa = 24 := q6
    subst q6'
    refine fin (rt_stack w d p q f C _ _ rt rb (m : Int) rv won er _ kk 24 (by omega) ho (rs_stk24 w d p q f C l s rt rb (m : Int) rv won er kk hne h ho)) rfl ?_
    exact ⟨rfl, rfl, fun h => by simp [stepOf] at h, fun h => by simp [stepOf] at h, fun h => by simp [stepOf] at h, fun h => by simp [stepOf] at h, fun _ => rfl⟩
  case popReadBottom =>
    obtain ⟨rfl, rfl⟩ := q6
    refine fin (rt_pop w d p q f C _ _ rt rb (m : Int) rv won er _ 0 (by omega) ho (rs_pop0 w d p q f C l s rt rb (m : Int) rv won er (by omega) hne h ho)) ?_ ?_
    · rfl
    · exact ⟨rfl, rfl, fun _ => rfl, fun _ => rfl, fun _ => rfl, fun _ => ⟨rfl, rfl⟩, fun h => by simp [stepOf] at h⟩
  case popBottom =>
    obtain ⟨rfl, rfl⟩ := q6
    refine fin (rt_pop w d p q f C _ _ rt rb (m : Int) rv won er _ 1 (by omega) ho (rs_pop1 w d p q f C l s rt rb (m : Int) rv won er hne h ho)) ?_ ?_
    · rfl
    · exact ⟨rfl, rfl, fun _ => rfl, fun _ => rfl, fun _ => rfl, fun _ => ⟨rfl, rfl⟩, fun h => by simp [stepOf] at h⟩
  case popReadTop =>
    obtain ⟨rfl, rfl⟩ := q6
    refine fin (rt_pop w d p q f C _ _ rt rb (m : Int) rv won er _ 2 (by omega) ho (rs_pop2 w d p q f C l s rt rb (m : Int) rv won er hne h ho)) rfl ?_
    by_cases hz : rb < rd C l 0
    · have n1 : ¬ rd C l 0 < rb := by omega
      have n2 : ¬ rd C l 0 = rb := by omega
      rw [if_pos hz]
      refine ⟨rfl, rfl, fun _ => rfl, fun _ => rfl, fun _ => rfl, fun _ => ?_, fun h => by simp [stepOf] at h⟩
      simp only [stepOf, Bool.false_eq_true, if_false, if_neg n1, if_neg n2, AtOk]
      exact ⟨trivial, .inr ⟨trivial, trivial⟩⟩
    · rw [if_neg hz]
      refine ⟨rfl, rfl, fun _ => rfl, fun _ => rfl, fun _ => rfl, fun _ => ?_, fun h => by simp [stepOf] at h⟩
      by_cases n1 : rd C l 0 < rb
      · simp only [stepOf, Bool.false_eq_true, if_false, if_pos n1, AtOk]
        exact ⟨trivial, trivial, trivial, n1⟩
      · have n2 : rd C l 0 = rb := by omega
        simp only [stepOf, Bool.false_eq_true, if_false, if_neg n1, if_pos n2, AtOk]
        exact ⟨trivial, trivial, trivial, n1⟩
  case popSlot =>
    obtain ⟨rfl, rfl, q7, q8⟩ := q6
    have q7' : rt = t := q7
    subst q7'
    have q8' : rt < rb := q8
    have hc := rt_pop w d p q f C _ _ rt rb (m : Int) rv won er _ 3 (by omega) ho (rs_pop3 w d p q f C l s rt rb (m : Int) rv won er hne h ho)
    rw [if_pos q8'] at hc
    refine fin hc rfl ?_
    exact ⟨rfl, rfl, fun h => by simp [stepOf] at h, fun h => by simp [stepOf] at h, fun h => by simp [stepOf] at h, fun h => by simp [stepOf] at h, fun _ => rfl⟩
  case popLast =>
    obtain ⟨rfl, rfl, q7, q8⟩ := q6
    have q7' : rt = t := q7
    subst q7'
    have q8' : ¬ rt < rb := q8
    have hc := rt_pop w d p q f C _ _ rt rb (m : Int) rv won er _ 3 (by omega) ho (rs_pop3 w d p q f C l s rt rb (m : Int) rv won er hne h ho)
    rw [if_neg q8'] at hc
    refine fin hc rfl ?_
    exact ⟨rfl, rfl, fun _ => rfl, fun _ => rfl, fun _ => rfl, fun _ => ⟨rfl, rfl, rfl⟩, fun h => by simp [stepOf] at h⟩
  case popSwap =>
    obtain ⟨rfl, rfl, q7⟩ := q6
    have q7' : rt = t := q7
    subst q7'
    have hc := rt_pop w d p q f C _ _ rt rb (m : Int) rv won er _ 4 (by omega) ho (rs_pop4 w d p q f C l s rt rb (m : Int) rv won er (by omega) hne h ho)
    by_cases hz : rd C l 0 = rt
    · rw [if_pos hz, decide_eq_true hz] at hc
      have e1 : stepOf C l ⟨.popSwap, false, rt, rb, m, rv, er⟩ = (wr C l 0 (rt + 1), ⟨.popWon, false, rt + 1, rb, m, rv, er⟩) := by simp [stepOf, hz]
      refine fin hc (by rw [e1]) ?_
      rw [e1]
      exact ⟨rfl, rfl, fun _ => rfl, fun _ => rfl, fun _ => rfl, fun _ => ⟨rfl, rfl, rfl, rfl⟩, fun h => by simp at h⟩
    · rw [if_neg hz, decide_eq_false hz] at hc
      have e1 : stepOf C l ⟨.popSwap, false, rt, rb, m, rv, er⟩ = (l, ⟨.popNothing, false, rt + 1, rb, m, rv, er⟩) := by simp [stepOf, hz]
      refine fin hc (by rw [e1]) ?_
      rw [e1]
      exact ⟨rfl, rfl, fun _ => rfl, fun _ => rfl, fun _ => rfl, fun _ => ⟨rfl, .inl ⟨rfl, rfl, rfl⟩⟩, fun h => by simp at h⟩
  case popWon =>
    obtain ⟨rfl, rfl, q7, q8⟩ := q6
    have q7' : rt + 1 = t := q7
    have q8' : won = true := q8
    subst q7' q8'
    refine fin (rt_pop w d p q f C _ _ rt rb (m : Int) rv true er _ 5 (by omega) ho (rs_pop5w w d p q f C l s rt rb (m : Int) rv er (by omega) hne h ho)) rfl ?_
    exact ⟨rfl, rfl, fun h => by simp [stepOf] at h, fun h => by simp [stepOf] at h, fun h => by simp [stepOf] at h, fun h => by simp [stepOf] at h, fun _ => rfl⟩
  case popNothing =>
    obtain ⟨rfl, ⟨rfl, q7, q8⟩ | ⟨rfl, q7⟩⟩ := q6
    · have q7' : rt + 1 = t := q7
      have q8' : won = false := q8
      subst q7' q8'
      refine fin (rt_pop w d p q f C _ _ rt rb (m : Int) rv false er _ 5 (by omega) ho (rs_pop5l w d p q f C l s rt rb (m : Int) rv er (by omega) hne h ho)) rfl ?_
      exact ⟨rfl, rfl, fun _ => rfl, fun _ => rfl, fun _ => rfl, fun _ => ⟨show (1 : Int) ≠ 0 by decide, rfl⟩, fun h => by simp [stepOf] at h⟩
    · have q7' : rt = t := q7
      subst q7'
      refine fin (rt_pop w d p q f C _ _ rt rb (m : Int) rv won er _ 6 (by omega) ho (rs_pop6 w d p q f C l s rt rb (m : Int) rv won er hne h ho)) rfl ?_
      exact ⟨rfl, rfl, fun _ => rfl, fun _ => rfl, fun _ => rfl, fun _ => ⟨show (1 : Int) ≠ 0 by decide, rfl⟩, fun h => by simp [stepOf] at h⟩
  case stealReadTop =>
    obtain ⟨rfl, rfl⟩ := q6
    refine fin (rt_steal w d p q f C _ _ rt rb (m : Int) rv won er _ 0 (by omega) ho (rs_steal0 w d p q f C l s rt rb (m : Int) rv won er hne h ho)) rfl ?_
    exact ⟨rfl, rfl, fun _ => rfl, fun _ => rfl, fun _ => rfl, fun _ => ⟨rfl, rfl, rfl⟩, fun h => by simp [stepOf] at h⟩
  case stealReadBottom =>
    obtain ⟨rfl, rfl, q7⟩ := q6
    have q7' : rt = t := q7
    subst q7'
    refine fin (rt_steal w d p q f C _ _ rt rb (m : Int) rv won er _ 1 (by omega) ho (rs_steal1 w d p q f C l s rt rb (m : Int) rv won er hne h ho)) rfl ?_
    by_cases hz : rd C l 1 ≤ rt
    · have n1 : ¬ rt < rd C l 1 := by omega
      rw [if_pos hz]
      refine ⟨rfl, rfl, fun _ => rfl, fun _ => rfl, fun _ => rfl, fun _ => ?_, fun h => by simp [stepOf] at h⟩
      simp only [stepOf, Bool.false_eq_true, if_false, if_neg n1, AtOk]
      exact ⟨by decide, trivial⟩
    · have n1 : rt < rd C l 1 := by omega
      rw [if_neg hz]
      refine ⟨rfl, rfl, fun _ => rfl, fun _ => rfl, fun _ => rfl, fun _ => ?_, fun h => by simp [stepOf] at h⟩
      simp only [stepOf, Bool.false_eq_true, if_false, if_pos n1, AtOk]
      exact ⟨trivial, trivial, trivial⟩
  case stealSlot =>
    obtain ⟨rfl, rfl, q7⟩ := q6
    have q7' : rt = t := q7
    subst q7'
    refine fin (rt_steal w d p q f C _ _ rt rb (m : Int) rv won er _ 2 (by omega) ho (rs_steal2 w d p q f C l s rt rb (m : Int) rv won er hne h ho)) rfl ?_
    exact ⟨rfl, rfl, fun _ => rfl, fun _ => rfl, fun _ => rfl, fun _ => ⟨rfl, rfl, rfl⟩, fun h => by simp [stepOf] at h⟩
  case stealSwap =>
    obtain ⟨rfl, rfl, q7⟩ := q6
    have q7' : rt = t := q7
    subst q7'
    have hc := rt_steal w d p q f C _ _ rt rb (m : Int) rv won er _ 3 (by omega) ho (rs_steal3 w d p q f C l s rt rb (m : Int) rv won er (by omega) hne h ho)
    by_cases hz : rd C l 0 = rt
    · rw [if_pos hz, if_pos hz] at hc
      have e1 : stepOf C l ⟨.stealSwap, false, rt, rb, m, rv, er⟩ = (wr C l 0 (rt + 1), ⟨.stealSwap, true, rt, rb, m, rv, 0⟩) := by simp [stepOf, hz]
      refine fin hc (by rw [e1]) ?_
      rw [e1]
      exact ⟨rfl, rfl, fun h => by simp at h, fun h => by simp at h, fun h => by simp at h, fun h => by simp at h, fun _ => rfl⟩
    · rw [if_neg hz, if_neg hz] at hc
      have e1 : stepOf C l ⟨.stealSwap, false, rt, rb, m, rv, er⟩ = (l, ⟨.stealSwap, true, rt, rb, m, rv, 16⟩) := by simp [stepOf, hz]
      refine fin hc (by rw [e1]) ?_
      rw [e1]
      exact ⟨rfl, rfl, fun h => by simp at h, fun h => by simp at h, fun h => by simp at h, fun h => by simp at h, fun _ => rfl⟩
end
end Go.Proofs.Ytdhfggdmlhgdoaa
