/-
  One deque as it is seen, its owner's operation and any number of thieves', whatever the order of their steps ('DI', 'DI.step'); an operation that begins ('DI.begin'). No Go is walked here.
-/
import Derived.Test.YtokabpgdklihlaaDequeSlots
namespace Go.Proofs.Ytokabpgdklihlaa
set_option linter.unusedVariables false

/-- Who: none the owner, some i a thief. Who does nothing here has an operation that is done. -/
def updP (p : Option Nat → OpS) (a : Option Nat) (o : OpS) : Option Nat → OpS := fun b => if b = a then o else p b
theorem updP_at (p : Option Nat → OpS) (a : Option Nat) (o : OpS) : updP p a o a = o := if_pos rfl
theorem updP_ne (p : Option Nat → OpS) {a b : Option Nat} (o : OpS) (h : b ≠ a) : updP p a o b = p b := if_neg h

structure DI (C : Cfg) (v : DV) (p : Option Nat → OpS) : Prop where
  cap : 1 ≤ C.cap
  lock : v.L = 0 ∨ v.L = 1
  free : v.L = 0 → ∀ a, hn (p a) = 0
  held : v.L = 1 → ∃ a, hn (p a) = 1
  one : ∀ a b, hn (p a) = 1 → hn (p b) = 1 → a = b
  kind : (p none).done = false → ownerAt (p none).at_ = true
  kinds : ∀ i, (p (some i)).done = false → thiefAt (p (some i)).at_ = true
  own : OwnI v.T v.B (p none)
  slot : SlotI C v (p none)
  room : bot v (p none) - v.T ≤ C.cap
  thf : ∀ i, ThI v.T v.B (p none) (p (some i))
  tak : ∀ i, TakI C v (p (some i))
  stkN : 0 ≤ v.N ∧ v.N ≤ C.over
  stk : ∀ a, StkI C v (p a)

def stepP (C : Cfg) (v : DV) (p : Option Nat → OpS) (a : Option Nat) : DV × (Option Nat → OpS) := ((stepV C v (p a)).1, updP p a (stepV C v (p a)).2)

theorem stepV_done {C : Cfg} {v : DV} {o : OpS} (h : o.done = true) : stepV C v o = (v, o) := by unfold stepV; rw [if_pos h]

theorem DI.step {C : Cfg} {v : DV} {p : Option Nat → OpS} (h : DI C v p) (a : Option Nat) : DI C (stepP C v p a).1 (stepP C v p a).2 := by
  unfold stepP
  by_cases hdn : (p a).done = true
  · rw [stepV_done hdn]
    have : updP p a (p a) = p := by funext b; unfold updP; split <;> simp_all
    simp only [this]
    exact h
  have hd : (p a).done = false := by simpa using hdn
  have hS := sees_V C v (p a) hd
  have hh1 : hn (p a) = 1 → v.L = 1 := fun g => by
    rcases h.lock with q | q
    · have := h.free q a; omega
    · exact q
  obtain ⟨hL1, hL2⟩ := hn_step hS hd h.lock hh1
  obtain ⟨hs1, hs2⟩ := stk_own h.stkN (h.stk a)
  have v0 := hn_vals (p a)
  have v1 := hn_vals (stepV C v (p a)).2
  generalize hv : (stepV C v (p a)).1 = v' at *
  generalize ho : (stepV C v (p a)).2 = o' at *
  have hlock : v'.L = 0 ∨ v'.L = 1 := by
    rcases h.lock with q | q
    · omega
    · omega
  have hoth : ∀ b, b ≠ a → hn (p b) = 1 → hn (p a) = 0 ∧ v.L = 1 ∧ hn o' = 0 := by
    intro b hb g
    have e1 : v.L = 1 := by
      rcases h.lock with q | q
      · have := h.free q b; omega
      · exact q
    have e0 : hn (p a) = 0 := by
      rcases v0 with q | q
      · exact q
      · exact absurd (h.one b a g q) hb
    exact ⟨e0, e1, by omega⟩
  have hfree : v'.L = 0 → ∀ b, hn (updP p a o' b) = 0 := by
    intro g b
    by_cases hb : b = a
    · subst hb
      rw [updP_at]
      rcases h.lock with q | q
      · have := h.free q b; omega
      · rcases v0 with q0 | q0
        · omega
        · omega
    · rw [updP_ne _ _ hb]
      rcases hn_vals (p b) with q | q
      · exact q
      · have := hoth b hb q
        omega
  have hheld : v'.L = 1 → ∃ b, hn (updP p a o' b) = 1 := by
    intro g
    rcases v1 with q | q
    · have : v.L = 1 ∧ hn (p a) = 0 := by rcases h.lock with z | z <;> omega
      obtain ⟨b, hb⟩ := h.held this.1
      refine ⟨b, ?_⟩
      rw [updP_ne _ _ (fun e => by rw [e] at hb; omega)]
      exact hb
    · exact ⟨a, by rw [updP_at]; exact q⟩
  have hone : ∀ b c, hn (updP p a o' b) = 1 → hn (updP p a o' c) = 1 → b = c := by
    intro b c gb gc
    by_cases hb : b = a <;> by_cases hc : c = a
    · rw [hb, hc]
    · rw [hb, updP_at] at gb
      rw [updP_ne _ _ hc] at gc
      have := hoth c hc gc
      omega
    · rw [hc, updP_at] at gc
      rw [updP_ne _ _ hb] at gb
      have := hoth b hb gb
      omega
    · rw [updP_ne _ _ hb] at gb
      rw [updP_ne _ _ hc] at gc
      exact h.one b c gb gc
  have hstk : ∀ b, StkI C v' (updP p a o' b) := by
    intro b
    by_cases hb : b = a
    · rw [hb, updP_at]; exact hs1
    · rw [updP_ne _ _ hb, ← hv]
      refine stk_other ?_ (h.stk b)
      rcases hn_vals (p b) with q | q
      · exact .inr q
      · exact .inl (hoth b hb q).1
  show DI C v' (updP p a o')
  cases a with
  | none =>
    obtain ⟨o1, o2, o3, o4⟩ := own_step hS hd (h.kind hd) h.own
    have hsl := slot_own h.cap h.kind h.own h.room h.slot
    rw [hv, ho] at hsl
    refine ⟨h.cap, hlock, hfree, hheld, hone, ?_, fun i => ?_, ?_, ?_, ?_, fun i => ?_, fun i => ?_, hs2, hstk⟩
    · rw [updP_at]; exact o2
    · rw [updP_ne _ _ (by simp)]; exact h.kinds i
    · rw [updP_at]; exact o1
    · rw [updP_at]; exact hsl.1
    · rw [updP_at]; exact hsl.2
    · rw [updP_at, updP_ne _ _ (by simp)]; exact thi_mono o3 o4 (h.thf i)
    · rw [updP_ne _ _ (by simp), ← hv]; exact tak_own h.cap h.kind h.own h.slot (h.thf i) (h.tak i)
  | some j =>
    obtain ⟨t1, t2, t3, t4, t5⟩ := thief_step hS hd (h.kinds j hd) h.own (h.thf j)
    have hsl := slot_thief (x := p (some j)) (h.kinds j) h.own h.room h.slot
    rw [hv] at hsl
    refine ⟨h.cap, hlock, hfree, hheld, hone, ?_, fun i => ?_, ?_, ?_, ?_, fun i => ?_, fun i => ?_, hs2, hstk⟩
    · rw [updP_ne _ _ (by simp)]; exact h.kind
    · by_cases hi : i = j
      · rw [hi, updP_at]; exact t2
      · rw [updP_ne _ _ (by simpa using hi)]; exact h.kinds i
    · rw [updP_ne _ _ (by simp)]; exact t1
    · rw [updP_ne _ _ (by simp)]; exact hsl.1
    · rw [updP_ne _ _ (by simp)]; exact hsl.2
    · rw [updP_ne _ _ (show (none : Option Nat) ≠ some j by simp)]
      by_cases hi : i = j
      · rw [hi, updP_at]; exact t3
      · rw [updP_ne _ _ (by simpa using hi)]
        refine thi_mono t5 (fun e g => ?_) (h.thf i)
        rw [e, t4]; exact g
    · by_cases hi : i = j
      · rw [hi, updP_at]
        rcases tak_step (C := C) (v := v) (x := p (some j)) with q | q
        · rw [hv, ho] at q; exact q
        · rw [hd] at q; cases q
      · rw [updP_ne _ _ (by simpa using hi), ← hv]
        exact tak_thief (h.kinds j) (h.thf i) (h.tak i)

theorem DI.begin {C : Cfg} {v : DV} {p : Option Nat → OpS} (h : DI C v p) (a : Option Nat) (hd : (p a).done = true) (st : Stp) (x : Int) (hst : (a = none ∧ (st = .pushReadBottom ∨ st = .popReadBottom)) ∨ (a ≠ none ∧ st = .stealReadTop)) : DI C v (updP p a (opNew st x)) := by
  have h0 : hn (opNew st x) = 0 := by rcases hst with ⟨_, rfl | rfl⟩ | ⟨_, rfl⟩ <;> rfl
  have hn' : ∀ b, hn (updP p a (opNew st x) b) = hn (p b) := by
    intro b
    by_cases hb : b = a
    · rw [hb, updP_at, h0, hn_done hd]
    · rw [updP_ne _ _ hb]
  have hs : ∀ b, StkI C v (updP p a (opNew st x) b) := by
    intro b
    by_cases hb : b = a
    · rw [hb, updP_at]
      rcases hst with ⟨_, rfl | rfl⟩ | ⟨_, rfl⟩ <;> exact fun _ => trivial
    · rw [updP_ne _ _ hb]; exact h.stk b
  have ho : (∀ b, hn (updP p a (opNew st x) b) = 1 → ∀ c, hn (updP p a (opNew st x) c) = 1 → b = c) := fun b gb c gc => h.one b c (by rw [← hn' b]; exact gb) (by rw [← hn' c]; exact gc)
  rcases hst with ⟨rfl, hst⟩ | ⟨ha, rfl⟩
  · have hw := h.own
    have hr := h.room
    have hT : v.T ≤ v.B := by unfold OwnI at hw; rw [hd, if_pos rfl] at hw; exact hw
    have hmid : ¬ mid (p none) := fun g => by rw [g.1] at hd; cases hd
    refine ⟨h.cap, h.lock, fun g b => by rw [hn']; exact h.free g b, fun g => ?_, fun b c gb gc => ho b gb c gc, ?_, fun i => ?_, ?_, ?_, ?_, fun i => ?_, fun i => ?_, h.stkN, hs⟩
    · obtain ⟨b, hb⟩ := h.held g
      exact ⟨b, by rw [hn']; exact hb⟩
    · rw [updP_at]; rcases hst with rfl | rfl <;> exact fun _ => rfl
    · rw [updP_ne _ _ (by simp)]; exact h.kinds i
    · rw [updP_at]; rcases hst with rfl | rfl <;> exact hT
    · rw [updP_at]; rcases hst with rfl | rfl <;> exact fun _ => trivial
    · have e : bot v (p none) = v.B := by unfold bot; rw [hd]; rfl
      rw [e] at hr
      rw [updP_at]; rcases hst with rfl | rfl <;> exact hr
    · rw [updP_at, updP_ne _ _ (by simp)]
      refine thi_mono (Int.le_refl _) (fun _ g => ?_) (h.thf i)
      rcases g with g | g
      · exact .inl g
      · exact absurd g.2 hmid
    · rw [updP_ne _ _ (by simp)]; exact h.tak i
  · obtain ⟨j, rfl⟩ := Option.ne_none_iff_exists'.1 ha
    refine ⟨h.cap, h.lock, fun g b => by rw [hn']; exact h.free g b, fun g => ?_, fun b c gb gc => ho b gb c gc, ?_, fun i => ?_, ?_, ?_, ?_, fun i => ?_, fun i => ?_, h.stkN, hs⟩
    · obtain ⟨b, hb⟩ := h.held g
      exact ⟨b, by rw [hn']; exact hb⟩
    · rw [updP_ne _ _ (by simp)]; exact h.kind
    · by_cases hi : i = j
      · rw [hi, updP_at]; exact fun _ => rfl
      · rw [updP_ne _ _ (by simpa using hi)]; exact h.kinds i
    · rw [updP_ne _ _ (by simp)]; exact h.own
    · rw [updP_ne _ _ (by simp)]; exact h.slot
    · rw [updP_ne _ _ (by simp)]; exact h.room
    · rw [updP_ne _ _ (show (none : Option Nat) ≠ some j by simp)]
      by_cases hi : i = j
      · rw [hi, updP_at]; exact fun _ => trivial
      · rw [updP_ne _ _ (by simpa using hi)]; exact h.thf i
    · by_cases hi : i = j
      · rw [hi, updP_at]; exact fun _ g => by cases g
      · rw [updP_ne _ _ (by simpa using hi)]; exact h.tak i
end Go.Proofs.Ytokabpgdklihlaa
