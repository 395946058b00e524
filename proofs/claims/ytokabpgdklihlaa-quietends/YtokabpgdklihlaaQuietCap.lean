/-
  The crew of QuietEnds without memory, towards 'no push is refused': a deque's items by the weight 2^v, without the stack's first m cells ('ownV'), through an owner's step and a thief's. No Go is walked here.
-/
import Derived.Test.YtokabpgdklihlaaQuietCount
namespace Go.Proofs.Ytokabpgdklihlaa
set_option linter.unusedVariables false

/-- 2^v, for items in 0..4. -/
def pw (x : Int) : Int := if 0 ≤ x ∧ x ≤ 4 then 2 ^ x.toNat else 1
theorem pw_in (x : Int) : 1 ≤ pw x ∧ pw x ≤ 16 := by
  unfold pw
  by_cases h : 0 ≤ x ∧ x ≤ 4
  · rw [if_pos h]
    have : x = 0 ∨ x = 1 ∨ x = 2 ∨ x = 3 ∨ x = 4 := by omega
    rcases this with rfl | rfl | rfl | rfl | rfl <;> decide
  · rw [if_neg h]; omega
theorem pw_nn (x : Int) : 0 ≤ pw x := by have := pw_in x; omega
theorem pw_half {v : Int} (h : 0 ≤ v ∧ v ≤ 4) (hp : 0 < v) : pw (v - 1) + pw (v - 1) = pw v := by
  have : v = 1 ∨ v = 2 ∨ v = 3 ∨ v = 4 := by omega
  rcases this with rfl | rfl | rfl | rfl <;> decide

/-- The items, but for the stack's first m. -/
def ownV (C : Cfg) (v : DV) (m : Nat) (b : Int) : Int := ringW pw C.cap v.s v.T b + (stackW pw v.k v.N - stackW pw v.k m)
theorem ownV_worth (C : Cfg) (v : DV) (m : Nat) (b : Int) : ownV C v m b = worth pw C v b - stackW pw v.k m := by unfold ownV worth; omega

theorem ring_nn (C : Cfg) (v : DV) (b : Int) : 0 ≤ ringW pw C.cap v.s v.T b := sumTo_nn (fun _ _ => pw_nn _)
theorem ring_le (C : Cfg) (v : DV) (b : Int) : ringW pw C.cap v.s v.T b ≤ 16 * (b - v.T).toNat := by
  unfold ringW
  generalize (b - v.T).toNat = n
  induction n with
  | zero => simp [sumTo]
  | succ n ih =>
    have := (pw_in (v.s (spot C.cap (v.T + (n : Int))))).2
    show sumTo _ n + pw (v.s (spot C.cap (v.T + (n : Int)))) ≤ _
    omega
/-- Each item counts for one or more. -/
theorem stack_more (k : Nat → Int) (m : Nat) : ∀ d : Nat, (d : Int) ≤ stackW pw k ((m + d : Nat) : Int) - stackW pw k m
  | 0 => by simp
  | d + 1 => by
    have := stack_more k m d
    have := (pw_in (k (m + d))).1
    have e := stackW_more pw k (m + d)
    rw [show (((m + d : Nat) : Int) + 1) = ((m + (d + 1) : Nat) : Int) by omega] at e
    omega

/-- What is taken is kept by who takes. -/
theorem way_mono {C : Cfg} {v : DV} {o : OpS} (hk : KindI false o) {f : Int → Int} (hf : ∀ x, 0 ≤ f x) : way false f o ≤ way false f (stepV C v o).2 ∧ 0 ≤ way false f o := by
  have nn : ∀ o, 0 ≤ way false f o := fun o => by
    unfold way
    simp only [Bool.false_eq_true, if_false]
    have := hf o.item
    split <;> omega
  refine ⟨?_, nn o⟩
  obtain ⟨a, dn, t, u, n, i, en⟩ := o
  cases dn
  case true => rw [stepV_done rfl]; exact Int.le_refl _
  have hk' := (hk rfl).1
  by_cases h : a = .free ∨ a = .popWon
  · rcases h with rfl | rfl
    · simp [stepV, way]
    · simp [stepV, way]
  · have e : way false f ⟨a, false, t, u, n, i, en⟩ = 0 := by
      have h1 : a ≠ .free := fun g => h (.inl g)
      have h2 : a ≠ .popWon := fun g => h (.inr g)
      simp [way, h1, h2]
    rw [e]
    exact nn _

/-- A thief's step: the stack's cells stay; its count falls by one at most, and the slots stay then. -/
theorem thief_stack {C : Cfg} {v : DV} {x : OpS} (hk : x.done = false → thiefAt x.at_ = true) (hs : StkI C v x) :
    (stepV C v x).1.k = v.k ∧ ((stepV C v x).1.N = v.N ∨ ((stepV C v x).1.N = v.N - 1 ∧ (stepV C v x).1.T = v.T ∧ (stepV C v x).1.s = v.s ∧ (stepV C v x).1.B = v.B)) := by
  obtain ⟨a, dn, t, u, n, i, en⟩ := x
  cases dn
  case true => rw [stepV_done rfl]; simp
  have hk' := hk rfl
  have hs' := hs rfl
  cases a <;> simp only at hs'
  case stealSwap => by_cases hz : v.T = t <;> simp [stepV, hz]
  case takeLock => by_cases hz : v.L = 0 <;> simp [stepV, hz]
  case takeCount => by_cases hz : stackedOf C v.N = 0 <;> simp [stepV, hz]
  case takeCounted =>
    have := hs'.1
    refine ⟨rfl, .inr ⟨?_, rfl, rfl, rfl⟩⟩
    simp [stepV]; omega
  all_goals first | (simp [stepV]; done) | (simp [thiefAt] at hk')

theorem cap_thief {C : Cfg} {v : DV} {p : Option Nat → OpS} (h : DI C v p) (j : Nat) (hk : KindI false (p (some j))) {m : Nat} (hm : (m : Int) ≤ v.N) :
    ∃ m' : Nat, m' ≤ m ∧ (m' : Int) ≤ (stepV C v (p (some j))).1.N ∧ ownV C (stepV C v (p (some j))).1 m' (bot (stepV C v (p (some j))).1 (p none)) ≤ ownV C v m (bot v (p none)) ∧ (v.N = m → (stepV C v (p (some j))).1.N = m') := by
  have hw := h.worth_thief pw j hk
  obtain ⟨w1, w2⟩ := way_mono (C := C) (v := v) hk pw_nn
  obtain ⟨k1, k2⟩ := thief_stack (h.kinds j) (h.stk (some j))
  have hN := h.stkN
  have hN' := (stk_own h.stkN (h.stk (some j))).2.1
  generalize (stepV C v (p (some j))).2 = o' at *
  generalize (stepV C v (p (some j))).1 = v' at *
  rcases (show (m : Int) ≤ v'.N ∨ v'.N < m by omega) with q | q
  · refine ⟨m, Nat.le_refl _, q, ?_, fun e => by omega⟩
    rw [ownV_worth, ownV_worth, k1]
    omega
  · rcases k2 with k2 | ⟨k2, k3, k4, k5⟩
    · omega
    · refine ⟨m - 1, by omega, by omega, ?_, fun e => by omega⟩
      have e1 : v'.N = ((m - 1 : Nat) : Int) := by omega
      have e2 : v.N = (m : Int) := by omega
      have eb : bot v' (p none) = bot v (p none) := by unfold bot; rw [k5]
      unfold ownV
      rw [e1, e2, k3, k4, eb]
      omega

/-- An owner's step: the stack's first m stay, its count falls by one at most, at takeCounted. -/
theorem own_stack {C : Cfg} {v : DV} {o : OpS} (hs : StkI C v o) {m : Nat} (hm : (m : Int) ≤ v.N) :
    stackW pw (stepV C v o).1.k m = stackW pw v.k m ∧ (v.N ≤ (stepV C v o).1.N ∨ (o.done = false ∧ o.at_ = .takeCounted ∧ (stepV C v o).1.N = v.N - 1)) := by
  obtain ⟨a, dn, t, u, n, i, en⟩ := o
  cases dn
  case true => rw [stepV_done rfl]; simp
  have hs' := hs rfl
  cases a <;> simp only at hs'
  case pushCell =>
    refine ⟨?_, .inl (Int.le_refl _)⟩
    show stackW pw (fset v.k n i) m = _
    unfold stackW
    refine sumTo_congr fun j hj => ?_
    unfold fset
    rw [if_neg (by omega)]
  case pushCounted => exact ⟨rfl, .inl (by simp [stepV]; omega)⟩
  case takeCounted => exact ⟨rfl, .inr ⟨rfl, rfl, by simp [stepV]; omega⟩⟩
  case pushLock => by_cases hz : v.L = 0 <;> simp [stepV, hz]
  case takeLock => by_cases hz : v.L = 0 <;> simp [stepV, hz]
  case pushCount => by_cases hz : C.over ≤ stackedOf C v.N <;> simp [stepV, hz]
  case takeCount => by_cases hz : stackedOf C v.N = 0 <;> simp [stepV, hz]
  case popSwap => by_cases hz : v.T = t <;> simp [stepV, hz]
  case stealSwap => by_cases hz : v.T = t <;> simp [stepV, hz]
  all_goals simp [stepV]

theorem cap_own {C : Cfg} {v : DV} {p : Option Nat → OpS} (h : DI C v p) (push : Bool) (hk : KindI push (p none)) {m : Nat} (hm : (m : Int) ≤ v.N) (hm2 : (m : Int) ≤ (stepV C v (p none)).1.N) :
    ownV C (stepV C v (p none)).1 m (bot (stepV C v (p none)).1 (stepV C v (p none)).2) + way push pw (stepV C v (p none)).2 = ownV C v m (bot v (p none)) + way push pw (p none) := by
  have hw := h.worth_own pw push hk
  have hs := (own_stack (h.stk none) hm).1
  rw [ownV_worth, ownV_worth, hs]
  omega
end Go.Proofs.Ytokabpgdklihlaa
