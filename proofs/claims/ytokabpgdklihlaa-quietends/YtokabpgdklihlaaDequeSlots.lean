/-
  What each operation knows of a deque as it is seen: who holds the lock, of the stack ('StkI'); the owner, of the slots ('SlotI', 'bot': the bottom as it counts); a thief, of the item that it would take ('TakI'). Each is kept by the operation's own step and by another's. No Go is walked here.
-/
import Derived.Test.YtokabpgdklihlaaDequeView
namespace Go.Proofs.Ytokabpgdklihlaa
set_option linter.unusedVariables false

theorem sees_V (C : Cfg) (v : DV) (o : OpS) (hd : o.done = false) :
    StepSees v.T v.B v.L v.N (stepV C v o).1.T (stepV C v o).1.B (stepV C v o).1.L (stepV C v o).1.N o (stepV C v o).2 := by
  obtain ⟨a, dn, t, u, n, i, en⟩ := o
  have hd' : dn = false := hd
  subst hd'
  cases a
  case pushLock => by_cases hz : v.L = 0 <;> simp [stepV, StepSees, hz]
  case takeLock => by_cases hz : v.L = 0 <;> simp [stepV, StepSees, hz]
  case pushCount => by_cases hz : C.over ≤ stackedOf C v.N <;> simp [stepV, StepSees, hz]
  case takeCount => by_cases hz : stackedOf C v.N = 0 <;> simp [stepV, StepSees, hz]
  case popSwap => by_cases hz : v.T = t <;> simp [stepV, StepSees, hz]
  case stealSwap => by_cases hz : v.T = t <;> simp [stepV, StepSees, hz]
  case pushReadTop => by_cases hz : heldOf C v.T u < C.cap <;> simp [stepV, StepSees, hz]
  case stealReadBottom => by_cases hz : t < v.B <;> simp [stepV, StepSees, hz]
  case popReadTop =>
    by_cases hz : v.T < u
    · simp [stepV, StepSees, hz]
    · by_cases hy : v.T = u
      · simp [stepV, StepSees, hy]
      · simp [stepV, StepSees, hz, hy]; omega
  all_goals simp [stepV, StepSees]

/-- Two numbers less than a round apart have slots of their own. -/
theorem spot_ne {cap : Nat} (h : 1 ≤ cap) {x y : Int} (h1 : y < x) (h2 : x - y < cap) : spot cap x ≠ spot cap y := by
  intro e
  unfold spot at e
  have a1 := Int.emod_nonneg x (show (cap : Int) ≠ 0 by omega)
  have a2 := Int.emod_nonneg y (show (cap : Int) ≠ 0 by omega)
  have e' : x % (cap : Int) = y % (cap : Int) := by omega
  have b1 := Int.mul_ediv_add_emod x (cap : Int)
  have b2 := Int.mul_ediv_add_emod y (cap : Int)
  generalize x / (cap : Int) = p at *
  generalize y / (cap : Int) = q at *
  have hd : x - y = (cap : Int) * (p - q) := by rw [Int.mul_sub]; omega
  rcases (show q < p ∨ p ≤ q by omega) with g | g
  · have : (cap : Int) * 1 ≤ (cap : Int) * (p - q) := Int.mul_le_mul_of_nonneg_left (by omega) (by omega)
    omega
  · have : (cap : Int) * (p - q) ≤ (cap : Int) * 0 := Int.mul_le_mul_of_nonneg_left (by omega) (by omega)
    omega

theorem stacked_in {C : Cfg} {N : Int} (h : 0 ≤ N ∧ N ≤ C.over) : (stackedOf C N : Int) = N := by unfold stackedOf; omega

/-- Who holds the lock knows the stack. -/
def StkI (C : Cfg) (v : DV) (o : OpS) : Prop :=
  o.done = false →
  match o.at_ with
  | .pushCell => (o.count : Int) = v.N ∧ o.count < C.over
  | .pushCounted => (o.count : Int) = v.N ∧ o.count < C.over ∧ v.k o.count = o.item
  | .takeCell => (o.count : Int) = v.N ∧ 0 < o.count
  | .takeCounted => (o.count : Int) = v.N ∧ 0 < o.count ∧ o.item = v.k (o.count - 1)
  | _ => True

theorem stk_own {C : Cfg} {v : DV} {o : OpS} (hN : 0 ≤ v.N ∧ v.N ≤ C.over) (h : StkI C v o) :
    StkI C (stepV C v o).1 (stepV C v o).2 ∧ 0 ≤ (stepV C v o).1.N ∧ (stepV C v o).1.N ≤ C.over := by
  obtain ⟨a, dn, t, u, n, i, en⟩ := o
  cases dn
  case true => exact ⟨fun g => absurd g (by simp [stepV]), by simpa [stepV] using hN⟩
  have h' := h rfl
  have hs := stacked_in hN
  cases a
  case pushCount =>
    by_cases hz : C.over ≤ stackedOf C v.N
    · simp [stepV, StkI, hz, hN]
    · simp [stepV, StkI, hz, hN, hs]; omega
  case takeCount =>
    by_cases hz : stackedOf C v.N = 0
    · simp [stepV, StkI, hz, hN]
    · simp [stepV, StkI, hz, hN, hs]; omega
  case pushCell => simp only at h'; simp [stepV, StkI, fset, h', hN]
  case takeCell => simp only at h'; simp [stepV, StkI, h', hN]
  case pushCounted => simp only at h'; simp [stepV, StkI]; omega
  case takeCounted => simp only at h'; simp [stepV, StkI]; omega
  case pushLock => by_cases hz : v.L = 0 <;> simp [stepV, StkI, hz, hN]
  case takeLock => by_cases hz : v.L = 0 <;> simp [stepV, StkI, hz, hN]
  case popSwap => by_cases hz : v.T = t <;> simp [stepV, StkI, hz, hN]
  case stealSwap => by_cases hz : v.T = t <;> simp [stepV, StkI, hz, hN]
  case pushReadTop => by_cases hz : heldOf C v.T u < C.cap <;> simp [stepV, StkI, hz, hN]
  case stealReadBottom => by_cases hz : t < v.B <;> simp [stepV, StkI, hz, hN]
  case popReadTop => by_cases hz : v.T < u <;> by_cases hy : v.T = u <;> simp [stepV, StkI, hz, hy, hN]
  all_goals simp [stepV, StkI, hN]

/-- Where no lock is held, the stack stays. -/
theorem stack_same {C : Cfg} {v : DV} {o : OpS} (h : hn o = 0) : (stepV C v o).1.N = v.N ∧ (stepV C v o).1.k = v.k := by
  obtain ⟨a, dn, t, u, n, i, en⟩ := o
  cases dn
  case true => simp [stepV]
  cases a
  case pushCell => simp [hn, holdsAt] at h
  case pushCounted => simp [hn, holdsAt] at h
  case takeCounted => simp [hn, holdsAt] at h
  case pushCount => simp [hn, holdsAt] at h
  case takeCount => simp [hn, holdsAt] at h
  case pushLock => by_cases hz : v.L = 0 <;> simp [stepV, hz]
  case takeLock => by_cases hz : v.L = 0 <;> simp [stepV, hz]
  case popSwap => by_cases hz : v.T = t <;> simp [stepV, hz]
  case stealSwap => by_cases hz : v.T = t <;> simp [stepV, hz]
  all_goals simp [stepV]

theorem stk_other {C : Cfg} {v : DV} {o x : OpS} (hx : hn o = 0 ∨ hn x = 0) (h : StkI C v x) : StkI C (stepV C v o).1 x := by
  intro hd
  rcases hx with g | g
  · obtain ⟨e1, e2⟩ := stack_same (C := C) (v := v) g
    have h' := h hd
    rw [e1, e2]
    exact h'
  · obtain ⟨a, dn, t, u, n, i, en⟩ := x
    have hd' : dn = false := hd
    subst hd'
    cases a <;> first | trivial | (simp [hn, holdsAt] at g)

/-- The bottom as it counts: an owner that has lessened it has not taken yet. -/
def sixAt : Stp → Bool
  | .popReadTop | .popSlot | .popLast | .popSwap | .popWon | .popNothing => true
  | _ => false
def bot (v : DV) (o : OpS) : Int := if !o.done && sixAt o.at_ then v.B + 1 else v.B

/-- What the owner knows of the slots. -/
def SlotI (C : Cfg) (v : DV) (o : OpS) : Prop :=
  o.done = false →
  match o.at_ with
  | .pushSlot => v.B - v.T < C.cap
  | .pushBottom => v.B - v.T < C.cap ∧ v.s (spot C.cap v.B) = o.item
  | .popSlot => o.bottom = v.B
  | .popSwap => v.T = v.B → o.item = v.s (spot C.cap v.B)
  | _ => True

theorem slot_own {C : Cfg} {v : DV} {o : OpS} (hcap : 1 ≤ C.cap) (hk : o.done = false → ownerAt o.at_ = true) (ho : OwnI v.T v.B o) (hb : bot v o - v.T ≤ C.cap) (h : SlotI C v o) :
    SlotI C (stepV C v o).1 (stepV C v o).2 ∧ bot (stepV C v o).1 (stepV C v o).2 - (stepV C v o).1.T ≤ C.cap := by
  obtain ⟨a, dn, t, u, n, i, en⟩ := o
  cases dn
  case true => exact ⟨fun g => absurd g (by simp [stepV]), by simpa [stepV] using hb⟩
  have h' := h rfl
  have hk' := hk rfl
  cases a <;> simp only [OwnI, bot, sixAt, Bool.not_false, Bool.true_and, Bool.false_eq_true, if_true, if_false] at ho hb h'
  case stealReadTop => simp [ownerAt] at hk'
  case stealReadBottom => simp [ownerAt] at hk'
  case stealSlot => simp [ownerAt] at hk'
  case stealSwap => simp [ownerAt] at hk'
  case pushReadTop =>
    by_cases hz : heldOf C v.T u < C.cap
    · simp only [stepV, SlotI, bot, sixAt, hz, if_true, Bool.not_false, Bool.true_and, Bool.false_eq_true, if_false]
      unfold heldOf at hz
      refine ⟨fun _ => ?_, hb⟩
      split at hz <;> omega
    · simp [stepV, SlotI, bot, sixAt, hz]; omega
  case pushSlot =>
    simp [stepV, SlotI, bot, sixAt, fset]
    obtain ⟨h1, h2⟩ := ho
    subst h2
    exact ⟨⟨h', fun g => absurd rfl g⟩, hb⟩
  case pushBottom => simp [stepV, SlotI, bot, sixAt]; omega
  case pushLock => by_cases hz : v.L = 0 <;> simp [stepV, SlotI, bot, sixAt, hz] <;> omega
  case takeLock => by_cases hz : v.L = 0 <;> simp [stepV, SlotI, bot, sixAt, hz] <;> omega
  case pushCount => by_cases hz : C.over ≤ stackedOf C v.N <;> simp [stepV, SlotI, bot, sixAt, hz] <;> omega
  case takeCount => by_cases hz : stackedOf C v.N = 0 <;> simp [stepV, SlotI, bot, sixAt, hz] <;> omega
  case popReadTop =>
    by_cases hz : v.T < u
    · simp [stepV, SlotI, bot, sixAt, hz]; omega
    · by_cases hy : v.T = u
      · simp [stepV, SlotI, bot, sixAt, hy]; omega
      · simp [stepV, SlotI, bot, sixAt, hz, hy]; omega
  case popLast =>
    simp [stepV, SlotI, bot, sixAt]
    obtain ⟨h1, h2, h3, h4⟩ := ho
    subst h3
    exact ⟨fun _ => rfl, hb⟩
  case popSwap => by_cases hz : v.T = t <;> simp [stepV, SlotI, bot, sixAt, hz] <;> omega
  all_goals (simp [stepV, SlotI, bot, sixAt]; try omega)

/-- A thief's step: the top rises by one, or stays; bottom and slots stay. -/
theorem thief_sees {C : Cfg} {v : DV} {x : OpS} (hk : x.done = false → thiefAt x.at_ = true) :
    (stepV C v x).1.B = v.B ∧ (stepV C v x).1.s = v.s ∧ ((stepV C v x).1.T = v.T ∨ ((stepV C v x).1.T = v.T + 1 ∧ x.done = false ∧ x.at_ = .stealSwap ∧ x.top = v.T)) := by
  obtain ⟨a, dn, t, u, n, i, en⟩ := x
  cases dn
  case true => simp [stepV]
  have hk' := hk rfl
  cases a
  case stealSwap => by_cases hz : v.T = t <;> simp [stepV, hz]
  case takeLock => by_cases hz : v.L = 0 <;> simp [stepV, hz]
  case takeCount => by_cases hz : stackedOf C v.N = 0 <;> simp [stepV, hz]
  all_goals first | (simp [stepV]; done) | (simp [thiefAt] at hk')

theorem slot_thief {C : Cfg} {v : DV} {o x : OpS} (hk : x.done = false → thiefAt x.at_ = true) (ho : OwnI v.T v.B o) (hb : bot v o - v.T ≤ C.cap) (h : SlotI C v o) :
    SlotI C (stepV C v x).1 o ∧ bot (stepV C v x).1 o - (stepV C v x).1.T ≤ C.cap := by
  obtain ⟨eb, es, et⟩ := thief_sees (C := C) (v := v) hk
  have hT : v.T ≤ (stepV C v x).1.T := by omega
  refine ⟨?_, ?_⟩
  · intro hd
    have h' := h hd
    obtain ⟨a, dn, t, u, n, i, en⟩ := o
    have hd' : dn = false := hd
    subst hd'
    rw [eb, es]
    cases a <;> simp only [OwnI, Bool.false_eq_true, if_false] at ho h' ⊢
    case pushSlot => omega
    case pushBottom => exact ⟨by omega, h'.2⟩
    case popSlot => exact h'
    case popSwap => exact fun g => h' (by omega)
  · unfold bot at hb ⊢
    rw [eb]
    omega

/-- A thief that would swap the top has that slot's item. -/
def TakI (C : Cfg) (v : DV) (x : OpS) : Prop := x.done = false → x.at_ = .stealSwap → x.top = v.T → x.item = v.s (spot C.cap v.T)

/-- An owner's step: the slots stay but where it pushes, at the bottom; the top stays but where it takes the last. -/
theorem own_sees {C : Cfg} {v : DV} {o : OpS} (hk : o.done = false → ownerAt o.at_ = true) :
    ((stepV C v o).1.s = v.s ∨ (o.done = false ∧ o.at_ = .pushSlot ∧ (stepV C v o).1.s = fset v.s (spot C.cap o.bottom) o.item)) ∧ ((stepV C v o).1.T = v.T ∨ (stepV C v o).1.T = v.T + 1) := by
  obtain ⟨a, dn, t, u, n, i, en⟩ := o
  cases dn
  case true => simp [stepV]
  have hk' := hk rfl
  cases a
  case popSwap => by_cases hz : v.T = t <;> simp [stepV, hz]
  case pushLock => by_cases hz : v.L = 0 <;> simp [stepV, hz]
  case takeLock => by_cases hz : v.L = 0 <;> simp [stepV, hz]
  case pushCount => by_cases hz : C.over ≤ stackedOf C v.N <;> simp [stepV, hz]
  case takeCount => by_cases hz : stackedOf C v.N = 0 <;> simp [stepV, hz]
  all_goals first | (simp [stepV]; done) | (simp [ownerAt] at hk')

theorem tak_own {C : Cfg} {v : DV} {o x : OpS} (hcap : 1 ≤ C.cap) (hk : o.done = false → ownerAt o.at_ = true) (ho : OwnI v.T v.B o) (hs : SlotI C v o) (ht : ThI v.T v.B o x) (h : TakI C v x) : TakI C (stepV C v o).1 x := by
  intro hd hat htop
  obtain ⟨es, et⟩ := own_sees (C := C) (v := v) hk
  have ht' := ht hd
  rw [hat] at ht'
  simp only at ht'
  have e : (stepV C v o).1.T = v.T := by omega
  rw [e] at htop ⊢
  have hi := h hd hat htop
  rcases es with es | ⟨g1, g2, es⟩
  · rw [es]; exact hi
  · rw [es, hi]
    have hs' := hs g1
    rw [g2] at hs'
    simp only at hs'
    unfold OwnI at ho
    rw [g1, g2] at ho
    simp only [Bool.false_eq_true, if_false] at ho
    have hlt : v.T < v.B := by
      rcases ht'.2 htop with q | ⟨_, q⟩
      · exact q
      · unfold mid at q; rw [g2] at q; simp at q
    have hne := spot_ne hcap hlt hs'
    unfold fset
    rw [ho.2, if_neg (fun q => hne q.symm)]

theorem tak_step {C : Cfg} {v : DV} {x : OpS} : TakI C (stepV C v x).1 (stepV C v x).2 ∨ x.done = true := by
  obtain ⟨a, dn, t, u, n, i, en⟩ := x
  cases dn
  case true => exact .inr rfl
  refine .inl ?_
  cases a
  case pushLock => by_cases hz : v.L = 0 <;> simp [stepV, TakI, hz]
  case takeLock => by_cases hz : v.L = 0 <;> simp [stepV, TakI, hz]
  case pushCount => by_cases hz : C.over ≤ stackedOf C v.N <;> simp [stepV, TakI, hz]
  case takeCount => by_cases hz : stackedOf C v.N = 0 <;> simp [stepV, TakI, hz]
  case popSwap => by_cases hz : v.T = t <;> simp [stepV, TakI, hz]
  case stealSwap => by_cases hz : v.T = t <;> simp [stepV, TakI, hz]
  case pushReadTop => by_cases hz : heldOf C v.T u < C.cap <;> simp [stepV, TakI, hz]
  case stealReadBottom => by_cases hz : t < v.B <;> simp [stepV, TakI, hz]
  case popReadTop => by_cases hz : v.T < u <;> by_cases hy : v.T = u <;> simp [stepV, TakI, hz, hy]
  case stealSlot => simp only [stepV, TakI]; intro _ _ e; rw [← e]; rfl
  all_goals simp [stepV, TakI]

theorem tak_thief {C : Cfg} {v : DV} {o x y : OpS} (hk : y.done = false → thiefAt y.at_ = true) (ht : ThI v.T v.B o x) (h : TakI C v x) : TakI C (stepV C v y).1 x := by
  intro hd hat htop
  obtain ⟨eb, es, et⟩ := thief_sees (C := C) (v := v) hk
  have ht' := ht hd
  rw [hat] at ht'
  simp only at ht'
  have e : (stepV C v y).1.T = v.T := by omega
  rw [e] at htop ⊢
  rw [es]
  exact h hd hat htop

end Go.Proofs.Ytokabpgdklihlaa
