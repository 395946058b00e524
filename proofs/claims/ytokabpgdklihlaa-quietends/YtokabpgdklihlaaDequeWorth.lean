/-
  What the items of a deque and those on their way are worth together, by any weight of an item: no step changes it ('DI.worth'). No Go is walked here.
-/
import Derived.Test.YtokabpgdklihlaaDequeAll
namespace Go.Proofs.Ytokabpgdklihlaa
set_option linter.unusedVariables false

def sumTo (g : Nat → Int) : Nat → Int
  | 0 => 0
  | n + 1 => sumTo g n + g n
theorem sumTo_congr {g h : Nat → Int} : ∀ {n : Nat}, (∀ j, j < n → g j = h j) → sumTo g n = sumTo h n
  | 0, _ => rfl
  | n + 1, e => by
    show sumTo g n + g n = sumTo h n + h n
    rw [sumTo_congr (fun j hj => e j (by omega)), e n (by omega)]
theorem sumTo_first (g : Nat → Int) : ∀ n, sumTo g (n + 1) = g 0 + sumTo (fun j => g (j + 1)) n
  | 0 => by simp [sumTo]
  | n + 1 => by
    show sumTo g (n + 1) + g (n + 1) = g 0 + (sumTo (fun j => g (j + 1)) n + g (n + 1))
    rw [sumTo_first g n]
    omega

/-- The slots from the top to b. -/
def ringW (f : Int → Int) (cap : Nat) (s : Nat → Int) (T b : Int) : Int := sumTo (fun j => f (s (spot cap (T + (j : Int))))) (b - T).toNat
/-- The stack. -/
def stackW (f : Int → Int) (k : Nat → Int) (N : Int) : Int := sumTo (fun j => f (k j)) N.toNat

theorem ringW_last (f : Int → Int) (cap : Nat) (s : Nat → Int) {T b : Int} (h : T ≤ b) : ringW f cap s T (b + 1) = ringW f cap s T b + f (s (spot cap b)) := by
  unfold ringW
  rw [show (b + 1 - T).toNat = (b - T).toNat + 1 by omega]
  show _ + f (s (spot cap (T + ((b - T).toNat : Int)))) = _
  rw [show T + ((b - T).toNat : Int) = b by omega]
theorem ringW_first (f : Int → Int) (cap : Nat) (s : Nat → Int) {T b : Int} (h : T < b) : ringW f cap s T b = f (s (spot cap T)) + ringW f cap s (T + 1) b := by
  unfold ringW
  rw [show (b - T).toNat = (b - (T + 1)).toNat + 1 by omega, sumTo_first]
  congr 1
  · simp
  · refine sumTo_congr fun j _ => ?_
    rw [show T + ((j + 1 : Nat) : Int) = T + 1 + (j : Int) by omega]
theorem ringW_set (f : Int → Int) {cap : Nat} (hcap : 1 ≤ cap) (s : Nat → Int) {T b : Int} (x : Int) (h : b - T < cap) : ringW f cap (fset s (spot cap b) x) T b = ringW f cap s T b := by
  unfold ringW
  refine sumTo_congr fun j hj => ?_
  unfold fset
  rw [if_neg (fun e => spot_ne hcap (x := b) (y := T + (j : Int)) (by omega) (by omega) e.symm)]
theorem stackW_more (f : Int → Int) (k : Nat → Int) (n : Nat) : stackW f k ((n : Int) + 1) = stackW f k n + f (k n) := by
  unfold stackW
  rw [show ((n : Int) + 1).toNat = n + 1 by omega, show (n : Int).toNat = n by omega]
  rfl
theorem stackW_set (f : Int → Int) (k : Nat → Int) (n : Nat) (x : Int) : stackW f (fset k n x) n = stackW f k n := by
  unfold stackW
  refine sumTo_congr fun j hj => ?_
  unfold fset
  rw [if_neg (by omega)]

/-- What a deque's items are worth. -/
def worth (f : Int → Int) (C : Cfg) (v : DV) (b : Int) : Int := ringW f C.cap v.s v.T b + stackW f v.k v.N

def pushAt : Stp → Bool
  | .pushReadBottom | .pushReadTop | .pushSlot | .pushBottom | .pushLock | .pushCount | .pushCell | .pushCounted | .free => true
  | _ => false
def takeAt : Stp → Bool
  | .pushReadBottom | .pushReadTop | .pushSlot | .pushBottom | .pushLock | .pushCount | .pushCell | .pushCounted => false
  | _ => true
/-- An operation is a push or a take, and has no error ahead of its last steps. -/
def KindI (push : Bool) (o : OpS) : Prop := o.done = false → (if push then pushAt o.at_ else takeAt o.at_) = true ∧ (o.at_ ≠ .free → o.errno = 0)

/-- What an operation has on its way: a take what it has taken; a push lacks what lies in the deque already. -/
def way (push : Bool) (f : Int → Int) (o : OpS) : Int :=
  if push then (if (o.done = true ∨ o.at_ = .free) ∧ o.errno = 0 then - f o.item else 0)
  else (if ((o.done = true ∨ o.at_ = .free) ∧ o.errno = 0) ∨ (o.done = false ∧ o.at_ = .popWon) then f o.item else 0)

theorem kind_step {C : Cfg} {v : DV} {push : Bool} {o : OpS} (h : KindI push o) : KindI push (stepV C v o).2 := by
  obtain ⟨a, dn, t, u, n, i, en⟩ := o
  cases dn
  case true => rw [stepV_done rfl]; exact h
  have h' := h rfl
  cases push <;> cases a <;> simp only [pushAt, takeAt, Bool.false_eq_true, if_true, if_false, false_and, true_and, ne_eq, reduceCtorEq, not_false_eq_true, not_true_eq_false, false_implies, true_implies] at h'
  all_goals try subst h'
  all_goals first
    | (simp [stepV, KindI, pushAt, takeAt]; done)
    | (simp only [stepV, Bool.false_eq_true, if_false]; split <;> simp [KindI, pushAt, takeAt]; done)
    | (simp only [stepV, Bool.false_eq_true, if_false]; split <;> (try split) <;> simp [KindI, takeAt]; done)

theorem worth_same {f : Int → Int} {C : Cfg} {v v' : DV} {b b' : Int} (h1 : v'.s = v.s) (h2 : v'.T = v.T) (h3 : v'.k = v.k) (h4 : v'.N = v.N) (h5 : b' = b) : worth f C v' b' = worth f C v b := by
  unfold worth; rw [h1, h2, h3, h4, h5]

theorem DI.worth_own {C : Cfg} {v : DV} {p : Option Nat → OpS} (h : DI C v p) (f : Int → Int) (push : Bool) (hk : KindI push (p none)) :
    worth f C (stepV C v (p none)).1 (bot (stepV C v (p none)).1 (stepV C v (p none)).2) + way push f (stepV C v (p none)).2 = worth f C v (bot v (p none)) + way push f (p none) := by
  have hkd := h.kind
  have hown := h.own
  have hslot := h.slot
  have hroom := h.room
  have hstk := h.stk none
  have hN := h.stkN
  have hcap := h.cap
  generalize p none = o at *
  obtain ⟨a, dn, t, u, n, i, en⟩ := o
  cases dn
  case true => rw [stepV_done rfl]
  have hk' := hk rfl
  have hkd' := hkd rfl
  have hslot' := hslot rfl
  have hstk' := hstk rfl
  cases a <;> simp only [OwnI, Bool.false_eq_true, if_false] at hown hslot' hstk'
  case stealReadTop => simp [ownerAt] at hkd'
  case stealReadBottom => simp [ownerAt] at hkd'
  case stealSlot => simp [ownerAt] at hkd'
  case stealSwap => simp [ownerAt] at hkd'
  case pushReadBottom => cases push <;> simp [stepV, way, bot, sixAt, worth]
  case pushReadTop => cases push <;> by_cases hz : heldOf C v.T u < C.cap <;> simp [stepV, way, bot, sixAt, worth, hz]
  case pushSlot =>
    have e : u = v.B := hown.2
    subst e
    cases push <;> simp [stepV, way, bot, sixAt, worth, ringW_set f hcap v.s i hslot']
  case pushBottom =>
    have e : u = v.B := hown.2
    subst e
    cases push
    · simp [takeAt] at hk'
    · simp [stepV, way, bot, sixAt, worth, ringW_last f C.cap v.s hown.1, hslot'.2]; omega
  case pushLock => cases push <;> by_cases hz : v.L = 0 <;> simp [stepV, way, bot, sixAt, worth, hz]
  case pushCount =>
    cases push
    · simp [takeAt] at hk'
    · by_cases hz : C.over ≤ stackedOf C v.N <;> simp [stepV, way, bot, sixAt, worth, hz]
  case pushCell =>
    cases push
    · simp [takeAt] at hk'
    · simp [stepV, way, bot, sixAt, worth, ← hstk'.1, stackW_set]
  case pushCounted =>
    cases push
    · simp [takeAt] at hk'
    · have : en = 0 := hk'.2 (by simp)
      simp [stepV, way, bot, sixAt, worth, ← hstk'.1, stackW_more, this, hstk'.2.2]; omega
  case free => cases push <;> simp [stepV, way, bot, sixAt, worth]
  case popReadBottom => cases push <;> simp [stepV, way, bot, sixAt, worth]
  case popBottom => cases push <;> simp [stepV, way, bot, sixAt, worth, hown.2]
  case popReadTop =>
    cases push
    · by_cases hz : v.T < u
      · simp [stepV, way, bot, sixAt, worth, hz]
      · by_cases hy : v.T = u
        · simp [stepV, way, bot, sixAt, worth, hy]
        · simp [stepV, way, bot, sixAt, worth, hz, hy]
    · simp [pushAt] at hk'
  case popSlot =>
    cases push
    · simp [stepV, way, bot, sixAt, worth, hslot', ringW_last f C.cap v.s hown]; omega
    · simp [pushAt] at hk'
  case popLast => cases push <;> simp [stepV, way, bot, sixAt, worth]
  case popSwap =>
    cases push
    · by_cases hz : v.T = t
      · have e : v.T = v.B := by omega
        have e2 : t = v.B := by omega
        simp [stepV, way, bot, sixAt, worth, hz, e2, hslot' e, ringW_first f C.cap v.s (show v.B < v.B + 1 by omega)]; omega
      · simp [stepV, way, bot, sixAt, worth, hz]
    · simp [pushAt] at hk'
  case popWon => cases push <;> simp [stepV, way, bot, sixAt, worth, hown.1, hown.2] <;> simp [pushAt] at hk'
  case popNothing => cases push <;> simp [stepV, way, bot, sixAt, worth, hown.1, hown.2]
  case takeLock => cases push <;> by_cases hz : v.L = 0 <;> simp [stepV, way, bot, sixAt, worth, hz]
  case takeCount =>
    cases push
    · by_cases hz : stackedOf C v.N = 0 <;> simp [stepV, way, bot, sixAt, worth, hz]
    · simp [pushAt] at hk'
  case takeCell => cases push <;> simp [stepV, way, bot, sixAt, worth]
  case takeCounted =>
    cases push
    · have : en = 0 := hk'.2 (by simp)
      obtain ⟨m, rfl⟩ : ∃ m, n = m + 1 := ⟨n - 1, by omega⟩
      have hm := stackW_more f v.k m
      simp [stepV, way, bot, sixAt, worth, ← hstk'.1, this, hstk'.2.2, hm]; omega
    · simp [pushAt] at hk'

theorem DI.worth_thief {C : Cfg} {v : DV} {p : Option Nat → OpS} (h : DI C v p) (f : Int → Int) (j : Nat) (hk : KindI false (p (some j))) :
    worth f C (stepV C v (p (some j))).1 (bot (stepV C v (p (some j))).1 (p none)) + way false f (stepV C v (p (some j))).2 = worth f C v (bot v (p none)) + way false f (p (some j)) := by
  have hkd := h.kinds j
  have htk := h.tak j
  have hth := h.thf j
  have hstk := h.stk (some j)
  have hB := (thief_sees (C := C) (v := v) hkd).1
  have eb : bot (stepV C v (p (some j))).1 (p none) = bot v (p none) := by unfold bot; rw [hB]
  have hbot : v.T < v.B ∨ (v.T = v.B ∧ mid (p none)) → v.T < bot v (p none) := by
    intro g
    unfold bot
    rcases g with g | ⟨g1, g2, g3⟩
    · split <;> omega
    · rw [g2]
      rcases g3 with g3 | g3 | g3 <;> rw [g3] <;> simp [sixAt] <;> omega
  rw [eb]
  generalize bot v (p none) = b at *
  generalize p none = o0 at *
  clear eb hB
  generalize p (some j) = o at *
  obtain ⟨a, dn, t, u, n, i, en⟩ := o
  cases dn
  case true => rw [stepV_done rfl]
  have hk' := hk rfl
  have hkd' := hkd rfl
  have hth' := hth rfl
  have hstk' := hstk rfl
  cases a <;> simp only at hth' hstk'
  case stealReadTop => simp [stepV, way, worth]
  case stealReadBottom => by_cases hz : t < v.B <;> simp [stepV, way, worth, hz]
  case stealSlot => simp [stepV, way, worth]
  case stealSwap =>
    by_cases hz : v.T = t
    · have hi : i = v.s (spot C.cap v.T) := htk rfl rfl hz.symm
      have hb := hbot (hth'.2 hz.symm)
      have hf := ringW_first f C.cap v.s hb
      subst hz
      simp [stepV, way, worth, hf, hi]; omega
    · simp [stepV, way, worth, hz]
  case takeLock => by_cases hz : v.L = 0 <;> simp [stepV, way, worth, hz]
  case takeCount => by_cases hz : stackedOf C v.N = 0 <;> simp [stepV, way, worth, hz]
  case takeCell => simp [stepV, way, worth]
  case takeCounted =>
    have : en = 0 := hk'.2 (by simp)
    obtain ⟨m, rfl⟩ : ∃ m, n = m + 1 := ⟨n - 1, by omega⟩
    have hm := stackW_more f v.k m
    simp [stepV, way, worth, ← hstk'.1, this, hstk'.2.2, hm]; omega
  case free => simp [stepV, way, worth]
  all_goals simp [thiefAt] at hkd'

end Go.Proofs.Ytokabpgdklihlaa
