/-
  A deque as it is seen, away from its cells ('DV'), a step of an operation on it ('stepV'), and that the cells go along ('view_step'); another deque's cells stay ('view_other'). No Go is walked here.
-/
import Derived.Test.YtokabpgdklihlaaDequeSeen
namespace Go.Proofs.Ytokabpgdklihlaa
set_option linter.unusedVariables false

/-- Top, bottom, lock, count; the slots, the stack. -/
structure DV where
  T : Int
  B : Int
  L : Int
  N : Int
  s : Nat → Int
  k : Nat → Int

def fset (f : Nat → Int) (i : Nat) (x : Int) : Nat → Int := fun j => if j = i then x else f j
/-- A number's slot. -/
def spot (cap : Nat) (z : Int) : Nat := (z % (cap : Int)).toNat
theorem spot_lt {cap : Nat} (h : 1 ≤ cap) (z : Int) : spot cap z < cap := by
  unfold spot
  have h1 := Int.emod_nonneg z (show (cap : Int) ≠ 0 by omega)
  have h2 := Int.emod_lt_of_pos z (show (0 : Int) < cap by omega)
  omega
theorem slot_spot (C : Cfg) (z : Int) : slotOf C z = 4 + spot C.cap z := rfl

def viewOf (C : Cfg) (l : List Int) : DV :=
  ⟨rd C l 0, rd C l 1, rd C l 2, rd C l 3, fun i => if i < C.cap then rd C l (4 + i) else 0, fun i => if i < C.over then rd C l (4 + C.cap + i) else 0⟩

/-- The document's step, on what is seen. -/
def stepV (C : Cfg) (v : DV) (o : OpS) : DV × OpS :=
  if o.done then (v, o) else
  match o.at_ with
  | .pushReadBottom => (v, { o with bottom := v.B, at_ := .pushReadTop })
  | .pushReadTop => (v, { o with top := v.T, at_ := if heldOf C v.T o.bottom < C.cap then .pushSlot else .pushLock })
  | .pushSlot => ({ v with s := fset v.s (spot C.cap o.bottom) o.item }, { o with at_ := .pushBottom })
  | .pushBottom => ({ v with B := o.bottom + 1 }, { o with done := true, errno := 0 })
  | .pushLock => if v.L = 0 then ({ v with L := 1 }, { o with at_ := .pushCount }) else (v, o)
  | .pushCount => if C.over ≤ stackedOf C v.N then (v, { o with count := stackedOf C v.N, errno := 14, at_ := .free }) else (v, { o with count := stackedOf C v.N, at_ := .pushCell })
  | .pushCell => ({ v with k := fset v.k o.count o.item }, { o with at_ := .pushCounted })
  | .pushCounted => ({ v with N := (o.count : Int) + 1 }, { o with at_ := .free })
  | .free => ({ v with L := 0 }, { o with done := true })
  | .popReadBottom => (v, { o with bottom := v.B - 1, at_ := .popBottom })
  | .popBottom => ({ v with B := o.bottom }, { o with at_ := .popReadTop })
  | .popReadTop => (v, { o with top := v.T, at_ := if v.T < o.bottom then .popSlot else if v.T = o.bottom then .popLast else .popNothing })
  | .popSlot => (v, { o with item := v.s (spot C.cap o.bottom), done := true, errno := 0 })
  | .popLast => (v, { o with item := v.s (spot C.cap o.bottom), at_ := .popSwap })
  | .popSwap => if v.T = o.top then ({ v with T := o.top + 1 }, { o with at_ := .popWon, top := o.top + 1 }) else (v, { o with at_ := .popNothing, top := o.top + 1 })
  | .popWon => ({ v with B := o.top }, { o with done := true, errno := 0 })
  | .popNothing => ({ v with B := o.top }, { o with at_ := .takeLock })
  | .stealReadTop => (v, { o with top := v.T, at_ := .stealReadBottom })
  | .stealReadBottom => (v, { o with bottom := v.B, at_ := if o.top < v.B then .stealSlot else .takeLock })
  | .stealSlot => (v, { o with item := v.s (spot C.cap o.top), at_ := .stealSwap })
  | .stealSwap => if v.T = o.top then ({ v with T := o.top + 1 }, { o with done := true, errno := 0 }) else (v, { o with done := true, errno := 16 })
  | .takeLock => if v.L = 0 then ({ v with L := 1 }, { o with at_ := .takeCount }) else (v, o)
  | .takeCount => if stackedOf C v.N = 0 then (v, { o with count := stackedOf C v.N, errno := 15, at_ := .free }) else (v, { o with count := stackedOf C v.N, at_ := .takeCell })
  | .takeCell => (v, { o with item := v.k (o.count - 1), at_ := .takeCounted })
  | .takeCounted => ({ v with N := (o.count : Int) - 1 }, { o with at_ := .free })

theorem view_wr {C : Cfg} {l : List Int} (hr : C.base + (4 + C.cap + C.over) ≤ l.length) {i : Nat} (hi : i < 4 + C.cap + C.over) (x : Int) :
    viewOf C (wr C l i x) = ⟨if i = 0 then x else rd C l 0, if i = 1 then x else rd C l 1, if i = 2 then x else rd C l 2, if i = 3 then x else rd C l 3, fun j => if j < C.cap then (if 4 + j = i then x else rd C l (4 + j)) else 0, fun j => if j < C.over then (if 4 + C.cap + j = i then x else rd C l (4 + C.cap + j)) else 0⟩ := by
  have h : ∀ j, rd C (wr C l i x) j = if j = i then x else rd C l j := fun j => rd_wr C l i j x (by omega)
  unfold viewOf
  simp only [h]
  congr 1
  · by_cases e : i = 0 <;> simp [e, eq_comm]
  · by_cases e : i = 1 <;> simp [e, eq_comm]
  · by_cases e : i = 2 <;> simp [e, eq_comm]
  · by_cases e : i = 3 <;> simp [e, eq_comm]

theorem view_word {C : Cfg} {l : List Int} (hr : C.base + (4 + C.cap + C.over) ≤ l.length) (x : Int) :
    viewOf C (wr C l 0 x) = { viewOf C l with T := x } ∧ viewOf C (wr C l 1 x) = { viewOf C l with B := x } ∧ viewOf C (wr C l 2 x) = { viewOf C l with L := x } ∧ viewOf C (wr C l 3 x) = { viewOf C l with N := x } := by
  have hs : ∀ i j : Nat, i < 4 → ¬ (4 + j = i) := fun i j h => by omega
  have hk : ∀ i j : Nat, i < 4 → ¬ (4 + C.cap + j = i) := fun i j h => by omega
  refine ⟨?_, ?_, ?_, ?_⟩
  · rw [view_wr hr (by omega)]; simp [viewOf]
  · rw [view_wr hr (by omega)]; simp [viewOf, hs 1, hk 1]
  · rw [view_wr hr (by omega)]; simp [viewOf, hs 2, hk 2]
  · rw [view_wr hr (by omega)]; simp [viewOf, hs 3, hk 3]
theorem view_slot {C : Cfg} {l : List Int} (hr : C.base + (4 + C.cap + C.over) ≤ l.length) {i : Nat} (hi : i < C.cap) (x : Int) : viewOf C (wr C l (4 + i) x) = { viewOf C l with s := fset (viewOf C l).s i x } := by
  rw [view_wr hr (by omega)]
  have h0 : ∀ k : Nat, k < 4 → ¬ (4 + i = k) := fun k h => by omega
  simp only [h0 0 (by omega), h0 1 (by omega), h0 2 (by omega), h0 3 (by omega), if_false, viewOf]
  congr 1
  · funext j
    by_cases e : j = i
    · subst e; simp [hi, fset]
    · simp [e, fset]
  · funext j
    have : ¬ (4 + C.cap + j = 4 + i) := by omega
    simp [this]
theorem view_stack {C : Cfg} {l : List Int} (hr : C.base + (4 + C.cap + C.over) ≤ l.length) {i : Nat} (hi : i < C.over) (x : Int) : viewOf C (wr C l (4 + C.cap + i) x) = { viewOf C l with k := fset (viewOf C l).k i x } := by
  rw [view_wr hr (by omega)]
  have h0 : ∀ k : Nat, k < 4 → ¬ (4 + C.cap + i = k) := fun k h => by omega
  simp only [h0 0 (by omega), h0 1 (by omega), h0 2 (by omega), h0 3 (by omega), if_false, viewOf]
  congr 1
  · funext j
    by_cases hj : j < C.cap
    · have : ¬ (4 + j = 4 + C.cap + i) := by omega
      simp [this]
    · simp [hj]
  · funext j
    by_cases e : j = i
    · subst e; simp [hi, fset]
    · simp [e, fset]

theorem view_step {C : Cfg} {l : List Int} {o : OpS} (hr : C.base + (4 + C.cap + C.over) ≤ l.length) (hcap : 1 ≤ C.cap) (hc : CntOk C o) :
    viewOf C (stepOf C l o).1 = (stepV C (viewOf C l) o).1 ∧ (stepOf C l o).2 = (stepV C (viewOf C l) o).2 := by
  obtain ⟨w0, w1, w2, w3⟩ : (∀ x, viewOf C (wr C l 0 x) = { viewOf C l with T := x }) ∧ (∀ x, viewOf C (wr C l 1 x) = { viewOf C l with B := x }) ∧ (∀ x, viewOf C (wr C l 2 x) = { viewOf C l with L := x }) ∧ (∀ x, viewOf C (wr C l 3 x) = { viewOf C l with N := x }) :=
    ⟨fun x => (view_word hr x).1, fun x => (view_word hr x).2.1, fun x => (view_word hr x).2.2.1, fun x => (view_word hr x).2.2.2⟩
  have r0 : (viewOf C l).T = rd C l 0 := rfl
  have r1 : (viewOf C l).B = rd C l 1 := rfl
  have r2 : (viewOf C l).L = rd C l 2 := rfl
  have r3 : (viewOf C l).N = rd C l 3 := rfl
  have rs : ∀ z, (viewOf C l).s (spot C.cap z) = rd C l (slotOf C z) := fun z => by
    show (if spot C.cap z < C.cap then _ else _) = _
    rw [if_pos (spot_lt hcap z)]
    rfl
  unfold stepOf stepV
  by_cases hd : o.done = true
  · rw [if_pos hd, if_pos hd]
    exact ⟨rfl, rfl⟩
  · rw [if_neg hd, if_neg hd]
    obtain ⟨a, dn, t, u, n, v, en⟩ := o
    unfold CntOk at hc
    cases a <;> simp only [r0, r1, r2, r3, rs] at hc ⊢
    case pushSlot => exact ⟨by rw [slot_spot]; exact view_slot hr (spot_lt hcap u) _, trivial⟩
    case pushCell => exact ⟨view_stack hr hc _, trivial⟩
    case pushBottom => exact ⟨w1 _, trivial⟩
    case pushCounted => exact ⟨w3 _, trivial⟩
    case free => exact ⟨w2 _, trivial⟩
    case popBottom => exact ⟨w1 _, trivial⟩
    case popWon => exact ⟨w1 _, trivial⟩
    case popNothing => exact ⟨w1 _, trivial⟩
    case takeCounted => exact ⟨w3 _, trivial⟩
    case pushLock =>
      by_cases h : rd C l 2 = 0
      · rw [if_pos h, if_pos h]
        exact ⟨w2 _, rfl⟩
      · rw [if_neg h, if_neg h]
        exact ⟨rfl, rfl⟩
    case takeLock =>
      by_cases h : rd C l 2 = 0
      · rw [if_pos h, if_pos h]
        exact ⟨w2 _, rfl⟩
      · rw [if_neg h, if_neg h]
        exact ⟨rfl, rfl⟩
    case popSwap =>
      by_cases h : rd C l 0 = t
      · rw [if_pos h, if_pos h]
        exact ⟨w0 _, rfl⟩
      · rw [if_neg h, if_neg h]
        exact ⟨rfl, rfl⟩
    case stealSwap =>
      by_cases h : rd C l 0 = t
      · rw [if_pos h, if_pos h]
        exact ⟨w0 _, rfl⟩
      · rw [if_neg h, if_neg h]
        exact ⟨rfl, rfl⟩
    case pushCount => by_cases h : C.over ≤ stackedOf C (rd C l 3) <;> simp [h]
    case takeCount => by_cases h : stackedOf C (rd C l 3) = 0 <;> simp [h]
    case takeCell =>
      refine ⟨trivial, ?_⟩
      have : (viewOf C l).k (n - 1) = rd C l (4 + C.cap + (n - 1)) := by
        show (if n - 1 < C.over then _ else _) = _
        rw [if_pos (by omega)]
      rw [this]
    all_goals trivial

/-- Another deque, whose cells lie apart. -/
theorem view_other {C D : Cfg} {l : List Int} {o : OpS} (hc : CntOk C o) (hcap : 1 ≤ C.cap) (hap : C.base + (4 + C.cap + C.over) ≤ D.base ∨ D.base + (4 + D.cap + D.over) ≤ C.base) : viewOf D (stepOf C l o).1 = viewOf D l := by
  have key : ∀ i x, i < 4 + C.cap + C.over → viewOf D (wr C l i x) = viewOf D l := fun i x hi => by
    have h : ∀ j, j < 4 + D.cap + D.over → rd D (wr C l i x) j = rd D l j := fun j hj => by
      unfold rd wr
      rw [List.getD_eq_getElem?_getD, List.getD_eq_getElem?_getD, List.getElem?_set, if_neg (by omega)]
    unfold viewOf
    rw [h 0 (by omega), h 1 (by omega), h 2 (by omega), h 3 (by omega)]
    congr 1
    · funext j
      by_cases hj : j < D.cap
      · rw [if_pos hj, if_pos hj, h _ (by omega)]
      · rw [if_neg hj, if_neg hj]
    · funext j
      by_cases hj : j < D.over
      · rw [if_pos hj, if_pos hj, h _ (by omega)]
      · rw [if_neg hj, if_neg hj]
  have hsl : ∀ z, slotOf C z < 4 + C.cap + C.over := fun z => by have := spot_lt hcap z; rw [slot_spot]; omega
  unfold stepOf
  by_cases hd : o.done = true
  · rw [if_pos hd]
  · rw [if_neg hd]
    obtain ⟨a, dn, t, u, n, v, en⟩ := o
    unfold CntOk at hc
    cases a <;> simp only at hc ⊢
    case pushSlot => exact key _ _ (hsl u)
    case pushCell => exact key _ _ (by omega)
    case pushBottom => exact key _ _ (by omega)
    case pushCounted => exact key _ _ (by omega)
    case free => exact key _ _ (by omega)
    case popBottom => exact key _ _ (by omega)
    case popWon => exact key _ _ (by omega)
    case popNothing => exact key _ _ (by omega)
    case takeCounted => exact key _ _ (by omega)
    case pushLock => by_cases h : rd C l 2 = 0 <;> simp [h]; exact key _ _ (by omega)
    case takeLock => by_cases h : rd C l 2 = 0 <;> simp [h]; exact key _ _ (by omega)
    case popSwap => by_cases h : rd C l 0 = t <;> simp [h]; exact key _ _ (by omega)
    case stealSwap => by_cases h : rd C l 0 = t <;> simp [h]; exact key _ _ (by omega)
    case pushCount => by_cases h : C.over ≤ stackedOf C (rd C l 3) <;> simp [h]
    case takeCount => by_cases h : stackedOf C (rd C l 3) = 0 <;> simp [h]
    all_goals trivial
end Go.Proofs.Ytokabpgdklihlaa
