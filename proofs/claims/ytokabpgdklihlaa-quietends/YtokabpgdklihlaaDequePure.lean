/-
  Runs by turns, as a pure function ('turn', 'roundR', 'rounds'); what a step asks stays true ('fit_own', 'fit_other'). No Go is walked here.
-/
import Derived.Test.YtokabpgdklihlaaDequeBase
namespace Go.Proofs.Ytokabpgdklihlaa
open Go.RowKit

theorem rd_wr_or (C : Cfg) (l : List Int) (k j : Nat) (v : Int) : rd C (wr C l k v) j = v ∨ rd C (wr C l k v) j = rd C l j := by
  by_cases h : C.base + k < l.length
  · rw [rd_wr C l k j v h]
    split
    · exact .inl rfl
    · exact .inr rfl
  · right
    unfold wr
    rw [List.set_eq_of_length_le (by omega)]

/-- Top and bottom behind a step. -/
theorem step_tb (C : Cfg) (l : List Int) (o : OpS) (N : Int) (h : Fit C l o N) : (-(N + 1) ≤ rd C (stepOf C l o).1 0 ∧ rd C (stepOf C l o).1 0 ≤ N + 1) ∧ (-(N + 1) ≤ rd C (stepOf C l o).1 1 ∧ rd C (stepOf C l o).1 1 ≤ N + 1) := by
  have h1 := h.t
  have h2 := h.b
  have h3 := h.ot
  have h4 := h.ob
  unfold stepOf
  by_cases hd : o.done = true
  · rw [if_pos hd]
    show (-(N + 1) ≤ rd C l 0 ∧ rd C l 0 ≤ N + 1) ∧ (-(N + 1) ≤ rd C l 1 ∧ rd C l 1 ≤ N + 1)
    exact ⟨by constructor <;> omega, by constructor <;> omega⟩
  · rw [if_neg hd]
    have hs : ∀ z, slotOf C z ≠ 0 ∧ slotOf C z ≠ 1 := fun z => by unfold slotOf; omega
    have key : ∀ k v, (k = 0 ∨ k = 1 → -(N + 1) ≤ v ∧ v ≤ N + 1) → (-(N + 1) ≤ rd C (wr C l k v) 0 ∧ rd C (wr C l k v) 0 ≤ N + 1) ∧ (-(N + 1) ≤ rd C (wr C l k v) 1 ∧ rd C (wr C l k v) 1 ≤ N + 1) := by
      intro k v hv
      have one : ∀ j, j = 0 ∨ j = 1 → -(N + 1) ≤ rd C (wr C l k v) j ∧ rd C (wr C l k v) j ≤ N + 1 := by
        intro j hj
        by_cases hkj : j = k
        · have := hv (by omega)
          rcases rd_wr_or C l k j v with e | e <;> rw [e]
          · exact this
          · rcases hj with rfl | rfl <;> constructor <;> omega
        · rw [rd_wr_ne C l k j v hkj]
          rcases hj with rfl | rfl <;> constructor <;> omega
      exact ⟨one 0 (.inl rfl), one 1 (.inr rfl)⟩
    have base : (-(N + 1) ≤ rd C l 0 ∧ rd C l 0 ≤ N + 1) ∧ (-(N + 1) ≤ rd C l 1 ∧ rd C l 1 ≤ N + 1) := ⟨by constructor <;> omega, by constructor <;> omega⟩
    cases o.at_ <;> simp only
    case pushLock => split <;> first | exact base | exact key _ _ (by omega)
    case takeLock => split <;> first | exact base | exact key _ _ (by omega)
    case pushCount => split <;> exact base
    case takeCount => split <;> exact base
    case popSwap => split <;> first | exact base | exact key _ _ (by omega)
    case stealSwap => split <;> first | exact base | exact key _ _ (by omega)
    case pushSlot => exact key _ _ (by have := hs o.bottom; omega)
    all_goals first | exact base | exact key _ _ (by omega)

theorem fit_own (C : Cfg) (l : List Int) (o : OpS) (N : Int) (h : Fit C l o N) : Fit C (stepOf C l o).1 (stepOf C l o).2 (N + 1) := by
  have tb := step_tb C l o N h
  have h1 := h.t
  have h2 := h.b
  have h3 := h.ot
  have h4 := h.ob
  have h5 := h.cnt
  have hs := stackedOf_le C (rd C l 3)
  refine ⟨tb.1, tb.2, ?_, ?_, ?_⟩
  · unfold stepOf
    by_cases hd : o.done = true
    · rw [if_pos hd]; constructor <;> (try simp only) <;> omega
    · rw [if_neg hd]
      cases o.at_ <;> simp only <;> (repeat' split) <;> constructor <;> (try simp only) <;> omega
  · unfold stepOf
    by_cases hd : o.done = true
    · rw [if_pos hd]; constructor <;> (try simp only) <;> omega
    · rw [if_neg hd]
      cases o.at_ <;> simp only <;> (repeat' split) <;> constructor <;> (try simp only) <;> omega
  · unfold stepOf
    by_cases hd : o.done = true
    · rw [if_pos hd]; exact h5
    · rw [if_neg hd]
      unfold CntOk at h5 ⊢
      obtain ⟨a, dn, t, u, n, v, en⟩ := o
      have hs' : ¬ C.over ≤ stackedOf C (rd C l 3) → stackedOf C (rd C l 3) < C.over := fun h => by omega
      have hs2 : ¬ stackedOf C (rd C l 3) = 0 → 0 < stackedOf C (rd C l 3) ∧ stackedOf C (rd C l 3) ≤ C.over := fun h => by omega
      cases a
      case pushCount => by_cases hz : C.over ≤ stackedOf C (rd C l 3) <;> simp [hz] ; exact hs' hz
      case takeCount => by_cases hz : stackedOf C (rd C l 3) = 0 <;> simp [hz] ; exact hs2 hz
      case pushLock => by_cases hz : rd C l 2 = 0 <;> simp [hz]
      case takeLock => by_cases hz : rd C l 2 = 0 <;> simp [hz]
      case popSwap => by_cases hz : rd C l 0 = t <;> simp [hz]
      case stealSwap => by_cases hz : rd C l 0 = t <;> simp [hz]
      case pushReadTop => by_cases hz : heldOf C (rd C l 0) u < C.cap <;> simp [hz]
      case stealReadBottom => by_cases hz : t < rd C l 1 <;> simp [hz]
      case popReadTop => by_cases hz : rd C l 0 < u <;> by_cases hy : rd C l 0 = u <;> simp [hz, hy]
      case pushCell => exact h5
      case takeCell => exact h5
      all_goals trivial

theorem fit_other (C : Cfg) (l : List Int) (o o2 : OpS) (N : Int) (h : Fit C l o N) (h2 : Fit C l o2 N) : Fit C (stepOf C l o).1 o2 (N + 1) := by
  have tb := step_tb C l o N h
  have h3 := h2.ot
  have h4 := h2.ob
  exact ⟨tb.1, tb.2, by constructor <;> omega, by constructor <;> omega, h2.cnt⟩

/-- A run's state: the cells, the operations, the steps. -/
structure Rs where
  l : List Int
  m : Nat → OpS
  n : Nat

def upd (m : Nat → OpS) (b : Nat) (o : OpS) : Nat → OpS := fun k => if k = b then o else m k

def turn (C : Cfg) (r : Rs) : Option Nat → Rs
  | none => r
  | some b => if r.n < 100000 ∧ (r.m b).done = false then ⟨(stepOf C r.l (r.m b)).1, upd r.m b (stepOf C r.l (r.m b)).2, r.n + 1⟩ else r

def roundR (C : Cfg) (ps : List (Option Nat)) (r : Rs) : Rs := ps.foldl (turn C) r
def rounds (C : Cfg) (ps : List (Option Nat)) : Nat → Rs → Rs
  | 0, r => r
  | k + 1, r => rounds C ps k (roundR C ps r)

def dnOf (m : Nat → OpS) : Option Nat → Bool
  | none => true
  | some b => (m b).done

def FitAll (C : Cfg) (r : Rs) (bs : List Nat) (N : Int) : Prop := ∀ b, b ∈ bs → Fit C r.l (r.m b) N

theorem Fit.mono {C : Cfg} {l : List Int} {o : OpS} {N M : Int} (h : Fit C l o N) (hm : N ≤ M) : Fit C l o M :=
  ⟨by have := h.t; constructor <;> omega, by have := h.b; constructor <;> omega, by have := h.ot; constructor <;> omega, by have := h.ob; constructor <;> omega, h.cnt⟩

theorem fit_turn (C : Cfg) (r : Rs) (bs : List Nat) (N : Int) (x : Option Nat) (hx : ∀ b, x = some b → b ∈ bs) (h : FitAll C r bs N) : FitAll C (turn C r x) bs (N + 1) := by
  cases x with
  | none => exact fun b hb => (h b hb).mono (by omega)
  | some c =>
    unfold turn
    simp only
    split
    · intro b hb
      unfold upd
      simp only
      split
      · rename_i e
        exact fit_own C r.l (r.m c) N (h c (hx c rfl))
      · exact fit_other C r.l (r.m c) (r.m b) N (h c (hx c rfl)) (h b hb)
    · exact fun b hb => (h b hb).mono (by omega)

theorem step_done_stays (C : Cfg) (l : List Int) (o : OpS) (h : o.done = true) : (stepOf C l o).2.done = true := by simp [stepOf, h]

theorem turn_done (C : Cfg) (r : Rs) (x y : Option Nat) (h : dnOf r.m y = true) : dnOf (turn C r x).m y = true := by
  cases x with
  | none => exact h
  | some c =>
    unfold turn
    simp only
    split
    · rename_i hc
      cases y with
      | none => rfl
      | some b =>
        simp only [dnOf, upd] at h ⊢
        split
        · rename_i e
          subst e
          rw [hc.2] at h
          cases h
        · exact h
    · exact h

theorem turn_skip (C : Cfg) (r : Rs) (x : Option Nat) (h : dnOf r.m x = true) : turn C r x = r := by
  cases x with
  | none => rfl
  | some c =>
    simp only [dnOf] at h
    simp [turn, h]

theorem turn_n (C : Cfg) (r : Rs) (x : Option Nat) : r.n ≤ (turn C r x).n ∧ (turn C r x).n ≤ r.n + 1 ∧ (r.n ≤ 100000 → (turn C r x).n ≤ 100000) := by
  cases x with
  | none => simp [turn]
  | some c =>
    unfold turn
    simp only
    split
    · rename_i hc
      simp only
      omega
    · omega

theorem foldl_done (C : Cfg) (ps : List (Option Nat)) (r : Rs) (y : Option Nat) (h : dnOf r.m y = true) : dnOf (roundR C ps r).m y = true := by
  unfold roundR
  induction ps generalizing r with
  | nil => exact h
  | cons x ps ih => exact ih _ (turn_done C r x y h)

theorem round_n (C : Cfg) (ps : List (Option Nat)) (r : Rs) : r.n ≤ (roundR C ps r).n ∧ (roundR C ps r).n ≤ r.n + ps.length ∧ (r.n ≤ 100000 → (roundR C ps r).n ≤ 100000) := by
  unfold roundR
  induction ps generalizing r with
  | nil => simp
  | cons x ps ih =>
    have h1 := turn_n C r x
    have h2 := ih (turn C r x)
    simp only [List.foldl_cons, List.length_cons]
    omega

/-- Those that are done may be left out. -/
theorem round_filter (C : Cfg) (ps : List (Option Nat)) (dn : Option Nat → Bool) (r : Rs) (h : ∀ x, x ∈ ps → dn x = true → dnOf r.m x = true) : roundR C (ps.filter fun x => !dn x) r = roundR C ps r := by
  unfold roundR
  induction ps generalizing r with
  | nil => rfl
  | cons x ps ih =>
    cases hx : dn x with
    | true =>
      have e : turn C r x = r := turn_skip C r x (h x (by simp) hx)
      simp only [List.filter_cons, hx, Bool.not_true, List.foldl_cons]
      rw [e]
      exact ih r (fun y hy => h y (by simp [hy]))
    | false =>
      simp only [List.filter_cons, hx, Bool.not_false, List.foldl_cons, if_true]
      exact ih _ (fun y hy hd => turn_done C r x y (h y (by simp [hy]) hd))

theorem round_more (C : Cfg) (ps : List (Option Nat)) (r : Rs) (x : Option Nat) (hx : x ∈ ps) (hd : dnOf r.m x = false) (hn : r.n < 100000) : r.n < (roundR C ps r).n := by
  unfold roundR
  induction ps generalizing r with
  | nil => cases hx
  | cons y ps ih =>
    simp only [List.foldl_cons]
    by_cases hy : dnOf r.m y = true
    · rw [turn_skip C r y hy]
      rcases List.mem_cons.1 hx with rfl | hx
      · rw [hy] at hd; cases hd
      · exact ih r hx hd hn
    · have h2 := (round_n C ps (turn C r y)).1
      unfold roundR at h2
      have : r.n < (turn C r y).n := by
        cases y with
        | none => simp [dnOf] at hy
        | some c =>
          have hc : (r.m c).done = false := by simpa [dnOf] using hy
          simp [turn, hn, hc]
      omega

theorem round_all_done (C : Cfg) (ps : List (Option Nat)) (r : Rs) (h : ∀ x, x ∈ ps → dnOf r.m x = true) : roundR C ps r = r := by
  unfold roundR
  induction ps with
  | nil => rfl
  | cons y ps ih =>
    simp only [List.foldl_cons]
    rw [turn_skip C r y (h y (by simp))]
    exact ih (fun x hx => h x (by simp [hx]))

theorem rounds_all_done (C : Cfg) (ps : List (Option Nat)) (k : Nat) (r : Rs) (h : ∀ x, x ∈ ps → dnOf r.m x = true) : rounds C ps k r = r := by
  induction k with
  | zero => rfl
  | succ k ih => rw [rounds, round_all_done C ps r h, ih]

theorem rounds_add (C : Cfg) (ps : List (Option Nat)) (k j : Nat) (r : Rs) : rounds C ps (k + j) r = rounds C ps j (rounds C ps k r) := by
  induction k generalizing r with
  | zero => rw [Nat.zero_add]; rfl
  | succ k ih => rw [Nat.succ_add]; exact ih _

theorem rounds_succ (C : Cfg) (ps : List (Option Nat)) (k : Nat) (r : Rs) : rounds C ps (k + 1) r = roundR C ps (rounds C ps k r) := rounds_add C ps k 1 r

theorem rounds_n (C : Cfg) (ps : List (Option Nat)) (k : Nat) (r : Rs) : r.n ≤ (rounds C ps k r).n ∧ (rounds C ps k r).n ≤ r.n + k * ps.length := by
  induction k with
  | zero => simp [rounds]
  | succ k ih =>
    rw [rounds_succ]
    have := round_n C ps (rounds C ps k r)
    rw [Nat.succ_mul]
    omega

/-- A run's end is that of any number of rounds behind which all are done. -/
theorem run_fin (C : Cfg) (ps : List (Option Nat)) (r : Rs) (k K : Nat) (hk : (∀ x, x ∈ ps → dnOf (rounds C ps k r).m x = true) ∨ 100000 ≤ (rounds C ps k r).n) (hK : ∀ x, x ∈ ps → dnOf (rounds C ps K r).m x = true) (hn : (rounds C ps K r).n < 100000) : rounds C ps k r = rounds C ps K r := by
  by_cases hle : k ≤ K
  · obtain ⟨j, rfl⟩ : ∃ j, K = k + j := ⟨K - k, by omega⟩
    rw [rounds_add] at hn ⊢
    rcases hk with hk | hk
    · rw [rounds_all_done C ps j _ hk]
    · have := (rounds_n C ps j (rounds C ps k r)).1
      omega
  · obtain ⟨j, rfl⟩ : ∃ j, k = K + j := ⟨k - K, by omega⟩
    rw [rounds_add, rounds_all_done C ps j _ hK]
end Go.Proofs.Ytokabpgdklihlaa
