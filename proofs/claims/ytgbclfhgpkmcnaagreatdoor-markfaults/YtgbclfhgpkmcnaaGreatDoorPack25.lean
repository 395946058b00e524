/-
  Texts of the proof, several in one: DequeLaw, DequeSeen, DequeView, DequeSlots, DequeAll, DequeWorth, MarkOps, QuietLaw.
-/
import Derived.Test.YtgbclfhgpkmcnaaGreatDoorPack23
import Derived.Test.YtgbclfhgpkmcnaaGreatDoorPack19
import Derived.Test.YtgbclfhgpkmcnaaGreatDoorPack11
/-
  What the laws of package deque share: New, Need, an operation from its beginning to its end, two operations by turns.
-/
namespace Go.Proofs.YtgbclfhgpkmcnaaGreatDoor
open Go.RowKit

theorem need_ok (cap over : Nat) (hc : 1 ≤ cap ∧ cap ≤ 64) (ho : over ≤ 4096) (w : World) :
    Calls Tryz.prog 49 #[.int .i64 cap, .int .i64 over] w fun e w' => e = .returned (.int .i64 ((4 + cap + over : Nat) : Int)) ∧ w' = w := by
  have h1 : ¬ ((cap : Int) < 1) := by omega
  have h2 : ¬ ((64 : Int) < cap) := by omega
  have h3 : ¬ ((over : Int) < 0) := by omega
  have h4 : ¬ ((4096 : Int) < over) := by omega
  go_enter Tryz.func49, Tryz.ntmps49
  go_wp2_with fail
  go_ret
  refine ⟨?_, rfl⟩
  congr 2

theorem dnew_ok (w : World) (p q : Nat) (C : Cfg) (l : List Int) (s : Int) (hc : 1 ≤ C.cap ∧ C.cap ≤ 64) (ho : C.over ≤ 4096) (hr : C.base + (4 + C.cap + C.over) ≤ l.length) (hm : l.length ≤ 65536) (h : Mem w p q l s) :
    Calls Tryz.prog 66 #[.pointer (some ⟨p, 0, none⟩), .int .i64 C.base, .int .i64 C.cap, .int .i64 C.over] w fun e w' => e = .returned (.tuple #[.pointer (some ⟨w.heap.size, 0, none⟩), .int .i64 0]) ∧ Dq w' w.heap.size p q C l s ∧ Turned [] w w' ∧ w'.heap.size = w.heap.size + 1 := by
  have HN := hide (need_ok C.cap C.over hc ho w)
  have HL := hide (len_mem p q l s w h)
  have HH := hide h
  have h1 : ¬ (((4 + C.cap + C.over : Nat) : Int) = 0) := by omega
  have h2 : ¬ ((C.base : Int) < 0) := by omega
  have h3 : ¬ ((l.length : Int) - ((4 + C.cap + C.over : Nat) : Int) < (C.base : Int)) := by omega
  have hN : 5 ≤ 4 + C.cap + C.over ∧ 4 + C.cap + C.over ≤ 5000 := by omega
  have t0 : Turned [] w (w.alloc (.cells #[.pointer (some ⟨p, 0, none⟩), .int .i64 C.base, .int .i64 C.cap, .int .i64 C.over] 149)) := (Turned.refl _ _).alloc _
  have HD : Hid (Dq (w.alloc (.cells #[.pointer (some ⟨p, 0, none⟩), .int .i64 C.base, .int .i64 C.cap, .int .i64 C.over] 149)) w.heap.size p q C l s) :=
    ⟨⟨by have := h.ltp; omega, by have := h.ltq; omega⟩, hc, ho, hr, hm, heap_alloc_new _ _, h.turned t0 (by simp) (by simp)⟩
  generalize 4 + C.cap + C.over = need at *
  clear h
  generalize hn : l.length = n at *
  clear hn
  go_enter Tryz.func66, Tryz.ntmps66
  go_wp2_with fail
  refine HN.out.mono ?_
  rintro e w1 ⟨rfl, rfl⟩
  go_wp2_with fail
  refine HL.out.mono ?_
  rintro e w1 ⟨rfl, rfl⟩
  go_wp2_with fail
  all_goals first | (go_ret2; exact ⟨rfl, HD.out, t0, by simp⟩) | (rename_i hx; exfalso; rcases hx with (hx | hx) | hx <;> first | omega | (simp at hx; try omega))

/-- A deque, however many accesses were counted. -/
def Dn (w : World) (d p q : Nat) (C : Cfg) (l : List Int) : Prop := ∃ s, Dq w d p q C l s
theorem Dn.turned {w w' : World} {d p q : Nat} {C : Cfg} {l : List Int} (h : Dn w d p q C l) {S : List Nat} (t : Turned S w w') (hd : d ∉ S) (hp : p ∉ S) (hq : q ∉ S) : Dn w' d p q C l := by
  obtain ⟨s, h⟩ := h
  exact ⟨s, h.turned t hd hp hq⟩

theorem fit_new {C : Cfg} {l : List Int} {a : Stp} {v : Int} {N : Int} (ha : a = .pushReadBottom ∨ a = .popReadBottom ∨ a = .stealReadTop) (ht : -N ≤ rd C l 0 ∧ rd C l 0 ≤ N) (hb : -N ≤ rd C l 1 ∧ rd C l 1 ≤ N) : Fit C l (opNew a v) N :=
  ⟨ht, hb, by show -N ≤ (0 : Int) ∧ (0 : Int) ≤ N; omega, by show -N ≤ (0 : Int) ∧ (0 : Int) ≤ N; omega, by rcases ha with rfl | rfl | rfl <;> trivial⟩

/-- An operation from its beginning to its end, where nobody else is at work: twelve steps at most. -/
def opRun (C : Cfg) (a : Stp) (v : Int) (l : List Int) : List Int × OpS := goes C 12 (l, opNew a v)

theorem Dn.push {w : World} {d p q : Nat} {C : Cfg} {l : List Int} (h : Dn w d p q C l) (v : Int) :
    Calls Tryz.prog 90 #[.pointer (some ⟨d, 0, none⟩), .int .i64 v] w fun e w' => e = .returned (.pointer (some ⟨w.heap.size, 0, none⟩)) ∧ Dn w' d p q C l ∧ OpB w' w.heap.size d (opNew .pushReadBottom v) ∧ Turned [] w w' ∧ w.heap.size ≠ d ∧ w.heap.size ≠ p ∧ w.heap.size ≠ q := by
  obtain ⟨s, h⟩ := h
  refine (push_any w d p q C l s v h).mono ?_
  rintro e w' ⟨rfl, h1, h2, h3, h4⟩
  exact ⟨rfl, ⟨s, h1⟩, h2, h3, by have := h.ltd; omega, by have := h.mem.ltp; omega, by have := h.mem.ltq; omega⟩
theorem Dn.pop {w : World} {d p q : Nat} {C : Cfg} {l : List Int} (h : Dn w d p q C l) :
    Calls Tryz.prog 84 #[.pointer (some ⟨d, 0, none⟩)] w fun e w' => e = .returned (.pointer (some ⟨w.heap.size, 0, none⟩)) ∧ Dn w' d p q C l ∧ OpB w' w.heap.size d (opNew .popReadBottom 0) ∧ Turned [] w w' ∧ w.heap.size ≠ d ∧ w.heap.size ≠ p ∧ w.heap.size ≠ q := by
  obtain ⟨s, h⟩ := h
  refine (pop_any w d p q C l s h).mono ?_
  rintro e w' ⟨rfl, h1, h2, h3, h4⟩
  exact ⟨rfl, ⟨s, h1⟩, h2, h3, by have := h.ltd; omega, by have := h.mem.ltp; omega, by have := h.mem.ltq; omega⟩
theorem Dn.steal {w : World} {d p q : Nat} {C : Cfg} {l : List Int} (h : Dn w d p q C l) :
    Calls Tryz.prog 85 #[.pointer (some ⟨d, 0, none⟩)] w fun e w' => e = .returned (.pointer (some ⟨w.heap.size, 0, none⟩)) ∧ Dn w' d p q C l ∧ OpB w' w.heap.size d (opNew .stealReadTop 0) ∧ Turned [] w w' ∧ w.heap.size ≠ d ∧ w.heap.size ≠ p ∧ w.heap.size ≠ q := by
  obtain ⟨s, h⟩ := h
  refine (steal_any w d p q C l s h).mono ?_
  rintro e w' ⟨rfl, h1, h2, h3, h4⟩
  exact ⟨rfl, ⟨s, h1⟩, h2, h3, by have := h.ltd; omega, by have := h.mem.ltp; omega, by have := h.mem.ltq; omega⟩

/-- Two operations by turns. -/
def goes2 (C : Cfg) : Nat → List Int × OpS × OpS → List Int × OpS × OpS
  | 0, r => r
  | k + 1, r => goes2 C k ((stepOf C (stepOf C r.1 r.2.1).1 r.2.2).1, (stepOf C r.1 r.2.1).2, (stepOf C (stepOf C r.1 r.2.1).1 r.2.2).2)

theorem turn_step (C : Cfg) (r : Rs) (b : Nat) (hn : r.n < 100000) : (turn C r (some b)).l = (stepOf C r.l (r.m b)).1 ∧ (turn C r (some b)).m b = (stepOf C r.l (r.m b)).2 ∧ ∀ c, c ≠ b → (turn C r (some b)).m c = r.m c := by
  by_cases hd : (r.m b).done = true
  · rw [turn_skip C r (some b) hd, stepOf_done C r.l hd]
    exact ⟨rfl, rfl, fun _ _ => rfl⟩
  · have hd' : (r.m b).done = false := by simpa using hd
    have e : turn C r (some b) = ⟨(stepOf C r.l (r.m b)).1, upd r.m b (stepOf C r.l (r.m b)).2, r.n + 1⟩ := by simp [turn, hn, hd']
    rw [e]
    exact ⟨rfl, by simp [upd], fun c hc => by simp [upd, hc]⟩

theorem rounds_two (C : Cfg) (b1 b2 : Nat) (hne : b1 ≠ b2) (k : Nat) : ∀ (r : Rs), r.n + 2 * k < 100000 → (rounds C [some b1, some b2] k r).l = (goes2 C k (r.l, r.m b1, r.m b2)).1 ∧ (rounds C [some b1, some b2] k r).m b1 = (goes2 C k (r.l, r.m b1, r.m b2)).2.1 ∧ (rounds C [some b1, some b2] k r).m b2 = (goes2 C k (r.l, r.m b1, r.m b2)).2.2 ∧ (rounds C [some b1, some b2] k r).n ≤ r.n + 2 * k := by
  induction k with
  | zero => intro r _; exact ⟨rfl, rfl, rfl, by simp [rounds]⟩
  | succ k ih =>
    intro r hn
    rw [rounds]
    have e : roundR C [some b1, some b2] r = turn C (turn C r (some b1)) (some b2) := rfl
    have n1 := turn_n C r (some b1)
    have n2 := turn_n C (turn C r (some b1)) (some b2)
    have h1 := turn_step C r b1 (by omega)
    have h2 := turn_step C (turn C r (some b1)) b2 (by omega)
    have := ih (roundR C [some b1, some b2] r) (by rw [e]; omega)
    rw [e] at this ⊢
    rw [h2.1, h2.2.1, h2.2.2 b1 hne, h1.2.1, h1.2.2 b2 (Ne.symm hne), h1.1] at this
    exact ⟨this.1, this.2.1, this.2.2.1, by omega⟩

end Go.Proofs.YtgbclfhgpkmcnaaGreatDoor

/-
  An owner and three thieves at one deque, whatever the order of their steps: who holds the lock, where top and bottom stand ('FI'); by turns all end ('fi_ends'). No Go is walked here.
-/
namespace Go.Proofs.YtgbclfhgpkmcnaaGreatDoor
open Go.RowKit

/-- Who holds the lock. -/
def holdsAt : Stp → Bool
  | .pushCount | .pushCell | .pushCounted | .takeCount | .takeCell | .takeCounted | .free => true
  | _ => false
def hn (o : OpS) : Int := if !o.done && holdsAt o.at_ then 1 else 0

def thiefAt : Stp → Bool
  | .stealReadTop | .stealReadBottom | .stealSlot | .stealSwap | .takeLock | .takeCount | .takeCell | .takeCounted | .free => true
  | _ => false
def ownerAt : Stp → Bool
  | .stealReadTop | .stealReadBottom | .stealSlot | .stealSwap => false
  | _ => true

/-- The owner is between its lesser bottom and the swap. -/
def mid (o : OpS) : Prop := o.done = false ∧ (o.at_ = .popReadTop ∨ o.at_ = .popLast ∨ o.at_ = .popSwap)

/-- Top and bottom, as the owner stands. -/
def OwnI (T B : Int) (o : OpS) : Prop :=
  if o.done then T ≤ B else
  match o.at_ with
  | .pushReadTop | .pushSlot | .pushBottom => T ≤ B ∧ o.bottom = B
  | .popBottom => T ≤ B ∧ o.bottom = B - 1
  | .popReadTop => T ≤ B + 1 ∧ o.bottom = B
  | .popLast | .popSwap => T ≤ B + 1 ∧ B ≤ T ∧ o.bottom = B ∧ o.top = B
  | .popWon | .popNothing => o.top = T ∧ T = B + 1
  | _ => T ≤ B

/-- A thief that would swap the top finds an item there. -/
def ThI (T B : Int) (o0 o : OpS) : Prop :=
  o.done = false →
  match o.at_ with
  | .stealReadBottom => o.top ≤ T
  | .stealSlot | .stealSwap => o.top ≤ T ∧ (o.top = T → T < B ∨ (T = B ∧ mid o0))
  | _ => True

structure FI (C : Cfg) (l : List Int) (a : Nat → OpS) : Prop where
  lock : rd C l 2 = hn (a 0) + hn (a 1) + hn (a 2) + hn (a 3)
  one : rd C l 2 ≤ 1
  kind : (a 0).done = false → ownerAt (a 0).at_ = true
  kinds : ∀ i, 1 ≤ i → i ≤ 3 → (a i).done = false → thiefAt (a i).at_ = true
  own : OwnI (rd C l 0) (rd C l 1) (a 0)
  thf : ∀ i, 1 ≤ i → i ≤ 3 → ThI (rd C l 0) (rd C l 1) (a 0) (a i)
  stk : 0 ≤ rd C l 3
  cnt : ∀ i, i ≤ 3 → CntOk C (a i)
  room : C.base + (4 + C.cap + C.over) ≤ l.length
  cap : 1 ≤ C.cap

/-- The four words behind a step. -/
structure Eff (C : Cfg) (l l' : List Int) (T B L N : Int) : Prop where
  t : rd C l' 0 = T
  b : rd C l' 1 = B
  k : rd C l' 2 = L
  n : rd C l' 3 = N
  len : l'.length = l.length

theorem eff_same (C : Cfg) (l : List Int) : Eff C l l (rd C l 0) (rd C l 1) (rd C l 2) (rd C l 3) := ⟨rfl, rfl, rfl, rfl, rfl⟩
theorem eff_far (C : Cfg) (l : List Int) (k : Nat) (v : Int) (hk : 4 ≤ k) : Eff C l (wr C l k v) (rd C l 0) (rd C l 1) (rd C l 2) (rd C l 3) :=
  ⟨rd_wr_ne _ _ _ _ _ (by omega), rd_wr_ne _ _ _ _ _ (by omega), rd_wr_ne _ _ _ _ _ (by omega), rd_wr_ne _ _ _ _ _ (by omega), wr_length _ _ _ _⟩
theorem eff_0 (C : Cfg) (l : List Int) (v : Int) (h : C.base + 0 < l.length) : Eff C l (wr C l 0 v) v (rd C l 1) (rd C l 2) (rd C l 3) :=
  ⟨by rw [rd_wr _ _ _ _ _ h, if_pos rfl], rd_wr_ne _ _ _ _ _ (by omega), rd_wr_ne _ _ _ _ _ (by omega), rd_wr_ne _ _ _ _ _ (by omega), wr_length _ _ _ _⟩
theorem eff_1 (C : Cfg) (l : List Int) (v : Int) (h : C.base + 1 < l.length) : Eff C l (wr C l 1 v) (rd C l 0) v (rd C l 2) (rd C l 3) :=
  ⟨rd_wr_ne _ _ _ _ _ (by omega), by rw [rd_wr _ _ _ _ _ h, if_pos rfl], rd_wr_ne _ _ _ _ _ (by omega), rd_wr_ne _ _ _ _ _ (by omega), wr_length _ _ _ _⟩
theorem eff_2 (C : Cfg) (l : List Int) (v : Int) (h : C.base + 2 < l.length) : Eff C l (wr C l 2 v) (rd C l 0) (rd C l 1) v (rd C l 3) :=
  ⟨rd_wr_ne _ _ _ _ _ (by omega), rd_wr_ne _ _ _ _ _ (by omega), by rw [rd_wr _ _ _ _ _ h, if_pos rfl], rd_wr_ne _ _ _ _ _ (by omega), wr_length _ _ _ _⟩
theorem eff_3 (C : Cfg) (l : List Int) (v : Int) (h : C.base + 3 < l.length) : Eff C l (wr C l 3 v) (rd C l 0) (rd C l 1) (rd C l 2) v :=
  ⟨rd_wr_ne _ _ _ _ _ (by omega), rd_wr_ne _ _ _ _ _ (by omega), rd_wr_ne _ _ _ _ _ (by omega), by rw [rd_wr _ _ _ _ _ h, if_pos rfl], wr_length _ _ _ _⟩

theorem cnt_own (C : Cfg) (l : List Int) (o : OpS) (h : CntOk C o) : CntOk C (stepOf C l o).2 := by
  have hs := stackedOf_le C (rd C l 3)
  unfold stepOf
  by_cases hd : o.done = true
  · rw [if_pos hd]; exact h
  · rw [if_neg hd]
    unfold CntOk at h ⊢
    obtain ⟨a, dn, t, u, n, v, en⟩ := o
    have hs' : ¬ C.over ≤ stackedOf C (rd C l 3) → stackedOf C (rd C l 3) < C.over := fun h => by omega
    have hs2 : ¬ stackedOf C (rd C l 3) = 0 → 0 < stackedOf C (rd C l 3) ∧ stackedOf C (rd C l 3) ≤ C.over := fun h => by omega
    cases a
    case pushCount => by_cases hz : C.over ≤ stackedOf C (rd C l 3) <;> simp [hz] ; exact hs' hz
    case takeCount => by_cases hz : stackedOf C (rd C l 3) = 0 <;> simp [hz] ; exact hs2 hz
    case pushLock => by_cases hz : rd C l 2 = 0 <;> simp [hz]
    case takeLock => by_cases hz : rd C l 2 = 0 <;> simp [hz]
    case popSwap => by_cases hz : rd C l 0 = t <;> simp [hz]
    case stealSwap => by_cases hz : rd C l 0 = t <;> simp [hz]
    case pushReadTop => by_cases hz : heldOf C (rd C l 0) u < C.cap <;> simp [hz]
    case stealReadBottom => by_cases hz : t < rd C l 1 <;> simp [hz]
    case popReadTop => by_cases hz : rd C l 0 < u <;> by_cases hy : rd C l 0 = u <;> simp [hz, hy]
    case pushCell => exact h
    case takeCell => exact h
    all_goals trivial

/-- What a step changes, of what the invariant sees: either the four words and the operation's standing as told, by the step's name. -/
def StepSees (T B L N T' B' L' N' : Int) (o o' : OpS) : Prop :=
  match o.at_ with
  | .pushReadBottom => T' = T ∧ B' = B ∧ L' = L ∧ N' = N ∧ o'.done = false ∧ o'.at_ = .pushReadTop ∧ o'.bottom = B
  | .pushReadTop => T' = T ∧ B' = B ∧ L' = L ∧ N' = N ∧ o'.done = false ∧ (o'.at_ = .pushSlot ∨ o'.at_ = .pushLock) ∧ o'.bottom = o.bottom
  | .pushSlot => T' = T ∧ B' = B ∧ L' = L ∧ N' = N ∧ o'.done = false ∧ o'.at_ = .pushBottom ∧ o'.bottom = o.bottom
  | .pushBottom => T' = T ∧ B' = o.bottom + 1 ∧ L' = L ∧ N' = N ∧ o'.done = true
  | .pushLock => T' = T ∧ B' = B ∧ N' = N ∧ o'.done = false ∧ ((L = 0 ∧ L' = 1 ∧ o'.at_ = .pushCount) ∨ (L ≠ 0 ∧ L' = L ∧ o'.at_ = .pushLock))
  | .pushCount => T' = T ∧ B' = B ∧ L' = L ∧ N' = N ∧ o'.done = false ∧ (o'.at_ = .pushCell ∨ o'.at_ = .free)
  | .pushCell => T' = T ∧ B' = B ∧ L' = L ∧ N' = N ∧ o'.done = false ∧ o'.at_ = .pushCounted
  | .pushCounted => T' = T ∧ B' = B ∧ L' = L ∧ N' = (o.count : Int) + 1 ∧ o'.done = false ∧ o'.at_ = .free
  | .free => T' = T ∧ B' = B ∧ L' = 0 ∧ N' = N ∧ o'.done = true
  | .popReadBottom => T' = T ∧ B' = B ∧ L' = L ∧ N' = N ∧ o'.done = false ∧ o'.at_ = .popBottom ∧ o'.bottom = B - 1
  | .popBottom => T' = T ∧ B' = o.bottom ∧ L' = L ∧ N' = N ∧ o'.done = false ∧ o'.at_ = .popReadTop ∧ o'.bottom = o.bottom
  | .popReadTop => T' = T ∧ B' = B ∧ L' = L ∧ N' = N ∧ o'.done = false ∧ o'.top = T ∧ o'.bottom = o.bottom ∧ ((T < o.bottom ∧ o'.at_ = .popSlot) ∨ (T = o.bottom ∧ o'.at_ = .popLast) ∨ (o.bottom < T ∧ o'.at_ = .popNothing))
  | .popSlot => T' = T ∧ B' = B ∧ L' = L ∧ N' = N ∧ o'.done = true
  | .popLast => T' = T ∧ B' = B ∧ L' = L ∧ N' = N ∧ o'.done = false ∧ o'.at_ = .popSwap ∧ o'.top = o.top ∧ o'.bottom = o.bottom
  | .popSwap => B' = B ∧ L' = L ∧ N' = N ∧ o'.done = false ∧ o'.top = o.top + 1 ∧ ((T = o.top ∧ T' = o.top + 1 ∧ o'.at_ = .popWon) ∨ (T ≠ o.top ∧ T' = T ∧ o'.at_ = .popNothing))
  | .popWon => T' = T ∧ B' = o.top ∧ L' = L ∧ N' = N ∧ o'.done = true
  | .popNothing => T' = T ∧ B' = o.top ∧ L' = L ∧ N' = N ∧ o'.done = false ∧ o'.at_ = .takeLock
  | .stealReadTop => T' = T ∧ B' = B ∧ L' = L ∧ N' = N ∧ o'.done = false ∧ o'.at_ = .stealReadBottom ∧ o'.top = T
  | .stealReadBottom => T' = T ∧ B' = B ∧ L' = L ∧ N' = N ∧ o'.done = false ∧ o'.top = o.top ∧ ((o.top < B ∧ o'.at_ = .stealSlot) ∨ o'.at_ = .takeLock)
  | .stealSlot => T' = T ∧ B' = B ∧ L' = L ∧ N' = N ∧ o'.done = false ∧ o'.at_ = .stealSwap ∧ o'.top = o.top
  | .stealSwap => B' = B ∧ L' = L ∧ N' = N ∧ o'.done = true ∧ ((T = o.top ∧ T' = o.top + 1) ∨ (T ≠ o.top ∧ T' = T))
  | .takeLock => T' = T ∧ B' = B ∧ N' = N ∧ o'.done = false ∧ ((L = 0 ∧ L' = 1 ∧ o'.at_ = .takeCount) ∨ (L ≠ 0 ∧ L' = L ∧ o'.at_ = .takeLock))
  | .takeCount => T' = T ∧ B' = B ∧ L' = L ∧ N' = N ∧ o'.done = false ∧ (o'.at_ = .takeCell ∨ o'.at_ = .free)
  | .takeCell => T' = T ∧ B' = B ∧ L' = L ∧ N' = N ∧ o'.done = false ∧ o'.at_ = .takeCounted
  | .takeCounted => T' = T ∧ B' = B ∧ L' = L ∧ N' = (o.count : Int) - 1 ∧ o'.done = false ∧ o'.at_ = .free

theorem step_sees (C : Cfg) (l : List Int) (o : OpS) (hr : C.base + (4 + C.cap + C.over) ≤ l.length) (hd : o.done = false) :
    (stepOf C l o).1.length = l.length ∧ StepSees (rd C l 0) (rd C l 1) (rd C l 2) (rd C l 3) (rd C (stepOf C l o).1 0) (rd C (stepOf C l o).1 1) (rd C (stepOf C l o).1 2) (rd C (stepOf C l o).1 3) o (stepOf C l o).2 := by
  obtain ⟨a, dn, t, u, n, v, en⟩ := o
  have hd' : dn = false := hd
  subst hd'
  have h0 : C.base + 0 < l.length := by omega
  have h1 : C.base + 1 < l.length := by omega
  have h2 : C.base + 2 < l.length := by omega
  have h3 : C.base + 3 < l.length := by omega
  have es := eff_same C l
  have far : ∀ k v, 4 ≤ k → Eff C l (wr C l k v) (rd C l 0) (rd C l 1) (rd C l 2) (rd C l 3) := fun k v hk => eff_far C l k v hk
  have hsl : ∀ z, 4 ≤ slotOf C z := fun z => by unfold slotOf; omega
  cases a
  case pushSlot => have e := far (slotOf C u) v (hsl u); simp [stepOf, StepSees, e.t, e.b, e.k, e.n, e.len]
  case pushCell => have e := far (4 + C.cap + n) v (by omega); simp [stepOf, StepSees, e.t, e.b, e.k, e.n, e.len]
  case pushBottom => have e := eff_1 C l (u + 1) h1; simp [stepOf, StepSees, e.t, e.b, e.k, e.n, e.len]
  case popBottom => have e := eff_1 C l u h1; simp [stepOf, StepSees, e.t, e.b, e.k, e.n, e.len]
  case popWon => have e := eff_1 C l t h1; simp [stepOf, StepSees, e.t, e.b, e.k, e.n, e.len]
  case popNothing => have e := eff_1 C l t h1; simp [stepOf, StepSees, e.t, e.b, e.k, e.n, e.len]
  case pushCounted => have e := eff_3 C l ((n : Int) + 1) h3; simp [stepOf, StepSees, e.t, e.b, e.k, e.n, e.len]
  case takeCounted => have e := eff_3 C l ((n : Int) - 1) h3; simp [stepOf, StepSees, e.t, e.b, e.k, e.n, e.len]
  case free => have e := eff_2 C l 0 h2; simp [stepOf, StepSees, e.t, e.b, e.k, e.n, e.len]
  case pushLock =>
    have e := eff_2 C l 1 h2
    by_cases hz : rd C l 2 = 0 <;> simp [stepOf, StepSees, hz, e.t, e.b, e.k, e.n, e.len]
  case takeLock =>
    have e := eff_2 C l 1 h2
    by_cases hz : rd C l 2 = 0 <;> simp [stepOf, StepSees, hz, e.t, e.b, e.k, e.n, e.len]
  case pushCount => by_cases hz : C.over ≤ stackedOf C (rd C l 3) <;> simp [stepOf, StepSees, hz]
  case takeCount => by_cases hz : stackedOf C (rd C l 3) = 0 <;> simp [stepOf, StepSees, hz]
  case popSwap =>
    have e := eff_0 C l (t + 1) h0
    by_cases hz : rd C l 0 = t <;> simp [stepOf, StepSees, hz, e.t, e.b, e.k, e.n, e.len]
  case stealSwap =>
    have e := eff_0 C l (t + 1) h0
    by_cases hz : rd C l 0 = t <;> simp [stepOf, StepSees, hz, e.t, e.b, e.k, e.n, e.len]
  case pushReadTop => by_cases hz : heldOf C (rd C l 0) u < C.cap <;> simp [stepOf, StepSees, hz]
  case stealReadBottom => by_cases hz : t < rd C l 1 <;> simp [stepOf, StepSees, hz]
  case popReadTop =>
    by_cases hz : rd C l 0 < u
    · simp [stepOf, StepSees, hz]
    · by_cases hy : rd C l 0 = u
      · simp [stepOf, StepSees, hy]
      · simp [stepOf, StepSees, hz, hy]; omega
  all_goals simp [stepOf, StepSees]

theorem hn_vals (o : OpS) : hn o = 0 ∨ hn o = 1 := by unfold hn; split <;> simp
theorem hn_done {o : OpS} (h : o.done = true) : hn o = 0 := by simp [hn, h]
theorem hn_open {o : OpS} (h : o.done = false) : hn o = if holdsAt o.at_ then 1 else 0 := by simp [hn, h]

/-- A step's part in the lock. -/
theorem hn_step {T B L N T' B' L' N' : Int} {o o' : OpS} (h : StepSees T B L N T' B' L' N' o o') (hd : o.done = false) (hL : L = 0 ∨ L = 1) (hh : hn o = 1 → L = 1) : L' - L = hn o' - hn o ∧ L' ≤ 1 := by
  obtain ⟨a, dn, t, u, n, v, en⟩ := o
  have hd' : dn = false := hd
  subst hd'
  unfold StepSees at h
  have ho : hn ⟨a, false, t, u, n, v, en⟩ = if holdsAt a then 1 else 0 := hn_open rfl
  rw [ho] at hh ⊢
  cases a <;> simp only at h <;> simp only [holdsAt, if_true, if_false, Bool.false_eq_true] at hh ⊢
  case free =>
    have h1 := hn_done (h.2.2.2.2)
    have := hh trivial
    rw [h1, h.2.2.1]
    omega
  case pushBottom => have h1 := hn_done h.2.2.2.2; omega
  case popSlot => have h1 := hn_done h.2.2.2.2; omega
  case popWon => have h1 := hn_done h.2.2.2.2; omega
  case stealSwap => have h1 := hn_done h.2.2.2.1; omega
  case pushLock =>
    obtain ⟨_, _, _, hd2, h | h⟩ := h
    · have h1 := hn_open hd2; rw [h.2.2] at h1; simp [holdsAt] at h1; omega
    · have h1 := hn_open hd2; rw [h.2.2] at h1; simp [holdsAt] at h1; omega
  case takeLock =>
    obtain ⟨_, _, _, hd2, h | h⟩ := h
    · have h1 := hn_open hd2; rw [h.2.2] at h1; simp [holdsAt] at h1; omega
    · have h1 := hn_open hd2; rw [h.2.2] at h1; simp [holdsAt] at h1; omega
  case pushReadTop =>
    obtain ⟨_, _, hl, _, hd2, h | h, _⟩ := h <;> (have h1 := hn_open hd2; rw [h] at h1; simp [holdsAt] at h1; omega)
  case pushCount =>
    obtain ⟨_, _, hl, _, hd2, h | h⟩ := h <;> (have h1 := hn_open hd2; rw [h] at h1; simp [holdsAt] at h1; omega)
  case takeCount =>
    obtain ⟨_, _, hl, _, hd2, h | h⟩ := h <;> (have h1 := hn_open hd2; rw [h] at h1; simp [holdsAt] at h1; omega)
  case popReadTop =>
    obtain ⟨_, _, hl, _, hd2, _, _, h | h | h⟩ := h <;> (have h1 := hn_open hd2; rw [h.2] at h1; simp [holdsAt] at h1; omega)
  case popSwap =>
    obtain ⟨_, hl, _, hd2, _, h | h⟩ := h <;> (have h1 := hn_open hd2; rw [h.2.2] at h1; simp [holdsAt] at h1; omega)
  case stealReadBottom =>
    obtain ⟨_, _, hl, _, hd2, _, h | h⟩ := h
    · have h1 := hn_open hd2; rw [h.2] at h1; simp [holdsAt] at h1; omega
    · have h1 := hn_open hd2; rw [h] at h1; simp [holdsAt] at h1; omega
  all_goals (
    obtain ⟨_, _, hl, _, hd2, h⟩ := h
    have h1 := hn_open hd2
    first | rw [h] at h1 | rw [h.1] at h1
    simp [holdsAt] at h1
    omega)

theorem thi_mono {T B T' B' : Int} {o o' x : OpS} (hT : T ≤ T') (hk : T' = T → (T < B ∨ (T = B ∧ mid o)) → (T' < B' ∨ (T' = B' ∧ mid o'))) (h : ThI T B o x) : ThI T' B' o' x := by
  intro hd
  have h1 := h hd
  obtain ⟨a, dn, t, u, n, v, en⟩ := x
  cases a <;> simp only at h1 ⊢
  case stealReadBottom => omega
  case stealSlot =>
    refine ⟨by omega, fun e => ?_⟩
    have e2 : T' = T := by omega
    exact hk e2 (h1.2 (by omega))
  case stealSwap =>
    refine ⟨by omega, fun e => ?_⟩
    have e2 : T' = T := by omega
    exact hk e2 (h1.2 (by omega))

theorem own_step {T B L N T' B' L' N' : Int} {o o' : OpS} (h : StepSees T B L N T' B' L' N' o o') (hd : o.done = false) (hk : ownerAt o.at_ = true) (ho : OwnI T B o) :
    OwnI T' B' o' ∧ (o'.done = false → ownerAt o'.at_ = true) ∧ T ≤ T' ∧ (T' = T → (T < B ∨ (T = B ∧ mid o)) → (T' < B' ∨ (T' = B' ∧ mid o'))) := by
  obtain ⟨a, dn, t, u, n, v, en⟩ := o
  obtain ⟨a', dn', t', u', n', v', en'⟩ := o'
  have hd' : dn = false := hd
  subst hd'
  unfold StepSees at h
  unfold OwnI at ho
  cases a <;> simp only [Bool.false_eq_true, if_false] at h ho
  case stealReadTop => simp [ownerAt] at hk
  case stealReadBottom => simp [ownerAt] at hk
  case stealSlot => simp [ownerAt] at hk
  case stealSwap => simp [ownerAt] at hk
  case pushReadTop =>
    obtain ⟨rfl, rfl, _, _, rfl, rfl | rfl, rfl⟩ := h <;> simp [OwnI, ownerAt, mid] at * <;> omega
  case pushLock =>
    obtain ⟨rfl, rfl, _, rfl, ⟨_, _, rfl⟩ | ⟨_, _, rfl⟩⟩ := h <;> simp [OwnI, ownerAt, mid] at * <;> omega
  case takeLock =>
    obtain ⟨rfl, rfl, _, rfl, ⟨_, _, rfl⟩ | ⟨_, _, rfl⟩⟩ := h <;> simp [OwnI, ownerAt, mid] at * <;> omega
  case pushCount =>
    obtain ⟨rfl, rfl, _, _, rfl, rfl | rfl⟩ := h <;> simp [OwnI, ownerAt, mid] at * <;> omega
  case takeCount =>
    obtain ⟨rfl, rfl, _, _, rfl, rfl | rfl⟩ := h <;> simp [OwnI, ownerAt, mid] at * <;> omega
  case popReadTop =>
    obtain ⟨rfl, rfl, _, _, rfl, rfl, rfl, ⟨_, rfl⟩ | ⟨_, rfl⟩ | ⟨_, rfl⟩⟩ := h <;> simp [OwnI, ownerAt, mid] at * <;> omega
  case popSwap =>
    obtain ⟨rfl, _, _, rfl, rfl, ⟨_, rfl, rfl⟩ | ⟨_, rfl, rfl⟩⟩ := h <;> simp [OwnI, ownerAt, mid] at * <;> omega
  case pushReadBottom => obtain ⟨rfl, rfl, _, _, rfl, rfl, rfl⟩ := h; simp [OwnI, ownerAt, mid] at *; omega
  case pushSlot => obtain ⟨rfl, rfl, _, _, rfl, rfl, rfl⟩ := h; simp [OwnI, ownerAt, mid] at *; omega
  case pushBottom => obtain ⟨rfl, rfl, _, _, rfl⟩ := h; simp [OwnI, mid] at *; omega
  case pushCell => obtain ⟨rfl, rfl, _, _, rfl, rfl⟩ := h; simp [OwnI, ownerAt, mid] at *; omega
  case pushCounted => obtain ⟨rfl, rfl, _, _, rfl, rfl⟩ := h; simp [OwnI, ownerAt, mid] at *; omega
  case takeCell => obtain ⟨rfl, rfl, _, _, rfl, rfl⟩ := h; simp [OwnI, ownerAt, mid] at *; omega
  case takeCounted => obtain ⟨rfl, rfl, _, _, rfl, rfl⟩ := h; simp [OwnI, ownerAt, mid] at *; omega
  case free => obtain ⟨rfl, rfl, _, _, rfl⟩ := h; simp [OwnI, mid] at *; omega
  case popReadBottom => obtain ⟨rfl, rfl, _, _, rfl, rfl, rfl⟩ := h; simp [OwnI, ownerAt, mid] at *; omega
  case popBottom => obtain ⟨rfl, rfl, _, _, rfl, rfl, rfl⟩ := h; simp [OwnI, ownerAt, mid] at *; omega
  case popSlot => obtain ⟨rfl, rfl, _, _, rfl⟩ := h; simp [OwnI, mid] at *; omega
  case popLast => obtain ⟨rfl, rfl, _, _, rfl, rfl, rfl, rfl⟩ := h; simp [OwnI, ownerAt, mid] at *; omega
  case popWon => obtain ⟨rfl, rfl, _, _, rfl⟩ := h; simp [OwnI, mid] at *; omega
  case popNothing => obtain ⟨rfl, rfl, _, _, rfl, rfl⟩ := h; simp [OwnI, ownerAt, mid] at *; omega

/-- Where the top may rise, the owner allows it. -/
theorem own_rise {T B : Int} {o0 : OpS} (ho : OwnI T B o0) (h : T < B ∨ (T = B ∧ mid o0)) : OwnI (T + 1) B o0 := by
  obtain ⟨a, dn, t, u, n, v, en⟩ := o0
  unfold OwnI at *
  unfold mid at h
  cases dn
  · cases a <;> simp at * <;> omega
  · simp at *; omega

theorem thief_step {T B L N T' B' L' N' : Int} {o o' o0 : OpS} (h : StepSees T B L N T' B' L' N' o o') (hd : o.done = false) (hk : thiefAt o.at_ = true) (ho0 : OwnI T B o0) (ht : ThI T B o0 o) :
    OwnI T' B' o0 ∧ (o'.done = false → thiefAt o'.at_ = true) ∧ ThI T' B' o0 o' ∧ B' = B ∧ T ≤ T' := by
  have ht1 := ht hd
  obtain ⟨a, dn, t, u, n, v, en⟩ := o
  obtain ⟨a', dn', t', u', n', v', en'⟩ := o'
  have hd' : dn = false := hd
  subst hd'
  unfold StepSees at h
  cases a <;> simp only at h ht1 <;> try (simp [thiefAt] at hk; done)
  case stealReadTop =>
    obtain ⟨rfl, rfl, _, _, rfl, rfl, rfl⟩ := h
    exact ⟨ho0, fun _ => rfl, fun _ => Int.le_refl _, rfl, Int.le_refl _⟩
  case stealReadBottom =>
    obtain ⟨rfl, rfl, _, _, rfl, rfl, ⟨hlt, rfl⟩ | rfl⟩ := h
    · exact ⟨ho0, fun _ => rfl, fun _ => ⟨ht1, fun e => .inl (by simp only at e hlt; omega)⟩, rfl, Int.le_refl _⟩
    · exact ⟨ho0, fun _ => rfl, fun _ => trivial, rfl, Int.le_refl _⟩
  case stealSlot =>
    obtain ⟨rfl, rfl, _, _, rfl, rfl, rfl⟩ := h
    exact ⟨ho0, fun _ => rfl, fun _ => ht1, rfl, Int.le_refl _⟩
  case stealSwap =>
    obtain ⟨rfl, _, _, rfl, ⟨e, rfl⟩ | ⟨e, rfl⟩⟩ := h
    · subst e
      exact ⟨own_rise ho0 (ht1.2 rfl), fun h => by simp at h, fun h => by simp at h, rfl, by omega⟩
    · exact ⟨ho0, fun h => by simp at h, fun h => by simp at h, rfl, Int.le_refl _⟩
  case takeLock =>
    obtain ⟨rfl, rfl, _, rfl, ⟨_, _, rfl⟩ | ⟨_, _, rfl⟩⟩ := h <;> exact ⟨ho0, fun _ => rfl, fun _ => trivial, rfl, Int.le_refl _⟩
  case takeCount =>
    obtain ⟨rfl, rfl, _, _, rfl, rfl | rfl⟩ := h <;> exact ⟨ho0, fun _ => rfl, fun _ => trivial, rfl, Int.le_refl _⟩
  case takeCell => obtain ⟨rfl, rfl, _, _, rfl, rfl⟩ := h; exact ⟨ho0, fun _ => rfl, fun _ => trivial, rfl, Int.le_refl _⟩
  case takeCounted => obtain ⟨rfl, rfl, _, _, rfl, rfl⟩ := h; exact ⟨ho0, fun _ => rfl, fun _ => trivial, rfl, Int.le_refl _⟩
  case free => obtain ⟨rfl, rfl, _, _, rfl⟩ := h; exact ⟨ho0, fun h => by simp at h, fun h => by simp at h, rfl, Int.le_refl _⟩

theorem stk_step {C : Cfg} {T B L N T' B' L' N' : Int} {o o' : OpS} (h : StepSees T B L N T' B' L' N' o o') (hN : 0 ≤ N) (hc : CntOk C o) : 0 ≤ N' := by
  obtain ⟨a, dn, t, u, n, v, en⟩ := o
  unfold StepSees at h
  unfold CntOk at hc
  cases a <;> simp only at h hc <;> omega

theorem fi_step {C : Cfg} {l : List Int} {a : Nat → OpS} (h : FI C l a) (i : Nat) (hi : i ≤ 3) : FI C (stepOf C l (a i)).1 (upd a i (stepOf C l (a i)).2) := by
  by_cases hd : (a i).done = true
  · rw [stepOf_done C l hd]
    have e : upd a i (a i) = a := by funext k; unfold upd; split <;> simp_all
    rw [e]
    exact h
  have hd : (a i).done = false := by simpa using hd
  obtain ⟨hlen, hs⟩ := step_sees C l (a i) h.room hd
  have hcn := cnt_own C l (a i) (h.cnt i hi)
  have h0 := hn_vals (a 0)
  have h1 := hn_vals (a 1)
  have h2 := hn_vals (a 2)
  have h3 := hn_vals (a 3)
  have hlock := h.lock
  have hone := h.one
  have hL := hn_step hs hd (by omega) (by
    intro he
    have : i = 0 ∨ i = 1 ∨ i = 2 ∨ i = 3 := by omega
    rcases this with rfl | rfl | rfl | rfl <;> omega)
  have hst := stk_step hs h.stk (h.cnt i hi)
  generalize stepOf C l (a i) = R at *
  have cnts : ∀ j, j ≤ 3 → CntOk C (upd a i R.2 j) := by
    intro j hj
    unfold upd
    split
    · exact hcn
    · exact h.cnt j hj
  have locks : rd C R.1 2 = hn (upd a i R.2 0) + hn (upd a i R.2 1) + hn (upd a i R.2 2) + hn (upd a i R.2 3) := by
    have : i = 0 ∨ i = 1 ∨ i = 2 ∨ i = 3 := by omega
    rcases this with rfl | rfl | rfl | rfl <;> simp [upd] <;> omega
  by_cases h0i : i = 0
  · subst h0i
    obtain ⟨g1, g2, g3, g4⟩ := own_step hs hd (h.kind hd) h.own
    refine ⟨locks, hL.2, by simpa [upd] using g2, fun j hj1 hj2 => ?_, by simpa [upd] using g1, fun j hj1 hj2 => ?_, hst, cnts, by rw [hlen]; exact h.room, h.cap⟩
    · simp only [upd, if_neg (show ¬ j = 0 by omega)]
      exact h.kinds j hj1 hj2
    · simp only [upd, if_neg (show ¬ j = 0 by omega), if_true]
      exact thi_mono g3 g4 (h.thf j hj1 hj2)
  · obtain ⟨g1, g2, g3, g4, g5⟩ := thief_step hs hd (h.kinds i (by omega) hi hd) h.own (h.thf i (by omega) hi)
    refine ⟨locks, hL.2, ?_, fun j hj1 hj2 => ?_, ?_, fun j hj1 hj2 => ?_, hst, cnts, by rw [hlen]; exact h.room, h.cap⟩
    · simp only [upd, if_neg (show ¬ 0 = i by omega)]
      exact h.kind
    · by_cases e : j = i
      · simp only [upd, if_pos e]; exact g2
      · simp only [upd, if_neg e]; exact h.kinds j hj1 hj2
    · simp only [upd, if_neg (show ¬ 0 = i by omega)]
      exact g1
    · simp only [upd, if_neg (show ¬ 0 = i by omega)]
      by_cases e : j = i
      · simp only [if_pos e]; exact g3
      · simp only [if_neg e]
        exact thi_mono g5 (fun e2 hc => by rw [e2, g4]; exact hc) (h.thf j hj1 hj2)

/-- An operation of the right kind may begin where one is done. -/
theorem fi_begin {C : Cfg} {l : List Int} {a : Nat → OpS} (h : FI C l a) (i : Nat) (hi : i ≤ 3) (hd : (a i).done = true) (st : Stp) (v : Int) (hst : (i = 0 ∧ (st = .pushReadBottom ∨ st = .popReadBottom)) ∨ (1 ≤ i ∧ st = .stealReadTop)) : FI C l (upd a i (opNew st v)) := by
  have hh : hn (opNew st v) = hn (a i) := by
    rw [hn_done hd]
    rcases hst with ⟨_, rfl | rfl⟩ | ⟨_, rfl⟩ <;> rfl
  have locks : rd C l 2 = hn (upd a i (opNew st v) 0) + hn (upd a i (opNew st v) 1) + hn (upd a i (opNew st v) 2) + hn (upd a i (opNew st v) 3) := by
    have := h.lock
    have : i = 0 ∨ i = 1 ∨ i = 2 ∨ i = 3 := by omega
    rcases this with rfl | rfl | rfl | rfl <;> simp [upd] <;> omega
  have cnts : ∀ j, j ≤ 3 → CntOk C (upd a i (opNew st v) j) := by
    intro j hj
    unfold upd
    split
    · rcases hst with ⟨_, rfl | rfl⟩ | ⟨_, rfl⟩ <;> trivial
    · exact h.cnt j hj
  rcases hst with ⟨rfl, hst⟩ | ⟨hi1, rfl⟩
  · have ho := h.own
    unfold OwnI at ho
    rw [if_pos hd] at ho
    have nm : ¬ mid (a 0) := by unfold mid; simp [hd]
    refine ⟨locks, h.one, ?_, fun j hj1 hj2 => ?_, ?_, fun j hj1 hj2 => ?_, h.stk, cnts, h.room, h.cap⟩
    · simp only [upd, if_true]
      rcases hst with rfl | rfl <;> exact fun _ => rfl
    · simp only [upd, if_neg (show ¬ j = 0 by omega)]
      exact h.kinds j hj1 hj2
    · simp only [upd, if_true]
      rcases hst with rfl | rfl <;> exact ho
    · simp only [upd, if_neg (show ¬ j = 0 by omega), if_true]
      refine thi_mono (Int.le_refl _) (fun _ hc => ?_) (h.thf j hj1 hj2)
      rcases hc with hc | hc
      · exact .inl hc
      · exact absurd hc.2 nm
  · refine ⟨locks, h.one, ?_, fun j hj1 hj2 => ?_, ?_, fun j hj1 hj2 => ?_, h.stk, cnts, h.room, h.cap⟩
    · simp only [upd, if_neg (show ¬ 0 = i by omega)]
      exact h.kind
    · by_cases e : j = i
      · simp only [upd, if_pos e]; exact fun _ => rfl
      · simp only [upd, if_neg e]; exact h.kinds j hj1 hj2
    · simp only [upd, if_neg (show ¬ 0 = i by omega)]
      exact h.own
    · simp only [upd, if_neg (show ¬ 0 = i by omega)]
      by_cases e : j = i
      · simp only [if_pos e]; exact fun _ => trivial
      · simp only [if_neg e]
        exact h.thf j hj1 hj2

def rk : Stp → Nat
  | .pushReadBottom => 9 | .pushReadTop => 8 | .pushSlot => 2 | .pushBottom => 1 | .pushLock => 7 | .pushCount => 5 | .pushCell => 4 | .pushCounted => 3 | .free => 1
  | .popReadBottom => 12 | .popBottom => 11 | .popReadTop => 10 | .popSlot => 1 | .popLast => 9 | .popSwap => 8 | .popWon => 1 | .popNothing => 7
  | .stealReadTop => 9 | .stealReadBottom => 8 | .stealSlot => 2 | .stealSwap => 1 | .takeLock => 6 | .takeCount => 5 | .takeCell => 4 | .takeCounted => 3
def rank (o : OpS) : Nat := if o.done then 0 else rk o.at_
theorem rank_done {o : OpS} (h : o.done = true) : rank o = 0 := by simp [rank, h]
theorem rank_open {o : OpS} (h : o.done = false) : rank o = rk o.at_ := by simp [rank, h]
theorem rk_pos (a : Stp) : 1 ≤ rk a ∧ rk a ≤ 12 := by cases a <;> simp [rk]

/-- Each step but a try of a lock that is taken goes on. -/
theorem rank_step (C : Cfg) (l : List Int) (o : OpS) (hr : C.base + (4 + C.cap + C.over) ≤ l.length) (hd : o.done = false) :
    rank (stepOf C l o).2 < rank o ∨ (rd C l 2 ≠ 0 ∧ holdsAt o.at_ = false ∧ stepOf C l o = (l, o)) := by
  obtain ⟨-, h⟩ := step_sees C l o hr hd
  have hro := rank_open hd
  by_cases hlk : (o.at_ = .pushLock ∨ o.at_ = .takeLock) ∧ rd C l 2 ≠ 0
  · right
    refine ⟨hlk.2, ?_, ?_⟩
    · rcases hlk.1 with e | e <;> rw [e] <;> rfl
    · obtain ⟨a, dn, t, u, n, v, en⟩ := o
      have hd' : dn = false := hd
      subst hd'
      rcases hlk.1 with e | e <;> (simp only at e; subst e; simp [stepOf, hlk.2])
  · left
    generalize stepOf C l o = R at *
    obtain ⟨l', o'⟩ := R
    obtain ⟨a, dn, t, u, n, v, en⟩ := o
    obtain ⟨a', dn', t', u', n', v', en'⟩ := o'
    unfold StepSees at h
    rw [hro]
    cases a <;> simp only at h hlk ⊢
    case pushReadTop => obtain ⟨_, _, _, _, rfl, rfl | rfl, _⟩ := h <;> simp [rank, rk]
    case pushLock =>
      obtain ⟨_, _, _, rfl, ⟨_, _, rfl⟩ | ⟨hL, _, rfl⟩⟩ := h
      · simp [rank, rk]
      · exact absurd ⟨.inl trivial, hL⟩ hlk
    case takeLock =>
      obtain ⟨_, _, _, rfl, ⟨_, _, rfl⟩ | ⟨hL, _, rfl⟩⟩ := h
      · simp [rank, rk]
      · exact absurd ⟨.inr trivial, hL⟩ hlk
    case pushCount => obtain ⟨_, _, _, _, rfl, rfl | rfl⟩ := h <;> simp [rank, rk]
    case takeCount => obtain ⟨_, _, _, _, rfl, rfl | rfl⟩ := h <;> simp [rank, rk]
    case popReadTop => obtain ⟨_, _, _, _, rfl, _, _, ⟨_, rfl⟩ | ⟨_, rfl⟩ | ⟨_, rfl⟩⟩ := h <;> simp [rank, rk]
    case popSwap => obtain ⟨_, _, _, rfl, _, ⟨_, _, rfl⟩ | ⟨_, _, rfl⟩⟩ := h <;> simp [rank, rk]
    case stealReadBottom => obtain ⟨_, _, _, _, rfl, _, ⟨_, rfl⟩ | rfl⟩ := h <;> simp [rank, rk]
    case pushBottom => obtain ⟨_, _, _, _, rfl⟩ := h; simp [rank, rk]
    case free => obtain ⟨_, _, _, _, rfl⟩ := h; simp [rank, rk]
    case popSlot => obtain ⟨_, _, _, _, rfl⟩ := h; simp [rank, rk]
    case popWon => obtain ⟨_, _, _, _, rfl⟩ := h; simp [rank, rk]
    case stealSwap => obtain ⟨_, _, _, rfl, _⟩ := h; simp [rank, rk]
    case pushReadBottom => obtain ⟨_, _, _, _, rfl, rfl, _⟩ := h; simp [rank, rk]
    case pushSlot => obtain ⟨_, _, _, _, rfl, rfl, _⟩ := h; simp [rank, rk]
    case popReadBottom => obtain ⟨_, _, _, _, rfl, rfl, _⟩ := h; simp [rank, rk]
    case popBottom => obtain ⟨_, _, _, _, rfl, rfl, _⟩ := h; simp [rank, rk]
    case popLast => obtain ⟨_, _, _, _, rfl, rfl, _⟩ := h; simp [rank, rk]
    case stealReadTop => obtain ⟨_, _, _, _, rfl, rfl, _⟩ := h; simp [rank, rk]
    case stealSlot => obtain ⟨_, _, _, _, rfl, rfl, _⟩ := h; simp [rank, rk]
    case pushCell => obtain ⟨_, _, _, _, rfl, rfl⟩ := h; simp [rank, rk]
    case pushCounted => obtain ⟨_, _, _, _, rfl, rfl⟩ := h; simp [rank, rk]
    case popNothing => obtain ⟨_, _, _, _, rfl, rfl⟩ := h; simp [rank, rk]
    case takeCell => obtain ⟨_, _, _, _, rfl, rfl⟩ := h; simp [rank, rk]
    case takeCounted => obtain ⟨_, _, _, _, rfl, rfl⟩ := h; simp [rank, rk]

/-- The cells and the four operations. -/
abbrev AS := List Int × (Nat → OpS)
def aStep (C : Cfg) (S : AS) (i : Nat) : AS := ((stepOf C S.1 (S.2 i)).1, upd S.2 i (stepOf C S.1 (S.2 i)).2)
def aRound (C : Cfg) (S : AS) : AS := aStep C (aStep C (aStep C (aStep C S 0) 1) 2) 3
def aRounds (C : Cfg) : Nat → AS → AS
  | 0, S => S
  | k + 1, S => aRounds C k (aRound C S)
def tot (S : AS) : Nat := rank (S.2 0) + rank (S.2 1) + rank (S.2 2) + rank (S.2 3)
def AllDone (S : AS) : Prop := ∀ i, i ≤ 3 → (S.2 i).done = true

theorem fi_a {C : Cfg} {S : AS} (h : FI C S.1 S.2) (i : Nat) (hi : i ≤ 3) : FI C (aStep C S i).1 (aStep C S i).2 := fi_step h i hi
theorem fi_round {C : Cfg} {S : AS} (h : FI C S.1 S.2) : FI C (aRound C S).1 (aRound C S).2 := fi_a (fi_a (fi_a (fi_a h 0 (by omega)) 1 (by omega)) 2 (by omega)) 3 (by omega)
theorem fi_rounds {C : Cfg} (k : Nat) : ∀ {S : AS}, FI C S.1 S.2 → FI C (aRounds C k S).1 (aRounds C k S).2 := by
  induction k with
  | zero => exact fun h => h
  | succ k ih => exact fun h => ih (fi_round h)

theorem upd_same (a : Nat → OpS) (i : Nat) : upd a i (a i) = a := by funext k; unfold upd; split <;> simp_all

theorem a_dec {C : Cfg} {S : AS} (h : FI C S.1 S.2) (i : Nat) (hi : i ≤ 3) : tot (aStep C S i) < tot S ∨ (aStep C S i = S ∧ ((S.2 i).done = true ∨ (rd C S.1 2 ≠ 0 ∧ holdsAt (S.2 i).at_ = false))) := by
  by_cases hd : (S.2 i).done = true
  · right
    refine ⟨?_, .inl hd⟩
    unfold aStep
    rw [stepOf_done C S.1 hd, upd_same]
  · have hd' : (S.2 i).done = false := by simpa using hd
    rcases rank_step C S.1 (S.2 i) h.room hd' with h1 | ⟨h1, h2, h3⟩
    · left
      have : i = 0 ∨ i = 1 ∨ i = 2 ∨ i = 3 := by omega
      unfold tot aStep
      rcases this with rfl | rfl | rfl | rfl <;> simp [upd] <;> omega
    · right
      refine ⟨?_, .inr ⟨h1, h2⟩⟩
      unfold aStep
      rw [h3, upd_same]

theorem a_le {C : Cfg} {S : AS} (h : FI C S.1 S.2) (i : Nat) (hi : i ≤ 3) : tot (aStep C S i) ≤ tot S := by
  rcases a_dec h i hi with h1 | ⟨h1, _⟩
  · omega
  · rw [h1]; exact Nat.le_refl _

theorem round_dec {C : Cfg} {S : AS} (h : FI C S.1 S.2) : tot (aRound C S) < tot S ∨ (aRound C S = S ∧ AllDone S) := by
  have f1 := fi_a h 0 (by omega)
  have f2 := fi_a f1 1 (by omega)
  have f3 := fi_a f2 2 (by omega)
  have l1 := a_le f1 1 (by omega)
  have l2 := a_le f2 2 (by omega)
  have l3 := a_le f3 3 (by omega)
  rcases a_dec h 0 (by omega) with d0 | ⟨e0, c0⟩
  · left; unfold aRound; omega
  rcases a_dec f1 1 (by omega) with d1 | ⟨e1, c1⟩
  · left; unfold aRound; have t0 : tot (aStep C S 0) = tot S := by rw [e0]
    omega
  rcases a_dec f2 2 (by omega) with d2 | ⟨e2, c2⟩
  · left; unfold aRound; have t0 : tot (aStep C S 0) = tot S := by rw [e0]
    have t1 : tot (aStep C (aStep C S 0) 1) = tot (aStep C S 0) := by rw [e1]
    omega
  rcases a_dec f3 3 (by omega) with d3 | ⟨e3, c3⟩
  · left; unfold aRound; have t0 : tot (aStep C S 0) = tot S := by rw [e0]
    have t1 : tot (aStep C (aStep C S 0) 1) = tot (aStep C S 0) := by rw [e1]
    have t2 : tot (aStep C (aStep C (aStep C S 0) 1) 2) = tot (aStep C (aStep C S 0) 1) := by rw [e2]
    omega
  right
  refine ⟨by unfold aRound; rw [e3, e2, e1, e0], ?_⟩
  rw [e2, e1, e0] at c3
  rw [e1, e0] at c2
  rw [e0] at c1
  have hz : ∀ o : OpS, (o.done = true ∨ (rd C S.1 2 ≠ 0 ∧ holdsAt o.at_ = false)) → hn o = 0 := by
    intro o ho
    rcases ho with ho | ho
    · exact hn_done ho
    · simp [hn, ho.2]
  have hL := h.lock
  rw [hz _ c0, hz _ c1, hz _ c2, hz _ c3] at hL
  have hL0 : rd C S.1 2 = 0 := by omega
  have dn : ∀ o : OpS, (o.done = true ∨ (rd C S.1 2 ≠ 0 ∧ holdsAt o.at_ = false)) → o.done = true := by
    intro o ho
    rcases ho with ho | ho
    · exact ho
    · exact absurd hL0 ho.1
  intro i hi
  have : i = 0 ∨ i = 1 ∨ i = 2 ∨ i = 3 := by omega
  rcases this with rfl | rfl | rfl | rfl
  · exact dn _ c0
  · exact dn _ c1
  · exact dn _ c2
  · exact dn _ c3

theorem all_done_tot {S : AS} (h : tot S = 0) : AllDone S := by
  intro i hi
  have hp : ∀ o : OpS, rank o = 0 → o.done = true := by
    intro o ho
    cases hd : o.done
    · rw [rank_open hd] at ho
      have := (rk_pos o.at_).1
      omega
    · rfl
  unfold tot at h
  have : i = 0 ∨ i = 1 ∨ i = 2 ∨ i = 3 := by omega
  rcases this with rfl | rfl | rfl | rfl <;> exact hp _ (by omega)

theorem fi_ends (C : Cfg) (k : Nat) : ∀ (S : AS), FI C S.1 S.2 → tot S ≤ k → AllDone (aRounds C k S) := by
  induction k with
  | zero => intro S _ ht; show AllDone S; exact all_done_tot (by omega)
  | succ k ih =>
    intro S h ht
    rcases round_dec h with h1 | ⟨h1, h2⟩
    · exact ih _ (fi_round h) (by omega)
    · have e : ∀ j, aRounds C j S = S := by
        intro j
        induction j with
        | zero => rfl
        | succ j ihj => rw [aRounds, h1, ihj]
      rw [e]
      exact h2

theorem tot_le (S : AS) : tot S ≤ 48 := by
  have hp : ∀ o : OpS, rank o ≤ 12 := by
    intro o
    cases hd : o.done
    · rw [rank_open hd]; exact (rk_pos o.at_).2
    · rw [rank_done hd]; omega
  have := hp (S.2 0)
  have := hp (S.2 1)
  have := hp (S.2 2)
  have := hp (S.2 3)
  unfold tot
  omega
end Go.Proofs.YtgbclfhgpkmcnaaGreatDoor

/-
  A deque as it is seen, away from its cells ('DV'), a step of an operation on it ('stepV'), and that the cells go along ('view_step'); another deque's cells stay ('view_other'). No Go is walked here.
-/
namespace Go.Proofs.YtgbclfhgpkmcnaaGreatDoor
set_option linter.unusedVariables false

/-- Top, bottom, lock, count; the slots, the stack. -/
structure DV where
  T : Int
  B : Int
  L : Int
  N : Int
  s : Nat → Int
  k : Nat → Int

def fset (f : Nat → Int) (i : Nat) (x : Int) : Nat → Int := fun j => if j = i then x else f j
/-- A number's slot. -/
def spot (cap : Nat) (z : Int) : Nat := (z % (cap : Int)).toNat
theorem spot_lt {cap : Nat} (h : 1 ≤ cap) (z : Int) : spot cap z < cap := by
  unfold spot
  have h1 := Int.emod_nonneg z (show (cap : Int) ≠ 0 by omega)
  have h2 := Int.emod_lt_of_pos z (show (0 : Int) < cap by omega)
  omega
theorem slot_spot (C : Cfg) (z : Int) : slotOf C z = 4 + spot C.cap z := rfl

def viewOf (C : Cfg) (l : List Int) : DV :=
  ⟨rd C l 0, rd C l 1, rd C l 2, rd C l 3, fun i => if i < C.cap then rd C l (4 + i) else 0, fun i => if i < C.over then rd C l (4 + C.cap + i) else 0⟩

/-- The document's step, on what is seen. -/
def stepV (C : Cfg) (v : DV) (o : OpS) : DV × OpS :=
  if o.done then (v, o) else
  match o.at_ with
  | .pushReadBottom => (v, { o with bottom := v.B, at_ := .pushReadTop })
  | .pushReadTop => (v, { o with top := v.T, at_ := if heldOf C v.T o.bottom < C.cap then .pushSlot else .pushLock })
  | .pushSlot => ({ v with s := fset v.s (spot C.cap o.bottom) o.item }, { o with at_ := .pushBottom })
  | .pushBottom => ({ v with B := o.bottom + 1 }, { o with done := true, errno := 0 })
  | .pushLock => if v.L = 0 then ({ v with L := 1 }, { o with at_ := .pushCount }) else (v, o)
  | .pushCount => if C.over ≤ stackedOf C v.N then (v, { o with count := stackedOf C v.N, errno := 14, at_ := .free }) else (v, { o with count := stackedOf C v.N, at_ := .pushCell })
  | .pushCell => ({ v with k := fset v.k o.count o.item }, { o with at_ := .pushCounted })
  | .pushCounted => ({ v with N := (o.count : Int) + 1 }, { o with at_ := .free })
  | .free => ({ v with L := 0 }, { o with done := true })
  | .popReadBottom => (v, { o with bottom := v.B - 1, at_ := .popBottom })
  | .popBottom => ({ v with B := o.bottom }, { o with at_ := .popReadTop })
  | .popReadTop => (v, { o with top := v.T, at_ := if v.T < o.bottom then .popSlot else if v.T = o.bottom then .popLast else .popNothing })
  | .popSlot => (v, { o with item := v.s (spot C.cap o.bottom), done := true, errno := 0 })
  | .popLast => (v, { o with item := v.s (spot C.cap o.bottom), at_ := .popSwap })
  | .popSwap => if v.T = o.top then ({ v with T := o.top + 1 }, { o with at_ := .popWon, top := o.top + 1 }) else (v, { o with at_ := .popNothing, top := o.top + 1 })
  | .popWon => ({ v with B := o.top }, { o with done := true, errno := 0 })
  | .popNothing => ({ v with B := o.top }, { o with at_ := .takeLock })
  | .stealReadTop => (v, { o with top := v.T, at_ := .stealReadBottom })
  | .stealReadBottom => (v, { o with bottom := v.B, at_ := if o.top < v.B then .stealSlot else .takeLock })
  | .stealSlot => (v, { o with item := v.s (spot C.cap o.top), at_ := .stealSwap })
  | .stealSwap => if v.T = o.top then ({ v with T := o.top + 1 }, { o with done := true, errno := 0 }) else (v, { o with done := true, errno := 16 })
  | .takeLock => if v.L = 0 then ({ v with L := 1 }, { o with at_ := .takeCount }) else (v, o)
  | .takeCount => if stackedOf C v.N = 0 then (v, { o with count := stackedOf C v.N, errno := 15, at_ := .free }) else (v, { o with count := stackedOf C v.N, at_ := .takeCell })
  | .takeCell => (v, { o with item := v.k (o.count - 1), at_ := .takeCounted })
  | .takeCounted => ({ v with N := (o.count : Int) - 1 }, { o with at_ := .free })

theorem view_wr {C : Cfg} {l : List Int} (hr : C.base + (4 + C.cap + C.over) ≤ l.length) {i : Nat} (hi : i < 4 + C.cap + C.over) (x : Int) :
    viewOf C (wr C l i x) = ⟨if i = 0 then x else rd C l 0, if i = 1 then x else rd C l 1, if i = 2 then x else rd C l 2, if i = 3 then x else rd C l 3, fun j => if j < C.cap then (if 4 + j = i then x else rd C l (4 + j)) else 0, fun j => if j < C.over then (if 4 + C.cap + j = i then x else rd C l (4 + C.cap + j)) else 0⟩ := by
  have h : ∀ j, rd C (wr C l i x) j = if j = i then x else rd C l j := fun j => rd_wr C l i j x (by omega)
  unfold viewOf
  simp only [h]
  congr 1
  · by_cases e : i = 0 <;> simp [e, eq_comm]
  · by_cases e : i = 1 <;> simp [e, eq_comm]
  · by_cases e : i = 2 <;> simp [e, eq_comm]
  · by_cases e : i = 3 <;> simp [e, eq_comm]

theorem view_word {C : Cfg} {l : List Int} (hr : C.base + (4 + C.cap + C.over) ≤ l.length) (x : Int) :
    viewOf C (wr C l 0 x) = { viewOf C l with T := x } ∧ viewOf C (wr C l 1 x) = { viewOf C l with B := x } ∧ viewOf C (wr C l 2 x) = { viewOf C l with L := x } ∧ viewOf C (wr C l 3 x) = { viewOf C l with N := x } := by
  have hs : ∀ i j : Nat, i < 4 → ¬ (4 + j = i) := fun i j h => by omega
  have hk : ∀ i j : Nat, i < 4 → ¬ (4 + C.cap + j = i) := fun i j h => by omega
  refine ⟨?_, ?_, ?_, ?_⟩
  · rw [view_wr hr (by omega)]; simp [viewOf]
  · rw [view_wr hr (by omega)]; simp [viewOf, hs 1, hk 1]
  · rw [view_wr hr (by omega)]; simp [viewOf, hs 2, hk 2]
  · rw [view_wr hr (by omega)]; simp [viewOf, hs 3, hk 3]
theorem view_slot {C : Cfg} {l : List Int} (hr : C.base + (4 + C.cap + C.over) ≤ l.length) {i : Nat} (hi : i < C.cap) (x : Int) : viewOf C (wr C l (4 + i) x) = { viewOf C l with s := fset (viewOf C l).s i x } := by
  rw [view_wr hr (by omega)]
  have h0 : ∀ k : Nat, k < 4 → ¬ (4 + i = k) := fun k h => by omega
  simp only [h0 0 (by omega), h0 1 (by omega), h0 2 (by omega), h0 3 (by omega), if_false, viewOf]
  congr 1
  · funext j
    by_cases e : j = i
    · subst e; simp [hi, fset]
    · simp [e, fset]
  · funext j
    have : ¬ (4 + C.cap + j = 4 + i) := by omega
    simp [this]
theorem view_stack {C : Cfg} {l : List Int} (hr : C.base + (4 + C.cap + C.over) ≤ l.length) {i : Nat} (hi : i < C.over) (x : Int) : viewOf C (wr C l (4 + C.cap + i) x) = { viewOf C l with k := fset (viewOf C l).k i x } := by
  rw [view_wr hr (by omega)]
  have h0 : ∀ k : Nat, k < 4 → ¬ (4 + C.cap + i = k) := fun k h => by omega
  simp only [h0 0 (by omega), h0 1 (by omega), h0 2 (by omega), h0 3 (by omega), if_false, viewOf]
  congr 1
  · funext j
    by_cases hj : j < C.cap
    · have : ¬ (4 + j = 4 + C.cap + i) := by omega
      simp [this]
    · simp [hj]
  · funext j
    by_cases e : j = i
    · subst e; simp [hi, fset]
    · simp [e, fset]

theorem view_step {C : Cfg} {l : List Int} {o : OpS} (hr : C.base + (4 + C.cap + C.over) ≤ l.length) (hcap : 1 ≤ C.cap) (hc : CntOk C o) :
    viewOf C (stepOf C l o).1 = (stepV C (viewOf C l) o).1 ∧ (stepOf C l o).2 = (stepV C (viewOf C l) o).2 := by
  obtain ⟨w0, w1, w2, w3⟩ : (∀ x, viewOf C (wr C l 0 x) = { viewOf C l with T := x }) ∧ (∀ x, viewOf C (wr C l 1 x) = { viewOf C l with B := x }) ∧ (∀ x, viewOf C (wr C l 2 x) = { viewOf C l with L := x }) ∧ (∀ x, viewOf C (wr C l 3 x) = { viewOf C l with N := x }) :=
    ⟨fun x => (view_word hr x).1, fun x => (view_word hr x).2.1, fun x => (view_word hr x).2.2.1, fun x => (view_word hr x).2.2.2⟩
  have r0 : (viewOf C l).T = rd C l 0 := rfl
  have r1 : (viewOf C l).B = rd C l 1 := rfl
  have r2 : (viewOf C l).L = rd C l 2 := rfl
  have r3 : (viewOf C l).N = rd C l 3 := rfl
  have rs : ∀ z, (viewOf C l).s (spot C.cap z) = rd C l (slotOf C z) := fun z => by
    show (if spot C.cap z < C.cap then _ else _) = _
    rw [if_pos (spot_lt hcap z)]
    rfl
  unfold stepOf stepV
  by_cases hd : o.done = true
  · rw [if_pos hd, if_pos hd]
    exact ⟨rfl, rfl⟩
  · rw [if_neg hd, if_neg hd]
    obtain ⟨a, dn, t, u, n, v, en⟩ := o
    unfold CntOk at hc
    cases a <;> simp only [r0, r1, r2, r3, rs] at hc ⊢
    case pushSlot => exact ⟨by rw [slot_spot]; exact view_slot hr (spot_lt hcap u) _, trivial⟩
    case pushCell => exact ⟨view_stack hr hc _, trivial⟩
    case pushBottom => exact ⟨w1 _, trivial⟩
    case pushCounted => exact ⟨w3 _, trivial⟩
    case free => exact ⟨w2 _, trivial⟩
    case popBottom => exact ⟨w1 _, trivial⟩
    case popWon => exact ⟨w1 _, trivial⟩
    case popNothing => exact ⟨w1 _, trivial⟩
    case takeCounted => exact ⟨w3 _, trivial⟩
    case pushLock =>
      by_cases h : rd C l 2 = 0
      · rw [if_pos h, if_pos h]
        exact ⟨w2 _, rfl⟩
      · rw [if_neg h, if_neg h]
        exact ⟨rfl, rfl⟩
    case takeLock =>
      by_cases h : rd C l 2 = 0
      · rw [if_pos h, if_pos h]
        exact ⟨w2 _, rfl⟩
      · rw [if_neg h, if_neg h]
        exact ⟨rfl, rfl⟩
    case popSwap =>
      by_cases h : rd C l 0 = t
      · rw [if_pos h, if_pos h]
        exact ⟨w0 _, rfl⟩
      · rw [if_neg h, if_neg h]
        exact ⟨rfl, rfl⟩
    case stealSwap =>
      by_cases h : rd C l 0 = t
      · rw [if_pos h, if_pos h]
        exact ⟨w0 _, rfl⟩
      · rw [if_neg h, if_neg h]
        exact ⟨rfl, rfl⟩
    case pushCount => by_cases h : C.over ≤ stackedOf C (rd C l 3) <;> simp [h]
    case takeCount => by_cases h : stackedOf C (rd C l 3) = 0 <;> simp [h]
    case takeCell =>
      refine ⟨trivial, ?_⟩
      have : (viewOf C l).k (n - 1) = rd C l (4 + C.cap + (n - 1)) := by
        show (if n - 1 < C.over then _ else _) = _
        rw [if_pos (by omega)]
      rw [this]
    all_goals trivial

/-- Another deque, whose cells lie apart. -/
theorem view_other {C D : Cfg} {l : List Int} {o : OpS} (hc : CntOk C o) (hcap : 1 ≤ C.cap) (hap : C.base + (4 + C.cap + C.over) ≤ D.base ∨ D.base + (4 + D.cap + D.over) ≤ C.base) : viewOf D (stepOf C l o).1 = viewOf D l := by
  have key : ∀ i x, i < 4 + C.cap + C.over → viewOf D (wr C l i x) = viewOf D l := fun i x hi => by
    have h : ∀ j, j < 4 + D.cap + D.over → rd D (wr C l i x) j = rd D l j := fun j hj => by
      unfold rd wr
      rw [List.getD_eq_getElem?_getD, List.getD_eq_getElem?_getD, List.getElem?_set, if_neg (by omega)]
    unfold viewOf
    rw [h 0 (by omega), h 1 (by omega), h 2 (by omega), h 3 (by omega)]
    congr 1
    · funext j
      by_cases hj : j < D.cap
      · rw [if_pos hj, if_pos hj, h _ (by omega)]
      · rw [if_neg hj, if_neg hj]
    · funext j
      by_cases hj : j < D.over
      · rw [if_pos hj, if_pos hj, h _ (by omega)]
      · rw [if_neg hj, if_neg hj]
  have hsl : ∀ z, slotOf C z < 4 + C.cap + C.over := fun z => by have := spot_lt hcap z; rw [slot_spot]; omega
  unfold stepOf
  by_cases hd : o.done = true
  · rw [if_pos hd]
  · rw [if_neg hd]
    obtain ⟨a, dn, t, u, n, v, en⟩ := o
    unfold CntOk at hc
    cases a <;> simp only at hc ⊢
    case pushSlot => exact key _ _ (hsl u)
    case pushCell => exact key _ _ (by omega)
    case pushBottom => exact key _ _ (by omega)
    case pushCounted => exact key _ _ (by omega)
    case free => exact key _ _ (by omega)
    case popBottom => exact key _ _ (by omega)
    case popWon => exact key _ _ (by omega)
    case popNothing => exact key _ _ (by omega)
    case takeCounted => exact key _ _ (by omega)
    case pushLock => by_cases h : rd C l 2 = 0 <;> simp [h]; exact key _ _ (by omega)
    case takeLock => by_cases h : rd C l 2 = 0 <;> simp [h]; exact key _ _ (by omega)
    case popSwap => by_cases h : rd C l 0 = t <;> simp [h]; exact key _ _ (by omega)
    case stealSwap => by_cases h : rd C l 0 = t <;> simp [h]; exact key _ _ (by omega)
    case pushCount => by_cases h : C.over ≤ stackedOf C (rd C l 3) <;> simp [h]
    case takeCount => by_cases h : stackedOf C (rd C l 3) = 0 <;> simp [h]
    all_goals trivial
end Go.Proofs.YtgbclfhgpkmcnaaGreatDoor

/-
  What each operation knows of a deque as it is seen: who holds the lock, of the stack ('StkI'); the owner, of the slots ('SlotI', 'bot': the bottom as it counts); a thief, of the item that it would take ('TakI'). Each is kept by the operation's own step and by another's. No Go is walked here.
-/
namespace Go.Proofs.YtgbclfhgpkmcnaaGreatDoor
set_option linter.unusedVariables false

theorem sees_V (C : Cfg) (v : DV) (o : OpS) (hd : o.done = false) :
    StepSees v.T v.B v.L v.N (stepV C v o).1.T (stepV C v o).1.B (stepV C v o).1.L (stepV C v o).1.N o (stepV C v o).2 := by
  obtain ⟨a, dn, t, u, n, i, en⟩ := o
  have hd' : dn = false := hd
  subst hd'
  cases a
  case pushLock => by_cases hz : v.L = 0 <;> simp [stepV, StepSees, hz]
  case takeLock => by_cases hz : v.L = 0 <;> simp [stepV, StepSees, hz]
  case pushCount => by_cases hz : C.over ≤ stackedOf C v.N <;> simp [stepV, StepSees, hz]
  case takeCount => by_cases hz : stackedOf C v.N = 0 <;> simp [stepV, StepSees, hz]
  case popSwap => by_cases hz : v.T = t <;> simp [stepV, StepSees, hz]
  case stealSwap => by_cases hz : v.T = t <;> simp [stepV, StepSees, hz]
  case pushReadTop => by_cases hz : heldOf C v.T u < C.cap <;> simp [stepV, StepSees, hz]
  case stealReadBottom => by_cases hz : t < v.B <;> simp [stepV, StepSees, hz]
  case popReadTop =>
    by_cases hz : v.T < u
    · simp [stepV, StepSees, hz]
    · by_cases hy : v.T = u
      · simp [stepV, StepSees, hy]
      · simp [stepV, StepSees, hz, hy]; omega
  all_goals simp [stepV, StepSees]

/-- Two numbers less than a round apart have slots of their own. -/
theorem spot_ne {cap : Nat} (h : 1 ≤ cap) {x y : Int} (h1 : y < x) (h2 : x - y < cap) : spot cap x ≠ spot cap y := by
  intro e
  unfold spot at e
  have a1 := Int.emod_nonneg x (show (cap : Int) ≠ 0 by omega)
  have a2 := Int.emod_nonneg y (show (cap : Int) ≠ 0 by omega)
  have e' : x % (cap : Int) = y % (cap : Int) := by omega
  have b1 := Int.mul_ediv_add_emod x (cap : Int)
  have b2 := Int.mul_ediv_add_emod y (cap : Int)
  generalize x / (cap : Int) = p at *
  generalize y / (cap : Int) = q at *
  have hd : x - y = (cap : Int) * (p - q) := by rw [Int.mul_sub]; omega
  rcases (show q < p ∨ p ≤ q by omega) with g | g
  · have : (cap : Int) * 1 ≤ (cap : Int) * (p - q) := Int.mul_le_mul_of_nonneg_left (by omega) (by omega)
    omega
  · have : (cap : Int) * (p - q) ≤ (cap : Int) * 0 := Int.mul_le_mul_of_nonneg_left (by omega) (by omega)
    omega

theorem stacked_in {C : Cfg} {N : Int} (h : 0 ≤ N ∧ N ≤ C.over) : (stackedOf C N : Int) = N := by unfold stackedOf; omega

/-- Who holds the lock knows the stack. -/
def StkI (C : Cfg) (v : DV) (o : OpS) : Prop :=
  o.done = false →
  match o.at_ with
  | .pushCell => (o.count : Int) = v.N ∧ o.count < C.over
  | .pushCounted => (o.count : Int) = v.N ∧ o.count < C.over ∧ v.k o.count = o.item
  | .takeCell => (o.count : Int) = v.N ∧ 0 < o.count
  | .takeCounted => (o.count : Int) = v.N ∧ 0 < o.count ∧ o.item = v.k (o.count - 1)
  | _ => True

theorem stk_own {C : Cfg} {v : DV} {o : OpS} (hN : 0 ≤ v.N ∧ v.N ≤ C.over) (h : StkI C v o) :
    StkI C (stepV C v o).1 (stepV C v o).2 ∧ 0 ≤ (stepV C v o).1.N ∧ (stepV C v o).1.N ≤ C.over := by
  obtain ⟨a, dn, t, u, n, i, en⟩ := o
  cases dn
  case true => exact ⟨fun g => absurd g (by simp [stepV]), by simpa [stepV] using hN⟩
  have h' := h rfl
  have hs := stacked_in hN
  cases a
  case pushCount =>
    by_cases hz : C.over ≤ stackedOf C v.N
    · simp [stepV, StkI, hz, hN]
    · simp [stepV, StkI, hz, hN, hs]; omega
  case takeCount =>
    by_cases hz : stackedOf C v.N = 0
    · simp [stepV, StkI, hz, hN]
    · simp [stepV, StkI, hz, hN, hs]; omega
  case pushCell => simp only at h'; simp [stepV, StkI, fset, h', hN]
  case takeCell => simp only at h'; simp [stepV, StkI, h', hN]
  case pushCounted => simp only at h'; simp [stepV, StkI]; omega
  case takeCounted => simp only at h'; simp [stepV, StkI]; omega
  case pushLock => by_cases hz : v.L = 0 <;> simp [stepV, StkI, hz, hN]
  case takeLock => by_cases hz : v.L = 0 <;> simp [stepV, StkI, hz, hN]
  case popSwap => by_cases hz : v.T = t <;> simp [stepV, StkI, hz, hN]
  case stealSwap => by_cases hz : v.T = t <;> simp [stepV, StkI, hz, hN]
  case pushReadTop => by_cases hz : heldOf C v.T u < C.cap <;> simp [stepV, StkI, hz, hN]
  case stealReadBottom => by_cases hz : t < v.B <;> simp [stepV, StkI, hz, hN]
  case popReadTop => by_cases hz : v.T < u <;> by_cases hy : v.T = u <;> simp [stepV, StkI, hz, hy, hN]
  all_goals simp [stepV, StkI, hN]

/-- Where no lock is held, the stack stays. -/
theorem stack_same {C : Cfg} {v : DV} {o : OpS} (h : hn o = 0) : (stepV C v o).1.N = v.N ∧ (stepV C v o).1.k = v.k := by
  obtain ⟨a, dn, t, u, n, i, en⟩ := o
  cases dn
  case true => simp [stepV]
  cases a
  case pushCell => simp [hn, holdsAt] at h
  case pushCounted => simp [hn, holdsAt] at h
  case takeCounted => simp [hn, holdsAt] at h
  case pushCount => simp [hn, holdsAt] at h
  case takeCount => simp [hn, holdsAt] at h
  case pushLock => by_cases hz : v.L = 0 <;> simp [stepV, hz]
  case takeLock => by_cases hz : v.L = 0 <;> simp [stepV, hz]
  case popSwap => by_cases hz : v.T = t <;> simp [stepV, hz]
  case stealSwap => by_cases hz : v.T = t <;> simp [stepV, hz]
  all_goals simp [stepV]

theorem stk_other {C : Cfg} {v : DV} {o x : OpS} (hx : hn o = 0 ∨ hn x = 0) (h : StkI C v x) : StkI C (stepV C v o).1 x := by
  intro hd
  rcases hx with g | g
  · obtain ⟨e1, e2⟩ := stack_same (C := C) (v := v) g
    have h' := h hd
    rw [e1, e2]
    exact h'
  · obtain ⟨a, dn, t, u, n, i, en⟩ := x
    have hd' : dn = false := hd
    subst hd'
    cases a <;> first | trivial | (simp [hn, holdsAt] at g)

/-- The bottom as it counts: an owner that has lessened it has not taken yet. -/
def sixAt : Stp → Bool
  | .popReadTop | .popSlot | .popLast | .popSwap | .popWon | .popNothing => true
  | _ => false
def bot (v : DV) (o : OpS) : Int := if !o.done && sixAt o.at_ then v.B + 1 else v.B

/-- What the owner knows of the slots. -/
def SlotI (C : Cfg) (v : DV) (o : OpS) : Prop :=
  o.done = false →
  match o.at_ with
  | .pushSlot => v.B - v.T < C.cap
  | .pushBottom => v.B - v.T < C.cap ∧ v.s (spot C.cap v.B) = o.item
  | .popSlot => o.bottom = v.B
  | .popSwap => v.T = v.B → o.item = v.s (spot C.cap v.B)
  | _ => True

theorem slot_own {C : Cfg} {v : DV} {o : OpS} (hcap : 1 ≤ C.cap) (hk : o.done = false → ownerAt o.at_ = true) (ho : OwnI v.T v.B o) (hb : bot v o - v.T ≤ C.cap) (h : SlotI C v o) :
    SlotI C (stepV C v o).1 (stepV C v o).2 ∧ bot (stepV C v o).1 (stepV C v o).2 - (stepV C v o).1.T ≤ C.cap := by
  obtain ⟨a, dn, t, u, n, i, en⟩ := o
  cases dn
  case true => exact ⟨fun g => absurd g (by simp [stepV]), by simpa [stepV] using hb⟩
  have h' := h rfl
  have hk' := hk rfl
  cases a <;> simp only [OwnI, bot, sixAt, Bool.not_false, Bool.true_and, Bool.false_eq_true, if_true, if_false] at ho hb h'
  case stealReadTop => simp [ownerAt] at hk'
  case stealReadBottom => simp [ownerAt] at hk'
  case stealSlot => simp [ownerAt] at hk'
  case stealSwap => simp [ownerAt] at hk'
  case pushReadTop =>
    by_cases hz : heldOf C v.T u < C.cap
    · simp only [stepV, SlotI, bot, sixAt, hz, if_true, Bool.not_false, Bool.true_and, Bool.false_eq_true, if_false]
      unfold heldOf at hz
      refine ⟨fun _ => ?_, hb⟩
      split at hz <;> omega
    · simp [stepV, SlotI, bot, sixAt, hz]; omega
  case pushSlot =>
    simp [stepV, SlotI, bot, sixAt, fset]
    obtain ⟨h1, h2⟩ := ho
    subst h2
    exact ⟨⟨h', fun g => absurd rfl g⟩, hb⟩
  case pushBottom => simp [stepV, SlotI, bot, sixAt]; omega
  case pushLock => by_cases hz : v.L = 0 <;> simp [stepV, SlotI, bot, sixAt, hz] <;> omega
  case takeLock => by_cases hz : v.L = 0 <;> simp [stepV, SlotI, bot, sixAt, hz] <;> omega
  case pushCount => by_cases hz : C.over ≤ stackedOf C v.N <;> simp [stepV, SlotI, bot, sixAt, hz] <;> omega
  case takeCount => by_cases hz : stackedOf C v.N = 0 <;> simp [stepV, SlotI, bot, sixAt, hz] <;> omega
  case popReadTop =>
    by_cases hz : v.T < u
    · simp [stepV, SlotI, bot, sixAt, hz]; omega
    · by_cases hy : v.T = u
      · simp [stepV, SlotI, bot, sixAt, hy]; omega
      · simp [stepV, SlotI, bot, sixAt, hz, hy]; omega
  case popLast =>
    simp [stepV, SlotI, bot, sixAt]
    obtain ⟨h1, h2, h3, h4⟩ := ho
    subst h3
    exact ⟨fun _ => rfl, hb⟩
  case popSwap => by_cases hz : v.T = t <;> simp [stepV, SlotI, bot, sixAt, hz] <;> omega
  all_goals (simp [stepV, SlotI, bot, sixAt]; try omega)

/-- A thief's step: the top rises by one, or stays; bottom and slots stay. -/
theorem thief_sees {C : Cfg} {v : DV} {x : OpS} (hk : x.done = false → thiefAt x.at_ = true) :
    (stepV C v x).1.B = v.B ∧ (stepV C v x).1.s = v.s ∧ ((stepV C v x).1.T = v.T ∨ ((stepV C v x).1.T = v.T + 1 ∧ x.done = false ∧ x.at_ = .stealSwap ∧ x.top = v.T)) := by
  obtain ⟨a, dn, t, u, n, i, en⟩ := x
  cases dn
  case true => simp [stepV]
  have hk' := hk rfl
  cases a
  case stealSwap => by_cases hz : v.T = t <;> simp [stepV, hz]
  case takeLock => by_cases hz : v.L = 0 <;> simp [stepV, hz]
  case takeCount => by_cases hz : stackedOf C v.N = 0 <;> simp [stepV, hz]
  all_goals first | (simp [stepV]; done) | (simp [thiefAt] at hk')

theorem slot_thief {C : Cfg} {v : DV} {o x : OpS} (hk : x.done = false → thiefAt x.at_ = true) (ho : OwnI v.T v.B o) (hb : bot v o - v.T ≤ C.cap) (h : SlotI C v o) :
    SlotI C (stepV C v x).1 o ∧ bot (stepV C v x).1 o - (stepV C v x).1.T ≤ C.cap := by
  obtain ⟨eb, es, et⟩ := thief_sees (C := C) (v := v) hk
  have hT : v.T ≤ (stepV C v x).1.T := by omega
  refine ⟨?_, ?_⟩
  · intro hd
    have h' := h hd
    obtain ⟨a, dn, t, u, n, i, en⟩ := o
    have hd' : dn = false := hd
    subst hd'
    rw [eb, es]
    cases a <;> simp only [OwnI, Bool.false_eq_true, if_false] at ho h' ⊢
    case pushSlot => omega
    case pushBottom => exact ⟨by omega, h'.2⟩
    case popSlot => exact h'
    case popSwap => exact fun g => h' (by omega)
  · unfold bot at hb ⊢
    rw [eb]
    omega

/-- A thief that would swap the top has that slot's item. -/
def TakI (C : Cfg) (v : DV) (x : OpS) : Prop := x.done = false → x.at_ = .stealSwap → x.top = v.T → x.item = v.s (spot C.cap v.T)

/-- An owner's step: the slots stay but where it pushes, at the bottom; the top stays but where it takes the last. -/
theorem own_sees {C : Cfg} {v : DV} {o : OpS} (hk : o.done = false → ownerAt o.at_ = true) :
    ((stepV C v o).1.s = v.s ∨ (o.done = false ∧ o.at_ = .pushSlot ∧ (stepV C v o).1.s = fset v.s (spot C.cap o.bottom) o.item)) ∧ ((stepV C v o).1.T = v.T ∨ (stepV C v o).1.T = v.T + 1) := by
  obtain ⟨a, dn, t, u, n, i, en⟩ := o
  cases dn
  case true => simp [stepV]
  have hk' := hk rfl
  cases a
  case popSwap => by_cases hz : v.T = t <;> simp [stepV, hz]
  case pushLock => by_cases hz : v.L = 0 <;> simp [stepV, hz]
  case takeLock => by_cases hz : v.L = 0 <;> simp [stepV, hz]
  case pushCount => by_cases hz : C.over ≤ stackedOf C v.N <;> simp [stepV, hz]
  case takeCount => by_cases hz : stackedOf C v.N = 0 <;> simp [stepV, hz]
  all_goals first | (simp [stepV]; done) | (simp [ownerAt] at hk')

theorem tak_own {C : Cfg} {v : DV} {o x : OpS} (hcap : 1 ≤ C.cap) (hk : o.done = false → ownerAt o.at_ = true) (ho : OwnI v.T v.B o) (hs : SlotI C v o) (ht : ThI v.T v.B o x) (h : TakI C v x) : TakI C (stepV C v o).1 x := by
  intro hd hat htop
  obtain ⟨es, et⟩ := own_sees (C := C) (v := v) hk
  have ht' := ht hd
  rw [hat] at ht'
  simp only at ht'
  have e : (stepV C v o).1.T = v.T := by omega
  rw [e] at htop ⊢
  have hi := h hd hat htop
  rcases es with es | ⟨g1, g2, es⟩
  · rw [es]; exact hi
  · rw [es, hi]
    have hs' := hs g1
    rw [g2] at hs'
    simp only at hs'
    unfold OwnI at ho
    rw [g1, g2] at ho
    simp only [Bool.false_eq_true, if_false] at ho
    have hlt : v.T < v.B := by
      rcases ht'.2 htop with q | ⟨_, q⟩
      · exact q
      · unfold mid at q; rw [g2] at q; simp at q
    have hne := spot_ne hcap hlt hs'
    unfold fset
    rw [ho.2, if_neg (fun q => hne q.symm)]

theorem tak_step {C : Cfg} {v : DV} {x : OpS} : TakI C (stepV C v x).1 (stepV C v x).2 ∨ x.done = true := by
  obtain ⟨a, dn, t, u, n, i, en⟩ := x
  cases dn
  case true => exact .inr rfl
  refine .inl ?_
  cases a
  case pushLock => by_cases hz : v.L = 0 <;> simp [stepV, TakI, hz]
  case takeLock => by_cases hz : v.L = 0 <;> simp [stepV, TakI, hz]
  case pushCount => by_cases hz : C.over ≤ stackedOf C v.N <;> simp [stepV, TakI, hz]
  case takeCount => by_cases hz : stackedOf C v.N = 0 <;> simp [stepV, TakI, hz]
  case popSwap => by_cases hz : v.T = t <;> simp [stepV, TakI, hz]
  case stealSwap => by_cases hz : v.T = t <;> simp [stepV, TakI, hz]
  case pushReadTop => by_cases hz : heldOf C v.T u < C.cap <;> simp [stepV, TakI, hz]
  case stealReadBottom => by_cases hz : t < v.B <;> simp [stepV, TakI, hz]
  case popReadTop => by_cases hz : v.T < u <;> by_cases hy : v.T = u <;> simp [stepV, TakI, hz, hy]
  case stealSlot => simp only [stepV, TakI]; intro _ _ e; rw [← e]; rfl
  all_goals simp [stepV, TakI]

theorem tak_thief {C : Cfg} {v : DV} {o x y : OpS} (hk : y.done = false → thiefAt y.at_ = true) (ht : ThI v.T v.B o x) (h : TakI C v x) : TakI C (stepV C v y).1 x := by
  intro hd hat htop
  obtain ⟨eb, es, et⟩ := thief_sees (C := C) (v := v) hk
  have ht' := ht hd
  rw [hat] at ht'
  simp only at ht'
  have e : (stepV C v y).1.T = v.T := by omega
  rw [e] at htop ⊢
  rw [es]
  exact h hd hat htop

end Go.Proofs.YtgbclfhgpkmcnaaGreatDoor

/-
  One deque as it is seen, its owner's operation and any number of thieves', whatever the order of their steps ('DI', 'DI.step'); an operation that begins ('DI.begin'). No Go is walked here.
-/
namespace Go.Proofs.YtgbclfhgpkmcnaaGreatDoor
set_option linter.unusedVariables false

/-- Who: none the owner, some i a thief. Who does nothing here has an operation that is done. -/
def updP (p : Option Nat → OpS) (a : Option Nat) (o : OpS) : Option Nat → OpS := fun b => if b = a then o else p b
theorem updP_at (p : Option Nat → OpS) (a : Option Nat) (o : OpS) : updP p a o a = o := if_pos rfl
theorem updP_ne (p : Option Nat → OpS) {a b : Option Nat} (o : OpS) (h : b ≠ a) : updP p a o b = p b := if_neg h

structure DI (C : Cfg) (v : DV) (p : Option Nat → OpS) : Prop where
  cap : 1 ≤ C.cap
  lock : v.L = 0 ∨ v.L = 1
  free : v.L = 0 → ∀ a, hn (p a) = 0
  held : v.L = 1 → ∃ a, hn (p a) = 1
  one : ∀ a b, hn (p a) = 1 → hn (p b) = 1 → a = b
  kind : (p none).done = false → ownerAt (p none).at_ = true
  kinds : ∀ i, (p (some i)).done = false → thiefAt (p (some i)).at_ = true
  own : OwnI v.T v.B (p none)
  slot : SlotI C v (p none)
  room : bot v (p none) - v.T ≤ C.cap
  thf : ∀ i, ThI v.T v.B (p none) (p (some i))
  tak : ∀ i, TakI C v (p (some i))
  stkN : 0 ≤ v.N ∧ v.N ≤ C.over
  stk : ∀ a, StkI C v (p a)

def stepP (C : Cfg) (v : DV) (p : Option Nat → OpS) (a : Option Nat) : DV × (Option Nat → OpS) := ((stepV C v (p a)).1, updP p a (stepV C v (p a)).2)

theorem stepV_done {C : Cfg} {v : DV} {o : OpS} (h : o.done = true) : stepV C v o = (v, o) := by unfold stepV; rw [if_pos h]

theorem DI.step {C : Cfg} {v : DV} {p : Option Nat → OpS} (h : DI C v p) (a : Option Nat) : DI C (stepP C v p a).1 (stepP C v p a).2 := by
  unfold stepP
  by_cases hdn : (p a).done = true
  · rw [stepV_done hdn]
    have : updP p a (p a) = p := by funext b; unfold updP; split <;> simp_all
    simp only [this]
    exact h
  have hd : (p a).done = false := by simpa using hdn
  have hS := sees_V C v (p a) hd
  have hh1 : hn (p a) = 1 → v.L = 1 := fun g => by
    rcases h.lock with q | q
    · have := h.free q a; omega
    · exact q
  obtain ⟨hL1, hL2⟩ := hn_step hS hd h.lock hh1
  obtain ⟨hs1, hs2⟩ := stk_own h.stkN (h.stk a)
  have v0 := hn_vals (p a)
  have v1 := hn_vals (stepV C v (p a)).2
  generalize hv : (stepV C v (p a)).1 = v' at *
  generalize ho : (stepV C v (p a)).2 = o' at *
  have hlock : v'.L = 0 ∨ v'.L = 1 := by
    rcases h.lock with q | q
    · omega
    · omega
  have hoth : ∀ b, b ≠ a → hn (p b) = 1 → hn (p a) = 0 ∧ v.L = 1 ∧ hn o' = 0 := by
    intro b hb g
    have e1 : v.L = 1 := by
      rcases h.lock with q | q
      · have := h.free q b; omega
      · exact q
    have e0 : hn (p a) = 0 := by
      rcases v0 with q | q
      · exact q
      · exact absurd (h.one b a g q) hb
    exact ⟨e0, e1, by omega⟩
  have hfree : v'.L = 0 → ∀ b, hn (updP p a o' b) = 0 := by
    intro g b
    by_cases hb : b = a
    · subst hb
      rw [updP_at]
      rcases h.lock with q | q
      · have := h.free q b; omega
      · rcases v0 with q0 | q0
        · omega
        · omega
    · rw [updP_ne _ _ hb]
      rcases hn_vals (p b) with q | q
      · exact q
      · have := hoth b hb q
        omega
  have hheld : v'.L = 1 → ∃ b, hn (updP p a o' b) = 1 := by
    intro g
    rcases v1 with q | q
    · have : v.L = 1 ∧ hn (p a) = 0 := by rcases h.lock with z | z <;> omega
      obtain ⟨b, hb⟩ := h.held this.1
      refine ⟨b, ?_⟩
      rw [updP_ne _ _ (fun e => by rw [e] at hb; omega)]
      exact hb
    · exact ⟨a, by rw [updP_at]; exact q⟩
  have hone : ∀ b c, hn (updP p a o' b) = 1 → hn (updP p a o' c) = 1 → b = c := by
    intro b c gb gc
    by_cases hb : b = a <;> by_cases hc : c = a
    · rw [hb, hc]
    · rw [hb, updP_at] at gb
      rw [updP_ne _ _ hc] at gc
      have := hoth c hc gc
      omega
    · rw [hc, updP_at] at gc
      rw [updP_ne _ _ hb] at gb
      have := hoth b hb gb
      omega
    · rw [updP_ne _ _ hb] at gb
      rw [updP_ne _ _ hc] at gc
      exact h.one b c gb gc
  have hstk : ∀ b, StkI C v' (updP p a o' b) := by
    intro b
    by_cases hb : b = a
    · rw [hb, updP_at]; exact hs1
    · rw [updP_ne _ _ hb, ← hv]
      refine stk_other ?_ (h.stk b)
      rcases hn_vals (p b) with q | q
      · exact .inr q
      · exact .inl (hoth b hb q).1
  show DI C v' (updP p a o')
  cases a with
  | none =>
    obtain ⟨o1, o2, o3, o4⟩ := own_step hS hd (h.kind hd) h.own
    have hsl := slot_own h.cap h.kind h.own h.room h.slot
    rw [hv, ho] at hsl
    refine ⟨h.cap, hlock, hfree, hheld, hone, ?_, fun i => ?_, ?_, ?_, ?_, fun i => ?_, fun i => ?_, hs2, hstk⟩
    · rw [updP_at]; exact o2
    · rw [updP_ne _ _ (by simp)]; exact h.kinds i
    · rw [updP_at]; exact o1
    · rw [updP_at]; exact hsl.1
    · rw [updP_at]; exact hsl.2
    · rw [updP_at, updP_ne _ _ (by simp)]; exact thi_mono o3 o4 (h.thf i)
    · rw [updP_ne _ _ (by simp), ← hv]; exact tak_own h.cap h.kind h.own h.slot (h.thf i) (h.tak i)
  | some j =>
    obtain ⟨t1, t2, t3, t4, t5⟩ := thief_step hS hd (h.kinds j hd) h.own (h.thf j)
    have hsl := slot_thief (x := p (some j)) (h.kinds j) h.own h.room h.slot
    rw [hv] at hsl
    refine ⟨h.cap, hlock, hfree, hheld, hone, ?_, fun i => ?_, ?_, ?_, ?_, fun i => ?_, fun i => ?_, hs2, hstk⟩
    · rw [updP_ne _ _ (by simp)]; exact h.kind
    · by_cases hi : i = j
      · rw [hi, updP_at]; exact t2
      · rw [updP_ne _ _ (by simpa using hi)]; exact h.kinds i
    · rw [updP_ne _ _ (by simp)]; exact t1
    · rw [updP_ne _ _ (by simp)]; exact hsl.1
    · rw [updP_ne _ _ (by simp)]; exact hsl.2
    · rw [updP_ne _ _ (show (none : Option Nat) ≠ some j by simp)]
      by_cases hi : i = j
      · rw [hi, updP_at]; exact t3
      · rw [updP_ne _ _ (by simpa using hi)]
        refine thi_mono t5 (fun e g => ?_) (h.thf i)
        rw [e, t4]; exact g
    · by_cases hi : i = j
      · rw [hi, updP_at]
        rcases tak_step (C := C) (v := v) (x := p (some j)) with q | q
        · rw [hv, ho] at q; exact q
        · rw [hd] at q; cases q
      · rw [updP_ne _ _ (by simpa using hi), ← hv]
        exact tak_thief (h.kinds j) (h.thf i) (h.tak i)

theorem DI.begin {C : Cfg} {v : DV} {p : Option Nat → OpS} (h : DI C v p) (a : Option Nat) (hd : (p a).done = true) (st : Stp) (x : Int) (hst : (a = none ∧ (st = .pushReadBottom ∨ st = .popReadBottom)) ∨ (a ≠ none ∧ st = .stealReadTop)) : DI C v (updP p a (opNew st x)) := by
  have h0 : hn (opNew st x) = 0 := by rcases hst with ⟨_, rfl | rfl⟩ | ⟨_, rfl⟩ <;> rfl
  have hn' : ∀ b, hn (updP p a (opNew st x) b) = hn (p b) := by
    intro b
    by_cases hb : b = a
    · rw [hb, updP_at, h0, hn_done hd]
    · rw [updP_ne _ _ hb]
  have hs : ∀ b, StkI C v (updP p a (opNew st x) b) := by
    intro b
    by_cases hb : b = a
    · rw [hb, updP_at]
      rcases hst with ⟨_, rfl | rfl⟩ | ⟨_, rfl⟩ <;> exact fun _ => trivial
    · rw [updP_ne _ _ hb]; exact h.stk b
  have ho : (∀ b, hn (updP p a (opNew st x) b) = 1 → ∀ c, hn (updP p a (opNew st x) c) = 1 → b = c) := fun b gb c gc => h.one b c (by rw [← hn' b]; exact gb) (by rw [← hn' c]; exact gc)
  rcases hst with ⟨rfl, hst⟩ | ⟨ha, rfl⟩
  · have hw := h.own
    have hr := h.room
    have hT : v.T ≤ v.B := by unfold OwnI at hw; rw [hd, if_pos rfl] at hw; exact hw
    have hmid : ¬ mid (p none) := fun g => by rw [g.1] at hd; cases hd
    refine ⟨h.cap, h.lock, fun g b => by rw [hn']; exact h.free g b, fun g => ?_, fun b c gb gc => ho b gb c gc, ?_, fun i => ?_, ?_, ?_, ?_, fun i => ?_, fun i => ?_, h.stkN, hs⟩
    · obtain ⟨b, hb⟩ := h.held g
      exact ⟨b, by rw [hn']; exact hb⟩
    · rw [updP_at]; rcases hst with rfl | rfl <;> exact fun _ => rfl
    · rw [updP_ne _ _ (by simp)]; exact h.kinds i
    · rw [updP_at]; rcases hst with rfl | rfl <;> exact hT
    · rw [updP_at]; rcases hst with rfl | rfl <;> exact fun _ => trivial
    · have e : bot v (p none) = v.B := by unfold bot; rw [hd]; rfl
      rw [e] at hr
      rw [updP_at]; rcases hst with rfl | rfl <;> exact hr
    · rw [updP_at, updP_ne _ _ (by simp)]
      refine thi_mono (Int.le_refl _) (fun _ g => ?_) (h.thf i)
      rcases g with g | g
      · exact .inl g
      · exact absurd g.2 hmid
    · rw [updP_ne _ _ (by simp)]; exact h.tak i
  · obtain ⟨j, rfl⟩ := Option.ne_none_iff_exists'.1 ha
    refine ⟨h.cap, h.lock, fun g b => by rw [hn']; exact h.free g b, fun g => ?_, fun b c gb gc => ho b gb c gc, ?_, fun i => ?_, ?_, ?_, ?_, fun i => ?_, fun i => ?_, h.stkN, hs⟩
    · obtain ⟨b, hb⟩ := h.held g
      exact ⟨b, by rw [hn']; exact hb⟩
    · rw [updP_ne _ _ (by simp)]; exact h.kind
    · by_cases hi : i = j
      · rw [hi, updP_at]; exact fun _ => rfl
      · rw [updP_ne _ _ (by simpa using hi)]; exact h.kinds i
    · rw [updP_ne _ _ (by simp)]; exact h.own
    · rw [updP_ne _ _ (by simp)]; exact h.slot
    · rw [updP_ne _ _ (by simp)]; exact h.room
    · rw [updP_ne _ _ (show (none : Option Nat) ≠ some j by simp)]
      by_cases hi : i = j
      · rw [hi, updP_at]; exact fun _ => trivial
      · rw [updP_ne _ _ (by simpa using hi)]; exact h.thf i
    · by_cases hi : i = j
      · rw [hi, updP_at]; exact fun _ g => by cases g
      · rw [updP_ne _ _ (by simpa using hi)]; exact h.tak i
end Go.Proofs.YtgbclfhgpkmcnaaGreatDoor

/-
  What the items of a deque and those on their way are worth together, by any weight of an item: no step changes it ('DI.worth'). No Go is walked here.
-/
namespace Go.Proofs.YtgbclfhgpkmcnaaGreatDoor
set_option linter.unusedVariables false

def sumTo (g : Nat → Int) : Nat → Int
  | 0 => 0
  | n + 1 => sumTo g n + g n
theorem sumTo_congr {g h : Nat → Int} : ∀ {n : Nat}, (∀ j, j < n → g j = h j) → sumTo g n = sumTo h n
  | 0, _ => rfl
  | n + 1, e => by
    show sumTo g n + g n = sumTo h n + h n
    rw [sumTo_congr (fun j hj => e j (by omega)), e n (by omega)]
theorem sumTo_first (g : Nat → Int) : ∀ n, sumTo g (n + 1) = g 0 + sumTo (fun j => g (j + 1)) n
  | 0 => by simp [sumTo]
  | n + 1 => by
    show sumTo g (n + 1) + g (n + 1) = g 0 + (sumTo (fun j => g (j + 1)) n + g (n + 1))
    rw [sumTo_first g n]
    omega

/-- The slots from the top to b. -/
def ringW (f : Int → Int) (cap : Nat) (s : Nat → Int) (T b : Int) : Int := sumTo (fun j => f (s (spot cap (T + (j : Int))))) (b - T).toNat
/-- The stack. -/
def stackW (f : Int → Int) (k : Nat → Int) (N : Int) : Int := sumTo (fun j => f (k j)) N.toNat

theorem ringW_last (f : Int → Int) (cap : Nat) (s : Nat → Int) {T b : Int} (h : T ≤ b) : ringW f cap s T (b + 1) = ringW f cap s T b + f (s (spot cap b)) := by
  unfold ringW
  rw [show (b + 1 - T).toNat = (b - T).toNat + 1 by omega]
  show _ + f (s (spot cap (T + ((b - T).toNat : Int)))) = _
  rw [show T + ((b - T).toNat : Int) = b by omega]
theorem ringW_first (f : Int → Int) (cap : Nat) (s : Nat → Int) {T b : Int} (h : T < b) : ringW f cap s T b = f (s (spot cap T)) + ringW f cap s (T + 1) b := by
  unfold ringW
  rw [show (b - T).toNat = (b - (T + 1)).toNat + 1 by omega, sumTo_first]
  congr 1
  · simp
  · refine sumTo_congr fun j _ => ?_
    rw [show T + ((j + 1 : Nat) : Int) = T + 1 + (j : Int) by omega]
theorem ringW_set (f : Int → Int) {cap : Nat} (hcap : 1 ≤ cap) (s : Nat → Int) {T b : Int} (x : Int) (h : b - T < cap) : ringW f cap (fset s (spot cap b) x) T b = ringW f cap s T b := by
  unfold ringW
  refine sumTo_congr fun j hj => ?_
  unfold fset
  rw [if_neg (fun e => spot_ne hcap (x := b) (y := T + (j : Int)) (by omega) (by omega) e.symm)]
theorem stackW_more (f : Int → Int) (k : Nat → Int) (n : Nat) : stackW f k ((n : Int) + 1) = stackW f k n + f (k n) := by
  unfold stackW
  rw [show ((n : Int) + 1).toNat = n + 1 by omega, show (n : Int).toNat = n by omega]
  rfl
theorem stackW_set (f : Int → Int) (k : Nat → Int) (n : Nat) (x : Int) : stackW f (fset k n x) n = stackW f k n := by
  unfold stackW
  refine sumTo_congr fun j hj => ?_
  unfold fset
  rw [if_neg (by omega)]

/-- What a deque's items are worth. -/
def worth (f : Int → Int) (C : Cfg) (v : DV) (b : Int) : Int := ringW f C.cap v.s v.T b + stackW f v.k v.N

def pushAt : Stp → Bool
  | .pushReadBottom | .pushReadTop | .pushSlot | .pushBottom | .pushLock | .pushCount | .pushCell | .pushCounted | .free => true
  | _ => false
def takeAt : Stp → Bool
  | .pushReadBottom | .pushReadTop | .pushSlot | .pushBottom | .pushLock | .pushCount | .pushCell | .pushCounted => false
  | _ => true
/-- An operation is a push or a take, and has no error ahead of its last steps. -/
def KindI (push : Bool) (o : OpS) : Prop := o.done = false → (if push then pushAt o.at_ else takeAt o.at_) = true ∧ (o.at_ ≠ .free → o.errno = 0)

/-- What an operation has on its way: a take what it has taken; a push lacks what lies in the deque already. -/
def way (push : Bool) (f : Int → Int) (o : OpS) : Int :=
  if push then (if (o.done = true ∨ o.at_ = .free) ∧ o.errno = 0 then - f o.item else 0)
  else (if ((o.done = true ∨ o.at_ = .free) ∧ o.errno = 0) ∨ (o.done = false ∧ o.at_ = .popWon) then f o.item else 0)

theorem kind_step {C : Cfg} {v : DV} {push : Bool} {o : OpS} (h : KindI push o) : KindI push (stepV C v o).2 := by
  obtain ⟨a, dn, t, u, n, i, en⟩ := o
  cases dn
  case true => rw [stepV_done rfl]; exact h
  have h' := h rfl
  cases push <;> cases a <;> simp only [pushAt, takeAt, Bool.false_eq_true, if_true, if_false, false_and, true_and, ne_eq, reduceCtorEq, not_false_eq_true, not_true_eq_false, false_implies, true_implies] at h'
  all_goals try subst h'
  all_goals first
    | (simp [stepV, KindI, pushAt, takeAt]; done)
    | (simp only [stepV, Bool.false_eq_true, if_false]; split <;> simp [KindI, pushAt, takeAt]; done)
    | (simp only [stepV, Bool.false_eq_true, if_false]; split <;> (try split) <;> simp [KindI, takeAt]; done)

theorem worth_same {f : Int → Int} {C : Cfg} {v v' : DV} {b b' : Int} (h1 : v'.s = v.s) (h2 : v'.T = v.T) (h3 : v'.k = v.k) (h4 : v'.N = v.N) (h5 : b' = b) : worth f C v' b' = worth f C v b := by
  unfold worth; rw [h1, h2, h3, h4, h5]

theorem DI.worth_own {C : Cfg} {v : DV} {p : Option Nat → OpS} (h : DI C v p) (f : Int → Int) (push : Bool) (hk : KindI push (p none)) :
    worth f C (stepV C v (p none)).1 (bot (stepV C v (p none)).1 (stepV C v (p none)).2) + way push f (stepV C v (p none)).2 = worth f C v (bot v (p none)) + way push f (p none) := by
  have hkd := h.kind
  have hown := h.own
  have hslot := h.slot
  have hroom := h.room
  have hstk := h.stk none
  have hN := h.stkN
  have hcap := h.cap
  generalize p none = o at *
  obtain ⟨a, dn, t, u, n, i, en⟩ := o
  cases dn
  case true => rw [stepV_done rfl]
  have hk' := hk rfl
  have hkd' := hkd rfl
  have hslot' := hslot rfl
  have hstk' := hstk rfl
  cases a <;> simp only [OwnI, Bool.false_eq_true, if_false] at hown hslot' hstk'
  case stealReadTop => simp [ownerAt] at hkd'
  case stealReadBottom => simp [ownerAt] at hkd'
  case stealSlot => simp [ownerAt] at hkd'
  case stealSwap => simp [ownerAt] at hkd'
  case pushReadBottom => cases push <;> simp [stepV, way, bot, sixAt, worth]
  case pushReadTop => cases push <;> by_cases hz : heldOf C v.T u < C.cap <;> simp [stepV, way, bot, sixAt, worth, hz]
  case pushSlot =>
    have e : u = v.B := hown.2
    subst e
    cases push <;> simp [stepV, way, bot, sixAt, worth, ringW_set f hcap v.s i hslot']
  case pushBottom =>
    have e : u = v.B := hown.2
    subst e
    cases push
    · simp [takeAt] at hk'
    · simp [stepV, way, bot, sixAt, worth, ringW_last f C.cap v.s hown.1, hslot'.2]; omega
  case pushLock => cases push <;> by_cases hz : v.L = 0 <;> simp [stepV, way, bot, sixAt, worth, hz]
  case pushCount =>
    cases push
    · simp [takeAt] at hk'
    · by_cases hz : C.over ≤ stackedOf C v.N <;> simp [stepV, way, bot, sixAt, worth, hz]
  case pushCell =>
    cases push
    · simp [takeAt] at hk'
    · simp [stepV, way, bot, sixAt, worth, ← hstk'.1, stackW_set]
  case pushCounted =>
    cases push
    · simp [takeAt] at hk'
    · have : en = 0 := hk'.2 (by simp)
      simp [stepV, way, bot, sixAt, worth, ← hstk'.1, stackW_more, this, hstk'.2.2]; omega
  case free => cases push <;> simp [stepV, way, bot, sixAt, worth]
  case popReadBottom => cases push <;> simp [stepV, way, bot, sixAt, worth]
  case popBottom => cases push <;> simp [stepV, way, bot, sixAt, worth, hown.2]
  case popReadTop =>
    cases push
    · by_cases hz : v.T < u
      · simp [stepV, way, bot, sixAt, worth, hz]
      · by_cases hy : v.T = u
        · simp [stepV, way, bot, sixAt, worth, hy]
        · simp [stepV, way, bot, sixAt, worth, hz, hy]
    · simp [pushAt] at hk'
  case popSlot =>
    cases push
    · simp [stepV, way, bot, sixAt, worth, hslot', ringW_last f C.cap v.s hown]; omega
    · simp [pushAt] at hk'
  case popLast => cases push <;> simp [stepV, way, bot, sixAt, worth]
  case popSwap =>
    cases push
    · by_cases hz : v.T = t
      · have e : v.T = v.B := by omega
        have e2 : t = v.B := by omega
        simp [stepV, way, bot, sixAt, worth, hz, e2, hslot' e, ringW_first f C.cap v.s (show v.B < v.B + 1 by omega)]; omega
      · simp [stepV, way, bot, sixAt, worth, hz]
    · simp [pushAt] at hk'
  case popWon => cases push <;> simp [stepV, way, bot, sixAt, worth, hown.1, hown.2] <;> simp [pushAt] at hk'
  case popNothing => cases push <;> simp [stepV, way, bot, sixAt, worth, hown.1, hown.2]
  case takeLock => cases push <;> by_cases hz : v.L = 0 <;> simp [stepV, way, bot, sixAt, worth, hz]
  case takeCount =>
    cases push
    · by_cases hz : stackedOf C v.N = 0 <;> simp [stepV, way, bot, sixAt, worth, hz]
    · simp [pushAt] at hk'
  case takeCell => cases push <;> simp [stepV, way, bot, sixAt, worth]
  case takeCounted =>
    cases push
    · have : en = 0 := hk'.2 (by simp)
      obtain ⟨m, rfl⟩ : ∃ m, n = m + 1 := ⟨n - 1, by omega⟩
      have hm := stackW_more f v.k m
      simp [stepV, way, bot, sixAt, worth, ← hstk'.1, this, hstk'.2.2, hm]; omega
    · simp [pushAt] at hk'

theorem DI.worth_thief {C : Cfg} {v : DV} {p : Option Nat → OpS} (h : DI C v p) (f : Int → Int) (j : Nat) (hk : KindI false (p (some j))) :
    worth f C (stepV C v (p (some j))).1 (bot (stepV C v (p (some j))).1 (p none)) + way false f (stepV C v (p (some j))).2 = worth f C v (bot v (p none)) + way false f (p (some j)) := by
  have hkd := h.kinds j
  have htk := h.tak j
  have hth := h.thf j
  have hstk := h.stk (some j)
  have hB := (thief_sees (C := C) (v := v) hkd).1
  have eb : bot (stepV C v (p (some j))).1 (p none) = bot v (p none) := by unfold bot; rw [hB]
  have hbot : v.T < v.B ∨ (v.T = v.B ∧ mid (p none)) → v.T < bot v (p none) := by
    intro g
    unfold bot
    rcases g with g | ⟨g1, g2, g3⟩
    · split <;> omega
    · rw [g2]
      rcases g3 with g3 | g3 | g3 <;> rw [g3] <;> simp [sixAt] <;> omega
  rw [eb]
  generalize bot v (p none) = b at *
  generalize p none = o0 at *
  clear eb hB
  generalize p (some j) = o at *
  obtain ⟨a, dn, t, u, n, i, en⟩ := o
  cases dn
  case true => rw [stepV_done rfl]
  have hk' := hk rfl
  have hkd' := hkd rfl
  have hth' := hth rfl
  have hstk' := hstk rfl
  cases a <;> simp only at hth' hstk'
  case stealReadTop => simp [stepV, way, worth]
  case stealReadBottom => by_cases hz : t < v.B <;> simp [stepV, way, worth, hz]
  case stealSlot => simp [stepV, way, worth]
  case stealSwap =>
    by_cases hz : v.T = t
    · have hi : i = v.s (spot C.cap v.T) := htk rfl rfl hz.symm
      have hb := hbot (hth'.2 hz.symm)
      have hf := ringW_first f C.cap v.s hb
      subst hz
      simp [stepV, way, worth, hf, hi]; omega
    · simp [stepV, way, worth, hz]
  case takeLock => by_cases hz : v.L = 0 <;> simp [stepV, way, worth, hz]
  case takeCount => by_cases hz : stackedOf C v.N = 0 <;> simp [stepV, way, worth, hz]
  case takeCell => simp [stepV, way, worth]
  case takeCounted =>
    have : en = 0 := hk'.2 (by simp)
    obtain ⟨m, rfl⟩ : ∃ m, n = m + 1 := ⟨n - 1, by omega⟩
    have hm := stackW_more f v.k m
    simp [stepV, way, worth, ← hstk'.1, this, hstk'.2.2, hm]; omega
  case free => simp [stepV, way, worth]
  all_goals simp [thiefAt] at hkd'

end Go.Proofs.YtgbclfhgpkmcnaaGreatDoor

/-
  Operations on a deque, whoever does them: what begins, what a pop knows, what is left of an operation ('remT', 'remL', 'sess', 'posO'), sums. (Out of the texts of QuietEnds, which speak of that law's crew besides.) No Go is walked here.
-/
namespace Go.Proofs.YtgbclfhgpkmcnaaGreatDoor
set_option linter.unusedVariables false

/-- An operation that is none. -/
def opDone : OpS := ⟨.free, true, 0, 0, 0, 0, 1⟩
/-- What an operation may be begun as; or none. -/
def Begins (a : Option Nat) (o : OpS) : Prop := o.done = true ∨ ∃ st x, o = opNew st x ∧ ((a = none ∧ (st = .pushReadBottom ∨ st = .popReadBottom)) ∨ (a ≠ none ∧ st = .stealReadTop))
theorem DI.redo {C : Cfg} {v : DV} {p : Option Nat → OpS} (h : DI C v p) (a : Option Nat) (o : OpS) (hd : (p a).done = true) (ho : o.done = true) : DI C v (updP p a o) := by
  have hn' : ∀ b, hn (updP p a o b) = hn (p b) := by
    intro b
    by_cases hb : b = a
    · rw [hb, updP_at, hn_done ho, hn_done hd]
    · rw [updP_ne _ _ hb]
  have hf : o.done = false → False := fun g => by rw [ho] at g; cases g
  have hs : ∀ b, StkI C v (updP p a o b) := by
    intro b
    by_cases hb : b = a
    · rw [hb, updP_at]; exact fun g => (hf g).elim
    · rw [updP_ne _ _ hb]; exact h.stk b
  have hheld : v.L = 1 → ∃ b, hn (updP p a o b) = 1 := fun g => by
    obtain ⟨b, hb⟩ := h.held g
    exact ⟨b, by rw [hn']; exact hb⟩
  cases a with
  | none =>
    have hw := h.own
    have hr := h.room
    have hT : v.T ≤ v.B := by unfold OwnI at hw; rw [hd, if_pos rfl] at hw; exact hw
    have hmid : ¬ mid (p none) := fun g => by rw [g.1] at hd; cases hd
    refine ⟨h.cap, h.lock, fun g b => by rw [hn']; exact h.free g b, hheld, fun b c gb gc => h.one b c (by rw [← hn' b]; exact gb) (by rw [← hn' c]; exact gc), ?_, fun i => ?_, ?_, ?_, ?_, fun i => ?_, fun i => ?_, h.stkN, hs⟩
    · rw [updP_at]; exact fun g => (hf g).elim
    · rw [updP_ne _ _ (by simp)]; exact h.kinds i
    · rw [updP_at]; unfold OwnI; rw [ho, if_pos rfl]; exact hT
    · rw [updP_at]; exact fun g => (hf g).elim
    · have e : bot v (p none) = v.B := by unfold bot; rw [hd]; rfl
      have e2 : bot v o = v.B := by unfold bot; rw [ho]; rfl
      rw [e] at hr
      rw [updP_at, e2]; exact hr
    · rw [updP_at, updP_ne _ _ (by simp)]
      refine thi_mono (Int.le_refl _) (fun _ g => ?_) (h.thf i)
      rcases g with g | g
      · exact .inl g
      · exact absurd g.2 hmid
    · rw [updP_ne _ _ (by simp)]; exact h.tak i
  | some j =>
    refine ⟨h.cap, h.lock, fun g b => by rw [hn']; exact h.free g b, hheld, fun b c gb gc => h.one b c (by rw [← hn' b]; exact gb) (by rw [← hn' c]; exact gc), ?_, fun i => ?_, ?_, ?_, ?_, fun i => ?_, fun i => ?_, h.stkN, hs⟩
    · rw [updP_ne _ _ (by simp)]; exact h.kind
    · by_cases hi : i = j
      · rw [hi, updP_at]; exact fun g => (hf g).elim
      · rw [updP_ne _ _ (by simpa using hi)]; exact h.kinds i
    · rw [updP_ne _ _ (by simp)]; exact h.own
    · rw [updP_ne _ _ (by simp)]; exact h.slot
    · rw [updP_ne _ _ (by simp)]; exact h.room
    · rw [updP_ne _ _ (show (none : Option Nat) ≠ some j by simp)]
      by_cases hi : i = j
      · rw [hi, updP_at]; exact fun g => (hf g).elim
      · rw [updP_ne _ _ (by simpa using hi)]; exact h.thf i
    · by_cases hi : i = j
      · rw [hi, updP_at]; exact fun g => (hf g).elim
      · rw [updP_ne _ _ (by simpa using hi)]; exact h.tak i
theorem DI.set {C : Cfg} {v : DV} {p : Option Nat → OpS} (h : DI C v p) (a : Option Nat) (o : OpS) (hd : (p a).done = true) (ho : Begins a o) : DI C v (updP p a o) := by
  rcases ho with ho | ⟨st, x, rfl, hst⟩
  · exact h.redo a o hd ho
  · exact h.begin a hd st x hst
/-- What an operation may tell: a push 0 or 14 (full), a take 0, 15 (empty) or 16. -/
def ErrI (push : Bool) (o : OpS) : Prop :=
  (o.done = true → if push then o.errno = 0 ∨ o.errno = 14 else o.errno = 0 ∨ o.errno = 15 ∨ o.errno = 16) ∧
  (o.done = false → o.at_ = .free → if push then o.errno = 0 ∨ o.errno = 14 else o.errno = 0 ∨ o.errno = 15)
theorem err_step {C : Cfg} {v : DV} {push : Bool} {o : OpS} (hk : KindI push o) (h : ErrI push o) : ErrI push (stepV C v o).2 := by
  obtain ⟨a, dn, t, u, n, i, en⟩ := o
  cases dn
  case true => rw [stepV_done rfl]; exact h
  have hk' := hk rfl
  have h' := h.2 rfl
  cases push <;> cases a <;> simp only [pushAt, takeAt, Bool.false_eq_true, if_true, if_false, false_and, true_and, ne_eq, reduceCtorEq, not_false_eq_true, not_true_eq_false, false_implies, true_implies] at hk' h'
  all_goals try subst hk'
  all_goals first
    | (simp [stepV, ErrI]; done)
    | (simp [stepV, ErrI]; omega)
    | (simp only [stepV, Bool.false_eq_true, if_false]; split <;> simp [ErrI]; done)
    | (simp only [stepV, Bool.false_eq_true, if_false]; split <;> (try split) <;> simp [ErrI]; done)
theorem item_push {C : Cfg} {v : DV} {o : OpS} (hk : KindI true o) : (stepV C v o).2.item = o.item := by
  obtain ⟨a, dn, t, u, n, i, en⟩ := o
  cases dn
  case true => rw [stepV_done rfl]
  have hk' := (hk rfl).1
  cases a <;> simp only [pushAt, if_true, Bool.false_eq_true] at hk'
  all_goals first
    | (simp [stepV]; done)
    | (simp only [stepV, Bool.false_eq_true, if_false]; split <;> rfl)
/-- What a pop knows behind the slots. -/
def PopI (v : DV) (o : OpS) : Prop :=
  (o.done = true → o.errno = 15 → v.T = v.B ∧ v.N = 0) ∧
  (o.done = false → match o.at_ with
    | .takeLock | .takeCount | .takeCell | .takeCounted => v.T = v.B
    | .free => v.T = v.B ∧ (o.errno = 15 → v.N = 0)
    | _ => True)
theorem pop_own {C : Cfg} {v : DV} {o : OpS} (hki : KindI false o) (hk : o.done = false → ownerAt o.at_ = true) (ho : OwnI v.T v.B o) (hN : 0 ≤ v.N ∧ v.N ≤ C.over) (h : PopI v o) : PopI (stepV C v o).1 (stepV C v o).2 := by
  obtain ⟨a, dn, t, u, n, i, en⟩ := o
  cases dn
  case true => rw [stepV_done rfl]; exact h
  have h' := h.2 rfl
  have hk' := hk rfl
  obtain ⟨q1, q2⟩ := hki rfl
  have hs := stacked_in hN
  cases a <;> simp only [OwnI, Bool.false_eq_true, if_false, takeAt] at ho h' q1 q2
  case stealReadTop => simp [ownerAt] at hk'
  case stealReadBottom => simp [ownerAt] at hk'
  case stealSlot => simp [ownerAt] at hk'
  case stealSwap => simp [ownerAt] at hk'
  case popReadBottom => simp [stepV, PopI]
  case popBottom => simp [stepV, PopI]
  case popReadTop =>
    by_cases hz : v.T < u
    · simp [stepV, PopI, hz]
    · by_cases hy : v.T = u
      · simp [stepV, PopI, hy]
      · simp [stepV, PopI, hz, hy]
  case popSlot => simp [stepV, PopI]
  case popLast => simp [stepV, PopI]
  case popSwap => by_cases hz : v.T = t <;> simp [stepV, PopI, hz]
  case popWon => simp [stepV, PopI]
  case popNothing => simp [stepV, PopI, ho.1]
  case takeLock => by_cases hz : v.L = 0 <;> simp [stepV, PopI, hz, h']
  case takeCount =>
    have e0 : en = 0 := q2 (by simp)
    by_cases hz : stackedOf C v.N = 0
    · have hN0 : v.N = 0 := by omega
      simp [stepV, PopI, hz, h']
      exact hN0
    · simp [stepV, PopI, hz, h']
  case takeCell => simp [stepV, PopI, h']
  case takeCounted =>
    have e0 : en = 0 := q2 (by simp)
    simp [stepV, PopI, h', e0]
  case free =>
    refine ⟨fun _ g => ?_, fun g => ?_⟩
    · simp [stepV] at g ⊢
      exact ⟨h'.1, h'.2 g⟩
    · simp [stepV] at g
/-- A thief's step where nothing is left in the slots: nothing comes of it. -/
theorem thief_none {C : Cfg} {v : DV} {o x : OpS} (hk : x.done = false → thiefAt x.at_ = true) (ht : ThI v.T v.B o x) (hm : ¬ mid o) (e : v.T = v.B) : (stepV C v x).1.T = v.T ∧ (stepV C v x).1.B = v.B := by
  obtain ⟨eb, es, et | ⟨et, g1, g2, g3⟩⟩ := thief_sees (C := C) (v := v) hk
  · exact ⟨et, eb⟩
  · have ht' := ht g1
    rw [g2] at ht'
    rcases ht'.2 g3 with q | q
    · omega
    · exact absurd q.2 hm
theorem thief_empty {C : Cfg} {v : DV} {x : OpS} (hk : x.done = false → thiefAt x.at_ = true) (hs : StkI C v x) (e : v.N = 0) : (stepV C v x).1.N = 0 := by
  obtain ⟨a, dn, t, u, n, i, en⟩ := x
  cases dn
  case true => rw [stepV_done rfl]; exact e
  have hk' := hk rfl
  have hs' := hs rfl
  cases a <;> simp only at hs'
  case stealSwap => by_cases hz : v.T = t <;> simp [stepV, hz, e]
  case takeLock => by_cases hz : v.L = 0 <;> simp [stepV, hz, e]
  case takeCount => by_cases hz : stackedOf C v.N = 0 <;> simp only [stepV, hz, Bool.false_eq_true, if_false, if_true] <;> exact e
  case takeCounted => omega
  all_goals first | (simp [stepV, e]; done) | (simp [thiefAt] at hk')
theorem pop_thief {C : Cfg} {v : DV} {o x : OpS} (hk : x.done = false → thiefAt x.at_ = true) (ht : ThI v.T v.B o x) (hs : StkI C v x) (h : PopI v o) : PopI (stepV C v x).1 o := by
  refine ⟨fun hd g => ?_, fun hd => ?_⟩
  · obtain ⟨e1, e2⟩ := h.1 hd g
    obtain ⟨t1, t2⟩ := thief_none (C := C) hk ht (fun q => by rw [q.1] at hd; cases hd) e1
    exact ⟨by rw [t1, t2, e1], thief_empty hk hs e2⟩
  · have h' := h.2 hd
    obtain ⟨a, dn, t, u, n, i, en⟩ := o
    cases a <;> simp only at h' ⊢
    case free =>
      obtain ⟨t1, t2⟩ := thief_none (C := C) hk ht (fun q => by simp [mid] at q) h'.1
      exact ⟨by rw [t1, t2, h'.1], fun g => thief_empty hk hs (h'.2 g)⟩
    all_goals
      obtain ⟨t1, t2⟩ := thief_none (C := C) hk ht (fun q => by simp [mid] at q) h'
      rw [t1, t2, h']
/-- No owner at work, nothing there. -/
def EmptyV (v : DV) : Prop := v.T = v.B ∧ v.N = 0
theorem empty_thief {C : Cfg} {v : DV} {p : Option Nat → OpS} (h : DI C v p) (hd : (p none).done = true) (j : Nat) (e : EmptyV v) : EmptyV (stepV C v (p (some j))).1 := by
  obtain ⟨t1, t2⟩ := thief_none (C := C) (h.kinds j) (h.thf j) (fun q => by rw [q.1] at hd; cases hd) e.1
  exact ⟨by rw [t1, t2, e.1], thief_empty (h.kinds j) (h.stk (some j)) e.2⟩
def sumL (f : Int → Int) : List Int → Int
  | [] => 0
  | x :: xs => f x + sumL f xs
theorem bot_done {o : OpS} (h : o.done = true) (v : DV) : bot v o = v.B := by unfold bot; rw [h]; rfl
theorem way_new (push : Bool) (f : Int → Int) {st : Stp} (z : Int) (h : st = .pushReadBottom ∨ st = .popReadBottom ∨ st = .stealReadTop) : way push f (opNew st z) = 0 := by
  rcases h with rfl | rfl | rfl <;> cases push <;> simp [way, opNew]
theorem sumTo_upd {g h : Nat → Int} {n k : Nat} (hk : k < n) (e : ∀ j, j < n → j ≠ k → h j = g j) : sumTo h n = sumTo g n + h k - g k := by
  induction n with
  | zero => omega
  | succ m ih =>
    show sumTo h m + h m = sumTo g m + g m + h k - g k
    by_cases q : k = m
    · subst q
      rw [sumTo_congr (g := h) (h := g) (fun j hj => e j (by omega) (by omega))]
      omega
    · rw [ih (by omega) (fun j hj hjk => e j (by omega) hjk), e m (by omega) (fun z => q z.symm)]
      omega
theorem sumTo_nn {g : Nat → Int} : ∀ {n : Nat}, (∀ j, j < n → 0 ≤ g j) → 0 ≤ sumTo g n
  | 0, _ => Int.le_refl _
  | n + 1, h => by
    have := sumTo_nn (g := g) (n := n) (fun j hj => h j (by omega))
    have := h n (by omega)
    show 0 ≤ sumTo g n + g n
    omega
theorem sumTo_ge {g : Nat → Int} {n k : Nat} (hk : k < n) (h : ∀ j, j < n → 0 ≤ g j) : g k ≤ sumTo g n := by
  induction n with
  | zero => omega
  | succ m ih =>
    show g k ≤ sumTo g m + g m
    have := sumTo_nn (g := g) (n := m) (fun j hj => h j (by omega))
    have := h m (by omega)
    by_cases q : k = m
    · subst q; omega
    · have := ih (by omega) (fun j hj => h j (by omega)); omega
theorem sumL_nn {f : Int → Int} (h : ∀ x, 0 ≤ f x) : ∀ l, 0 ≤ sumL f l
  | [] => Int.le_refl _
  | x :: xs => by
    have := sumL_nn h xs
    have := h x
    show 0 ≤ f x + sumL f xs
    omega
theorem sum_full {g : Nat → Int} : ∀ {n : Nat}, (∀ j, g j = 0 ∨ g j = 1) → sumTo g n ≤ n ∧ (sumTo g n = n → ∀ j, j < n → g j = 1)
  | 0, _ => ⟨by simp [sumTo], fun _ j hj => by omega⟩
  | n + 1, h => by
    obtain ⟨a, b⟩ := sum_full (n := n) h
    have hn := h n
    refine ⟨by show sumTo g n + g n ≤ _; omega, fun e j hj => ?_⟩
    have e' : sumTo g n + g n = ((n + 1 : Nat) : Int) := e
    by_cases q : j = n
    · subst q; omega
    · exact b (by omega) j (by omega)
/-- Steps that are left of a take that finds nothing. -/
def remT : Stp → Nat
  | .popReadBottom => 7 | .popBottom => 6 | .popReadTop => 5 | .popSlot => 4 | .popLast => 6 | .popSwap => 5 | .popWon => 4 | .popNothing => 4
  | .stealReadTop => 5 | .stealReadBottom => 4 | .stealSlot => 7 | .stealSwap => 6
  | .takeLock => 3 | .takeCount => 2 | .takeCell => 3 | .takeCounted => 2 | .free => 1
  | _ => 0
/-- Steps to the lock, of a take at that deque. -/
def remL : Stp → Nat
  | .popReadBottom => 4 | .popBottom => 3 | .popReadTop => 2 | .popSlot => 1 | .popLast => 3 | .popSwap => 2 | .popWon => 1 | .popNothing => 1
  | .stealReadTop => 2 | .stealReadBottom => 1 | .stealSlot => 4 | .stealSwap => 3
  | .takeLock => 0
  | _ => 0
/-- What is left of a session at a lock. -/
def sess : Stp → Nat
  | .takeCount => 4 | .takeCell => 3 | .takeCounted => 2 | .free => 1
  | _ => 0
def offD : QStp → Nat
  | .countIn => 5 | .readCount => 4 | .readTop => 3 | .readBottom => 2 | .readStack => 2 | .countOut => 1
theorem step_rem {C : Cfg} {l : List Int} {o : OpS} (hd : o.done = false) (ht : takeAt o.at_ = true) (hd' : (stepOf C l o).2.done = false) :
    remT o.at_ ≤ remT (stepOf C l o).2.at_ + 1 ∧ (sess (stepOf C l o).2.at_ = 0 → remL o.at_ ≤ remL (stepOf C l o).2.at_ + 1) ∧ (sess o.at_ = 0 → 0 < sess (stepOf C l o).2.at_ → o.at_ = .takeLock) ∧ (0 < sess o.at_ → 0 < sess (stepOf C l o).2.at_ ∧ sess (stepOf C l o).2.at_ + 1 ≤ sess o.at_) := by
  obtain ⟨a, dn, t, u, n, i, en⟩ := o
  simp only at hd ht
  subst hd
  cases a <;> simp only [takeAt, Bool.false_eq_true] at ht
  all_goals first
    | (simp [stepOf] at hd'; done)
    | (simp [stepOf, remT, remL, sess]; done)
    | (revert hd'; simp only [stepOf, Bool.false_eq_true, if_false]; split <;> simp [remT, remL, sess]; done)
    | (revert hd'; simp only [stepOf, Bool.false_eq_true, if_false]; split <;> (try split) <;> simp [remT, remL, sess]; done)
theorem step_fails {C : Cfg} {l : List Int} {o : OpS} (hd : o.done = false) (ht : takeAt o.at_ = true) (he : o.at_ = .free → o.errno = 0 ∨ o.errno = 15) (hd' : (stepOf C l o).2.done = true) (hne : (stepOf C l o).2.errno ≠ 0) :
    (o.at_ = .stealSwap ∧ (stepOf C l o).2.errno = 16) ∨ (o.at_ = .free ∧ (stepOf C l o).2.errno = 15) := by
  obtain ⟨a, dn, t, u, n, i, en⟩ := o
  simp only at hd ht he
  subst hd
  cases a <;> simp only [takeAt, Bool.false_eq_true] at ht
  all_goals first
    | (simp [stepOf] at hd'; done)
    | (simp [stepOf] at hne; done)
    | (revert hd' hne; simp only [stepOf, Bool.false_eq_true, if_false]; split <;> simp; done)
    | (revert hd' hne; simp only [stepOf, Bool.false_eq_true, if_false]; split <;> (try split) <;> simp; done)
    | (simp [stepOf] at hd' hne ⊢; have := he rfl; omega)
theorem off_step {Q : QC} {l : List Int} {o : OfS} (h0 : o.state = 0) (h1 : (stepQ Q l o).2.state ≠ 1) (h2 : (stepQ Q l o).2.state ≠ 2) : offD o.at_ ≤ offD (stepQ Q l o).2.at_ + 1 := by
  obtain ⟨a, st, k, t⟩ := o
  simp only at h0
  subst h0
  cases a
  case countIn => simp [stepQ, offD]
  case readCount =>
    by_cases hc : cnt Q l = Q.n
    · exact absurd (by simp [stepQ, hc]) h2
    · simp only [stepQ, hc, if_true, if_false, lookQ]
      split <;> simp [offD]
  case readTop => simp [stepQ, offD]
  case readBottom =>
    simp only [stepQ, if_true]
    split <;> simp [offD]
  case readStack =>
    by_cases hc : 0 < rd (cOf Q k) l 3
    · simp [stepQ, hc, offD]
    · simp only [stepQ, hc, if_true, if_false, lookQ]
      split <;> simp [offD]
  case countOut => exact absurd (by simp [stepQ]) h1
theorem off_one {Q : QC} {l : List Int} {o : OfS} (h0 : o.state = 0) (h1 : (stepQ Q l o).2.state = 1) : o.at_ = .countOut := by
  obtain ⟨a, st, k, t⟩ := o
  simp only at h0
  subst h0
  cases a
  all_goals first
    | rfl
    | (simp [stepQ] at h1; done)
    | (revert h1; simp only [stepQ, if_true]; split <;> simp [lookQ]; done)
def sumN (g : Nat → Nat) : Nat → Nat
  | 0 => 0
  | n + 1 => sumN g n + g n
theorem sumN_le {g h : Nat → Nat} : ∀ {n : Nat}, (∀ j, j < n → g j ≤ h j) → sumN g n ≤ sumN h n
  | 0, _ => Nat.le_refl _
  | n + 1, e => Nat.add_le_add (sumN_le (fun j hj => e j (by omega))) (e n (by omega))
theorem sumN_lt {g h : Nat → Nat} : ∀ {n k : Nat}, k < n → (∀ j, j < n → g j ≤ h j) → g k + 1 ≤ h k → sumN g n + 1 ≤ sumN h n
  | 0, _, hk, _, _ => by omega
  | n + 1, k, hk, e, hs => by
    show sumN g n + g n + 1 ≤ sumN h n + h n
    by_cases hkn : k = n
    · subst hkn
      have := sumN_le (n := k) (fun j hj => e j (by omega))
      omega
    · have := sumN_lt (n := n) (k := k) (by omega) (fun j hj => e j (by omega)) hs
      have := e n (by omega)
      omega
def posO : Stp → Nat
  | .pushReadBottom => 7 | .pushReadTop => 6 | .pushSlot => 2 | .pushBottom => 1 | .pushLock => 5 | .pushCount => 4 | .pushCell => 3 | .pushCounted => 2 | .free => 1
  | .popReadBottom => 11 | .popBottom => 10 | .popReadTop => 9 | .popSlot => 1 | .popLast => 8 | .popSwap => 7 | .popWon => 1 | .popNothing => 6
  | .takeLock => 5 | .takeCount => 4 | .takeCell => 3 | .takeCounted => 2
  | _ => 12
theorem pos_step {C : Cfg} {l : List Int} {o : OpS} (hd : o.done = false) (ho : ownerAt o.at_ = true) (hd' : (stepOf C l o).2.done = false) :
    posO (stepOf C l o).2.at_ < posO o.at_ ∨ ((stepOf C l o).2 = o ∧ rd C l 2 ≠ 0 ∧ (o.at_ = .pushLock ∨ o.at_ = .takeLock)) := by
  obtain ⟨a, dn, t, u, n, i, en⟩ := o
  simp only at hd ho
  subst hd
  cases a <;> simp only [ownerAt, Bool.false_eq_true] at ho
  all_goals first
    | (simp [stepOf] at hd'; done)
    | (simp [stepOf, posO]; done)
    | (revert hd'; simp only [stepOf, Bool.false_eq_true, if_false]; split <;> simp_all [posO]; done)
    | (revert hd'; simp only [stepOf, Bool.false_eq_true, if_false]; split <;> (try split) <;> simp_all [posO]; done)
theorem sumN_ge {g : Nat → Nat} : ∀ {n k : Nat}, k < n → g k ≤ sumN g n
  | 0, _, hk => by omega
  | n + 1, k, hk => by
    show g k ≤ sumN g n + g n
    by_cases e : k = n
    · subst e; omega
    · have := sumN_ge (g := g) (n := n) (k := k) (by omega); omega
theorem sumTo_const (g : Nat → Int) (c : Int) : ∀ n, (∀ j, g j = c) → sumTo g n = c * n
  | 0, _ => by simp [sumTo]
  | n + 1, h => by
    show sumTo g n + g n = _
    rw [sumTo_const g c n h, h n]
    simp [Int.mul_add]
theorem sumTo_zero {g : Nat → Int} : ∀ {n : Nat}, (∀ j, j < n → g j = 0) → sumTo g n = 0
  | 0, _ => rfl
  | n + 1, h => by
    show sumTo g n + g n = 0
    rw [sumTo_zero (fun j hj => h j (by omega)), h n (by omega)]
    rfl
theorem sumL_zero {f : Int → Int} : ∀ {l : List Int}, (∀ x, x ∈ l → f x = 0) → sumL f l = 0
  | [], _ => rfl
  | x :: xs, h => by
    show f x + sumL f xs = 0
    rw [h x (by simp), sumL_zero (fun y hy => h y (by simp [hy]))]
    rfl
theorem sumTo_many {g : Nat → Int} (h : ∀ j, 1 ≤ g j) : ∀ n : Nat, (n : Int) ≤ sumTo g n
  | 0 => Int.le_refl _
  | n + 1 => by
    show ((n + 1 : Nat) : Int) ≤ sumTo g n + g n
    have := sumTo_many h n
    have := h n
    omega
theorem top_op {C : Cfg} {l : List Int} {o : OpS} (hd : o.done = false) (h1 : ¬ ((stepOf C l o).2.done = false ∧ (stepOf C l o).2.at_ = .popWon)) (h2 : ¬ ((stepOf C l o).2.done = true ∧ (stepOf C l o).2.errno = 0)) : rd C (stepOf C l o).1 0 = rd C l 0 := by
  obtain ⟨a, dn, t, u, n, i, en⟩ := o
  simp only at hd
  subst hd
  have hw : ∀ b x, 0 < b → rd C (wr C l b x) 0 = rd C l 0 := fun b x hb => rd_wr_ne C l b 0 x (by omega)
  cases a
  case popSwap =>
    by_cases g : rd C l 0 = t
    · exact absurd (by simp [stepOf, g]) h1
    · simp [stepOf, g]
  case stealSwap =>
    by_cases g : rd C l 0 = t
    · exact absurd (by simp [stepOf, g]) h2
    · simp [stepOf, g]
  all_goals first
    | rfl
    | (simp only [stepOf, Bool.false_eq_true, if_false]; first | exact hw _ _ (by omega) | (unfold slotOf; exact hw _ _ (by omega)))
    | (simp only [stepOf, Bool.false_eq_true, if_false]; split <;> first | rfl | exact hw _ _ (by omega))
def baseS : Stp → Nat
  | .stealReadTop => 11 | .stealReadBottom => 10 | .stealSlot => 9 | .stealSwap => 8 | .takeLock => 5 | .takeCount => 4 | .takeCell => 3 | .takeCounted => 2 | .free => 1
  | _ => 12
def staleS (τ : Int) (o : OpS) : Nat := if (o.at_ = .stealReadBottom ∨ o.at_ = .stealSlot ∨ o.at_ = .stealSwap) ∧ o.top ≠ τ then 20 else 0
theorem steal_step {C : Cfg} {l : List Int} {o : OpS} (hd : o.done = false) (ht : thiefAt o.at_ = true) (hd' : (stepOf C l o).2.done = false) :
    baseS (stepOf C l o).2.at_ + staleS (rd C l 0) (stepOf C l o).2 < baseS o.at_ + staleS (rd C l 0) o ∨ ((stepOf C l o).2 = o ∧ rd C l 2 ≠ 0 ∧ o.at_ = .takeLock) := by
  obtain ⟨a, dn, t, u, n, i, en⟩ := o
  simp only at hd ht
  subst hd
  cases a <;> simp only [thiefAt, Bool.false_eq_true] at ht
  case stealReadTop => left; simp [stepOf, baseS, staleS]
  case stealReadBottom =>
    left
    simp only [stepOf, Bool.false_eq_true, if_false]
    split <;> simp [baseS, staleS] <;> split <;> omega
  case stealSlot => left; simp [stepOf, baseS, staleS]
  case stealSwap => revert hd'; simp only [stepOf, Bool.false_eq_true, if_false]; split <;> simp
  case takeLock =>
    by_cases g : rd C l 2 = 0
    · left; simp [stepOf, g, baseS, staleS]
    · right; simp [stepOf, g]
  case takeCount =>
    left
    simp only [stepOf, Bool.false_eq_true, if_false]
    split <;> simp [baseS, staleS]
  case takeCell => left; simp [stepOf, baseS, staleS]
  case takeCounted => left; simp [stepOf, baseS, staleS]
  case free => simp [stepOf] at hd'
end Go.Proofs.YtgbclfhgpkmcnaaGreatDoor

/-
  What the laws of package quiet share: New, Offer, Idle; the count with no deques, and with one more.
-/
namespace Go.Proofs.YtgbclfhgpkmcnaaGreatDoor
open Go.RowKit

theorem qnew_ok (w : World) (p q : Nat) (l : List Int) (s : Int) (at_ n : Nat) (ha : at_ < l.length) (hm : l.length ≤ 65536) (hn : 1 ≤ n ∧ n ≤ 64) (h : Mem w p q l s) :
    Calls Tryz.prog 52 #[.pointer (some ⟨p, 0, none⟩), .int .i64 at_, .int .i64 n] w fun e w' => e = .returned (.tuple #[.pointer (some ⟨w.heap.size, 0, none⟩), .int .i64 0]) ∧ Sh w' w.heap.size p q [] ⟨at_, n, []⟩ l s ∧ Turned [] w w' ∧ w'.heap.size = w.heap.size + 1 := by
  have HL := hide (len_mem p q l s w h)
  have h1 : ¬ ((at_ : Int) < 0) := by omega
  have h2 : ¬ ((l.length : Int) ≤ (at_ : Int)) := by omega
  have h3 : ¬ ((n : Int) < 1) := by omega
  have h4 : ¬ ((64 : Int) < (n : Int)) := by omega
  have t0 : Turned [] w (w.alloc (.cells #[.pointer (some ⟨p, 0, none⟩), .int .i64 at_, .int .i64 n] 136)) := (Turned.refl _ _).alloc _
  have HD : Hid (Sh (w.alloc (.cells #[.pointer (some ⟨p, 0, none⟩), .int .i64 at_, .int .i64 n] 136)) w.heap.size p q [] ⟨at_, n, []⟩ l s) :=
    ⟨heap_alloc_new _ _, ha, hm, hn, by simp, h.turned t0 (by simp) (by simp), fun i d hi => by simp at hi⟩
  clear h
  generalize hn : l.length = ll at *
  clear hn
  go_enter Tryz.func52, Tryz.ntmps52
  go_wp2_with fail
  refine HL.out.mono ?_
  rintro e w1 ⟨rfl, rfl⟩
  go_wp2_with fail
  all_goals first | (go_ret2; exact ⟨rfl, HD.out, t0, by simp⟩) | (rename_i hx; exfalso; rcases hx with (hx | hx) | hx <;> first | omega | (simp at hx; try omega))

/-- One deque more. -/
theorem Sh.add {w w' : World} {a p q d : Nat} {ds : List Nat} {Q : QC} {l : List Int} {s : Int} {C : Cfg} (h : Sh w a p q ds Q l s) (hd : Dq w' d p q C l s) (t : Turned [] w w') (hlen : ds.length < 64) : Sh w' a p q (ds ++ [d]) { Q with cs := Q.cs ++ [C] } l s := by
  have h1 := h.turned t (by simp) (by simp) (by simp) (by simp)
  refine ⟨h1.head, h1.cell, h1.most, h1.n, ⟨by simp [h1.len.1], by simp; omega⟩, h1.mem, fun i x hi => ?_⟩
  by_cases hlt : i < ds.length
  · rw [List.getElem?_append_left hlt] at hi
    have := h1.dq i x hi
    have e : cOf { Q with cs := Q.cs ++ [C] } i = cOf Q i := by
      unfold cOf
      simp only [List.getD_eq_getElem?_getD]
      rw [List.getElem?_append_left (by have := h1.len.1; omega)]
    rw [e]
    exact this
  · have hi' : i = ds.length := by
      have := (List.getElem?_eq_some_iff.1 hi).1
      simp at this
      omega
    subst hi'
    simp at hi
    subst hi
    have e : cOf { Q with cs := Q.cs ++ [C] } ds.length = C := by
      unfold cOf
      simp only [List.getD_eq_getElem?_getD]
      rw [h1.len.1, List.getElem?_append_right (Nat.le_refl _)]
      simp
    rw [e]
    exact hd

def pd (d : Nat) : Value := .pointer (some ⟨d, 0, none⟩)
theorem Tryz.infoDq : (Tryz.prog.info? 120).map (fun i => (i.zero, i.size, i.bytes)) = some (some (.pointer none), 1, 8) := by kernel_rfl

theorem clone_dqs (b off n c : Nat) (l : List Nat) (w : World) (hl : l.length = n) (hn : n ≤ 65536) (hc : ∀ i x, l[i]? = some x → w.cell? ⟨b, off + i, none⟩ = some (pd x)) (h0 : 0 < n) :
    Calls Tryz.prog 94 #[.slice (some ⟨b, off, none⟩) n c] w fun e w' => ∃ v, e = .returned v ∧ w'.ownsRow w.heap.size 120 1 v n (l.map pd) ∧ Turned [] w w' := by
  have und : Tryz.prog.underlying 84 = some (.slice 120) := by kernel_rfl
  have heq := fun w => Lib.run_eql_slice_nil (P := Tryz.prog) w 84 120 (some ⟨b, off, none⟩) n c 0 0 und
  have hbs : ∀ w : World, (Instr.buildSlice 84 0 #[]).run Tryz.prog w = .ok (.slice (some ⟨w.heap.size, 0, none⟩) 0 0) (w.alloc (.cells #[] 120)) := fun _ => by kernel_rfl
  have hcl : ∀ j u, (l.map pd)[j]? = some u → (w.alloc (.cells #[] 120)).cell? (Addr.add ⟨b, off, none⟩ j) = some u := by
    intro j u hu
    rw [List.getElem?_map] at hu
    obtain ⟨x, hx, rfl⟩ := Option.map_eq_some_iff.1 hu
    have h1 := hc j x hx
    have h2 := block_lt h1
    rw [show Addr.add ⟨b, off, none⟩ j = ⟨b, off + j, none⟩ by simp [Addr.add]]
    rw [World.cell?_of_block (w := w) (Below.heap_alloc _ _ _ h2)]
    exact h1
  have HC : Hid (∀ j u, (l.map pd)[j]? = some u → (w.alloc (.cells #[] 120)).cell? (Addr.add ⟨b, off, none⟩ j) = some u) := hcl
  have HL : Hid (l.length = n) := hl
  clear hc hl hcl
  obtain ⟨i0, hi, hi0⟩ := Option.map_eq_some_iff.1 Tryz.infoDq
  simp only [Prod.mk.injEq] at hi0
  obtain ⟨hz0, hz1, hz2⟩ := hi0
  go_enter Tryz.func94, Tryz.ntmps94
  go_wp2_with (at_builtin; (refine wpList_append_grows _ rfl _ _ 84 rfl 120 i0 (.pointer none) 1 8 und hi hz0 hz1 hz2 rfl (by decide) (some ⟨w.heap.size, 0, none⟩) 0 0 [] rfl (by intro h; cases h) rfl (by intro b hb j u hu; simp at hu) ⟨b, off, none⟩ n c (l.map pd) rfl (by simp [Hid.out HL]) HC.out (by intro u hu; obtain ⟨x, _, rfl⟩ := List.mem_map.1 hu; rfl) (by omega) (by unfold maxLen; omega) (by omega) ?_); intro v' w3 hown hgr)
  go_ret
  simp only [Nat.zero_add, List.nil_append] at hown
  exact ⟨_, rfl, ownsRow_mono hown (by simp), ((Turned.refl _ _).alloc _).grown hgr (fun k hk => by cases hk)⟩

section
variable (w : World) (a p q b : Nat) (ds : List Nat) (Q : QC) (l : List Int) (s : Int)

theorem qnone_any (h : Sh w a p q ds Q l s) :
    Calls Tryz.prog 92 #[.pointer (some ⟨a, 0, none⟩)] w fun e w' => e = .returned (.bool false) ∧ w' = w := by
  have h2 := h.c2
  have hc := h.n
  have hz : ¬ ((Q.n : Int) = 0) := by omega
  clear h
  go_enter Tryz.func92, Tryz.ntmps92
  go_wp2_with fail
  all_goals (go_ret; exact ⟨by simp; omega, rfl⟩)

/-- An offer at its beginning. -/
def ofNew : OfS := ⟨.countIn, 0, 0, 0⟩

theorem offer_any (g off c : Nat) (hne : 0 < ds.length) (hc : ∀ i x, ds[i]? = some x → w.cell? ⟨g, off + i, none⟩ = some (pd x)) (h : Sh w a p q ds Q l s) :
    Calls Tryz.prog 82 #[.pointer (some ⟨a, 0, none⟩), .slice (some ⟨g, off, none⟩) ds.length c] w fun e w' => ∃ b, e = .returned (.pointer (some ⟨b, 0, none⟩)) ∧ w.heap.size ≤ b ∧ OfB w' b a ds ofNew ∧ Turned [] w w' := by
  have H := hide (qnone_any w a p q ds Q l s h)
  have HC := hide (clone_dqs g off ds.length c ds w rfl (by have := h.len; omega) hc hne)
  have HE := hide hne
  generalize hm : ds.length = m at *
  have HM := hide hm
  clear h hc hne hm
  go_enter Tryz.func82, Tryz.ntmps82
  go_wp2_with fail
  refine H.out.mono ?_
  rintro e w1 ⟨rfl, rfl⟩
  clear H
  go_wp2_with fail
  refine HC.out.mono ?_
  rintro e w2 ⟨v, rfl, ho, ht⟩
  obtain ⟨g2, cap2, rfl, h1, h2, _, h3, _, ⟨cc, h4⟩⟩ := ownsRow_open ho HE.out
  have HH := hide (And.intro h1 (And.intro h2 (And.intro h3 (And.intro h4 ht))))
  clear HC ho ht h1 h2 h3 h4
  go_wp2_with fail
  go_ret
  obtain ⟨h1, h2, h3, h4, ht⟩ := HH.out
  refine ⟨_, rfl, ht.size, ?_, ht.alloc _⟩
  have e := HM.out
  subst e
  refine ⟨g2, cap2, heap_alloc_new _ _, ⟨cc, _, by rw [Below.heap_alloc _ _ _ h2]; exact h4⟩, fun i d hi => ?_⟩
  rw [World.cell?_of_block (w := w2) (Below.heap_alloc _ _ _ h2)]
  exact h3 i _ (by rw [List.getElem?_map, hi]; rfl)

/-- The words of one cell. -/
theorem words_one (h : Sh w a p q ds Q l s) : Calls Tryz.prog 23 #[.pointer (some ⟨p, 0, none⟩), .int .i64 Q.at_, .int .i64 (IntKind.i64.wrap ((Q.at_ : Int) + 1))] w fun e w2 => ∃ g cap, e = .returned (.slice (some ⟨g, 0, none⟩) 1 cap) ∧ w2.cell? ⟨g, 0, none⟩ = some (.int .i64 (cnt Q l)) ∧ Turned [] w w2 := by
  have hc := h.cell
  have hm := h.most
  rw [show IntKind.i64.wrap ((Q.at_ : Int) + 1) = ((Q.at_ + 1 : Nat) : Int) by rw [IntKind.wrap_i64]; omega]
  refine (words_mem p q l s Q.at_ ((Q.at_ + 1 : Nat) : Int) w h.most h.mem).mono ?_
  rintro e w2 ⟨v, rfl, ho, ht⟩
  have e1 : (min (max ((Q.at_ + 1 : Nat) : Int) 0) (l.length : Int)).toNat = Q.at_ + 1 := by omega
  have e2 : (min (max (Q.at_ : Int) 0) (l.length : Int)).toNat = Q.at_ := by omega
  rw [e1, e2] at ho
  have e3 : (l.take (Q.at_ + 1)).drop Q.at_ = [cnt Q l] := by
    apply List.ext_getElem?
    intro i
    rw [List.getElem?_drop]
    by_cases hi : i = 0
    · subst hi
      rw [List.getElem?_take_of_lt (by omega)]
      simpa using h.at
    · rw [List.getElem?_eq_none (by simp; omega), List.getElem?_eq_none (by simp; omega)]
  rw [e3] at ho
  obtain ⟨g, cap, rfl, _, _, _, h3, _⟩ := ownsInts_open ho (by simp)
  exact ⟨g, cap, rfl, h3 0 _ rfl, ht⟩

end

/-- The count and the deques, however many accesses were counted. -/
def Sx (w : World) (a p q : Nat) (ds : List Nat) (Q : QC) (l : List Int) : Prop := ∃ s, Sh w a p q ds Q l s
section
variable {w w' : World} {a p q b : Nat} {ds : List Nat} {Q : QC} {l : List Int}
theorem Sx.turned (h : Sx w a p q ds Q l) {S : List Nat} (t : Turned S w w') (ha : a ∉ S) (hp : p ∉ S) (hq : q ∉ S) (hd : ∀ d, d ∈ ds → d ∉ S) : Sx w' a p q ds Q l := by
  obtain ⟨s, h⟩ := h
  exact ⟨s, h.turned t ha hp hq hd⟩
theorem Sx.turned0 (h : Sx w a p q ds Q l) (t : Turned [] w w') : Sx w' a p q ds Q l := h.turned t (by simp) (by simp) (by simp) (by simp)

/-- A step, by what it comes to. -/
theorem Sx.step (h : Sx w a p q ds Q l) {o o' : OfS} {l' : List Int} (ho : OfB w b a ds o) (hb : -1000000 ≤ cnt Q l ∧ cnt Q l ≤ 1000000) (hk : QOk Q o) (hr : stepQ Q l o = (l', o')) :
    Calls Tryz.prog 95 #[.pointer (some ⟨b, 0, none⟩)] w fun e w' => e = .returned (.int .i64 o'.state) ∧ Sx w' a p q ds Q l' ∧ OfB w' b a ds o' ∧ Turned [p, q, b] w w' := by
  obtain ⟨s, h⟩ := h
  refine (qstep_any w a p q b ds Q l s o hb hk h ho).mono ?_
  rintro e w' ⟨rfl, h1, h2, h3⟩
  rw [hr] at h1 h2
  exact ⟨by rw [hr], h1, h2, h3⟩

/-- Another offer stays through a step. -/
theorem OfB.other (h : Sx w a p q ds Q l) {o o2 : OfS} {b2 : Nat} (h1 : OfB w b a ds o) (h2 : OfB w b2 a ds o2) (hne : b2 ≠ b) (t : Turned [p, q, b] w w') : OfB w' b2 a ds o2 := by
  obtain ⟨s, h⟩ := h
  obtain ⟨c1, t1⟩ := h1.type
  obtain ⟨c2, t2⟩ := h2.type
  refine h2.turned t (by simp; exact ⟨ne_of_type t2 h.mem.head (by decide), ne_of_type t2 h.mem.row (by decide), hne⟩) (fun k hk => ?_)
  simp at hk
  rcases hk with rfl | rfl | rfl
  · exact noRow h.mem.head (by decide)
  · exact noRow h.mem.row (by decide)
  · exact noRow t1 (by decide)
end
end Go.Proofs.YtgbclfhgpkmcnaaGreatDoor
