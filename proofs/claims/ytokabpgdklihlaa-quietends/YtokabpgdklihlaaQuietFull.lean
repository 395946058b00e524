/-
  The crew of QuietEnds without memory: no push is refused ('Cap', 'Cap.noFull', 'Cap.step'). No Go is walked here.
-/
import Derived.Test.YtokabpgdklihlaaQuietCap
namespace Go.Proofs.Ytokabpgdklihlaa
set_option linter.unusedVariables false

/-- A push that finds room has no error, raises the count at its end alone. -/
theorem push_err {C : Cfg} {v : DV} {o : OpS} (hk : KindI true o) (hs : StkI C v o) (hN : 0 ≤ v.N ∧ v.N ≤ C.over) (hlt : v.N < C.over) (he : o.errno = 0) :
    (stepV C v o).2.errno = 0 ∧ v.N ≤ (stepV C v o).1.N ∧ ((stepV C v o).1.N = v.N ∨ ((stepV C v o).1.N = v.N + 1 ∧ (stepV C v o).2.done = false ∧ (stepV C v o).2.at_ = .free)) := by
  obtain ⟨a, dn, t, u, n, i, en⟩ := o
  have he' : en = 0 := he
  subst he'
  cases dn
  case true => rw [stepV_done rfl]; simp
  have hk' := (hk rfl).1
  have hs' := hs rfl
  have hst := stacked_in hN
  cases a <;> simp only [pushAt, if_true, Bool.false_eq_true] at hk' hs'
  case pushLock => by_cases hz : v.L = 0 <;> simp [stepV, hz]
  case pushCount =>
    have hz : ¬ C.over ≤ stackedOf C v.N := by omega
    simp [stepV, hz]
  case pushCounted => simp [stepV]; omega
  all_goals simp [stepV]

/-- What is known of worker k's own deque, for the room in it. -/
def CapW (n : Nat) (l : List Int) (X : Nat → WkS) (k : Nat) : Prop :=
  match (X k).act with
  | .none => (viewOf (cOf (QE n) k) l).N = 0 ∧ (X k).hands.length ≤ 8
  | .op i o => (X k).kind ≤ 1 → ((X k).kind = 0 → o.errno = 0) ∧ ∃ m : Nat, m ≤ 8 ∧ (m : Int) ≤ (viewOf (cOf (QE n) k) l).N ∧
      (((X k).kind = 0 ∧ (viewOf (cOf (QE n) k) l).N = m ∧ m + (X k).hands.length ≤ 8 + (if o.at_ = .free then 1 else 0)) ∨
       ownV (cOf (QE n) k) (viewOf (cOf (QE n) k) l) m (bot (viewOf (cOf (QE n) k) l) (partOf X k none)) + hasW pw (X k) ≤ 48)
  | .offer _ => True
def Cap (n : Nat) (S : GS) : Prop := ∀ k, k < n → CapW n S.l S.X k

theorem cap_lt {n : Nat} {S : GS} (h : Crew n S) (hC : Cap n S) {k i : Nat} {o : OpS} (hk : k < n) (ha : (S.X k).act = .op i o) (h1 : (S.X k).kind ≤ 1) : (viewOf (cOf (QE n) k) S.l).N < 80 := by
  have hc := hC k hk
  unfold CapW at hc
  rw [ha] at hc
  obtain ⟨_, m, m8, mN, q | q⟩ := hc h1
  · omega
  · have hw := hasW_nn pw_nn (h.shape k hk)
    have hr := ring_nn (cOf (QE n) k) (viewOf (cOf (QE n) k) S.l) (bot (viewOf (cOf (QE n) k) S.l) (partOf S.X k none))
    unfold ownV at q
    have hm := stack_more (viewOf (cOf (QE n) k) S.l).k m ((viewOf (cOf (QE n) k) S.l).N - m).toNat
    rw [show ((m + ((viewOf (cOf (QE n) k) S.l).N - m).toNat : Nat) : Int) = (viewOf (cOf (QE n) k) S.l).N by omega] at hm
    omega

theorem Cap.noFull {n : Nat} {S : GS} (h : Crew n S) (hC : Cap n S) {k : Nat} (hk : k < n) : NoFull n S k := by
  intro i o ha k0 _
  have hsh := h.shape k hk
  have hc := hC k hk
  have hlt := cap_lt h hC hk ha (by omega)
  unfold ShapeW at hsh
  unfold CapW at hc
  rw [ha] at hsh hc
  simp only at hsh hc
  obtain ⟨_, hd, hi, hct, hki, hei, hway⟩ := hsh
  have hik : i = k := by omega
  subst hik
  have hn4 := h.n4
  have hl4 := h.len
  have hr : (cOf (QE n) i).base + (4 + (cOf (QE n) i).cap + (cOf (QE n) i).over) ≤ S.l.length := by rw [cOf_QE hi]; simp only; omega
  have hcap : 1 ≤ (cOf (QE n) i).cap := by rw [cOf_QE hi]; simp
  obtain ⟨v1, v2⟩ := view_step hr hcap hct
  have hp := part_act ha (fun _ => rfl)
  unfold roleOf at hp
  rw [if_pos (by omega)] at hp
  have hD := h.wells i hi
  have hs := hD.stk none
  rw [hp] at hs
  have hb : ((S.X i).kind == 0) = true := by simp [k0]
  rw [hb] at hki
  rw [v2]
  exact (push_err hki hs hD.stkN (by rw [cOf_QE hi]; rw [cOf_QE hi] at hlt; exact hlt) ((hc (by omega)).1 k0)).1

theorem cap_next {n : Nat} {l : List Int} {X : Nat → WkS} {k : Nat} {y : WkS} {af : Int} {m : Nat} (m8 : m ≤ 8) (mN : (m : Int) ≤ (viewOf (cOf (QE n) k) l).N) (hs : ownV (cOf (QE n) k) (viewOf (cOf (QE n) k) l) m (viewOf (cOf (QE n) k) l).B + sumL pw y.hands ≤ 48) : CapW n l (updX X k (nextS n k y af)) k := by
  have hh := has_next pw n k y af
  have hb : bot (viewOf (cOf (QE n) k) l) (partOf (updX X k (nextS n k y af)) k none) = (viewOf (cOf (QE n) k) l).B := by
    show bot _ (ownOp (updX X k (nextS n k y af) k) k) = _
    rw [updX_at]
    exact bot_next n k y af _
  unfold CapW
  rw [hb, updX_at, hh]
  have he : ∀ i o, (nextS n k y af).act = .op i o → o.errno = 0 := by
    intro i o e
    unfold nextS at e
    split at e
    · cases e; rfl
    · split at e
      · cases e; rfl
      · split at e
        · cases e; rfl
        · cases e
  cases ha : (nextS n k y af).act with
  | none =>
    exfalso
    unfold nextS at ha
    split at ha
    · cases ha
    · split at ha
      · cases ha
      · split at ha <;> cases ha
  | offer o => trivial
  | op i o => exact fun _ => ⟨fun _ => he i o ha, m, m8, mN, .inr hs⟩

/-- An empty deque, and little in hands. -/
theorem cap_empty {n : Nat} {l : List Int} {X : Nat → WkS} {k : Nat} {y : WkS} {af : Int} (e : EmptyV (viewOf (cOf (QE n) k) l)) (hs : sumL pw y.hands ≤ 48) : CapW n l (updX X k (nextS n k y af)) k := by
  refine cap_next (m := 0) (by omega) (by rw [e.2]; simp) ?_
  unfold ownV ringW
  rw [e.1, e.2]
  simp [sumTo]
  exact hs
theorem cap_ne {n : Nat} {l : List Int} {X : Nat → WkS} {k j : Nat} (x : WkS) (hj : j ≠ k) (h : CapW n l X j) : CapW n l (updX X k x) j := by
  have e : partOf (updX X k x) j none = partOf X j none := by simp only [partOf, updX_ne _ _ hj]
  unfold CapW at h ⊢
  rw [updX_ne _ _ hj, e]
  exact h
theorem cap_all {n : Nat} {l : List Int} {X : Nat → WkS} {k : Nat} {x : WkS} (h : ∀ j, j < n → j ≠ k → CapW n l X j) (hx : CapW n l (updX X k x) k) : ∀ j, j < n → CapW n l (updX X k x) j := by
  intro j hj
  by_cases e : j = k
  · subst e; exact hx
  · exact cap_ne x e (h j hj e)

theorem Cap.step {n : Nat} {S : GS} (h : Crew n S) (hE : Emp n S) (ho : totF outF n S.l S.X = 0) (hC : Cap n S) {k : Nat} (hk : k < n) : Cap n (stepG (QE n) n S k) := by
  have hf := Cap.noFull h hC hk
  obtain ⟨_, hin, _⟩ := h.inside hk hf ho
  have hsh := h.shape k hk
  have hEk := hE k hk
  have hCk := hC k hk
  have hEs := Emp.step h hE hk hf
  unfold Cap
  unfold stepG
  by_cases he : (S.X k).ended = true
  · rw [if_pos he]; exact hC
  rw [if_neg he]
  have he' : (S.X k).ended = false := by simpa using he
  unfold ShapeW at hsh
  unfold EmpW at hEk
  unfold CapW at hCk
  cases ha : (S.X k).act with
  | none =>
    rw [ha] at hCk
    simp only at hCk ⊢
    refine cap_all (fun j hj _ => hC j hj) ?_
    cases hh : (S.X k).hands with
    | nil =>
      refine cap_next (m := 0) (by omega) (by rw [hCk.1]; simp) ?_
      have hr := (h.wells k hk).room
      rw [show partOf S.X k none = opDone by simp [partOf, ownOp, ha], bot_done rfl] at hr
      have hl := ring_le (cOf (QE n) k) (viewOf (cOf (QE n) k) S.l) (viewOf (cOf (QE n) k) S.l).B
      rw [cOf_QE hk] at hr hl
      unfold ownV
      rw [cOf_QE hk] at hCk ⊢
      rw [hCk.1, hh]
      simp only [sumL] at hl hr ⊢
      rw [show ((0 : Nat) : Int) = 0 from rfl]
      omega
    | cons y ys =>
      have e : nextS n k (S.X k) 0 = { S.X k with kind := 0, act := .op k (opNew .pushReadBottom y) } := by unfold nextS; simp only [hh]
      rw [e]
      unfold CapW
      rw [updX_at]
      have := hCk.2
      refine fun _ => ⟨fun _ => rfl, 0, by omega, by rw [hCk.1]; simp, .inl ⟨rfl, by rw [hCk.1]; rfl, ?_⟩⟩
      simp [opNew]
      exact this
  | offer o =>
    rw [ha] at hsh hEk
    simp only at hsh hEk ⊢
    have hC' : ∀ j, j < n → j ≠ k → CapW n (stepQ (QE n) S.l o).1 S.X j := fun j hj _ => by
      have := hC j hj
      unfold CapW at this ⊢
      rw [view_stepQ hj]
      exact this
    refine cap_all hC' ?_
    by_cases e2 : (stepQ (QE n) S.l o).2.state = 2
    · rw [if_pos e2]; unfold CapW; rw [updX_at]; trivial
    · rw [if_neg e2]
      by_cases e1 : (stepQ (QE n) S.l o).2.state = 1
      · rw [if_pos e1]
        refine cap_empty (by rw [view_stepQ hk]; exact hEk) ?_
        simp [hsh.1, sumL]
      · rw [if_neg e1]; unfold CapW; rw [updX_at]; trivial
  | op i o =>
    rw [ha] at hsh hEk hCk
    simp only at hsh hEk hCk ⊢
    obtain ⟨_, hd, hi, hc, hki, hei, hway⟩ := hsh
    have hw : (S.X k).kind ≤ 1 → i = k := fun g => by omega
    have hn4 := h.n4
    have hl4 := h.len
    have hp := part_act ha hw
    have hr : (cOf (QE n) i).base + (4 + (cOf (QE n) i).cap + (cOf (QE n) i).over) ≤ S.l.length := by rw [cOf_QE hi]; simp only; omega
    have hcap : 1 ≤ (cOf (QE n) i).cap := by rw [cOf_QE hi]; simp
    obtain ⟨v1, v2⟩ := view_step hr hcap hc
    have hD := h.wells i hi
    have hoth : ∀ j, j < n → j ≠ i → viewOf (cOf (QE n) j) (stepOf (cOf (QE n) i) S.l o).1 = viewOf (cOf (QE n) j) S.l := fun j hj hji => by
      refine view_other hc hcap ?_
      rw [cOf_QE hi, cOf_QE hj]; simp only; omega
    have hthf : 2 ≤ (S.X k).kind → partOf S.X i (some k) = o := fun g => by
      unfold roleOf at hp
      rw [if_neg (by omega)] at hp
      exact hp
    have hC' : ∀ j, j < n → j ≠ k → CapW n (stepOf (cOf (QE n) i) S.l o).1 S.X j := fun j hj hjk => by
      have hCj := hC j hj
      by_cases hji : j = i
      · subst hji
        have hk2 : 2 ≤ (S.X k).kind := by
          rcases (show (S.X k).kind ≤ 1 ∨ 2 ≤ (S.X k).kind by omega) with q | q
          · exact absurd (hw q) hjk
          · exact q
        have hpk := hthf hk2
        have hb : ((S.X k).kind == 0) = false := by simp; omega
        rw [hb] at hki
        have ct : ∀ m : Nat, (m : Int) ≤ (viewOf (cOf (QE n) j) S.l).N → _ := fun m hm => cap_thief hD k (by rw [hpk]; exact hki) (m := m) hm
        rw [hpk] at ct
        unfold CapW at hCj ⊢
        rw [v1]
        cases hj2 : (S.X j).act with
        | none =>
          rw [hj2] at hCj
          obtain ⟨m', a1, a2, a3, a4⟩ := ct 0 (by rw [hCj.1]; simp)
          have a5 := a4 (by rw [hCj.1]; rfl)
          have : m' = 0 := by omega
          subst this
          exact ⟨a5, hCj.2⟩
        | offer of => trivial
        | op i2 o2 =>
          rw [hj2] at hCj
          intro g
          obtain ⟨b0, m, m8, mN, q⟩ := hCj g
          obtain ⟨m', a1, a2, a3, a4⟩ := ct m mN
          refine ⟨b0, m', by omega, a2, ?_⟩
          rcases q with ⟨q1, q2, q3⟩ | q
          · exact .inl ⟨q1, a4 q2, by omega⟩
          · exact .inr (by omega)
      · unfold CapW at hCj ⊢
        rw [hoth j hj hji]
        exact hCj
    have hemp : 2 ≤ (S.X k).kind → EmptyV (viewOf (cOf (QE n) k) (stepOf (cOf (QE n) i) S.l o).1) := fun g => by
      by_cases hik : k = i
      · subst hik
        have hg : ¬ (S.X k).kind ≤ 1 := by omega
        have := empty_thief hD (by simp [partOf, ownOp, ha, hg, opDone]) k (hEk.2 g)
        rw [hthf g] at this
        rw [v1]
        exact this
      · rw [hoth k hk hik]; exact hEk.2 g
    -- the worker's own deque, behind the step
    have hown : (S.X k).kind ≤ 1 → ((S.X k).kind = 0 → (stepOf (cOf (QE n) i) S.l o).2.errno = 0) ∧ ∃ m : Nat, m ≤ 8 ∧ (m : Int) ≤ (viewOf (cOf (QE n) k) (stepOf (cOf (QE n) i) S.l o).1).N ∧
        (((S.X k).kind = 0 ∧ (viewOf (cOf (QE n) k) (stepOf (cOf (QE n) i) S.l o).1).N = m ∧ m + (S.X k).hands.length ≤ 8 + (if o.at_ = .free ∨ ((stepOf (cOf (QE n) i) S.l o).2.done = false ∧ (stepOf (cOf (QE n) i) S.l o).2.at_ = .free) then 1 else 0)) ∨
         ownV (cOf (QE n) k) (viewOf (cOf (QE n) k) (stepOf (cOf (QE n) i) S.l o).1) m (bot (viewOf (cOf (QE n) k) (stepOf (cOf (QE n) i) S.l o).1) (stepOf (cOf (QE n) i) S.l o).2) + (sumL pw (S.X k).hands + way ((S.X k).kind == 0) pw (stepOf (cOf (QE n) i) S.l o).2) ≤ 48) := fun g => by
      have hik := hw g
      subst hik
      have hlt := cap_lt h hC hk ha g
      unfold roleOf at hp
      rw [if_pos g] at hp
      have hs := hD.stk none
      rw [hp] at hs
      have hc80 : (cOf (QE n) i).over = 80 := by rw [cOf_QE hi]
      obtain ⟨b0, m, m8, mN, q⟩ := hCk g
      have co := fun (m : Nat) hm hm2 => cap_own hD ((S.X i).kind == 0) (by rw [hp]; exact hki) (m := m) hm hm2
      have hwy : hasW pw (S.X i) = sumL pw (S.X i).hands + way ((S.X i).kind == 0) pw o := by simp only [hasW, wayW, ha]
      rw [hp] at co q
      rw [v1, v2]
      by_cases k0 : (S.X i).kind = 0
      · have hb : ((S.X i).kind == 0) = true := by simp [k0]
        have hki' := hki
        rw [hb] at hki'
        obtain ⟨e1, e2, e3⟩ := push_err hki' hs hD.stkN (by omega) (b0 k0)
        refine ⟨fun _ => e1, ?_⟩
        rcases q with ⟨q1, q2, q3⟩ | q
        · rcases e3 with e3 | ⟨e3, e4, e5⟩
          · refine ⟨m, m8, by omega, .inl ⟨k0, by omega, ?_⟩⟩
            split at q3 <;> split <;> first | omega | (rename_i z1 z2; exact absurd (.inl z1) z2)
          · rcases hway with ⟨_, _, rest, g3⟩ | ⟨g1, _⟩ | ⟨g1, _⟩
            · have hlen : (S.X i).hands.length = rest.length + 1 := by rw [g3]; rfl
              have hnf : o.at_ ≠ .free := fun z => by
                have : (stepV (cOf (QE n) i) (viewOf (cOf (QE n) i) S.l) o).2.done = true := by
                  unfold stepV; rw [if_neg (by rw [hd]; simp), z]
                rw [this] at e4; cases e4
              rw [if_neg hnf] at q3
              refine ⟨m + 1, by omega, by omega, .inl ⟨k0, by omega, ?_⟩⟩
              rw [if_pos (.inr ⟨e4, e5⟩)]
              omega
            · omega
            · omega
        · refine ⟨m, m8, by omega, .inr ?_⟩
          have := co m mN (by omega)
          omega
      · refine ⟨fun z => absurd z k0, ?_⟩
        rcases q with ⟨q1, _⟩ | q
        · exact absurd q1 k0
        · obtain ⟨_, s2⟩ := own_stack hs mN
          have hnn := (stk_own hD.stkN hs).2.1
          rcases (show (m : Int) ≤ (stepV (cOf (QE n) i) (viewOf (cOf (QE n) i) S.l) o).1.N ∨ (stepV (cOf (QE n) i) (viewOf (cOf (QE n) i) S.l) o).1.N < m by omega) with z | z
          · refine ⟨m, m8, z, .inr ?_⟩
            have := co m mN z
            omega
          · rcases s2 with s2 | ⟨t1, t2, t3⟩
            · omega
            · refine ⟨m - 1, by omega, by omega, .inr ?_⟩
              have k1 : (S.X i).kind = 1 := by omega
              have hpop := (hEk.1 k1).2 hd
              rw [t2] at hpop
              simp only at hpop
              have hh : (S.X i).hands = [] := by
                rcases hway with ⟨g1, _⟩ | ⟨_, _, g3⟩ | ⟨g1, _⟩
                · omega
                · exact g3
                · omega
              have hb : ((S.X i).kind == 0) = false := by rw [k1]; rfl
              have ew : way false pw (stepV (cOf (QE n) i) (viewOf (cOf (QE n) i) S.l) o).2 ≤ 16 := by
                have := pw_in (stepV (cOf (QE n) i) (viewOf (cOf (QE n) i) S.l) o).2.item
                unfold way
                simp only [Bool.false_eq_true, if_false]
                split <;> omega
              have eb : bot (stepV (cOf (QE n) i) (viewOf (cOf (QE n) i) S.l) o).1 (stepV (cOf (QE n) i) (viewOf (cOf (QE n) i) S.l) o).2 = (stepV (cOf (QE n) i) (viewOf (cOf (QE n) i) S.l) o).1.T := by
                unfold stepV
                rw [if_neg (by rw [hd]; simp), t2]
                simp [bot, sixAt, hpop]
              have en : (stepV (cOf (QE n) i) (viewOf (cOf (QE n) i) S.l) o).1.N = ((m - 1 : Nat) : Int) := by omega
              rw [hb, hh, eb]
              unfold ownV ringW
              rw [en]
              simp [sumTo, sumL]
              omega
    have htl : ∀ v, (stepOf (cOf (QE n) i) S.l o).2.done = true → (S.X k).kind ≠ 0 → (stepOf (cOf (QE n) i) S.l o).2.errno = 0 → (stepOf (cOf (QE n) i) S.l o).2.item = v → 0 ≤ v ∧ v ≤ 4 := fun v g1 g2 g3 g4 => hin v ⟨i, o, he', ha, g1, g2, g3, g4⟩
    have hdf : o.at_ = .free → (stepOf (cOf (QE n) i) S.l o).2.done = true := fun z => by
      unfold stepOf; rw [if_neg (by rw [hd]; simp), z]
    have hit : (S.X k).kind = 0 → (stepOf (cOf (QE n) i) S.l o).2.item = o.item := fun g => by
      rw [v2]; exact item_push (by rw [g] at hki; exact hki)
    generalize hl' : (stepOf (cOf (QE n) i) S.l o).1 = l' at *
    generalize ho' : (stepOf (cOf (QE n) i) S.l o).2 = o' at *
    by_cases hdn : o'.done = true
    · rw [if_pos hdn]
      refine cap_all hC' ?_
      have small : ∀ v, 0 ≤ v ∧ v ≤ 4 → sumL pw (if 0 < v then [v - 1, v - 1] else []) ≤ pw v := fun v hv => by
        by_cases z : 0 < v
        · have := pw_half hv z
          simp [z, sumL]; omega
        · have := pw_nn v
          simp [z, sumL]; omega
      unfold overS
      by_cases k0 : (S.X k).kind = 0
      · obtain ⟨e0, m, m8, mN, q⟩ := hown (by omega)
        have hv : (valOf o').2 = 0 := by simp [valOf, hdn, e0 k0]
        simp only [k0, if_true, hv]
        rcases hway with ⟨_, _, rest, g3⟩ | ⟨g1, _⟩ | ⟨g1, _⟩
        · rcases q with ⟨_, q2, q3⟩ | q
          · rw [g3] at q3 ⊢
            simp only [List.tail_cons, List.length_cons] at q3 ⊢
            have q3' : m + rest.length ≤ 8 := by split at q3 <;> omega
            cases rest with
            | nil =>
              refine cap_next (m := m) m8 mN ?_
              have hrm := (h.step hk hf)
              have hr2 := ring_le (cOf (QE n) k) (viewOf (cOf (QE n) k) l') (viewOf (cOf (QE n) k) l').B
              have hroom : (viewOf (cOf (QE n) k) l').B - (viewOf (cOf (QE n) k) l').T ≤ 2 := by
                have hik := hw (by omega)
                subst hik
                have := (slot_own hD.cap hD.kind hD.own hD.room hD.slot).2
                unfold roleOf at hp
                rw [if_pos (by omega)] at hp
                rw [hp, ← v1, ← v2, bot_done hdn] at this
                have hc2 : (cOf (QE n) i).cap = 2 := by rw [cOf_QE hi]
                rw [hc2] at this
                exact this
              unfold ownV
              rw [q2]
              simp only [sumL]
              omega
            | cons y ys =>
              unfold nextS
              simp only
              unfold CapW
              rw [updX_at]
              refine fun _ => ⟨fun _ => rfl, m, m8, mN, .inl ⟨rfl, q2, ?_⟩⟩
              simp [opNew] at q3' ⊢
              omega
          · refine cap_next (m := m) m8 mN ?_
            rw [bot_done hdn] at q
            have hb : ((S.X k).kind == 0) = true := by simp [k0]
            rw [hb, g3] at q
            have hwy : way true pw o' = - pw o'.item := by simp [way, hdn, e0 k0]
            rw [hwy, hit k0] at q
            simp only [sumL] at q
            simp only [g3, List.tail_cons]
            omega
        · omega
        · omega
      · have hh : (S.X k).hands = [] := by
          rcases hway with ⟨g1, _⟩ | ⟨_, _, g3⟩ | ⟨_, g3⟩
          · exact absurd g1 k0
          · exact g3
          · exact g3
        have hb : ((S.X k).kind == 0) = false := by simp [k0]
        simp only [k0, if_false]
        -- whatever is begun, with these hands
        have key : ∀ (y : WkS) (af : Int), sumL pw y.hands ≤ way false pw o' → CapW n l' (updX S.X k (nextS n k y af)) k := fun y af hy => by
          rcases (show (S.X k).kind ≤ 1 ∨ 2 ≤ (S.X k).kind by omega) with g | g
          · obtain ⟨_, m, m8, mN, q⟩ := hown g
            rcases q with ⟨q1, _⟩ | q
            · exact absurd q1 k0
            · refine cap_next (m := m) m8 mN ?_
              rw [bot_done hdn, hb, hh] at q
              simp only [sumL] at q
              omega
          · refine cap_empty (hemp g) ?_
            have : way false pw o' ≤ 16 := by
              have := pw_in o'.item
              unfold way
              simp only [Bool.false_eq_true, if_false]
              split <;> omega
            omega
        by_cases e0 : o'.errno = 0
        · have hv : valOf o' = (o'.item, 0) := by simp [valOf, hdn, e0]
          simp only [hv, if_true]
          refine key _ _ ?_
          have hwy : way false pw o' = pw o'.item := by simp [way, hdn, e0]
          rw [hwy]
          simp only [hh, List.nil_append]
          exact small _ (htl _ hdn k0 e0 rfl)
        · have hv : valOf o' = (0, o'.errno) := by simp [valOf, hdn, e0]
          have hwy : way false pw o' = 0 := by simp [way, hdn, e0]
          simp only [hv, e0, if_false]
          by_cases e16 : o'.errno = 16
          · simp only [e16, if_true]
            exact key _ _ (by rw [hwy]; simp [hh, sumL])
          · simp only [e16, if_false]
            exact key _ _ (by rw [hwy]; simp [hh, sumL])
    · rw [if_neg hdn]
      have hdn' : o'.done = false := by simpa using hdn
      refine cap_all hC' ?_
      unfold CapW
      rw [updX_at]
      intro g
      simp only at g
      obtain ⟨e0, m, m8, mN, q⟩ := hown g
      refine ⟨e0, m, m8, mN, ?_⟩
      have hik := hw g
      have hpn : partOf (updX S.X k { S.X k with act := .op i o' }) k none = o' := by
        rw [part_act_none ha hw, if_pos ⟨hik.symm, g⟩]
      rcases q with ⟨q1, q2, q3⟩ | q
      · refine .inl ⟨q1, q2, ?_⟩
        have : o.at_ ≠ .free := fun z => hdn (hdf z)
        simp only [this, hdn', false_or, true_and] at q3
        exact q3
      · refine .inr ?_
        rw [hpn]
        exact q
end Go.Proofs.Ytokabpgdklihlaa
