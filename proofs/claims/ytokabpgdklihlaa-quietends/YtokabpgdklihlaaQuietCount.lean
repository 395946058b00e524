/-
  The crew of QuietEnds without memory: the count is the number of offers behind their first step ('Cnt'), so where one ends all have nothing ('Crew.still'). No Go is walked here.
-/
import Derived.Test.YtokabpgdklihlaaQuietEmpty
namespace Go.Proofs.Ytokabpgdklihlaa
set_option linter.unusedVariables false

/-- An offer that is counted. -/
def inC (x : WkS) : Int :=
  match x.act with
  | .offer o => if o.state = 0 ∧ o.at_ = .countIn then 0 else 1
  | _ => 0
def Cnt (n : Nat) (S : GS) : Prop := cnt (QE n) S.l = sumTo (fun k => inC (S.X k)) n

theorem inC_vals (x : WkS) : inC x = 0 ∨ inC x = 1 := by
  unfold inC
  split
  · split
    · exact .inl rfl
    · exact .inr rfl
  · exact .inl rfl
theorem inC_next (n k : Nat) (x : WkS) (af : Int) : inC (nextS n k x af) = 0 := by
  obtain ⟨hs, kd, ac, en⟩ := x
  unfold nextS
  cases hs with
  | cons y ys => rfl
  | nil =>
    simp only
    by_cases h1 : af < 1
    · rw [if_pos h1]; rfl
    · rw [if_neg h1]
      by_cases h2 : af ≤ n
      · rw [if_pos h2]; rfl
      · rw [if_neg h2]; rfl

/-- No deque's cell is the count's. -/
theorem cnt_op {n i : Nat} (hi : i < n) (l : List Int) (o : OpS) : cnt (QE n) (stepOf (cOf (QE n) i) l o).1 = cnt (QE n) l := by
  have key : ∀ a x, cnt (QE n) (wr (cOf (QE n) i) l a x) = cnt (QE n) l := fun a x => by
    unfold cnt wr
    rw [cOf_QE hi, List.getD_eq_getElem?_getD, List.getD_eq_getElem?_getD, List.getElem?_set, if_neg (by simp only [QE]; omega)]
  unfold stepOf
  split
  · rfl
  · cases o.at_ <;> simp only
    all_goals first
      | exact key _ _
      | (split <;> first | exact key _ _ | rfl)

theorem cnt_upd {n : Nat} {X : Nat → WkS} {k : Nat} (hk : k < n) (x : WkS) : sumTo (fun j => inC (updX X k x j)) n = sumTo (fun j => inC (X j)) n + inC x - inC (X k) := by
  rw [sumTo_upd (g := fun j => inC (X j)) hk (fun j hj hjk => by simp only [updX_ne _ _ hjk])]
  simp only [updX_at]

theorem Cnt.step {n : Nat} {S : GS} (h : Crew n S) (hC : Cnt n S) {k : Nat} (hk : k < n) (hf : NoFull n S k) : Cnt n (stepG (QE n) n S k) := by
  have hsh := h.shape k hk
  unfold Cnt at hC ⊢
  unfold stepG
  by_cases he : (S.X k).ended = true
  · rw [if_pos he]; exact hC
  rw [if_neg he]
  have he' : (S.X k).ended = false := by simpa using he
  unfold ShapeW at hsh
  cases ha : (S.X k).act with
  | none =>
    simp only
    rw [cnt_upd hk, inC_next, hC]
    simp [inC, ha]
  | op i o =>
    rw [ha] at hsh
    simp only at hsh ⊢
    obtain ⟨_, hd, hi, hc, hki, hei, hway⟩ := hsh
    have hf' := hf i o ha
    have hco := cnt_op hi S.l o
    have h0 : inC (S.X k) = 0 := by simp [inC, ha]
    generalize hl' : (stepOf (cOf (QE n) i) S.l o).1 = l' at *
    generalize ho' : (stepOf (cOf (QE n) i) S.l o).2 = o' at *
    by_cases hdn : o'.done = true
    · rw [if_pos hdn]
      have hv : (S.X k).kind = 0 → (valOf o').2 = 0 := fun g => by simp [valOf, hdn, hf' g hdn]
      obtain ⟨y, af, e1, e2⟩ := over_next (n := n) (k := k) (x := { S.X k with act := .op i o' }) (v := (valOf o').1) (e := (valOf o').2) hv
      simp only
      rw [cnt_upd hk, e1, inC_next, hco, hC, h0]
      omega
    · rw [if_neg hdn]
      simp only
      rw [cnt_upd hk, hco, hC, h0]
      simp [inC]
  | offer o =>
    rw [ha] at hsh
    simp only at hsh ⊢
    obtain ⟨hh, hst | hst⟩ := hsh
    · obtain ⟨s0, _, q⟩ := hst
      rw [cnt_upd hk]
      have hlen := h.len
      have hset : ∀ x, cnt (QE n) (S.l.set 0 x) = x := fun x => by
        unfold cnt
        rw [List.getD_eq_getElem?_getD, List.getElem?_set, if_pos (by rfl), if_pos (by omega)]
        rfl
      obtain ⟨a, st, k2, t⟩ := o
      have s0' : st = 0 := s0
      subst s0'
      have hci : inC (S.X k) = if a = .countIn then 0 else 1 := by simp [inC, ha]
      cases a
      case countIn =>
        have e : stepQ (QE n) S.l ⟨.countIn, 0, k2, t⟩ = (S.l.set 0 (cnt (QE n) S.l + 1), ⟨.readCount, 0, k2, t⟩) := rfl
        rw [e]
        simp only [hset, hC, hci]
        simp [inC]
      case countOut =>
        have e : stepQ (QE n) S.l ⟨.countOut, 0, k2, t⟩ = (S.l.set 0 (cnt (QE n) S.l - 1), ⟨.countOut, 1, k2, t⟩) := rfl
        rw [e]
        simp only [hset, hC, hci]
        simp [inC_next]
      case readCount =>
        by_cases hz : cnt (QE n) S.l = (QE n).n
        · have e : stepQ (QE n) S.l ⟨.readCount, 0, k2, t⟩ = (S.l, ⟨.readCount, 2, k2, t⟩) := by simp [stepQ, hz]
          rw [e]
          simp only [hC, hci]
          simp [inC]
        · have e : stepQ (QE n) S.l ⟨.readCount, 0, k2, t⟩ = (S.l, lookQ (QE n) ⟨.readCount, 0, k2, t⟩ 0) := by simp [stepQ, hz]
          rw [e]
          simp only [hC, hci, lookQ]
          by_cases hy : 0 = (QE n).cs.length <;> simp [inC, hy]
      case readTop =>
        have e : stepQ (QE n) S.l ⟨.readTop, 0, k2, t⟩ = (S.l, ⟨.readBottom, 0, k2, rd (cOf (QE n) k2) S.l 0⟩) := rfl
        rw [e]
        simp only [hC, hci]
        simp [inC]
      case readBottom =>
        by_cases hz : t < rd (cOf (QE n) k2) S.l 1
        · have e : stepQ (QE n) S.l ⟨.readBottom, 0, k2, t⟩ = (S.l, ⟨.countOut, 0, k2, t⟩) := by simp [stepQ, hz]
          rw [e]
          simp only [hC, hci]
          simp [inC]
        · have e : stepQ (QE n) S.l ⟨.readBottom, 0, k2, t⟩ = (S.l, ⟨.readStack, 0, k2, t⟩) := by simp [stepQ, hz]
          rw [e]
          simp only [hC, hci]
          simp [inC]
      case readStack =>
        by_cases hz : 0 < rd (cOf (QE n) k2) S.l 3
        · have e : stepQ (QE n) S.l ⟨.readStack, 0, k2, t⟩ = (S.l, ⟨.countOut, 0, k2, t⟩) := by simp [stepQ, hz]
          rw [e]
          simp only [hC, hci]
          simp [inC]
        · have e : stepQ (QE n) S.l ⟨.readStack, 0, k2, t⟩ = (S.l, lookQ (QE n) ⟨.readStack, 0, k2, t⟩ (k2 + 1)) := by simp [stepQ, hz]
          rw [e]
          simp only [hC, hci, lookQ]
          by_cases hy : k2 + 1 = (QE n).cs.length <;> simp [inC, hy]
    · rw [hst.2] at he'; cases he'

theorem sum_full {g : Nat → Int} : ∀ {n : Nat}, (∀ j, g j = 0 ∨ g j = 1) → sumTo g n ≤ n ∧ (sumTo g n = n → ∀ j, j < n → g j = 1)
  | 0, _ => ⟨by simp [sumTo], fun _ j hj => by omega⟩
  | n + 1, h => by
    obtain ⟨a, b⟩ := sum_full (n := n) h
    have hn := h n
    refine ⟨by show sumTo g n + g n ≤ _; omega, fun e j hj => ?_⟩
    have e' : sumTo g n + g n = ((n + 1 : Nat) : Int) := e
    by_cases q : j = n
    · subst q; omega
    · exact b (by omega) j (by omega)

/-- Where the count is full, nobody has anything. -/
theorem Crew.none {n : Nat} {S : GS} (h : Crew n S) (hE : Emp n S) (hC : Cnt n S) (hc : cnt (QE n) S.l = n) : ∀ k, k < n → (S.X k).hands = [] ∧ EmptyV (viewOf (cOf (QE n) k) S.l) ∧ ∃ o, (S.X k).act = .offer o := by
  intro k hk
  have hs := (sum_full (n := n) (g := fun k => inC (S.X k)) (fun j => inC_vals _)).2 (hC.symm.trans hc) k hk
  have h1 := h.shape k hk
  have h2 := hE k hk
  unfold ShapeW at h1
  unfold EmpW at h2
  cases ha : (S.X k).act with
  | none => simp [inC, ha] at hs
  | op i o => simp [inC, ha] at hs
  | offer o =>
    rw [ha] at h1 h2
    exact ⟨h1.1, h2, o, rfl⟩
end Go.Proofs.Ytokabpgdklihlaa
