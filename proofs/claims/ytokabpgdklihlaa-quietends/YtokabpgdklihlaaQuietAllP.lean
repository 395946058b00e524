/-
  Offers where nothing lies anywhere: what stays true as they step, in whatever order, and how many steps each has left. No Go is walked here.
-/
import Derived.Test.YtokabpgdklihlaaQuietLaw
namespace Go.Proofs.Ytokabpgdklihlaa
open Go.RowKit

def csTo (n : Nat) : List Cfg := (List.range n).map fun i => ⟨1 + 20 * i, 4, 4⟩
def allQ (n : Nat) : QC := ⟨0, n, csTo n⟩
def allL (c : Int) : List Int := c :: List.replicate 99 0
theorem csTo_succ (k : Nat) : csTo (k + 1) = csTo k ++ [⟨1 + 20 * k, 4, 4⟩] := by simp [csTo, List.range_succ]
theorem csTo_length (k : Nat) : (csTo k).length = k := by simp [csTo]
theorem cOf_all (n k : Nat) (h : k < n) : cOf (allQ n) k = ⟨1 + 20 * k, 4, 4⟩ := by
  simp [cOf, allQ, csTo, List.getD_eq_getElem?_getD, h]
theorem rd_all (n k j : Nat) (c : Int) (h : k < n) : rd (cOf (allQ n) k) (allL c) j = 0 := by
  rw [cOf_all n k h]
  unfold rd allL
  rw [List.getD_eq_getElem?_getD, show 1 + 20 * k + j = (20 * k + j) + 1 by omega, List.getElem?_cons_succ, List.getElem?_replicate]
  split <;> rfl
theorem cnt_all (n : Nat) (c : Int) : cnt (allQ n) (allL c) = c := rfl

def updo (A : Nat → OfS) (i : Nat) (o : OfS) : Nat → OfS := fun k => if k = i then o else A k
/-- Is it counted? -/
def inn (o : OfS) : Int := if o.at_ = .countIn then 0 else 1
theorem inn_vals (o : OfS) : inn o = 0 ∨ inn o = 1 := by unfold inn; split <;> simp

/-- An offer where nothing lies anywhere. -/
structure AllOk (n : Nat) (c : Int) (o : OfS) : Prop where
  top : o.top = 0
  state : o.state = 0 ∨ (o.state = 2 ∧ c = n ∧ o.at_ = .readCount)
  at_ : o.at_ ≠ .countOut
  ok : QOk (allQ n) o

/-- The steps that an offer has left, once all are counted. -/
def rem (n : Nat) (o : OfS) : Nat :=
  if o.state = 2 then 0 else
  match o.at_ with
  | .readCount => 1
  | .readTop => 3 * (n - o.k) + 1
  | .readBottom => 3 * (n - o.k)
  | .readStack => 3 * (n - o.k) - 1
  | _ => 14

theorem rem_le (n : Nat) (hn : n ≤ 4) (o : OfS) (h : inn o = 1) (hc : o.at_ ≠ .countOut) : rem n o ≤ 13 := by
  obtain ⟨at_, st, k, t⟩ := o
  unfold rem
  split
  · omega
  · cases at_ <;> simp [inn] at * <;> omega

theorem all_step (n : Nat) (hn : 1 ≤ n) (c : Int) (o : OfS) (h : AllOk n c o) :
    ∃ o', stepQ (allQ n) (allL c) o = (allL (c + inn o' - inn o), o') ∧ AllOk n (c + inn o' - inn o) o' ∧ inn o' = 1 ∧ o'.state ≠ 1 ∧ (c = n → inn o = 1 → rem n o' ≤ rem n o - 1) := by
  obtain ⟨at_, st, k, t⟩ := o
  obtain ⟨htop, hst, hat, hok⟩ := h
  simp only at htop hst hat
  subst htop
  rcases hst with rfl | ⟨rfl, rfl, rfl⟩
  · cases at_
    case countOut => exact absurd rfl hat
    case countIn =>
      refine ⟨⟨.readCount, 0, k, 0⟩, ?_, ⟨rfl, .inl rfl, by simp, trivial⟩, rfl, by simp, fun _ h => by simp [inn] at h⟩
      simp [stepQ, inn, allQ, allL, cnt]
    case readCount =>
      by_cases hc : c = n
      · refine ⟨⟨.readCount, 2, k, 0⟩, ?_, ⟨rfl, .inr ⟨rfl, by simp [inn]; exact hc, rfl⟩, by simp, trivial⟩, rfl, by simp, fun _ _ => by simp [rem]⟩
        subst hc
        simp [stepQ, inn, allQ, cnt, allL]
      · refine ⟨⟨.readTop, 0, 0, 0⟩, ?_, ⟨rfl, .inl rfl, by simp, by show 0 < (csTo n).length; rw [csTo_length]; omega⟩, rfl, by simp, fun h => absurd h hc⟩
        have e : ¬ (0 = (allQ n).cs.length) := by show ¬ (0 = (csTo n).length); rw [csTo_length]; omega
        simp only [stepQ, cnt_all, inn, lookQ, if_neg e]
        have : ¬ (c = ((allQ n).n : Int)) := hc
        simp [this]
    case readTop =>
      have hk : k < n := by have h : k < (csTo n).length := hok; rwa [csTo_length] at h
      refine ⟨⟨.readBottom, 0, k, 0⟩, ?_, ⟨rfl, .inl rfl, by simp, hok⟩, rfl, by simp, fun _ _ => by simp [rem]⟩
      simp [stepQ, inn, rd_all n k 0 c hk]
    case readBottom =>
      have hk : k < n := by have h : k < (csTo n).length := hok; rwa [csTo_length] at h
      refine ⟨⟨.readStack, 0, k, 0⟩, ?_, ⟨rfl, .inl rfl, by simp, hok⟩, rfl, by simp, fun _ _ => by simp [rem]⟩
      simp [stepQ, inn, rd_all n k 1 c hk]
    case readStack =>
      have hk : k < n := by have h : k < (csTo n).length := hok; rwa [csTo_length] at h
      by_cases hkn : k + 1 = n
      · refine ⟨⟨.readCount, 0, k + 1, 0⟩, ?_, ⟨rfl, .inl rfl, by simp, trivial⟩, rfl, by simp, fun _ _ => by simp [rem]; omega⟩
        have e : k + 1 = (allQ n).cs.length := by show k + 1 = (csTo n).length; rw [csTo_length]; exact hkn
        simp only [stepQ, inn, rd_all n k 3 c hk, lookQ, if_pos e]
        simp
      · refine ⟨⟨.readTop, 0, k + 1, 0⟩, ?_, ⟨rfl, .inl rfl, by simp, by show k + 1 < (csTo n).length; rw [csTo_length]; omega⟩, rfl, by simp, fun _ _ => by simp [rem]; omega⟩
        have e : ¬ (k + 1 = (allQ n).cs.length) := by show ¬ (k + 1 = (csTo n).length); rw [csTo_length]; exact hkn
        simp only [stepQ, inn, rd_all n k 3 c hk, lookQ, if_neg e]
        simp
  · refine ⟨⟨.readCount, 2, k, 0⟩, ?_, ⟨rfl, .inr ⟨rfl, by simp, rfl⟩, by simp, trivial⟩, rfl, by simp, fun _ _ => by simp [rem]⟩
    simp [stepQ, inn]

/-- Some offers, the count that they make together. -/
structure AInv (n : Nat) (c : Int) (A : Nat → OfS) : Prop where
  sum : c = inn (A 0) + inn (A 1) + inn (A 2) + inn (A 3)
  ok : ∀ j, j < n → AllOk n c (A j)
  rest : ∀ j, n ≤ j → j ≤ 3 → inn (A j) = 0

theorem AInv.all {n : Nat} {c : Int} {A : Nat → OfS} (h : AInv n c A) (hn : n ≤ 4) : c ≤ n ∧ 0 ≤ c ∧ (c = n → ∀ j, j < n → inn (A j) = 1) ∧ ((∀ j, j < n → inn (A j) = 1) → c = n) := by
  have s := h.sum
  have v0 := inn_vals (A 0)
  have v1 := inn_vals (A 1)
  have v2 := inn_vals (A 2)
  have v3 := inn_vals (A 3)
  have r := h.rest
  have r0 := r 0
  have r1 := r 1
  have r2 := r 2
  have r3 := r 3
  refine ⟨by omega, by omega, fun hc j hj => ?_, fun hall => ?_⟩
  · match j, hj with
    | 0, _ => omega
    | 1, _ => omega
    | 2, _ => omega
    | 3, _ => omega
    | j + 4, _ => omega
  · have a0 := hall 0
    have a1 := hall 1
    have a2 := hall 2
    have a3 := hall 3
    omega

theorem AInv.step {n : Nat} {c : Int} {A : Nat → OfS} (h : AInv n c A) (hn : 1 ≤ n ∧ n ≤ 4) (i : Nat) (hi : i < n) :
    ∃ c' o', stepQ (allQ n) (allL c) (A i) = (allL c', o') ∧ AInv n c' (updo A i o') ∧ o'.state ≠ 1 ∧ inn o' = 1 ∧ (c = n → c' = n ∧ rem n o' ≤ rem n (A i) - 1) := by
  obtain ⟨o', h1, h2, h3, h4, h5⟩ := all_step n hn.1 c (A i) (h.ok i hi)
  have ha := h.all hn.2
  have hv := inn_vals (A i)
  refine ⟨_, o', h1, ⟨?_, fun j hj => ?_, fun j hj hj3 => ?_⟩, h4, h3, fun hc => ?_⟩
  · have s := h.sum
    have i4 : i < 4 := by omega
    match i, i4 with
    | 0, _ => simp [updo]; omega
    | 1, _ => simp [updo]; omega
    | 2, _ => simp [updo]; omega
    | 3, _ => simp [updo]; omega
  · unfold updo
    split
    · exact h2
    · have hj2 := h.ok j hj
      refine ⟨hj2.top, ?_, hj2.at_, hj2.ok⟩
      rcases hj2.state with h6 | ⟨h6, h7, h8⟩
      · exact .inl h6
      · have := ha.2.2.1 h7 i hi
        exact .inr ⟨h6, by omega, h8⟩
  · unfold updo
    rw [if_neg (by omega)]
    exact h.rest j hj hj3
  · have := ha.2.2.1 hc i hi
    exact ⟨by omega, h5 hc this⟩

/-- At the beginning. -/
theorem ainv_new (n : Nat) : AInv n 0 (fun _ => ofNew) :=
  ⟨by simp [inn, ofNew], fun j _ => ⟨rfl, .inl rfl, by simp [ofNew], trivial⟩, fun j _ _ => rfl⟩

/-- By turns: what each offer has left behind i steps. -/
def Turns (n : Nat) (A : Nat → OfS) (i : Nat) : Prop := ∀ j, j < n → (1 ≤ (i + n - 1 - j) / n → inn (A j) = 1) ∧ (n ≤ i → rem n (A j) ≤ 14 - (i + n - 1 - j) / n)

theorem Turns.zero {n : Nat} {A : Nat → OfS} (hn : 1 ≤ n ∧ n ≤ 4) : Turns n A 0 := by
  intro j hj
  have e : (0 + n - 1 - j) / n = 0 := Nat.div_eq_of_lt (by omega)
  exact ⟨fun h => by omega, fun h => by omega⟩

theorem Turns.step {n : Nat} {c : Int} {A : Nat → OfS} {i : Nat} (h : Turns n A i) (hA : AInv n c A) (hn : 1 ≤ n ∧ n ≤ 4) :
    ∃ c' o', stepQ (allQ n) (allL c) (A (i % n)) = (allL c', o') ∧ AInv n c' (updo A (i % n) o') ∧ Turns n (updo A (i % n) o') (i + 1) := by
  have hlt : i % n < n := Nat.mod_lt _ (by omega)
  obtain ⟨c', o', h1, h2, h3, h4, h5⟩ := hA.step hn (i % n) hlt
  refine ⟨c', o', h1, h2, fun j hj => ?_⟩
  have hj1 := h j hj
  have hall := hA.all hn.2
  have hAt := (h2.ok (i % n) hlt).at_
  have e0 : updo A (i % n) o' (i % n) = o' := by simp [updo]
  rw [e0] at hAt
  by_cases hji : j = i % n
  · have e1 : updo A (i % n) o' j = o' := by simp [updo, hji]
    rw [e1]
    refine ⟨fun _ => h4, fun hni => ?_⟩
    -- the count is all of them once each has stepped
    by_cases hin : n ≤ i
    · have hc : c = n := hall.2.2.2 (fun j2 hj2 => (h j2 hj2).1 (by
        have h12 : n = 1 ∨ n = 2 ∨ n = 3 ∨ n = 4 := by omega
        rcases h12 with rfl | rfl | rfl | rfl <;> omega))
      have h6 := (h5 hc).2
      have h7 := hj1.2 hin
      rw [hji] at h7
      have h12 : n = 1 ∨ n = 2 ∨ n = 3 ∨ n = 4 := by omega
      rcases h12 with rfl | rfl | rfl | rfl <;> omega
    · have h8 := rem_le n hn.2 o' h4 hAt
      have h12 : n = 1 ∨ n = 2 ∨ n = 3 ∨ n = 4 := by omega
      rcases h12 with rfl | rfl | rfl | rfl <;> omega
  · have e1 : updo A (i % n) o' j = A j := by simp [updo, hji]
    rw [e1]
    have e2 : (i + 1 + n - 1 - j) / n = (i + n - 1 - j) / n := by
      have h12 : n = 1 ∨ n = 2 ∨ n = 3 ∨ n = 4 := by omega
      rcases h12 with rfl | rfl | rfl | rfl <;> omega
    rw [e2]
    refine ⟨hj1.1, fun hni => ?_⟩
    by_cases hin : n ≤ i
    · exact hj1.2 hin
    · have hi1 : inn (A j) = 1 := hj1.1 (by
        have h12 : n = 1 ∨ n = 2 ∨ n = 3 ∨ n = 4 := by omega
        rcases h12 with rfl | rfl | rfl | rfl <;> omega)
      have h8 := rem_le n hn.2 (A j) hi1 (hA.ok j hj).at_
      have h12 : n = 1 ∨ n = 2 ∨ n = 3 ∨ n = 4 := by omega
      rcases h12 with rfl | rfl | rfl | rfl <;> omega

theorem Turns.ends {n : Nat} {c : Int} {A : Nat → OfS} (h : Turns n A 200) (hA : AInv n c A) (hn : 1 ≤ n ∧ n ≤ 4) : c = n ∧ ∀ j, j < n → (A j).state = 2 := by
  have h12 : n = 1 ∨ n = 2 ∨ n = 3 ∨ n = 4 := by omega
  have hin : ∀ j, j < n → inn (A j) = 1 := fun j hj => (h j hj).1 (by rcases h12 with rfl | rfl | rfl | rfl <;> omega)
  refine ⟨(hA.all hn.2).2.2.2 hin, fun j hj => ?_⟩
  have h1 : rem n (A j) = 0 := by have := (h j hj).2 (by omega); rcases h12 with rfl | rfl | rfl | rfl <;> omega
  have h2 := hA.ok j hj
  rcases h2.state with h3 | h3
  · have hi := hin j hj
    have hk := h2.ok
    have hat := h2.at_
    clear h2
    generalize A j = o at h1 h3 hi hk hat ⊢
    obtain ⟨at_, st, k, t⟩ := o
    simp only at h3
    subst h3
    unfold rem at h1
    cases at_
    case countIn => simp [inn] at hi
    case countOut => exact absurd rfl hat
    case readCount => simp at h1
    all_goals (
      have hk' : k < (csTo n).length := hk
      rw [csTo_length] at hk'
      simp at h1
      try omega)
  · exact h3.1
end Go.Proofs.Ytokabpgdklihlaa
