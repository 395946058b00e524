/-
  A table with one object at most.
-/
import Derived.Test.YtlbcbphkgaoliabMonWait
import Derived.Test.YtlbcbphkgaoliabMonNotify
import Derived.Test.YtlbcbphkgaoliabMonObjs
namespace Go.Proofs.Ytlbcbphkgaoliab
open Go.RowKit
set_option linter.unusedVariables false
set_option linter.unusedSimpArgs false

/-- The monitors of a table with one object at most. -/
def G1 (y : Int) (m : Mon) : Int → Option Mon := fun z => if z = y then (if m.gone then none else some m) else none
theorem put_G1 (y : Int) (m m' : Mon) : putM (G1 y m) y m' = G1 y m' := by
  funext z
  unfold putM G1
  by_cases hz : z = y
  · simp [hz]
  · simp [hz]
theorem G1_zero (y : Int) : G1 y Mon.zero = fun _ => none := by
  funext z
  unfold G1
  have : Mon.zero.gone = true := rfl
  rw [this]
  simp
/-- A monitor that has nobody is as a new one. -/
def Neat (m : Mon) : Prop := m.gone = true → m = Mon.zero
theorem get_G1 {y : Int} {m : Mon} (h : Neat m) : (G1 y m y).getD Mon.zero = m := by
  unfold G1
  rw [if_pos rfl]
  cases hg : m.gone with
  | true => rw [h hg]; rfl
  | false => rfl
/-- One object's table. -/
structure Solo (B : Nat) (w : World) (p n : Nat) (y : Int) (m : Mon) (S : Int → Bool) : Prop where
  tb : Tb B w p n (G1 y m) S
  neat : Neat m
section
variable {B : Nat} {w w' : World} {p n : Nat} {x y : Int} {m : Mon} {S : Int → Bool}
theorem Solo.turned (h : Solo B w p n y m S) (t : Turned [] w w') : Solo B w' p n y m S := ⟨h.tb.turned t, h.neat⟩
theorem Solo.mono (h : Solo B w p n y m S) {k : Nat} (hk : n ≤ k) : Solo B w p k y m S := ⟨h.tb.mono hk, h.neat⟩
theorem neat_h {m : Mon} (h : m.h ≠ 0) : Neat m := fun g => by
  unfold Mon.gone at g
  simp at g
  exact absurd g.1.1 h
theorem enterM_h (m : Mon) (hx : x ≠ 0) : (enterM m x).h ≠ 0 := by
  unfold enterM
  split
  · exact hx
  · split <;> assumption
/-- Enter, by one who stands nowhere. -/
theorem enter_solo (hx : I64 x) (h0 : 0 < x) (hy : I64 y) (hy0 : y ≠ 0) (hn : n ≤ 900000) (h : Solo B w p n y m S) (hf : Fine m) (hS : S x = false) :
    Calls Try.prog 7 #[.pointer (some ⟨p, 0, none⟩), .int .i64 x, .int .i64 y] w fun e w' => e = .returned (.tuple #[.bool (decide (m.h = 0) || decide (m.h = x)), .int .i64 0]) ∧ Solo B w' p (n + 2) y (enterM m x) (if (decide (m.h = 0) || decide (m.h = x)) = true then S else addS S x) ∧ Bel B w w' := by
  refine (enter_call hx hy hn h.tb (by rw [get_G1 h.neat]; exact hf)).mono ?_
  rintro e w' ⟨h1, h2, h3⟩
  have e1 : enterT (G1 y m) S x y = ((decide (m.h = 0) || decide (m.h = x), 0), G1 y (enterM m x), if (decide (m.h = 0) || decide (m.h = x)) = true then S else addS S x) := by
    unfold enterT
    rw [if_neg (by omega), if_neg (by rw [hS]; decide), get_G1 h.neat]
    simp only [put_G1]
  rw [e1] at h1 h2
  exact ⟨h1, ⟨h2, neat_h (enterM_h m (by omega))⟩, h3⟩
/-- Enter, by one who stands somewhere: at whatever object. -/
theorem enter_stuck {z : Int} (hx : I64 x) (h0 : 0 < x) (hz : I64 z) (hz0 : z ≠ 0) (hn : n ≤ 900000) (h : Solo B w p n y m S) (hf : Fine m) (hS : S x = true) :
    Calls Try.prog 7 #[.pointer (some ⟨p, 0, none⟩), .int .i64 x, .int .i64 z] w fun e w' => e = .returned (.tuple #[.bool false, .int .i64 16]) ∧ Solo B w' p (n + 2) y m S ∧ Bel B w w' := by
  refine (enter_call hx hz hn h.tb ?_).mono ?_
  · by_cases e : z = y
    · subst e; rw [get_G1 h.neat]; exact hf
    · unfold G1; rw [if_neg e]; exact ⟨by decide, by decide⟩
  rintro e w' ⟨h1, h2, h3⟩
  have e1 : enterT (G1 y m) S x z = ((false, 16), G1 y m, S) := by
    unfold enterT
    rw [if_neg (by omega), if_pos hS]
  rw [e1] at h1 h2
  exact ⟨h1, ⟨h2, h.neat⟩, h3⟩
/-- What a call by the one who holds tells and leaves. -/
theorem hold_solo (r : Mon → Int) (mt : Mon → Mon) (st : Mon → (Int → Bool) → Int → Bool) (h0 : 0 < x) (hy0 : y ≠ 0) (h : Solo B w p n y m S) (hS : S x = false) (hh : m.h = x) : holdT (G1 y m) S x y r mt st = ((r m, 0), G1 y (mt m), st m S) := by
  unfold holdT
  rw [if_neg (by omega), if_neg (by rw [hS]; decide), get_G1 h.neat, if_pos hh, put_G1]
/-- By one who doesn't hold. -/
theorem hold_not (r : Mon → Int) (mt : Mon → Mon) (st : Mon → (Int → Bool) → Int → Bool) (h0 : 0 < x) (hy0 : y ≠ 0) (h : Solo B w p n y m S) (hh : S x = true ∨ m.h ≠ x) : holdT (G1 y m) S x y r mt st = ((0, 16), G1 y m, S) := by
  unfold holdT
  rw [if_neg (by omega)]
  by_cases hS : S x = true
  · rw [if_pos hS]
  · rw [if_neg hS, get_G1 h.neat, if_neg (hh.resolve_left hS), put_G1]
theorem exit_solo (hx : I64 x) (h0 : 0 < x) (hy : I64 y) (hy0 : y ≠ 0) (hn : n ≤ 900000) (h : Solo B w p n y m S) (hf : Fine m) (hI : I64 (nextM m).h) (hS : S x = false) (hh : m.h = x) (hN : Neat (exitM m)) :
    Calls Try.prog 11 #[.pointer (some ⟨p, 0, none⟩), .int .i64 x, .int .i64 y] w fun e w' => e = .returned (.tuple #[.int .i64 (exitR m), .int .i64 0]) ∧ Solo B w' p (n + 3) y (exitM m) (exitS m S) ∧ Bel B w w' := by
  refine (exit_call hx hy hn h.tb (by rw [get_G1 h.neat]; exact hf) (by rw [get_G1 h.neat]; exact hI)).mono ?_
  rintro e w' ⟨h1, h2, h3⟩
  unfold exitT at h1 h2
  rw [hold_solo _ _ _ h0 hy0 h hS hh] at h1 h2
  exact ⟨h1, ⟨h2, hN⟩, h3⟩
theorem exit_not (hx : I64 x) (h0 : 0 < x) (hy : I64 y) (hy0 : y ≠ 0) (hn : n ≤ 900000) (h : Solo B w p n y m S) (hf : Fine m) (hI : I64 (nextM m).h) (hh : S x = true ∨ m.h ≠ x) :
    Calls Try.prog 11 #[.pointer (some ⟨p, 0, none⟩), .int .i64 x, .int .i64 y] w fun e w' => e = .returned (.tuple #[.int .i64 0, .int .i64 16]) ∧ Solo B w' p (n + 3) y m S ∧ Bel B w w' := by
  refine (exit_call hx hy hn h.tb (by rw [get_G1 h.neat]; exact hf) (by rw [get_G1 h.neat]; exact hI)).mono ?_
  rintro e w' ⟨h1, h2, h3⟩
  unfold exitT at h1 h2
  rw [hold_not _ _ _ h0 hy0 h hh] at h1 h2
  exact ⟨h1, ⟨h2, h.neat⟩, h3⟩
theorem wait_solo (hx : I64 x) (h0 : 0 < x) (hy : I64 y) (hy0 : y ≠ 0) (hn : n ≤ 900000) (h : Solo B w p n y m S) (hf : Fine m) (hI : I64 (waitM m).h) (hS : S x = false) (hh : m.h = x) (hN : Neat (waitM m)) :
    Calls Try.prog 8 #[.pointer (some ⟨p, 0, none⟩), .int .i64 x, .int .i64 y] w fun e w' => e = .returned (.tuple #[.int .i64 (waitM m).h, .int .i64 0]) ∧ Solo B w' p (n + 3) y (waitM m) (waitS x m S) ∧ Bel B w w' := by
  refine (wait_call hx hy hn h.tb (by rw [get_G1 h.neat]; exact hf) (by rw [get_G1 h.neat]; exact hI)).mono ?_
  rintro e w' ⟨h1, h2, h3⟩
  unfold waitT at h1 h2
  rw [hold_solo _ _ _ h0 hy0 h hS hh] at h1 h2
  exact ⟨h1, ⟨h2, hN⟩, h3⟩
theorem wait_not (hx : I64 x) (h0 : 0 < x) (hy : I64 y) (hy0 : y ≠ 0) (hn : n ≤ 900000) (h : Solo B w p n y m S) (hf : Fine m) (hI : I64 (waitM m).h) (hh : S x = true ∨ m.h ≠ x) :
    Calls Try.prog 8 #[.pointer (some ⟨p, 0, none⟩), .int .i64 x, .int .i64 y] w fun e w' => e = .returned (.tuple #[.int .i64 0, .int .i64 16]) ∧ Solo B w' p (n + 3) y m S ∧ Bel B w w' := by
  refine (wait_call hx hy hn h.tb (by rw [get_G1 h.neat]; exact hf) (by rw [get_G1 h.neat]; exact hI)).mono ?_
  rintro e w' ⟨h1, h2, h3⟩
  unfold waitT at h1 h2
  rw [hold_not _ _ _ h0 hy0 h hh] at h1 h2
  exact ⟨h1, ⟨h2, h.neat⟩, h3⟩
theorem tellM_h (m : Mon) (k : Nat) : (tellM m k).h = m.h := rfl
theorem notify_solo (all : Bool) (hx : I64 x) (h0 : 0 < x) (hy : I64 y) (hy0 : y ≠ 0) (hn : n ≤ 900000) (h : Solo B w p n y m S) (hf : Fine m) (hS : S x = false) (hh : m.h = x) :
    Calls Try.prog 9 #[.pointer (some ⟨p, 0, none⟩), .int .i64 x, .int .i64 y, .bool all] w fun e w' => e = .returned (.tuple #[.int .i64 (notN all m : Int), .int .i64 0]) ∧ Solo B w' p (n + 3) y (tellM m (notN all m)) S ∧ Bel B w w' := by
  refine (notify_call all hx hy hn h.tb (by rw [get_G1 h.neat]; exact hf)).mono ?_
  rintro e w' ⟨h1, h2, h3⟩
  unfold notifyT at h1 h2
  rw [hold_solo _ _ _ h0 hy0 h hS hh] at h1 h2
  exact ⟨h1, ⟨h2, neat_h (by rw [tellM_h]; omega)⟩, h3⟩
theorem notify_not (all : Bool) (hx : I64 x) (h0 : 0 < x) (hy : I64 y) (hy0 : y ≠ 0) (hn : n ≤ 900000) (h : Solo B w p n y m S) (hf : Fine m) (hh : S x = true ∨ m.h ≠ x) :
    Calls Try.prog 9 #[.pointer (some ⟨p, 0, none⟩), .int .i64 x, .int .i64 y, .bool all] w fun e w' => e = .returned (.tuple #[.int .i64 0, .int .i64 16]) ∧ Solo B w' p (n + 3) y m S ∧ Bel B w w' := by
  refine (notify_call all hx hy hn h.tb (by rw [get_G1 h.neat]; exact hf)).mono ?_
  rintro e w' ⟨h1, h2, h3⟩
  unfold notifyT at h1 h2
  rw [hold_not _ _ _ h0 hy0 h hh] at h1 h2
  exact ⟨h1, ⟨h2, h.neat⟩, h3⟩
theorem holder_solo (hy : I64 y) (h : Solo B w p n y m S) : Calls Try.prog 12 #[.pointer (some ⟨p, 0, none⟩), .int .i64 y] w fun e w' => e = .returned (.tuple #[.int .i64 m.h, .int .i64 m.t]) ∧ Turned [] w w' := by
  refine holder_of _ ?_
  have := of_any hy h.tb
  rw [get_G1 h.neat] at this
  exact this
theorem queue_solo (hy : I64 y) (hl : m.q.length ≤ 1000) (h : Solo B w p n y m S) : Calls Try.prog 14 #[.pointer (some ⟨p, 0, none⟩), .int .i64 y] w (RowT w (m.q.map Prod.fst)) := by
  refine queue_of _ hl ?_
  have := of_any hy h.tb
  rw [get_G1 h.neat] at this
  exact this
theorem aside_solo (hy : I64 y) (hl : m.a.length ≤ 1000) (h : Solo B w p n y m S) : Calls Try.prog 10 #[.pointer (some ⟨p, 0, none⟩), .int .i64 y] w (RowT w (m.a.map Prod.fst)) := by
  refine aside_of _ hl ?_
  have := of_any hy h.tb
  rw [get_G1 h.neat] at this
  exact this
/-- How many objects there are. -/
theorem objects_solo (hn : n ≤ 1000000) (h : Solo B w p n y m S) : Calls Try.prog 13 #[.pointer (some ⟨p, 0, none⟩)] w fun e w' => ∃ (a : Option Addr) (c : Nat), e = .returned (.slice a (if m.gone then 0 else 1) c) ∧ Turned [] w w' := by
  refine (objects_call hn h.tb).mono ?_
  rintro e w' ⟨v, l, rfl, h1, h2, h3, h4⟩
  have hl : l.length = if m.gone then 0 else 1 := by
    cases hg : m.gone with
    | true =>
      have : l = [] := by
        cases l with
        | nil => rfl
        | cons z r =>
          have := (h1.mem z).1 (by simp)
          unfold G1 at this
          rw [hg] at this
          simp at this
      rw [this]; rfl
    | false =>
      have hm : ∀ z, z ∈ l ↔ z = y := fun z => by
        rw [h1.mem z]
        unfold G1
        rw [hg]
        by_cases hz : z = y <;> simp [hz]
      cases l with
      | nil => have := (hm y).2 rfl; cases this
      | cons z r =>
        cases r with
        | nil => rfl
        | cons u r =>
          have e1 := (hm z).1 (by simp)
          have e2 := (hm u).1 (by simp)
          have := (List.pairwise_cons.1 h1.up).1 u (by simp)
          omega
  rcases h2.2 with ⟨rfl, hz⟩ | ⟨gb, cap, cur, rfl, _⟩
  · exact ⟨none, 0, by rw [← hl, hz], Turned.of_below h4⟩
  · exact ⟨_, _, by rw [← hl], Turned.of_below h4⟩
/-- New: one object's table. -/
theorem new_solo (y : Int) (w : World) (hB : B ≤ w.heap.size) : Calls Try.prog 5 #[] w fun e w' => e = .returned (.pointer (some ⟨w.heap.size, 0, none⟩)) ∧ Solo B w' w.heap.size 0 y Mon.zero (fun _ => false) ∧ Turned [] w w' := by
  refine (new_call w hB).mono ?_
  rintro e w' ⟨h1, h2, h3⟩
  exact ⟨h1, ⟨by rw [G1_zero]; exact h2, fun _ => rfl⟩, h3⟩
end
end Go.Proofs.Ytlbcbphkgaoliab
