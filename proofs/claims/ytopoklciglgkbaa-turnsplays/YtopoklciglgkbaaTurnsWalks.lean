/-
  What the calls of package turns that only look tell of an object in the model's heap: task, place, State, Steps.
-/
import Derived.Test.YtopoklciglgkbaaTurnsBase
import Derived.RegionTactic
import Derived.ChangeAlike
import Derived.Deep.OwnRows
namespace Go.Proofs.Ytopoklciglgkbaa
open Go.RowKit

theorem task_in (B : Nat) (w : World) (p : Nat) (F : List Nat) (ts : List Task) (i : Nat) (t : Task) (ht : ts[i]? = some t) (h : Trn B w p F ts) :
    Calls Try.prog 30 #[.pointer (some ⟨p, 0, none⟩), .int .i64 ((i : Int) + 1)] w fun e w' => e = .returned (.pointer (some ⟨t.b, 0, none⟩)) ∧ w' = w := by
  obtain ⟨ao, cap, h0, h1⟩ := h.open
  obtain ⟨g, rfl, h2⟩ := h1 i t ht
  have hlt : i < ts.length := (List.getElem?_eq_some_iff.1 ht).1
  have hr := h.room
  have e1 : ¬ ((i : Int) + 1 < 1) := by omega
  have e2 : ¬ ((ts.length : Int) < (i : Int) + 1) := by omega
  have e3 : wrap64 ((i : Int) + 1 - 1) = (i : Int) := by unfold wrap64; omega
  clear h1 ht h
  go_enter Try.func30, Try.ntmps30
  go_wp2
  go_ret
  exact ⟨rfl, rfl⟩

theorem task_out (B : Nat) (w : World) (p : Nat) (F : List Nat) (ts : List Task) (k : Int) (hk : k < 1 ∨ (ts.length : Int) < k) (h : Trn B w p F ts) :
    Calls Try.prog 30 #[.pointer (some ⟨p, 0, none⟩), .int .i64 k] w fun e w' => e = .returned (.pointer none) ∧ w' = w := by
  obtain ⟨ao, cap, h0, h1⟩ := h.open
  have hr := h.room
  clear h1 h
  by_cases h1 : k < 1
  · clear hk
    go_enter Try.func30, Try.ntmps30
    go_wp2
    go_ret
    exact ⟨rfl, rfl⟩
  · have h2 : (ts.length : Int) < k := by omega
    clear hk
    go_enter Try.func30, Try.ntmps30
    go_wp2
    go_ret
    exact ⟨rfl, rfl⟩

theorem task_nil (k : Int) (w : World) :
    Calls Try.prog 30 #[.pointer none, .int .i64 k] w fun e w' => e = .returned (.pointer none) ∧ w' = w := by
  go_enter Try.func30, Try.ntmps30
  go_wp2
  go_ret
  exact ⟨rfl, rfl⟩

theorem state_in (B : Nat) (w : World) (p : Nat) (F : List Nat) (ts : List Task) (i : Nat) (t : Task) (ht : ts[i]? = some t) (h : Trn B w p F ts) :
    Calls Try.prog 20 #[.pointer (some ⟨p, 0, none⟩), .int .i64 ((i : Int) + 1)] w fun e w' => e = .returned (.int .i64 t.st) ∧ w' = w := by
  have h1 := h.c1 (List.mem_of_getElem? ht)
  have HT := hide (task_in B w p F ts i t ht h)
  clear ht h
  go_enter Try.func20, Try.ntmps20
  go_wp2_with fail
  refine HT.out.mono ?_
  rintro e w1 ⟨rfl, rfl⟩
  go_wp2
  go_ret
  exact ⟨rfl, rfl⟩

theorem steps_in (B : Nat) (w : World) (p : Nat) (F : List Nat) (ts : List Task) (i : Nat) (t : Task) (ht : ts[i]? = some t) (h : Trn B w p F ts) :
    Calls Try.prog 21 #[.pointer (some ⟨p, 0, none⟩), .int .i64 ((i : Int) + 1)] w fun e w' => e = .returned (.int .i64 t.n) ∧ w' = w := by
  have h1 := h.c2 (List.mem_of_getElem? ht)
  have HT := hide (task_in B w p F ts i t ht h)
  clear ht h
  go_enter Try.func21, Try.ntmps21
  go_wp2_with fail
  refine HT.out.mono ?_
  rintro e w1 ⟨rfl, rfl⟩
  go_wp2
  go_ret
  exact ⟨rfl, rfl⟩

theorem state_none (a : Option Addr) (k : Int) (w : World) (h : Calls Try.prog 30 #[.pointer a, .int .i64 k] w fun e w' => e = .returned (.pointer none) ∧ w' = w) :
    Calls Try.prog 20 #[.pointer a, .int .i64 k] w fun e w' => e = .returned (.int .i64 (-1)) ∧ w' = w := by
  have HT := hide h
  clear h
  go_enter Try.func20, Try.ntmps20
  go_wp2_with fail
  refine HT.out.mono ?_
  rintro e w1 ⟨rfl, rfl⟩
  go_wp2
  go_ret
  exact ⟨rfl, rfl⟩

theorem steps_none (a : Option Addr) (k : Int) (w : World) (h : Calls Try.prog 30 #[.pointer a, .int .i64 k] w fun e w' => e = .returned (.pointer none) ∧ w' = w) :
    Calls Try.prog 21 #[.pointer a, .int .i64 k] w fun e w' => e = .returned (.int .i64 0) ∧ w' = w := by
  have HT := hide h
  clear h
  go_enter Try.func21, Try.ntmps21
  go_wp2_with fail
  refine HT.out.mono ?_
  rintro e w1 ⟨rfl, rfl⟩
  go_wp2
  go_ret
  exact ⟨rfl, rfl⟩

theorem place_any (p : Int) (n : Nat) (w : World) (hp : -9223372036854775808 ≤ p ∧ p ≤ 9223372036854775807) (hn : 0 < n) (hn2 : n ≤ 65536) :
    Calls Try.prog 36 #[.int .i64 p, .int .i64 (n : Int)] w fun e w' => e = .returned (.int .i64 ((placeOf p n : Nat) : Int)) ∧ w' = w := by
  have hz : ¬ ((n : Int) = 0) := by omega
  by_cases h : p < 0
  · have e1 : wrap64 (p + 1) = p + 1 := by unfold wrap64; omega
    have e2 : wrap64 (-(p + 1)) = -(p + 1) := by unfold wrap64; omega
    go_enter Try.func36, Try.ntmps36
    go_wp2
    go_ret
    refine ⟨?_, rfl⟩
    have e3 : ((placeOf p n : Nat) : Int) = -((p + 1).tmod (n : Int)) := by
      unfold placeOf
      rw [if_pos h, ← Int.neg_tmod, Int.tmod_eq_emod_of_nonneg (by omega)]
      exact Int.toNat_of_nonneg (Int.emod_nonneg _ (by omega))
    rw [e3]
    rfl
  · have e0 : ¬ (p < 0) := h
    go_enter Try.func36, Try.ntmps36
    go_wp2
    go_ret
    refine ⟨?_, rfl⟩
    have e3 : ((placeOf p n : Nat) : Int) = p % (n : Int) := by
      unfold placeOf
      rw [if_neg (by omega)]
      exact Int.toNat_of_nonneg (Int.emod_nonneg _ (by omega))
    rw [e3]
    rfl
end Go.Proofs.Ytopoklciglgkbaa
