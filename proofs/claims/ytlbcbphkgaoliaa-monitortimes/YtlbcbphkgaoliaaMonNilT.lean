/-
  The table that is nil: it takes no threads; Move without a function does nothing.
-/
import Derived.Test.YtlbcbphkgaoliaaMonExit
import Derived.Test.YtlbcbphkgaoliaaMonLook
namespace Go.Proofs.Ytlbcbphkgaoliaa
open Go.RowKit
set_option linter.unusedVariables false
set_option linter.unusedSimpArgs false

set_option maxRecDepth 100000 in
theorem at_nil_bool (x y : Int) (f : Value) (w : World) : Calls Try.prog 40 #[.pointer none, .int .i64 x, .int .i64 y, f] w fun e w' => e = .returned (.tuple #[.bool false, .int .i64 1]) ∧ w' = w := by
  have HL : Hid ((fun (e : Ending) (w' : World) => e = .returned (.tuple #[.bool false, .int .i64 1]) ∧ w' = w) (.returned (.tuple #[.bool false, .int .i64 1])) w) := hide ⟨rfl, rfl⟩
  generalize (fun (e : Ending) (w' : World) => e = .returned (.tuple #[.bool false, .int .i64 1]) ∧ w' = w) = Q at *
  go_enter_defers Try.func40, Try.ntmps40
  go_wp2_with fail
  refine ⟨_, results_tmp2 rfl _ _ _, ?_⟩
  exact HL.out
set_option maxRecDepth 100000 in
theorem at_nil_int (x y : Int) (f : Value) (w : World) : Calls Try.prog 63 #[.pointer none, .int .i64 x, .int .i64 y, f] w fun e w' => e = .returned (.tuple #[.int .i64 0, .int .i64 1]) ∧ w' = w := by
  have HL : Hid ((fun (e : Ending) (w' : World) => e = .returned (.tuple #[.int .i64 0, .int .i64 1]) ∧ w' = w) (.returned (.tuple #[.int .i64 0, .int .i64 1])) w) := hide ⟨rfl, rfl⟩
  generalize (fun (e : Ending) (w' : World) => e = .returned (.tuple #[.int .i64 0, .int .i64 1]) ∧ w' = w) = Q at *
  go_enter_defers Try.func63, Try.ntmps63
  go_wp2_with fail
  refine ⟨_, results_tmp2 rfl _ _ _, ?_⟩
  exact HL.out
set_option maxRecDepth 100000 in
theorem holding_nil (x y : Int) (fn : Fn) (cs : Array Value) (w : World) : Calls Try.prog 44 #[.pointer none, .int .i64 x, .int .i64 y, .func fn #[] cs] w fun e w' => e = .returned (.tuple #[.int .i64 0, .int .i64 1]) ∧ Turned [] w w' := by
  have hmf : ∀ (fn : Fn) (first cap : Array Value) (w : World), (Instr.makeFunc fn first cap).run Try.prog w = .ok (.func fn first cap) w := fun _ _ _ _ => rfl
  obtain ⟨w1, hw1⟩ : ∃ w1, w1 = (w.alloc (.cells #[.int .i64 x] 3)).alloc (.cells #[.func fn #[] cs] 93) := ⟨_, rfl⟩
  have HT : Hid (Turned [] w w1) := hide (by rw [hw1]; exact ((Turned.refl _ _).alloc _).alloc _)
  have c1 : w1.cell? ⟨w.heap.size, 0, none⟩ = some (.int .i64 x) := by
    rw [hw1, cell_of_heap (Below.heap_alloc _ _ _ (by simp) |>.trans (heap_alloc_new _ _))]
    rfl
  go_enter Try.func44, Try.ntmps44
  go_upto_region 1 with fail
  rw [← hw1]
  clear hw1
  go_wp2_with fail
  refine (at_nil_int _ _ _ w1).mono ?_
  rintro e w2 ⟨rfl, rfl⟩
  go_wp2_with fail
  go_ret2
  exact ⟨rfl, HT.out⟩
set_option maxRecDepth 100000 in
/-- Exit at no table. -/
theorem exit_nil (x y : Int) (w : World) : Calls Try.prog 23 #[.pointer none, .int .i64 x, .int .i64 y] w fun e w' => e = .returned (.tuple #[.int .i64 0, .int .i64 1]) ∧ Turned [] w w' := by
  have hmf : ∀ (fn : Fn) (first cap : Array Value) (w : World), (Instr.makeFunc fn first cap).run Try.prog w = .ok (.func fn first cap) w := fun _ _ _ _ => rfl
  obtain ⟨w1, hw1⟩ : ∃ w1, w1 = w.alloc (.cells #[.pointer none] 24) := ⟨_, rfl⟩
  have HT : Hid (Turned [] w w1) := hide (by rw [hw1]; exact (Turned.refl _ _).alloc _)
  have c1 : w1.cell? ⟨w.heap.size, 0, none⟩ = some (.pointer none) := by rw [hw1, cell_of_heap (heap_alloc_new _ _)]; rfl
  go_enter Try.func23, Try.ntmps23
  go_upto_region 1 with fail
  rw [← hw1]
  clear hw1
  go_wp2_with fail
  refine (holding_nil _ _ _ _ w1).mono ?_
  rintro e w2 ⟨rfl, t2⟩
  have HT2 := hide (HT.out.trans t2)
  clear t2 HT
  go_wp2_with fail
  go_ret2
  exact ⟨rfl, HT2.out⟩
set_option maxRecDepth 100000 in
/-- Enter at no table. -/
theorem enter_nil (x y : Int) (w : World) : Calls Try.prog 21 #[.pointer none, .int .i64 x, .int .i64 y] w fun e w' => e = .returned (.tuple #[.bool false, .int .i64 1]) ∧ Turned [] w w' := by
  have hmf : ∀ (fn : Fn) (first cap : Array Value) (w : World), (Instr.makeFunc fn first cap).run Try.prog w = .ok (.func fn first cap) w := fun _ _ _ _ => rfl
  obtain ⟨w1, hw1⟩ : ∃ w1, w1 = (w.alloc (.cells #[.pointer none] 24)).alloc (.cells #[.int .i64 x] 3) := ⟨_, rfl⟩
  have HT : Hid (Turned [] w w1) := hide (by rw [hw1]; exact ((Turned.refl _ _).alloc _).alloc _)
  have c1 : w1.cell? ⟨w.heap.size, 0, none⟩ = some (.pointer none) := by
    rw [hw1, cell_of_heap (Below.heap_alloc _ _ _ (by simp) |>.trans (heap_alloc_new _ _))]
    rfl
  have c2 : w1.cell? ⟨w.heap.size + 1, 0, none⟩ = some (.int .i64 x) := by
    have := heap_alloc_new (w.alloc (.cells #[.pointer none] 24)) (.cells #[.int .i64 x] 3)
    rw [show (w.alloc (.cells #[.pointer none] 24)).heap.size = w.heap.size + 1 by simp] at this
    rw [hw1, cell_of_heap this]
    rfl
  go_enter Try.func21, Try.ntmps21
  go_upto_region 1 with fail
  rw [← hw1]
  clear hw1
  go_wp2_with fail
  refine (at_nil_bool _ _ _ w1).mono ?_
  rintro e w2 ⟨rfl, rfl⟩
  go_wp2_with fail
  go_ret2
  exact ⟨rfl, HT.out⟩
theorem held_nil (x : Int) (w : World) : Calls Try.prog 13 #[.pointer none, .int .i64 x] w fun e w' => e = .returned (.bool false) ∧ Turned [] w w' := by
  have HT := hide (((Turned.refl [] w).alloc (.cells #[] 83)))
  have HT0 := hide (Turned.refl [] w)
  go_enter Try.func13, Try.ntmps13
  go_wp2_with fail
  go_ret
  first | exact ⟨rfl, HT.out⟩ | exact ⟨rfl, HT0.out⟩
set_option maxRecDepth 100000 in
theorem eq_nilF17 (w : World) : (binOp BinOp.eql 62 .nilFunc .nilFunc).run Try.prog w = .ok (.bool true) w := by kernel_rfl
set_option maxRecDepth 100000 in
/-- Move without a function. -/
theorem move_none (v : Option Nat) (w : World) : Calls Try.prog 27 #[.pointer (v.map fun p => ⟨p, 0, none⟩), .nilFunc] w fun e w' => e = .returned (.tuple #[]) ∧ w' = w := by
  cases v with
  | none =>
    simp only [Option.map_none]
    go_enter Try.func27, Try.ntmps27
    go_wp2_with fail
    first | refine bodyPost_end (results_none rfl _ _ _) rfl ?_ | refine bodyPost_ret (results_none rfl _ _ _) rfl ?_
    exact ⟨rfl, rfl⟩
  | some a =>
    simp only [Option.map_some]
    have hq := eq_nilF17 w
    go_enter Try.func27, Try.ntmps27
    go_wp2_with fail
    first | refine bodyPost_end (results_none rfl _ _ _) rfl ?_ | refine bodyPost_ret (results_none rfl _ _ _) rfl ?_
    exact ⟨rfl, rfl⟩
end Go.Proofs.Ytlbcbphkgaoliaa
