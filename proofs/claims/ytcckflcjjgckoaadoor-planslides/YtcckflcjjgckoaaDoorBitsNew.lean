/-
  What New makes.
-/
import Derived.Test.YtcckflcjjgckoaaDoorBitsClear
namespace Go.Proofs.YtcckflcjjgckoaaDoor.Bt
open Go.RowKit
set_option linter.unusedVariables false

theorem Tryd.infoRow : (Tryd.prog.info? 78).map (fun i => (i.zero, i.size, i.bytes)) = some (some (.agg #[.int .u64 0, .int .u64 0]), 2, 16) := by kernel_rfl
theorem Bl.none (n : Nat) : Bl n (fun _ => 0) := ⟨fun a h => absurd h (by simp), fun a b _ h => absurd h (by simp)⟩
theorem sides_none (s k : Nat) : sidesOf (fun _ => 0) s k = false := by
  unfold sidesOf
  split
  · rfl
  · unfold ends; rw [bo_false]; rintro ⟨a, h, _⟩; exact absurd h (by simp)
theorem row_none (s i : Nat) : rowN (sidesOf (fun _ => 0) s) i = 0 := num_zero fun j _ => sides_none _ _
theorem made_zero (R i s : Nat) (hi : i < R) (hs : s < 2) : (madeCells #[Value.int .u64 0, Value.int .u64 0] (R * 2))[i * 2 + s]? = some (.int .u64 0) := by
  unfold madeCells
  rw [Array.getElem?_map, Array.getElem?_range, if_pos (by omega)]
  have : (i * 2 + s) % 2 = 0 ∨ (i * 2 + s) % 2 = 1 := by omega
  rcases this with h | h <;> simp [h]

theorem new_any (x : Int) (w : World) (hx : In64 x) (hT : Tab w) :
    Calls Tryd.prog 15 #[.int .i64 x] w fun e w' => ∃ p q, e = .returned (.pointer (some ⟨p, 0, none⟩)) ∧ Bts w' p q (kp 65536 x) (sidesOf (fun _ => 0)) ∧ w.heap.size ≤ p ∧ w.heap.size ≤ q ∧ Turned [] w w' := by
  unfold In64 at hx
  have hn := kp_le 65536 x
  have ex : min (max x 0) 65536 = (kp 65536 x : Int) := by unfold kp; omega
  have HR := hide (fun w => rows_any (kp 65536 x) w hn)
  generalize kp 65536 x = n at *
  obtain ⟨R, hR⟩ : ∃ R, R = (n + 63) / 64 := ⟨_, rfl⟩
  rw [← hR] at HR
  have HRR := hide hR
  have hRl : R ≤ 1024 := by omega
  have HT := hide hT
  clear hR
  obtain ⟨i0, hi, hi0⟩ := Option.map_eq_some_iff.1 Tryd.infoRow
  simp only [Prod.mk.injEq] at hi0
  obtain ⟨hz0, hz1, hz2⟩ := hi0
  have hmk : ∀ w : World, (Instr.makeSlice 69 (.int .i64 (R : Int)) (.int .i64 (R : Int))).run Tryd.prog w = .ok (.slice (some ⟨w.heap.size, 0, none⟩) R R) (w.alloc (.cells (madeCells #[.int .u64 0, .int .u64 0] (R * 2)) 78)) := fun w => by
    have hr := run_make (P := Tryd.prog) w 69 78 i0 (.agg #[.int .u64 0, .int .u64 0]) Tryd.underlying69 hi hz0 .i64 .i64 R R (by omega) (by omega) (by rw [hz2]; omega) (by omega)
    simp only [hz1, Int.toNat_natCast] at hr
    exact hr
  go_enter Tryd.func15, Tryd.ntmps15
  go_wp2_with fail
  refine (HR.out _).mono ?_
  rintro e w1 ⟨rfl, rfl⟩
  go_wp2_with fail
  go_ret
  have h0 : 0 < w1.heap.size := block_lt (HT.out 0 (by omega))
  have ht : Turned [] w1 ((w1.alloc (.cells (madeCells #[.int .u64 0, .int .u64 0] (R * 2)) 78)).alloc (.cells #[.int .i64 (n : Int), .slice (some ⟨w1.heap.size, 0, none⟩) R R] 71)) := ((Turned.refl [] w1).alloc _).alloc _
  have hs1 : (w1.alloc (.cells (madeCells #[.int .u64 0, .int .u64 0] (R * 2)) 78)).heap.size = w1.heap.size + 1 := by simp
  refine ⟨w1.heap.size + 1, w1.heap.size, rfl, ⟨hn, HT.out.turned ht (by simp), by omega, by omega, by omega, ?_, ⟨madeCells #[.int .u64 0, .int .u64 0] (R * 2), ?_, fun i s hi hs => ?_⟩⟩, by omega, by omega, ht⟩
  · rw [← HRR.out]
    have h1 := heap_alloc_new (w1.alloc (.cells (madeCells #[.int .u64 0, .int .u64 0] (R * 2)) 78)) (.cells #[.int .i64 (n : Int), .slice (some ⟨w1.heap.size, 0, none⟩) R R] 71)
    rw [hs1] at h1
    exact h1
  · rw [Below.heap_alloc _ _ _ (by rw [hs1]; omega)]
    exact heap_alloc_new _ _
  · rw [row_none]
    exact made_zero R i s (by rw [HRR.out]; exact hi) hs
end Go.Proofs.YtcckflcjjgckoaaDoor.Bt
