/-
  sums.Plain, and the closures of Make and packed.
-/
import Derived.Test.YtcckflcjjgckoaaDoorPlanEach
import Derived.Test.YtcckflcjjgckoaaDoorPlanWhere
namespace Go.Proofs.YtcckflcjjgckoaaDoor
open Go.RowKit Bt
set_option linter.unusedVariables false
set_option linter.unusedSimpArgs false

def sumN (m : Nat → Nat) : Nat → Nat
  | 0 => 0
  | j + 1 => sumN m j + m j
theorem sumN_mono (m : Nat → Nat) {a b : Nat} (h : a ≤ b) : sumN m a ≤ sumN m b := by
  obtain ⟨d, rfl⟩ := Nat.exists_eq_add_of_le h
  induction d with
  | zero => exact Nat.le_refl _
  | succ d ih =>
    have := ih (by omega)
    show sumN m a ≤ sumN m (a + d) + m (a + d)
    omega
theorem sum_ahead {P : PN} (h : P.Ok) (L : Nat → Bool) (hd : P.f ≤ P.d) (r : Nat) : sumN (mvR P L) r = ahR P L r := by
  induction r with
  | zero => rw [ahR_zero h L hd]; rfl
  | succ r ih => rw [sumN, ih, ahR_succ]
theorem sum_dead {P : PN} (h : P.Ok) (L : Nat → Bool) (r : Nat) : sumN (ddR P L) r = deadTo P L (P.ed r) := by
  induction r with
  | zero => rw [PN.ed_zero h]; simp [sumN, deadTo]
  | succ r ih => rw [sumN, ih, dd_succ h]

set_option maxRecDepth 100000 in
theorem plain13 (w : World) (q n c : Nat) (m : Nat → Nat) (h : Ri w 2 q n (fun i => (m i : Nat))) (hn : n ≤ 65536) (hm : sumN m n ≤ 65536) :
    Calls Tryd.prog 31 #[.slice (some ⟨q, 0, none⟩) n c] w fun e w' => ∃ z, e = .returned (.tuple #[.slice (some ⟨z, 0, none⟩) n n, .int .i64 (sumN m n : Nat)]) ∧ Ri w' 2 z n (fun i => (sumN m i : Nat)) ∧ w.heap.size ≤ z ∧ Turned [] w w' := by
  obtain ⟨i0, hi, hi0⟩ := Option.map_eq_some_iff.1 Tryd.infoI64
  simp only [Prod.mk.injEq] at hi0
  obtain ⟨hz0, hz1, hz2⟩ := hi0
  have hmk : ∀ w : World, (Instr.makeSlice 57 (.int .i64 (n : Int)) (.int .i64 (n : Int))).run Tryd.prog w = .ok (.slice (some ⟨w.heap.size, 0, none⟩) n n) (w.alloc (.cells (madeCells #[Value.int .i64 0] n) 2)) := fun w => by
    have hr := run_make (P := Tryd.prog) w 57 2 i0 (.int .i64 0) Tryd.underlying57 hi hz0 .i64 .i64 n n (by omega) (by omega) (by rw [hz2]; omega) (by omega)
    simp only [hz1, Int.toNat_natCast, Nat.mul_one] at hr
    exact hr
  clear hi hz0 hz1 hz2
  obtain ⟨w1, hw1⟩ : ∃ w1, w1 = w.alloc (.cells (madeCells #[Value.int .i64 0] n) 2) := ⟨_, rfl⟩
  have hT1 : Turned [] w w1 := by rw [hw1]; exact (Turned.refl [] w).alloc _
  obtain ⟨z, hz⟩ : ∃ z, z = w.heap.size := ⟨_, rfl⟩
  have HZ : Hid (Ri w1 2 z n (fun i => ((if i < 0 then sumN m i else 0 : Nat) : Int))) := hide ⟨_, by rw [hw1, hz]; exact heap_alloc_new _ _, fun i hi => by simpa using made_int n i hi⟩
  have HQ := hide (show q < z by rw [hz]; exact h.lt)
  have HZw := hide (show w.heap.size ≤ z by omega)
  have HR := hide (h.turned0 hT1)
  have HT := hide hT1
  clear h hT1
  go_enter Tryd.func31, Tryd.ntmps31
  go_wp2_with fail
  rw [← hw1, ← hz]
  clear hw1 hz hmk
  go_loopw [5, 13] (fun s i wr => ∃ (j : Nat), j ≤ n ∧ i = .int .i64 j ∧ s = .int .i64 (sumN m j : Nat) ∧ Hid (Ri wr 2 z n (fun i => ((if i < j then sumN m i else 0 : Nat) : Int))) ∧ Hid (Ri wr 2 q n (fun i => (m i : Nat))) ∧ Hid (Turned [] w wr)) (fun _ i _ => n - (intOf i).toNat)
  case atStart => exact ⟨0, Nat.zero_le _, rfl, rfl, HZ, HR, HT⟩
  case round =>
    obtain ⟨j, hj, rfl, rfl, HZ2, HR2, HT2⟩ := hrel
    clear HZ HR HT
    by_cases hlt : j < n
    · have c0 := HR2.out.cell hlt
      have c1 : wr.cell? ⟨z, j, none⟩ = some (.int .i64 0) := by
        have := HZ2.out.cell hlt
        simpa using this
      have f1 := HZ2.out.fz j
      have hqz := HQ.out
      have hzl := HZ2.out.lt
      have HS := hide ((HZ2.out.set j (sumN m j : Nat)).congr (g' := fun i => ((if i < j + 1 then sumN m i else 0 : Nat) : Int)) (fun i hi => by
        by_cases hij : i = j
        · subst hij; simp
        · simp only [hij, if_false]
          by_cases h3 : i < j
          · rw [if_pos h3, if_pos (by omega)]
          · rw [if_neg h3, if_neg (by omega)]))
      have HTS : Turned [z] wr (wr.setCell ⟨z, j, none⟩ (.int .i64 (sumN m j : Nat))) := (Turned.refl [z] wr).setCell (p := ⟨z, j, none⟩) (.inl (by simp)) _
      have HRS := hide (HR2.out.turned HTS (by simp; omega))
      have HT3 := hide (HT2.out.setCell (p := ⟨z, j, none⟩) (.inr HZw.out) (.int .i64 (sumN m j : Nat)))
      have hs1 := sumN_mono m (show j + 1 ≤ n by omega)
      have HE := hide (show sumN m j + m j = sumN m (j + 1) from rfl)
      rw [← HE.out] at hs1
      have hsl : sumN m j + m j ≤ 65536 := by omega
      clear HTS HZ2 HR2 HT2 hs1 hm
      generalize sumN m j = sj at *
      generalize m j = mj at *
      go_wp2_with fail
      go_roundw
      case rel => exact ⟨j + 1, by omega, by go_num, by rw [← HE.out]; go_num, HS, HRS, HT3⟩
      case measure => simp [intOf]; omega
    · have hjk : j = n := by omega
      subst hjk
      go_wp2_with fail
      go_ret2
      exact ⟨z, rfl, HZ2.out.congr (fun i hi => by rw [if_pos hi]), HZw.out, HT2.out⟩
end Go.Proofs.YtcckflcjjgckoaaDoor
