/-
  newWorkers and New.
-/
import Derived.Test.YtdjeilombaclmaaSumsStep
namespace Go.Proofs.Ytdjeilombaclmaa
open Go.RowKit
set_option linter.unusedVariables false

theorem Try.infoWk : (Try.prog.info? 68).map (fun i => (i.zero, i.size, i.bytes)) = some (some (.pointer none), 1, 8) := by kernel_rfl

/-- New workers: the row wr; the worker k lies in block wr + 1 + k. -/
def wks (wr n : Nat) : List Nat := (List.range n).map (fun k => wr + 1 + k)
theorem wks_len (wr n : Nat) : (wks wr n).length = n := by simp [wks]
theorem wks_get {wr n k : Nat} (h : k < n) : (wks wr n)[k]? = some (wr + 1 + k) := by simp [wks, h]
def wkRow (wr n j : Nat) : Array Value := (((wks wr n).take j).map ptr ++ List.replicate (n - j) (Value.pointer none)).toArray

theorem made_one (v : Value) (m : Nat) : madeCells #[v] m = (List.replicate m v).toArray := by
  apply Array.ext
  · simp [madeCells]
  · intro i h1 h2
    simp [madeCells, Nat.mod_one]

set_option maxRecDepth 100000 in
theorem snewWorkers (w : World) (n : Nat) (h0 : 0 < n) (hn : n ≤ 64) :
    Calls Try.prog 22 #[.int .i64 (n : Int)] w fun e w' => e = .returned (.slice (some ⟨w.heap.size, 0, none⟩) n n) ∧ w'.heap[w.heap.size]? = some (.cells ((wks w.heap.size n).map ptr).toArray 68) ∧ (∀ k, k < n → w'.heap[w.heap.size + 1 + k]? = some (.cells (wkCells k ⟨0, 0, 0⟩) 78)) ∧ Turned [] w w' ∧ w'.heap.size = w.heap.size + 1 + n := by
  have hmk := run_make_row' (P := Try.prog) 54 68 (.pointer none) 8 Try.underlying54 Try.infoWk rfl .i64 .i64 n (by omega) (by omega)
  have HT := hide (show Turned [] w (w.alloc (.cells (madeCells #[Value.pointer none] n) 68)) from (Turned.refl _ _).alloc _)
  have HG := hide (show (w.alloc (.cells (madeCells #[Value.pointer none] n) 68)).heap[w.heap.size]? = some (.cells (wkRow w.heap.size n 0) 68) from by
    rw [heap_alloc_new, made_one]; simp [wkRow])
  have HZ := hide (show (w.alloc (.cells (madeCells #[Value.pointer none] n) 68)).heap.size = w.heap.size + 1 + 0 from by simp)
  go_enter Try.func22, Try.ntmps22
  go_wp2_with fail
  generalize w.alloc (.cells (madeCells #[Value.pointer none] n) 68) = w1 at *
  clear hmk
  obtain ⟨q, hq⟩ : ∃ q, q = w.heap.size := ⟨_, rfl⟩
  rw [← hq] at HG HZ ⊢
  have HQ := hide hq
  clear hq
  go_loopw [8] (fun i wr => ∃ (j : Nat), j ≤ n ∧ i = .int .i64 j ∧ Hid (wr.heap[q]? = some (.cells (wkRow q n j) 68)) ∧ Hid (∀ k, k < j → wr.heap[q + 1 + k]? = some (.cells (wkCells k ⟨0, 0, 0⟩) 78)) ∧ Hid (Turned [] w wr) ∧ Hid (wr.heap.size = q + 1 + j)) (fun i _ => n - (intOf i).toNat)
  case atStart => exact ⟨0, Nat.zero_le _, rfl, HG, (fun k hk => absurd hk (Nat.not_lt_zero k)), HT, HZ⟩
  case round =>
    obtain ⟨j, hj, rfl, HG2, HE2, HT2, HZ2⟩ := hrel
    clear HG HT HZ
    by_cases hlt : j < n
    · have hjl : (wkRow q n j)[j]? = some (.pointer none) := by
        unfold wkRow
        have h1 : (((wks q n).take j).map ptr).length = j := by rw [List.length_map, List.length_take, wks_len]; omega
        simp only [List.getElem?_toArray]
        rw [List.getElem?_append_right (by omega), h1, Nat.sub_self, List.getElem?_replicate, if_pos (by omega)]
      have hqn : ¬ q = wr.heap.size := by have := HZ2.out; omega
      have hbx : (wr.alloc (.cells (wkCells j ⟨0, 0, 0⟩) 78)).heap[q]? = some (.cells (wkRow q n j) 68) := by
        rw [Below.heap_alloc _ _ _ (lt_of_heap HG2.out)]; exact HG2.out
      have cq : (wr.alloc (.cells (wkCells j ⟨0, 0, 0⟩) 78)).cell? ⟨q, j, none⟩ = some (.pointer none) := by rw [cell_of_heap hbx]; exact hjl
      have fq : (wr.alloc (.cells (wkCells j ⟨0, 0, 0⟩) 78)).frozen? ⟨q, j, none⟩ = false := by simp only [World.frozen?, hbx]; simp
      have HA := hide (show ((wr.alloc (.cells (wkCells j ⟨0, 0, 0⟩) 78)).setCell ⟨q, j, none⟩ (.pointer (some ⟨wr.heap.size, 0, none⟩))).heap[q]? = some (.cells (wkRow q n (j + 1)) 68) from by
        rw [heap_setCell_at _ _ _ _ _ _ hbx]
        congr 2
        unfold wkRow
        have h1 : (((wks q n).take j).map ptr).length = j := by rw [List.length_map, List.length_take, wks_len]; omega
        rw [take_snoc (wks_get hlt), HZ2.out]
        simp only [List.setIfInBounds_toArray]
        rw [List.set_append_right _ _ (by omega), h1, Nat.sub_self]
        obtain ⟨m, hm⟩ : ∃ m, n - j = m + 1 := ⟨n - j - 1, by omega⟩
        rw [hm, show n - (j + 1) = m by omega, List.replicate_succ]
        simp [ptr])
      have HB := hide (show ∀ k, k < j + 1 → ((wr.alloc (.cells (wkCells j ⟨0, 0, 0⟩) 78)).setCell ⟨q, j, none⟩ (.pointer (some ⟨wr.heap.size, 0, none⟩))).heap[q + 1 + k]? = some (.cells (wkCells k ⟨0, 0, 0⟩) 78) from fun k hk => by
        rw [Below.heap_setCell _ _ _ _ (by simp; omega)]
        by_cases e : k = j
        · subst e
          rw [← HZ2.out, heap_alloc_new]
        · rw [Below.heap_alloc _ _ _ (by have := HZ2.out; omega)]
          exact HE2.out k (by omega))
      have HU := hide ((HT2.out.alloc (.cells (wkCells j ⟨0, 0, 0⟩) 78)).setCell (p := ⟨q, j, none⟩) (.inr (by have := HQ.out; dsimp only; omega)) (.pointer (some ⟨wr.heap.size, 0, none⟩)))
      have HW := hide (show ((wr.alloc (.cells (wkCells j ⟨0, 0, 0⟩) 78)).setCell ⟨q, j, none⟩ (.pointer (some ⟨wr.heap.size, 0, none⟩))).heap.size = q + 1 + (j + 1) from by
        have := HZ2.out
        simp
        omega)
      clear hjl hbx HG2 HE2 HT2 HZ2
      rw [show wkCells j ⟨0, 0, 0⟩ = #[.int .i64 (j : Int), .int .i64 0, .int .i64 0, .int .i64 0] from rfl] at cq fq HA HB HU HW
      go_wp2_with fail
      go_roundw
      case rel => exact ⟨j + 1, by omega, by go_num, HA, HB, HU, HW⟩
      case measure => simp [intOf]; omega
    · have hjk : j = n := by omega
      subst hjk
      go_wp2_with fail
      go_ret
      have h1 := HG2.out
      rw [show wkRow q j j = ((wks q j).map ptr).toArray by unfold wkRow; rw [List.take_of_length_le (by rw [wks_len]; exact Nat.le_refl _)]; simp] at h1
      obtain rfl := HQ.out
      exact ⟨rfl, h1, HE2.out, HT2.out, HZ2.out⟩
end Go.Proofs.Ytdjeilombaclmaa
