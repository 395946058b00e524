/-
  What New, Words and Put of package cells do to a memory that lies in the model's heap.
-/
import Derived.Test.YtdjeilombaclmaaCellsWalks
import Derived.Deep.OwnRows
namespace Go.Proofs.Ytdjeilombaclmaa
open Go.RowKit

theorem madeCells_zeros (m : Nat) : madeCells #[Value.int .i64 0] m = ((List.replicate m (0 : Int)).map (Value.int .i64)).toArray := by
  apply Array.ext
  · simp [madeCells]
  · intro i h1 h2
    simp [madeCells, Nat.mod_one]

theorem Try.info2 : (Try.prog.info? 2).map (fun i => (i.zero, i.size, i.bytes)) = some (some (.int .i64 0), 1, 8) := by kernel_rfl

theorem new_any (n : Int) (w : World) :
    Calls Try.prog 14 #[.int .i64 n] w fun e w' => e = .returned (.pointer (some ⟨w.heap.size + 1, 0, none⟩)) ∧ Mem w' (w.heap.size + 1) w.heap.size (List.replicate (min (max n 0) 65536).toNat 0) 0 ∧ Turned [] w w' ∧ w'.heap.size = w.heap.size + 2 := by
  generalize hm : min (max n 0) 65536 = m
  have h1 : 0 ≤ m ∧ m ≤ 65536 := by omega
  obtain ⟨k, rfl⟩ := Int.eq_ofNat_of_zero_le h1.1
  have hk : ∀ w, Calls Try.prog 24 #[.int .i64 n, .int .i64 65536] w fun e w' => e = .returned (.int .i64 (k : Int)) ∧ w' = w := fun w => by rw [← hm]; exact keep_any n 65536 w
  have HK : Hid (∀ w, Calls Try.prog 24 #[.int .i64 n, .int .i64 65536] w fun e w' => e = .returned (.int .i64 (k : Int)) ∧ w' = w) := hk
  clear hk hm
  have hmk := run_make_row' (P := Try.prog) 22 2 (.int .i64 0) 8 Try.underlying22 Try.info2 rfl .i64 .i64 k (by omega) (by omega)
  go_enter Try.func14, Try.ntmps14
  go_wp2_with (go_at_call 24; refine (Hid.out HK _).mono ?_; rintro e w' ⟨rfl, rfl⟩)
  go_ret
  refine ⟨rfl, ⟨by omega, ?_, ?_⟩, ((Turned.refl _ _).alloc _).alloc _, by simp⟩
  · have h2 := heap_alloc_new (w'.alloc (.cells (madeCells #[Value.int .i64 0] k) 2)) (.cells #[.slice (some ⟨w'.heap.size, 0, none⟩) k k, .int .i64 0] 65)
    simpa using h2
  · rw [Below.heap_alloc _ _ _ (by simp), heap_alloc_new, madeCells_zeros]
    simp

theorem clone_some (b off n c : Nat) (l : List Int) (w : World) (hl : l.length = n) (hn : n ≤ 65536) (hc : ∀ i x, l[i]? = some x → w.cell? ⟨b, off + i, none⟩ = some (.int .i64 x)) (h0 : 0 < n) :
    Calls Try.prog 23 #[.slice (some ⟨b, off, none⟩) n c] w fun e w' => ∃ v, e = .returned v ∧ w'.ownsRow w.heap.size 2 1 v n (l.map (Value.int .i64)) ∧ Turned [] w w' := by
  have heq := fun w => Lib.run_eql_slice_nil (P := Try.prog) w 22 2 (some ⟨b, off, none⟩) n c 0 0 Try.underlying22
  have hbs : ∀ w : World, (Instr.buildSlice 22 0 #[]).run Try.prog w = .ok (.slice (some ⟨w.heap.size, 0, none⟩) 0 0) (w.alloc (.cells #[] 2)) := fun _ => by kernel_rfl
  have hcl : ∀ j u, (l.map (Value.int .i64))[j]? = some u → (w.alloc (.cells #[] 2)).cell? (Addr.add ⟨b, off, none⟩ j) = some u := by
    intro j u hu
    rw [List.getElem?_map] at hu
    obtain ⟨x, hx, rfl⟩ := Option.map_eq_some_iff.1 hu
    have h1 := hc j x hx
    have h2 := block_lt h1
    rw [show Addr.add ⟨b, off, none⟩ j = ⟨b, off + j, none⟩ by simp [Addr.add]]
    rw [World.cell?_of_block (w := w) (Below.heap_alloc _ _ _ h2)]
    exact h1
  have HC : Hid (∀ j u, (l.map (Value.int .i64))[j]? = some u → (w.alloc (.cells #[] 2)).cell? (Addr.add ⟨b, off, none⟩ j) = some u) := hcl
  have HL : Hid (l.length = n) := hl
  clear hc hl hcl
  obtain ⟨i0, hi, hi0⟩ := Option.map_eq_some_iff.1 Try.info2
  simp only [Prod.mk.injEq] at hi0
  obtain ⟨hz0, hz1, hz2⟩ := hi0
  go_enter Try.func23, Try.ntmps23
  go_wp2_with (at_builtin; (refine wpList_append_grows _ rfl _ _ 22 rfl 2 i0 (.int .i64 0) 1 8 Try.underlying22 hi hz0 hz1 hz2 rfl (by decide) (some ⟨w.heap.size, 0, none⟩) 0 0 [] rfl (by intro h; cases h) rfl (by intro b hb j u hu; simp at hu) ⟨b, off, none⟩ n c (l.map (Value.int .i64)) rfl (by simp [Hid.out HL]) HC.out (by intro u hu; obtain ⟨x, _, rfl⟩ := List.mem_map.1 hu; rfl) (by omega) (by unfold maxLen; omega) (by omega) ?_); intro v' w3 hown hgr)
  go_ret
  simp only [Nat.zero_add, List.nil_append] at hown
  exact ⟨_, rfl, ownsRow_mono hown (by simp), ((Turned.refl _ _).alloc _).grown hgr (fun k hk => by cases hk)⟩

theorem put_nil (k : Int) (a : Option Addr) (m c : Nat) (w : World) :
    Calls Try.prog 43 #[.pointer none, .int .i64 k, .slice a m c] w fun e w' => e = .returned (.int .i64 10) ∧ w' = w := by
  go_enter Try.func43, Try.ntmps43
  go_wp2
  go_ret
  exact ⟨rfl, rfl⟩

theorem put_out (p : Nat) (ao : Option Addr) (n c : Nat) (k : Int) (a : Option Addr) (m d : Nat) (w : World) (hn : n ≤ 65536) (h0 : w.cell? ⟨p, 0, none⟩ = some (.slice ao n c)) (hk : k < 0 ∨ n < k ∨ n - k < m) :
    Calls Try.prog 43 #[.pointer (some ⟨p, 0, none⟩), .int .i64 k, .slice a m d] w fun e w' => e = .returned (.int .i64 10) ∧ w' = w := by
  by_cases h1 : k < 0
  · clear hk
    go_enter Try.func43, Try.ntmps43
    go_wp2
    go_ret
    exact ⟨rfl, rfl⟩
  · by_cases h2 : (n : Int) < k
    · clear hk
      go_enter Try.func43, Try.ntmps43
      go_wp2
      go_ret
      exact ⟨rfl, rfl⟩
    · have h3 : (n : Int) - k < m := by omega
      clear hk
      go_enter Try.func43, Try.ntmps43
      go_wp2
      go_ret
      exact ⟨rfl, rfl⟩
end Go.Proofs.Ytdjeilombaclmaa
