/-
  What each call of package cells does to a memory that lies in the model's heap: New, Len, Steps, Load, Store, Swap, Add, each for a cell that there is, for one that there is not, and for a nil memory.
-/
import Derived.Test.YtdjeilombaclmaaCellsBase
import Derived.RegionTactic
import Derived.ChangeAlike
namespace Go.Proofs.Ytdjeilombaclmaa
open Go.RowKit

theorem keep_any (n m : Int) (w : World) :
    Calls Try.prog 24 #[.int .i64 n, .int .i64 m] w fun e w' => e = .returned (.int .i64 (min (max n 0) m)) ∧ w' = w := by
  go_enter Try.func24, Try.ntmps24
  go_wp2
  all_goals (go_ret; exact ⟨by simp [Ending.returned.injEq, Value.int.injEq]; omega, rfl⟩)

theorem len_mem (p q : Nat) (l : List Int) (s : Int) (w : World) (h : Mem w p q l s) :
    Calls Try.prog 32 #[.pointer (some ⟨p, 0, none⟩)] w fun e w' => e = .returned (.int .i64 l.length) ∧ w' = w := by
  have h0 := h.c0
  go_enter Try.func32, Try.ntmps32
  go_wp2
  go_ret
  exact ⟨rfl, rfl⟩

theorem len_nil (w : World) :
    Calls Try.prog 32 #[.pointer none] w fun e w' => e = .returned (.int .i64 0) ∧ w' = w := by
  go_enter Try.func32, Try.ntmps32
  go_wp2
  go_ret
  exact ⟨rfl, rfl⟩

theorem steps_mem (p q : Nat) (l : List Int) (s : Int) (w : World) (h : Mem w p q l s) :
    Calls Try.prog 16 #[.pointer (some ⟨p, 0, none⟩)] w fun e w' => e = .returned (.int .i64 s) ∧ w' = w := by
  have h1 := h.c1
  have hld := run_call_load (P := Try.prog) Try.func34 (by kernel_rfl) (by kernel_rfl) (by kernel_rfl) .i64 (by kernel_rfl) h1
  go_enter Try.func16, Try.ntmps16
  go_wp2
  go_ret
  exact ⟨rfl, rfl⟩

theorem steps_nil (w : World) :
    Calls Try.prog 16 #[.pointer none] w fun e w' => e = .returned (.int .i64 0) ∧ w' = w := by
  go_enter Try.func16, Try.ntmps16
  go_wp2
  go_ret
  exact ⟨rfl, rfl⟩

/-- A deed that adds, at whatever cell. -/
theorem deed_add (a : Addr) (x v : Int) (w : World) (hc : w.cell? a = some (.int .i64 x)) (hf : w.frozen? a = false) :
    Calls Try.prog 50 #[.agg #[.int .i64 0, .int .i64 v], .pointer (some a)] w fun e w' => e = .returned (.int .i64 (wrap64 (wrap64 (x + v) - v))) ∧ w' = ((w.alloc (.cells #[.int .i64 0, .int .i64 v] 96)).setCell a (.int .i64 (wrap64 (x + v)))).drew := by
  have ha := block_lt hc
  have hc2 : (w.alloc (.cells #[.int .i64 0, .int .i64 v] 96)).cell? a = some (.int .i64 x) := by
    rw [World.cell?_of_block (w := w) (Below.heap_alloc _ _ _ ha)]; exact hc
  have hf2 : (w.alloc (.cells #[.int .i64 0, .int .i64 v] 96)).frozen? a = false := by
    rw [World.frozen?_of_block (w := w) (Below.heap_alloc _ _ _ ha)]; exact hf
  have hop := run_call_add (P := Try.prog) (w := (w.alloc (.cells #[.int .i64 0, .int .i64 v] 96)).drew) Try.func52 (by kernel_rfl) (by kernel_rfl) (by kernel_rfl) .i64 (by kernel_rfl) hc2 hf2 (wrap_add64 Try.prog x v _)
  have hb := cell_box w #[.int .i64 0, .int .i64 v] 96 a ha (.int .i64 (wrap64 (x + v))) (.int .i64 v) 1 rfl
  rw [World.setCell_drew] at hop
  clear hc hf hc2 hf2
  go_enter Try.func50, Try.ntmps50
  go_wp2
  go_region
  all_goals (go_wp2; go_ret; exact ⟨rfl, rfl⟩)

set_option maxRecDepth 100000 in
theorem add_in (p q : Nat) (l : List Int) (s : Int) (w : World) (k : Nat) (x v : Int) (hk : l[k]? = some x) (h : Mem w p q l s) :
    Calls Try.prog 48 #[.pointer (some ⟨p, 0, none⟩), .int .i64 k, .int .i64 v] w fun e w' => e = .returned (.tuple #[.int .i64 (wrap64 (wrap64 (x + v) - v)), .int .i64 0]) ∧ Mem w' p q (l.set k (wrap64 (x + v))) (wrap64 (s + 1)) ∧ Turned [p, q] w w' := by
  have hlt : k < l.length := (List.getElem?_eq_some_iff.1 hk).1
  have h0 := h.c0
  have h1 := h.c1
  have f1 := h.f 1
  have hmf : ∀ (fn : Fn) (first cap : Array Value) (w : World), (Instr.makeFunc fn first cap).run Try.prog w = .ok (.func fn first cap) w := fun _ _ _ _ => rfl
  have hadd := run_call_add (P := Try.prog) Try.func52 (by kernel_rfl) (by kernel_rfl) (by kernel_rfl) .i64 (by kernel_rfl) h1 f1 (wrap_add64 Try.prog s 1 w)
  have hd := deed_add ⟨q, k, none⟩ x v (w.setCell ⟨p, 1, none⟩ (.int .i64 (wrap64 (s + 1)))) ((h.step _).word hk) ((h.step _).fw k)
  have HD : Hid (Calls Try.prog 50 #[.agg #[.int .i64 0, .int .i64 v], .pointer (some ⟨q, k, none⟩)] (w.setCell ⟨p, 1, none⟩ (.int .i64 (wrap64 (s + 1)))) _) := hd
  clear hd
  have HE : Hid (Mem (((w.setCell ⟨p, 1, none⟩ (.int .i64 (wrap64 (s + 1)))).alloc (.cells #[.int .i64 0, .int .i64 v] 96)).setCell ⟨q, k, none⟩ (.int .i64 (wrap64 (x + v)))) p q (l.set k (wrap64 (x + v))) (wrap64 (s + 1))) := ((h.step _).alloc _).store _ _
  have HT : Hid (Turned [p, q] w (((w.setCell ⟨p, 1, none⟩ (.int .i64 (wrap64 (s + 1)))).alloc (.cells #[.int .i64 0, .int .i64 v] 96)).setCell ⟨q, k, none⟩ (.int .i64 (wrap64 (x + v))))) := (((Turned.refl _ _).setCell (by simp) _).alloc _).setCell (by simp) _
  clear h hk
  go_enter Try.func48, Try.ntmps48
  go_wp2_with (first | (go_at_call 50; refine (Hid.out HD).mono ?_; rintro e w' ⟨rfl, rfl⟩) | (go_at_call 49; go_in) | (go_at_call 32; go_in) | (go_at_call 51; go_in))
  go_ret2
  exact ⟨rfl, HE.out.drew, HT.out.drew⟩

/-- No such cell: nothing is done. -/
theorem add_out (p : Nat) (ao : Option Addr) (n c : Nat) (w : World) (k v : Int) (hk : k < 0 ∨ n ≤ k) (h0 : w.cell? ⟨p, 0, none⟩ = some (.slice ao n c)) :
    Calls Try.prog 48 #[.pointer (some ⟨p, 0, none⟩), .int .i64 k, .int .i64 v] w fun e w' => e = .returned (.tuple #[.int .i64 0, .int .i64 10]) ∧ w' = w := by
  have hmf : ∀ (fn : Fn) (first cap : Array Value) (w : World), (Instr.makeFunc fn first cap).run Try.prog w = .ok (.func fn first cap) w := fun _ _ _ _ => rfl
  by_cases hn : k < 0
  · clear hk
    go_enter Try.func48, Try.ntmps48
    go_wp2
    go_ret2
    exact ⟨rfl, rfl⟩
  · have hk2 : (n : Int) ≤ k := by omega
    clear hk
    go_enter Try.func48, Try.ntmps48
    go_wp2
    go_ret2
    exact ⟨rfl, rfl⟩
/-- A nil memory has no cell. -/
theorem add_nil (w : World) (k v : Int) :
    Calls Try.prog 48 #[.pointer none, .int .i64 k, .int .i64 v] w fun e w' => e = .returned (.tuple #[.int .i64 0, .int .i64 10]) ∧ w' = w := by
  have hmf : ∀ (fn : Fn) (first cap : Array Value) (w : World), (Instr.makeFunc fn first cap).run Try.prog w = .ok (.func fn first cap) w := fun _ _ _ _ => rfl
  by_cases hn : k < 0
  · go_enter Try.func48, Try.ntmps48
    go_wp2
    go_ret2
    exact ⟨rfl, rfl⟩
  · have hk2 : 0 ≤ k := by omega
    go_enter Try.func48, Try.ntmps48
    go_wp2
    go_ret2
    exact ⟨rfl, rfl⟩

end Go.Proofs.Ytdjeilombaclmaa
