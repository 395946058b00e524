/-
  Texts of the proof, several in one: CellsWalks.
-/
import Derived.Test.YtbmlggemheljkaaGreatDoorPack2
import Derived.RegionTactic
import Derived.ChangeAlike
/-
  What each call of package cells does to a memory that lies in the model's heap: New, Len, Steps, Load, Store, Swap, Add, each for a cell that there is, for one that there is not, and for a nil memory.
-/
namespace Go.Proofs.YtbmlggemheljkaaGreatDoor
open Go.RowKit

theorem keep_any (n m : Int) (w : World) :
    Calls Tryz.prog 43 #[.int .i64 n, .int .i64 m] w fun e w' => e = .returned (.int .i64 (min (max n 0) m)) ∧ w' = w := by
  go_enter Tryz.func43, Tryz.ntmps43
  go_wp2
  all_goals (go_ret; exact ⟨by simp [Ending.returned.injEq, Value.int.injEq]; omega, rfl⟩)

theorem len_mem (p q : Nat) (l : List Int) (s : Int) (w : World) (h : Mem w p q l s) :
    Calls Tryz.prog 34 #[.pointer (some ⟨p, 0, none⟩)] w fun e w' => e = .returned (.int .i64 l.length) ∧ w' = w := by
  have h0 := h.c0
  go_enter Tryz.func34, Tryz.ntmps34
  go_wp2
  go_ret
  exact ⟨rfl, rfl⟩

theorem len_nil (w : World) :
    Calls Tryz.prog 34 #[.pointer none] w fun e w' => e = .returned (.int .i64 0) ∧ w' = w := by
  go_enter Tryz.func34, Tryz.ntmps34
  go_wp2
  go_ret
  exact ⟨rfl, rfl⟩

theorem steps_mem (p q : Nat) (l : List Int) (s : Int) (w : World) (h : Mem w p q l s) :
    Calls Tryz.prog 15 #[.pointer (some ⟨p, 0, none⟩)] w fun e w' => e = .returned (.int .i64 s) ∧ w' = w := by
  have h1 := h.c1
  have hld := run_call_load (P := Tryz.prog) Tryz.func61 (by kernel_rfl) (by kernel_rfl) (by kernel_rfl) .i64 (by kernel_rfl) h1
  go_enter Tryz.func15, Tryz.ntmps15
  go_wp2
  go_ret
  exact ⟨rfl, rfl⟩

theorem steps_nil (w : World) :
    Calls Tryz.prog 15 #[.pointer none] w fun e w' => e = .returned (.int .i64 0) ∧ w' = w := by
  go_enter Tryz.func15, Tryz.ntmps15
  go_wp2
  go_ret
  exact ⟨rfl, rfl⟩

set_option maxRecDepth 100000 in
theorem load_in (p q : Nat) (l : List Int) (s : Int) (w : World) (k : Nat) (x : Int) (hk : l[k]? = some x) (h : Mem w p q l s) :
    Calls Tryz.prog 99 #[.pointer (some ⟨p, 0, none⟩), .int .i64 k] w fun e w' => e = .returned (.tuple #[.int .i64 x, .int .i64 0]) ∧ Mem w' p q l (wrap64 (s + 1)) ∧ Turned [p, q] w w' := by
  have hlt : k < l.length := (List.getElem?_eq_some_iff.1 hk).1
  have h0 := h.c0
  have h1 := h.c1
  have f1 := h.f 1
  have h2 : Mem ((w.setCell ⟨p, 1, none⟩ (.int .i64 (wrap64 (s + 1)))).alloc (.cells #[.int .i64 0, .int .i64 0] 153)) p q l (wrap64 (s + 1)) := (h.step _).alloc _
  have hmf : ∀ (fn : Fn) (first cap : Array Value) (w : World), (Instr.makeFunc fn first cap).run Tryz.prog w = .ok (.func fn first cap) w := fun _ _ _ _ => rfl
  have hadd := run_call_add (P := Tryz.prog) Tryz.func118 (by kernel_rfl) (by kernel_rfl) (by kernel_rfl) .i64 (by kernel_rfl) h1 f1 (wrap_add64 Tryz.prog s 1 w)
  have hop := run_call_load (P := Tryz.prog) Tryz.func61 (by kernel_rfl) (by kernel_rfl) (by kernel_rfl) .i64 (by kernel_rfl) (h2.word hk)
  have HE : Hid (Mem ((w.setCell ⟨p, 1, none⟩ (.int .i64 (wrap64 (s + 1)))).alloc (.cells #[.int .i64 0, .int .i64 0] 153)) p q l (wrap64 (s + 1))) := (h.step _).alloc _
  have HT : Hid (Turned [p, q] w ((w.setCell ⟨p, 1, none⟩ (.int .i64 (wrap64 (s + 1)))).alloc (.cells #[.int .i64 0, .int .i64 0] 153))) := ((Turned.refl _ _).setCell (by simp) _).alloc _
  clear h2 h hk
  go_enter Tryz.func99, Tryz.ntmps99
  go_wp2
  go_ret2
  exact ⟨rfl, HE.out, HT.out⟩

set_option maxRecDepth 100000 in
theorem store_in (p q : Nat) (l : List Int) (s : Int) (w : World) (k : Nat) (x v : Int) (hk : l[k]? = some x) (h : Mem w p q l s) :
    Calls Tryz.prog 109 #[.pointer (some ⟨p, 0, none⟩), .int .i64 k, .int .i64 v] w fun e w' => e = .returned (.int .i64 0) ∧ Mem w' p q (l.set k v) (wrap64 (s + 1)) ∧ Turned [p, q] w w' := by
  have hlt : k < l.length := (List.getElem?_eq_some_iff.1 hk).1
  have h0 := h.c0
  have h1 := h.c1
  have f1 := h.f 1
  have h2 : Mem ((w.setCell ⟨p, 1, none⟩ (.int .i64 (wrap64 (s + 1)))).alloc (.cells #[.int .i64 0, .int .i64 v] 153)) p q l (wrap64 (s + 1)) := (h.step _).alloc _
  have hmf : ∀ (fn : Fn) (first cap : Array Value) (w : World), (Instr.makeFunc fn first cap).run Tryz.prog w = .ok (.func fn first cap) w := fun _ _ _ _ => rfl
  have hadd := run_call_add (P := Tryz.prog) Tryz.func118 (by kernel_rfl) (by kernel_rfl) (by kernel_rfl) .i64 (by kernel_rfl) h1 f1 (wrap_add64 Tryz.prog s 1 w)
  have hop := run_call_store (P := Tryz.prog) Tryz.func119 (by kernel_rfl) (by kernel_rfl) (by kernel_rfl) (by kernel_rfl) (k := .i64) (y := v) (h2.word hk) (h2.fw k)
  have hq : q < (w.setCell ⟨p, 1, none⟩ (.int .i64 (wrap64 (s + 1)))).heap.size := by simpa using h.ltq
  have hb := cell_box (w.setCell ⟨p, 1, none⟩ (.int .i64 (wrap64 (s + 1)))) #[.int .i64 0, .int .i64 v] 153 ⟨q, k, none⟩ hq (.int .i64 v) (.int .i64 v) 1 rfl
  have hz : (w.setCell ⟨p, 1, none⟩ (.int .i64 (wrap64 (s + 1)))).heap.size = w.heap.size := by simp
  rw [hz] at hb
  clear hz hq
  have HE : Hid (Mem (((w.setCell ⟨p, 1, none⟩ (.int .i64 (wrap64 (s + 1)))).alloc (.cells #[.int .i64 0, .int .i64 v] 153)).setCell ⟨q, k, none⟩ (.int .i64 (v))) p q (l.set k v) (wrap64 (s + 1))) := ((h.step _).alloc _).store _ _
  have HT : Hid (Turned [p, q] w (((w.setCell ⟨p, 1, none⟩ (.int .i64 (wrap64 (s + 1)))).alloc (.cells #[.int .i64 0, .int .i64 v] 153)).setCell ⟨q, k, none⟩ (.int .i64 (v)))) := (((Turned.refl _ _).setCell (by simp) _).alloc _).setCell (by simp) _
  clear h2 h hk
  go_enter Tryz.func109, Tryz.ntmps109
  go_wp2
  go_ret
  exact ⟨rfl, HE.out, HT.out⟩

set_option maxRecDepth 100000 in
theorem swap_hit (p q : Nat) (l : List Int) (s : Int) (w : World) (k : Nat) (x v : Int) (hk : l[k]? = some x) (h : Mem w p q l s) :
    Calls Tryz.prog 137 #[.pointer (some ⟨p, 0, none⟩), .int .i64 k, .int .i64 x, .int .i64 v] w fun e w' => e = .returned (.tuple #[.bool true, .int .i64 0]) ∧ Mem w' p q (l.set k v) (wrap64 (s + 1)) ∧ Turned [p, q] w w' := by
  have hlt : k < l.length := (List.getElem?_eq_some_iff.1 hk).1
  have h0 := h.c0
  have h1 := h.c1
  have f1 := h.f 1
  have h2 : Mem ((w.setCell ⟨p, 1, none⟩ (.int .i64 (wrap64 (s + 1)))).alloc (.cells #[.int .i64 x, .int .i64 v] 153)) p q l (wrap64 (s + 1)) := (h.step _).alloc _
  have hmf : ∀ (fn : Fn) (first cap : Array Value) (w : World), (Instr.makeFunc fn first cap).run Tryz.prog w = .ok (.func fn first cap) w := fun _ _ _ _ => rfl
  have hadd := run_call_add (P := Tryz.prog) Tryz.func118 (by kernel_rfl) (by kernel_rfl) (by kernel_rfl) .i64 (by kernel_rfl) h1 f1 (wrap_add64 Tryz.prog s 1 w)
  have hop := run_call_cas_hit (P := Tryz.prog) Tryz.func139 (by kernel_rfl) (by kernel_rfl) (by kernel_rfl) .i64 (by kernel_rfl) (y := v) (h2.word hk) (h2.fw k)
  have HE : Hid (Mem (((w.setCell ⟨p, 1, none⟩ (.int .i64 (wrap64 (s + 1)))).alloc (.cells #[.int .i64 x, .int .i64 v] 153)).setCell ⟨q, k, none⟩ (.int .i64 (v))) p q (l.set k v) (wrap64 (s + 1))) := ((h.step _).alloc _).store _ _
  have HT : Hid (Turned [p, q] w (((w.setCell ⟨p, 1, none⟩ (.int .i64 (wrap64 (s + 1)))).alloc (.cells #[.int .i64 x, .int .i64 v] 153)).setCell ⟨q, k, none⟩ (.int .i64 (v)))) := (((Turned.refl _ _).setCell (by simp) _).alloc _).setCell (by simp) _
  clear h2 h hk
  go_enter Tryz.func137, Tryz.ntmps137
  go_wp2
  go_ret2
  exact ⟨rfl, HE.out, HT.out⟩

set_option maxRecDepth 100000 in
theorem swap_miss (p q : Nat) (l : List Int) (s : Int) (w : World) (k : Nat) (x o v : Int) (hk : l[k]? = some x) (hne : ¬ x = o) (h : Mem w p q l s) :
    Calls Tryz.prog 137 #[.pointer (some ⟨p, 0, none⟩), .int .i64 k, .int .i64 o, .int .i64 v] w fun e w' => e = .returned (.tuple #[.bool false, .int .i64 0]) ∧ Mem w' p q l (wrap64 (s + 1)) ∧ Turned [p, q] w w' := by
  have hlt : k < l.length := (List.getElem?_eq_some_iff.1 hk).1
  have h0 := h.c0
  have h1 := h.c1
  have f1 := h.f 1
  have h2 : Mem ((w.setCell ⟨p, 1, none⟩ (.int .i64 (wrap64 (s + 1)))).alloc (.cells #[.int .i64 o, .int .i64 v] 153)) p q l (wrap64 (s + 1)) := (h.step _).alloc _
  have hmf : ∀ (fn : Fn) (first cap : Array Value) (w : World), (Instr.makeFunc fn first cap).run Tryz.prog w = .ok (.func fn first cap) w := fun _ _ _ _ => rfl
  have hadd := run_call_add (P := Tryz.prog) Tryz.func118 (by kernel_rfl) (by kernel_rfl) (by kernel_rfl) .i64 (by kernel_rfl) h1 f1 (wrap_add64 Tryz.prog s 1 w)
  have hop := run_call_cas_miss (P := Tryz.prog) Tryz.func139 (by kernel_rfl) (by kernel_rfl) (by kernel_rfl) .i64 (by kernel_rfl) (o := o) (y := v) (h2.word hk) (h2.fw k) hne
  have HE : Hid (Mem ((w.setCell ⟨p, 1, none⟩ (.int .i64 (wrap64 (s + 1)))).alloc (.cells #[.int .i64 o, .int .i64 v] 153)) p q l (wrap64 (s + 1))) := (h.step _).alloc _
  have HT : Hid (Turned [p, q] w ((w.setCell ⟨p, 1, none⟩ (.int .i64 (wrap64 (s + 1)))).alloc (.cells #[.int .i64 o, .int .i64 v] 153))) := ((Turned.refl _ _).setCell (by simp) _).alloc _
  clear h2 h hk
  go_enter Tryz.func137, Tryz.ntmps137
  go_wp2
  go_ret2
  exact ⟨rfl, HE.out, HT.out⟩

/-- No such cell: nothing is done. -/
theorem load_out (p : Nat) (ao : Option Addr) (n c : Nat) (w : World) (k : Int) (hk : k < 0 ∨ n ≤ k) (h0 : w.cell? ⟨p, 0, none⟩ = some (.slice ao n c)) :
    Calls Tryz.prog 99 #[.pointer (some ⟨p, 0, none⟩), .int .i64 k] w fun e w' => e = .returned (.tuple #[.int .i64 0, .int .i64 10]) ∧ w' = w := by
  have hmf : ∀ (fn : Fn) (first cap : Array Value) (w : World), (Instr.makeFunc fn first cap).run Tryz.prog w = .ok (.func fn first cap) w := fun _ _ _ _ => rfl
  by_cases hn : k < 0
  · clear hk
    go_enter Tryz.func99, Tryz.ntmps99
    go_wp2
    go_ret2
    exact ⟨rfl, rfl⟩
  · have hk2 : (n : Int) ≤ k := by omega
    clear hk
    go_enter Tryz.func99, Tryz.ntmps99
    go_wp2
    go_ret2
    exact ⟨rfl, rfl⟩
/-- A nil memory has no cell. -/
theorem load_nil (w : World) (k : Int) :
    Calls Tryz.prog 99 #[.pointer none, .int .i64 k] w fun e w' => e = .returned (.tuple #[.int .i64 0, .int .i64 10]) ∧ w' = w := by
  have hmf : ∀ (fn : Fn) (first cap : Array Value) (w : World), (Instr.makeFunc fn first cap).run Tryz.prog w = .ok (.func fn first cap) w := fun _ _ _ _ => rfl
  by_cases hn : k < 0
  · go_enter Tryz.func99, Tryz.ntmps99
    go_wp2
    go_ret2
    exact ⟨rfl, rfl⟩
  · have hk2 : 0 ≤ k := by omega
    go_enter Tryz.func99, Tryz.ntmps99
    go_wp2
    go_ret2
    exact ⟨rfl, rfl⟩

/-- No such cell: nothing is done. -/
theorem store_out (p : Nat) (ao : Option Addr) (n c : Nat) (w : World) (k v : Int) (hk : k < 0 ∨ n ≤ k) (h0 : w.cell? ⟨p, 0, none⟩ = some (.slice ao n c)) :
    Calls Tryz.prog 109 #[.pointer (some ⟨p, 0, none⟩), .int .i64 k, .int .i64 v] w fun e w' => e = .returned (.int .i64 10) ∧ w' = w := by
  have hmf : ∀ (fn : Fn) (first cap : Array Value) (w : World), (Instr.makeFunc fn first cap).run Tryz.prog w = .ok (.func fn first cap) w := fun _ _ _ _ => rfl
  by_cases hn : k < 0
  · clear hk
    go_enter Tryz.func109, Tryz.ntmps109
    go_wp2
    go_ret
    exact ⟨rfl, rfl⟩
  · have hk2 : (n : Int) ≤ k := by omega
    clear hk
    go_enter Tryz.func109, Tryz.ntmps109
    go_wp2
    go_ret
    exact ⟨rfl, rfl⟩
/-- A nil memory has no cell. -/
theorem store_nil (w : World) (k v : Int) :
    Calls Tryz.prog 109 #[.pointer none, .int .i64 k, .int .i64 v] w fun e w' => e = .returned (.int .i64 10) ∧ w' = w := by
  have hmf : ∀ (fn : Fn) (first cap : Array Value) (w : World), (Instr.makeFunc fn first cap).run Tryz.prog w = .ok (.func fn first cap) w := fun _ _ _ _ => rfl
  by_cases hn : k < 0
  · go_enter Tryz.func109, Tryz.ntmps109
    go_wp2
    go_ret
    exact ⟨rfl, rfl⟩
  · have hk2 : 0 ≤ k := by omega
    go_enter Tryz.func109, Tryz.ntmps109
    go_wp2
    go_ret
    exact ⟨rfl, rfl⟩

/-- No such cell: nothing is done. -/
theorem swap_out (p : Nat) (ao : Option Addr) (n c : Nat) (w : World) (k o v : Int) (hk : k < 0 ∨ n ≤ k) (h0 : w.cell? ⟨p, 0, none⟩ = some (.slice ao n c)) :
    Calls Tryz.prog 137 #[.pointer (some ⟨p, 0, none⟩), .int .i64 k, .int .i64 o, .int .i64 v] w fun e w' => e = .returned (.tuple #[.bool false, .int .i64 10]) ∧ w' = w := by
  have hmf : ∀ (fn : Fn) (first cap : Array Value) (w : World), (Instr.makeFunc fn first cap).run Tryz.prog w = .ok (.func fn first cap) w := fun _ _ _ _ => rfl
  by_cases hn : k < 0
  · clear hk
    go_enter Tryz.func137, Tryz.ntmps137
    go_wp2
    go_ret2
    exact ⟨rfl, rfl⟩
  · have hk2 : (n : Int) ≤ k := by omega
    clear hk
    go_enter Tryz.func137, Tryz.ntmps137
    go_wp2
    go_ret2
    exact ⟨rfl, rfl⟩
/-- A nil memory has no cell. -/
theorem swap_nil (w : World) (k o v : Int) :
    Calls Tryz.prog 137 #[.pointer none, .int .i64 k, .int .i64 o, .int .i64 v] w fun e w' => e = .returned (.tuple #[.bool false, .int .i64 10]) ∧ w' = w := by
  have hmf : ∀ (fn : Fn) (first cap : Array Value) (w : World), (Instr.makeFunc fn first cap).run Tryz.prog w = .ok (.func fn first cap) w := fun _ _ _ _ => rfl
  by_cases hn : k < 0
  · go_enter Tryz.func137, Tryz.ntmps137
    go_wp2
    go_ret2
    exact ⟨rfl, rfl⟩
  · have hk2 : 0 ≤ k := by omega
    go_enter Tryz.func137, Tryz.ntmps137
    go_wp2
    go_ret2
    exact ⟨rfl, rfl⟩

end Go.Proofs.YtbmlggemheljkaaGreatDoor
