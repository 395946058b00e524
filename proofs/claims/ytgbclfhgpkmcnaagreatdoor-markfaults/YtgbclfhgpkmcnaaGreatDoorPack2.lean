/-
  Texts of the proof, several in one: CellsWalks, ClassesBase, ClassesSize, ClassesCount, ClassesHead, MarkRow, ClassesChk.
-/
import Derived.Test.YtgbclfhgpkmcnaaGreatDoorPack1
import Derived.RegionTactic
import Derived.ChangeAlike
/-
  What each call of package cells does to a memory that lies in the model's heap: New, Len, Steps, Load, Store, Swap, Add, each for a cell that there is, for one that there is not, and for a nil memory.
-/
namespace Go.Proofs.YtgbclfhgpkmcnaaGreatDoor
open Go.RowKit

theorem keep_any (n m : Int) (w : World) :
    Calls Tryz.prog 43 #[.int .i64 n, .int .i64 m] w fun e w' => e = .returned (.int .i64 (min (max n 0) m)) ∧ w' = w := by
  go_enter Tryz.func43, Tryz.ntmps43
  go_wp2
  all_goals (go_ret; exact ⟨by simp [Ending.returned.injEq, Value.int.injEq]; omega, rfl⟩)

theorem len_mem (p q : Nat) (l : List Int) (s : Int) (w : World) (h : Mem w p q l s) :
    Calls Tryz.prog 44 #[.pointer (some ⟨p, 0, none⟩)] w fun e w' => e = .returned (.int .i64 l.length) ∧ w' = w := by
  have h0 := h.c0
  go_enter Tryz.func44, Tryz.ntmps44
  go_wp2
  go_ret
  exact ⟨rfl, rfl⟩

theorem len_nil (w : World) :
    Calls Tryz.prog 44 #[.pointer none] w fun e w' => e = .returned (.int .i64 0) ∧ w' = w := by
  go_enter Tryz.func44, Tryz.ntmps44
  go_wp2
  go_ret
  exact ⟨rfl, rfl⟩

theorem steps_mem (p q : Nat) (l : List Int) (s : Int) (w : World) (h : Mem w p q l s) :
    Calls Tryz.prog 31 #[.pointer (some ⟨p, 0, none⟩)] w fun e w' => e = .returned (.int .i64 s) ∧ w' = w := by
  have h1 := h.c1
  have hld := run_call_load (P := Tryz.prog) Tryz.func69 (by kernel_rfl) (by kernel_rfl) (by kernel_rfl) .i64 (by kernel_rfl) h1
  go_enter Tryz.func31, Tryz.ntmps31
  go_wp2
  go_ret
  exact ⟨rfl, rfl⟩

theorem steps_nil (w : World) :
    Calls Tryz.prog 31 #[.pointer none] w fun e w' => e = .returned (.int .i64 0) ∧ w' = w := by
  go_enter Tryz.func31, Tryz.ntmps31
  go_wp2
  go_ret
  exact ⟨rfl, rfl⟩

/-- A deed that adds, at whatever cell. -/
theorem deed_add (a : Addr) (x v : Int) (w : World) (hc : w.cell? a = some (.int .i64 x)) (hf : w.frozen? a = false) :
    Calls Tryz.prog 115 #[.agg #[.int .i64 0, .int .i64 v], .pointer (some a)] w fun e w' => e = .returned (.int .i64 (wrap64 (wrap64 (x + v) - v))) ∧ w' = ((w.alloc (.cells #[.int .i64 0, .int .i64 v] 176)).setCell a (.int .i64 (wrap64 (x + v)))).drew := by
  have ha := block_lt hc
  have hc2 : (w.alloc (.cells #[.int .i64 0, .int .i64 v] 176)).cell? a = some (.int .i64 x) := by
    rw [World.cell?_of_block (w := w) (Below.heap_alloc _ _ _ ha)]; exact hc
  have hf2 : (w.alloc (.cells #[.int .i64 0, .int .i64 v] 176)).frozen? a = false := by
    rw [World.frozen?_of_block (w := w) (Below.heap_alloc _ _ _ ha)]; exact hf
  have hop := run_call_add (P := Tryz.prog) (w := (w.alloc (.cells #[.int .i64 0, .int .i64 v] 176)).drew) Tryz.func127 (by kernel_rfl) (by kernel_rfl) (by kernel_rfl) .i64 (by kernel_rfl) hc2 hf2 (wrap_add64 Tryz.prog x v _)
  have hb := cell_box w #[.int .i64 0, .int .i64 v] 176 a ha (.int .i64 (wrap64 (x + v))) (.int .i64 v) 1 rfl
  rw [World.setCell_drew] at hop
  clear hc hf hc2 hf2
  go_enter Tryz.func115, Tryz.ntmps115
  go_wp2
  go_region
  all_goals (go_wp2; go_ret; exact ⟨rfl, rfl⟩)

set_option maxRecDepth 100000 in
theorem load_in (p q : Nat) (l : List Int) (s : Int) (w : World) (k : Nat) (x : Int) (hk : l[k]? = some x) (h : Mem w p q l s) :
    Calls Tryz.prog 116 #[.pointer (some ⟨p, 0, none⟩), .int .i64 k] w fun e w' => e = .returned (.tuple #[.int .i64 x, .int .i64 0]) ∧ Mem w' p q l (wrap64 (s + 1)) ∧ Turned [p, q] w w' := by
  have hlt : k < l.length := (List.getElem?_eq_some_iff.1 hk).1
  have h0 := h.c0
  have h1 := h.c1
  have f1 := h.f 1
  have h2 : Mem ((w.setCell ⟨p, 1, none⟩ (.int .i64 (wrap64 (s + 1)))).alloc (.cells #[.int .i64 0, .int .i64 0] 176)) p q l (wrap64 (s + 1)) := (h.step _).alloc _
  have hmf : ∀ (fn : Fn) (first cap : Array Value) (w : World), (Instr.makeFunc fn first cap).run Tryz.prog w = .ok (.func fn first cap) w := fun _ _ _ _ => rfl
  have hadd := run_call_add (P := Tryz.prog) Tryz.func127 (by kernel_rfl) (by kernel_rfl) (by kernel_rfl) .i64 (by kernel_rfl) h1 f1 (wrap_add64 Tryz.prog s 1 w)
  have hop := run_call_load (P := Tryz.prog) Tryz.func69 (by kernel_rfl) (by kernel_rfl) (by kernel_rfl) .i64 (by kernel_rfl) (h2.word hk)
  have HE : Hid (Mem ((w.setCell ⟨p, 1, none⟩ (.int .i64 (wrap64 (s + 1)))).alloc (.cells #[.int .i64 0, .int .i64 0] 176)) p q l (wrap64 (s + 1))) := (h.step _).alloc _
  have HT : Hid (Turned [p, q] w ((w.setCell ⟨p, 1, none⟩ (.int .i64 (wrap64 (s + 1)))).alloc (.cells #[.int .i64 0, .int .i64 0] 176))) := ((Turned.refl _ _).setCell (by simp) _).alloc _
  clear h2 h hk
  go_enter Tryz.func116, Tryz.ntmps116
  go_wp2
  go_ret2
  exact ⟨rfl, HE.out, HT.out⟩

set_option maxRecDepth 100000 in
theorem store_in (p q : Nat) (l : List Int) (s : Int) (w : World) (k : Nat) (x v : Int) (hk : l[k]? = some x) (h : Mem w p q l s) :
    Calls Tryz.prog 130 #[.pointer (some ⟨p, 0, none⟩), .int .i64 k, .int .i64 v] w fun e w' => e = .returned (.int .i64 0) ∧ Mem w' p q (l.set k v) (wrap64 (s + 1)) ∧ Turned [p, q] w w' := by
  have hlt : k < l.length := (List.getElem?_eq_some_iff.1 hk).1
  have h0 := h.c0
  have h1 := h.c1
  have f1 := h.f 1
  have h2 : Mem ((w.setCell ⟨p, 1, none⟩ (.int .i64 (wrap64 (s + 1)))).alloc (.cells #[.int .i64 0, .int .i64 v] 176)) p q l (wrap64 (s + 1)) := (h.step _).alloc _
  have hmf : ∀ (fn : Fn) (first cap : Array Value) (w : World), (Instr.makeFunc fn first cap).run Tryz.prog w = .ok (.func fn first cap) w := fun _ _ _ _ => rfl
  have hadd := run_call_add (P := Tryz.prog) Tryz.func127 (by kernel_rfl) (by kernel_rfl) (by kernel_rfl) .i64 (by kernel_rfl) h1 f1 (wrap_add64 Tryz.prog s 1 w)
  have hop := run_call_store (P := Tryz.prog) Tryz.func156 (by kernel_rfl) (by kernel_rfl) (by kernel_rfl) (by kernel_rfl) (k := .i64) (y := v) (h2.word hk) (h2.fw k)
  have hq : q < (w.setCell ⟨p, 1, none⟩ (.int .i64 (wrap64 (s + 1)))).heap.size := by simpa using h.ltq
  have hb := cell_box (w.setCell ⟨p, 1, none⟩ (.int .i64 (wrap64 (s + 1)))) #[.int .i64 0, .int .i64 v] 176 ⟨q, k, none⟩ hq (.int .i64 v) (.int .i64 v) 1 rfl
  have hz : (w.setCell ⟨p, 1, none⟩ (.int .i64 (wrap64 (s + 1)))).heap.size = w.heap.size := by simp
  rw [hz] at hb
  clear hz hq
  have HE : Hid (Mem (((w.setCell ⟨p, 1, none⟩ (.int .i64 (wrap64 (s + 1)))).alloc (.cells #[.int .i64 0, .int .i64 v] 176)).setCell ⟨q, k, none⟩ (.int .i64 (v))) p q (l.set k v) (wrap64 (s + 1))) := ((h.step _).alloc _).store _ _
  have HT : Hid (Turned [p, q] w (((w.setCell ⟨p, 1, none⟩ (.int .i64 (wrap64 (s + 1)))).alloc (.cells #[.int .i64 0, .int .i64 v] 176)).setCell ⟨q, k, none⟩ (.int .i64 (v)))) := (((Turned.refl _ _).setCell (by simp) _).alloc _).setCell (by simp) _
  clear h2 h hk
  go_enter Tryz.func130, Tryz.ntmps130
  go_wp2
  go_ret
  exact ⟨rfl, HE.out, HT.out⟩

set_option maxRecDepth 100000 in
theorem swap_hit (p q : Nat) (l : List Int) (s : Int) (w : World) (k : Nat) (x v : Int) (hk : l[k]? = some x) (h : Mem w p q l s) :
    Calls Tryz.prog 146 #[.pointer (some ⟨p, 0, none⟩), .int .i64 k, .int .i64 x, .int .i64 v] w fun e w' => e = .returned (.tuple #[.bool true, .int .i64 0]) ∧ Mem w' p q (l.set k v) (wrap64 (s + 1)) ∧ Turned [p, q] w w' := by
  have hlt : k < l.length := (List.getElem?_eq_some_iff.1 hk).1
  have h0 := h.c0
  have h1 := h.c1
  have f1 := h.f 1
  have h2 : Mem ((w.setCell ⟨p, 1, none⟩ (.int .i64 (wrap64 (s + 1)))).alloc (.cells #[.int .i64 x, .int .i64 v] 176)) p q l (wrap64 (s + 1)) := (h.step _).alloc _
  have hmf : ∀ (fn : Fn) (first cap : Array Value) (w : World), (Instr.makeFunc fn first cap).run Tryz.prog w = .ok (.func fn first cap) w := fun _ _ _ _ => rfl
  have hadd := run_call_add (P := Tryz.prog) Tryz.func127 (by kernel_rfl) (by kernel_rfl) (by kernel_rfl) .i64 (by kernel_rfl) h1 f1 (wrap_add64 Tryz.prog s 1 w)
  have hop := run_call_cas_hit (P := Tryz.prog) Tryz.func163 (by kernel_rfl) (by kernel_rfl) (by kernel_rfl) .i64 (by kernel_rfl) (y := v) (h2.word hk) (h2.fw k)
  have HE : Hid (Mem (((w.setCell ⟨p, 1, none⟩ (.int .i64 (wrap64 (s + 1)))).alloc (.cells #[.int .i64 x, .int .i64 v] 176)).setCell ⟨q, k, none⟩ (.int .i64 (v))) p q (l.set k v) (wrap64 (s + 1))) := ((h.step _).alloc _).store _ _
  have HT : Hid (Turned [p, q] w (((w.setCell ⟨p, 1, none⟩ (.int .i64 (wrap64 (s + 1)))).alloc (.cells #[.int .i64 x, .int .i64 v] 176)).setCell ⟨q, k, none⟩ (.int .i64 (v)))) := (((Turned.refl _ _).setCell (by simp) _).alloc _).setCell (by simp) _
  clear h2 h hk
  go_enter Tryz.func146, Tryz.ntmps146
  go_wp2
  go_ret2
  exact ⟨rfl, HE.out, HT.out⟩

set_option maxRecDepth 100000 in
theorem swap_miss (p q : Nat) (l : List Int) (s : Int) (w : World) (k : Nat) (x o v : Int) (hk : l[k]? = some x) (hne : ¬ x = o) (h : Mem w p q l s) :
    Calls Tryz.prog 146 #[.pointer (some ⟨p, 0, none⟩), .int .i64 k, .int .i64 o, .int .i64 v] w fun e w' => e = .returned (.tuple #[.bool false, .int .i64 0]) ∧ Mem w' p q l (wrap64 (s + 1)) ∧ Turned [p, q] w w' := by
  have hlt : k < l.length := (List.getElem?_eq_some_iff.1 hk).1
  have h0 := h.c0
  have h1 := h.c1
  have f1 := h.f 1
  have h2 : Mem ((w.setCell ⟨p, 1, none⟩ (.int .i64 (wrap64 (s + 1)))).alloc (.cells #[.int .i64 o, .int .i64 v] 176)) p q l (wrap64 (s + 1)) := (h.step _).alloc _
  have hmf : ∀ (fn : Fn) (first cap : Array Value) (w : World), (Instr.makeFunc fn first cap).run Tryz.prog w = .ok (.func fn first cap) w := fun _ _ _ _ => rfl
  have hadd := run_call_add (P := Tryz.prog) Tryz.func127 (by kernel_rfl) (by kernel_rfl) (by kernel_rfl) .i64 (by kernel_rfl) h1 f1 (wrap_add64 Tryz.prog s 1 w)
  have hop := run_call_cas_miss (P := Tryz.prog) Tryz.func163 (by kernel_rfl) (by kernel_rfl) (by kernel_rfl) .i64 (by kernel_rfl) (o := o) (y := v) (h2.word hk) (h2.fw k) hne
  have HE : Hid (Mem ((w.setCell ⟨p, 1, none⟩ (.int .i64 (wrap64 (s + 1)))).alloc (.cells #[.int .i64 o, .int .i64 v] 176)) p q l (wrap64 (s + 1))) := (h.step _).alloc _
  have HT : Hid (Turned [p, q] w ((w.setCell ⟨p, 1, none⟩ (.int .i64 (wrap64 (s + 1)))).alloc (.cells #[.int .i64 o, .int .i64 v] 176))) := ((Turned.refl _ _).setCell (by simp) _).alloc _
  clear h2 h hk
  go_enter Tryz.func146, Tryz.ntmps146
  go_wp2
  go_ret2
  exact ⟨rfl, HE.out, HT.out⟩

set_option maxRecDepth 100000 in
theorem add_in (p q : Nat) (l : List Int) (s : Int) (w : World) (k : Nat) (x v : Int) (hk : l[k]? = some x) (h : Mem w p q l s) :
    Calls Tryz.prog 104 #[.pointer (some ⟨p, 0, none⟩), .int .i64 k, .int .i64 v] w fun e w' => e = .returned (.tuple #[.int .i64 (wrap64 (wrap64 (x + v) - v)), .int .i64 0]) ∧ Mem w' p q (l.set k (wrap64 (x + v))) (wrap64 (s + 1)) ∧ Turned [p, q] w w' := by
  have hlt : k < l.length := (List.getElem?_eq_some_iff.1 hk).1
  have h0 := h.c0
  have h1 := h.c1
  have f1 := h.f 1
  have hmf : ∀ (fn : Fn) (first cap : Array Value) (w : World), (Instr.makeFunc fn first cap).run Tryz.prog w = .ok (.func fn first cap) w := fun _ _ _ _ => rfl
  have hadd := run_call_add (P := Tryz.prog) Tryz.func127 (by kernel_rfl) (by kernel_rfl) (by kernel_rfl) .i64 (by kernel_rfl) h1 f1 (wrap_add64 Tryz.prog s 1 w)
  have hd := deed_add ⟨q, k, none⟩ x v (w.setCell ⟨p, 1, none⟩ (.int .i64 (wrap64 (s + 1)))) ((h.step _).word hk) ((h.step _).fw k)
  have HD : Hid (Calls Tryz.prog 115 #[.agg #[.int .i64 0, .int .i64 v], .pointer (some ⟨q, k, none⟩)] (w.setCell ⟨p, 1, none⟩ (.int .i64 (wrap64 (s + 1)))) _) := hd
  clear hd
  have HE : Hid (Mem (((w.setCell ⟨p, 1, none⟩ (.int .i64 (wrap64 (s + 1)))).alloc (.cells #[.int .i64 0, .int .i64 v] 176)).setCell ⟨q, k, none⟩ (.int .i64 (wrap64 (x + v)))) p q (l.set k (wrap64 (x + v))) (wrap64 (s + 1))) := ((h.step _).alloc _).store _ _
  have HT : Hid (Turned [p, q] w (((w.setCell ⟨p, 1, none⟩ (.int .i64 (wrap64 (s + 1)))).alloc (.cells #[.int .i64 0, .int .i64 v] 176)).setCell ⟨q, k, none⟩ (.int .i64 (wrap64 (x + v))))) := (((Turned.refl _ _).setCell (by simp) _).alloc _).setCell (by simp) _
  clear h hk
  go_enter Tryz.func104, Tryz.ntmps104
  go_wp2_with (first | (go_at_call 115; refine (Hid.out HD).mono ?_; rintro e w' ⟨rfl, rfl⟩) | (go_at_call 114; go_in) | (go_at_call 44; go_in) | (go_at_call 126; go_in))
  go_ret2
  exact ⟨rfl, HE.out.drew, HT.out.drew⟩

/-- No such cell: nothing is done. -/
theorem load_out (p : Nat) (ao : Option Addr) (n c : Nat) (w : World) (k : Int) (hk : k < 0 ∨ n ≤ k) (h0 : w.cell? ⟨p, 0, none⟩ = some (.slice ao n c)) :
    Calls Tryz.prog 116 #[.pointer (some ⟨p, 0, none⟩), .int .i64 k] w fun e w' => e = .returned (.tuple #[.int .i64 0, .int .i64 10]) ∧ w' = w := by
  have hmf : ∀ (fn : Fn) (first cap : Array Value) (w : World), (Instr.makeFunc fn first cap).run Tryz.prog w = .ok (.func fn first cap) w := fun _ _ _ _ => rfl
  by_cases hn : k < 0
  · clear hk
    go_enter Tryz.func116, Tryz.ntmps116
    go_wp2
    go_ret2
    exact ⟨rfl, rfl⟩
  · have hk2 : (n : Int) ≤ k := by omega
    clear hk
    go_enter Tryz.func116, Tryz.ntmps116
    go_wp2
    go_ret2
    exact ⟨rfl, rfl⟩
/-- A nil memory has no cell. -/
theorem load_nil (w : World) (k : Int) :
    Calls Tryz.prog 116 #[.pointer none, .int .i64 k] w fun e w' => e = .returned (.tuple #[.int .i64 0, .int .i64 10]) ∧ w' = w := by
  have hmf : ∀ (fn : Fn) (first cap : Array Value) (w : World), (Instr.makeFunc fn first cap).run Tryz.prog w = .ok (.func fn first cap) w := fun _ _ _ _ => rfl
  by_cases hn : k < 0
  · go_enter Tryz.func116, Tryz.ntmps116
    go_wp2
    go_ret2
    exact ⟨rfl, rfl⟩
  · have hk2 : 0 ≤ k := by omega
    go_enter Tryz.func116, Tryz.ntmps116
    go_wp2
    go_ret2
    exact ⟨rfl, rfl⟩

/-- No such cell: nothing is done. -/
theorem store_out (p : Nat) (ao : Option Addr) (n c : Nat) (w : World) (k v : Int) (hk : k < 0 ∨ n ≤ k) (h0 : w.cell? ⟨p, 0, none⟩ = some (.slice ao n c)) :
    Calls Tryz.prog 130 #[.pointer (some ⟨p, 0, none⟩), .int .i64 k, .int .i64 v] w fun e w' => e = .returned (.int .i64 10) ∧ w' = w := by
  have hmf : ∀ (fn : Fn) (first cap : Array Value) (w : World), (Instr.makeFunc fn first cap).run Tryz.prog w = .ok (.func fn first cap) w := fun _ _ _ _ => rfl
  by_cases hn : k < 0
  · clear hk
    go_enter Tryz.func130, Tryz.ntmps130
    go_wp2
    go_ret
    exact ⟨rfl, rfl⟩
  · have hk2 : (n : Int) ≤ k := by omega
    clear hk
    go_enter Tryz.func130, Tryz.ntmps130
    go_wp2
    go_ret
    exact ⟨rfl, rfl⟩
/-- A nil memory has no cell. -/
theorem store_nil (w : World) (k v : Int) :
    Calls Tryz.prog 130 #[.pointer none, .int .i64 k, .int .i64 v] w fun e w' => e = .returned (.int .i64 10) ∧ w' = w := by
  have hmf : ∀ (fn : Fn) (first cap : Array Value) (w : World), (Instr.makeFunc fn first cap).run Tryz.prog w = .ok (.func fn first cap) w := fun _ _ _ _ => rfl
  by_cases hn : k < 0
  · go_enter Tryz.func130, Tryz.ntmps130
    go_wp2
    go_ret
    exact ⟨rfl, rfl⟩
  · have hk2 : 0 ≤ k := by omega
    go_enter Tryz.func130, Tryz.ntmps130
    go_wp2
    go_ret
    exact ⟨rfl, rfl⟩

/-- No such cell: nothing is done. -/
theorem swap_out (p : Nat) (ao : Option Addr) (n c : Nat) (w : World) (k o v : Int) (hk : k < 0 ∨ n ≤ k) (h0 : w.cell? ⟨p, 0, none⟩ = some (.slice ao n c)) :
    Calls Tryz.prog 146 #[.pointer (some ⟨p, 0, none⟩), .int .i64 k, .int .i64 o, .int .i64 v] w fun e w' => e = .returned (.tuple #[.bool false, .int .i64 10]) ∧ w' = w := by
  have hmf : ∀ (fn : Fn) (first cap : Array Value) (w : World), (Instr.makeFunc fn first cap).run Tryz.prog w = .ok (.func fn first cap) w := fun _ _ _ _ => rfl
  by_cases hn : k < 0
  · clear hk
    go_enter Tryz.func146, Tryz.ntmps146
    go_wp2
    go_ret2
    exact ⟨rfl, rfl⟩
  · have hk2 : (n : Int) ≤ k := by omega
    clear hk
    go_enter Tryz.func146, Tryz.ntmps146
    go_wp2
    go_ret2
    exact ⟨rfl, rfl⟩
/-- A nil memory has no cell. -/
theorem swap_nil (w : World) (k o v : Int) :
    Calls Tryz.prog 146 #[.pointer none, .int .i64 k, .int .i64 o, .int .i64 v] w fun e w' => e = .returned (.tuple #[.bool false, .int .i64 10]) ∧ w' = w := by
  have hmf : ∀ (fn : Fn) (first cap : Array Value) (w : World), (Instr.makeFunc fn first cap).run Tryz.prog w = .ok (.func fn first cap) w := fun _ _ _ _ => rfl
  by_cases hn : k < 0
  · go_enter Tryz.func146, Tryz.ntmps146
    go_wp2
    go_ret2
    exact ⟨rfl, rfl⟩
  · have hk2 : 0 ≤ k := by omega
    go_enter Tryz.func146, Tryz.ntmps146
    go_wp2
    go_ret2
    exact ⟨rfl, rfl⟩

/-- No such cell: nothing is done. -/
theorem add_out (p : Nat) (ao : Option Addr) (n c : Nat) (w : World) (k v : Int) (hk : k < 0 ∨ n ≤ k) (h0 : w.cell? ⟨p, 0, none⟩ = some (.slice ao n c)) :
    Calls Tryz.prog 104 #[.pointer (some ⟨p, 0, none⟩), .int .i64 k, .int .i64 v] w fun e w' => e = .returned (.tuple #[.int .i64 0, .int .i64 10]) ∧ w' = w := by
  have hmf : ∀ (fn : Fn) (first cap : Array Value) (w : World), (Instr.makeFunc fn first cap).run Tryz.prog w = .ok (.func fn first cap) w := fun _ _ _ _ => rfl
  by_cases hn : k < 0
  · clear hk
    go_enter Tryz.func104, Tryz.ntmps104
    go_wp2
    go_ret2
    exact ⟨rfl, rfl⟩
  · have hk2 : (n : Int) ≤ k := by omega
    clear hk
    go_enter Tryz.func104, Tryz.ntmps104
    go_wp2
    go_ret2
    exact ⟨rfl, rfl⟩
/-- A nil memory has no cell. -/
theorem add_nil (w : World) (k v : Int) :
    Calls Tryz.prog 104 #[.pointer none, .int .i64 k, .int .i64 v] w fun e w' => e = .returned (.tuple #[.int .i64 0, .int .i64 10]) ∧ w' = w := by
  have hmf : ∀ (fn : Fn) (first cap : Array Value) (w : World), (Instr.makeFunc fn first cap).run Tryz.prog w = .ok (.func fn first cap) w := fun _ _ _ _ => rfl
  by_cases hn : k < 0
  · go_enter Tryz.func104, Tryz.ntmps104
    go_wp2
    go_ret2
    exact ⟨rfl, rfl⟩
  · have hk2 : 0 ≤ k := by omega
    go_enter Tryz.func104, Tryz.ntmps104
    go_wp2
    go_ret2
    exact ⟨rfl, rfl⟩

end Go.Proofs.YtgbclfhgpkmcnaaGreatDoor

/-
  Classes as the model has them, and what package classes' small functions tell: mayHave, may, a shape's size and references.
-/
namespace Go.Proofs.YtgbclfhgpkmcnaaGreatDoor
open Go.RowKit
set_option linter.unusedVariables false

/-- A class: its references, its words, its kind. -/
structure Cls where
  r : Int
  w : Int
  a : Int
def In64 (x : Int) : Prop := -9223372036854775808 ≤ x ∧ x ≤ 9223372036854775807
def Cls.val (c : Cls) : Value := .agg #[.int .i64 c.r, .int .i64 c.w, .int .i64 c.a]
def Cls.In (c : Cls) : Prop := In64 c.r ∧ In64 c.w ∧ In64 c.a
/-- A class may be. -/
def Cls.may (c : Cls) : Bool := decide (c.a = 0 ∧ 0 ≤ c.r ∧ 0 ≤ c.w ∧ c.r + c.w ≤ 64 ∨ (c.a = 1 ∨ c.a = 2) ∧ c.r = 0 ∧ c.w = 0)

theorem mayHave_any (r v : Int) (w : World) (hr : In64 r) (hv : In64 v) :
    Calls Tryz.prog 197 #[.int .i64 r, .int .i64 v] w fun e w' => e = .returned (.bool (decide (0 ≤ r ∧ 0 ≤ v ∧ r + v ≤ 64))) ∧ w' = w := by
  unfold In64 at hr hv
  obtain ⟨b, hb⟩ : ∃ b, b = decide (0 ≤ r ∧ 0 ≤ v ∧ r + v ≤ 64) := ⟨_, rfl⟩
  rw [← hb]
  have HB := hide hb
  clear hb
  go_enter Tryz.func197, Tryz.ntmps197
  go_wp2
  all_goals (go_ret; refine ⟨?_, rfl⟩; have hb := HB.out; clear HB; subst hb; simp [Ending.returned.injEq, Value.bool.injEq]; first | omega | (rw [Bool.eq_iff_iff]; simp; omega))

theorem may_any (r v a : Int) (w : World) (h : Cls.In ⟨r, v, a⟩) :
    Calls Tryz.prog 196 #[.agg #[.int .i64 r, .int .i64 v, .int .i64 a]] w fun e w' => e = .returned (.bool (Cls.may ⟨r, v, a⟩)) ∧ Turned [] w w' := by
  have HC := hide (fun w => mayHave_any r v w h.1 h.2.1)
  have HT := hide (fun c => (Turned.refl [] w).alloc (.cells c 94))
  clear h
  obtain ⟨b, hb⟩ : ∃ b, b = Cls.may ⟨r, v, a⟩ := ⟨_, rfl⟩
  rw [← hb]
  have HB := hide hb
  clear hb
  by_cases h0 : a = 0
  · subst h0
    have HB0 : Hid (b = decide (0 ≤ r ∧ 0 ≤ v ∧ r + v ≤ 64)) := by show _ = _; rw [HB.out]; unfold Cls.may; simp
    rw [← HB0.out] at HC
    go_enter Tryz.func196, Tryz.ntmps196
    go_wp2_with fail
    refine (HC.out _).mono ?_
    rintro e w1 ⟨rfl, rfl⟩
    go_wp2_with fail
    go_ret
    exact ⟨rfl, HT.out _⟩
  · by_cases h1 : a = 1
    · subst h1
      have HB0 : Hid (b = decide (r = 0 ∧ v = 0)) := by show _ = _; rw [HB.out]; unfold Cls.may; simp
      clear HB h0
      go_enter Tryz.func196, Tryz.ntmps196
      go_wp2_with fail
      all_goals (go_ret; refine ⟨?_, HT.out _⟩; have hb := HB0.out; clear HB0; subst hb; simp_all [Ending.returned.injEq, Value.bool.injEq]; try rfl)
    · by_cases h2 : a = 2
      · subst h2
        have HB0 : Hid (b = decide (r = 0 ∧ v = 0)) := by show _ = _; rw [HB.out]; unfold Cls.may; simp
        clear HB h0 h1
        go_enter Tryz.func196, Tryz.ntmps196
        go_wp2_with fail
        all_goals (go_ret; refine ⟨?_, HT.out _⟩; have hb := HB0.out; clear HB0; subst hb; simp_all [Ending.returned.injEq, Value.bool.injEq]; try rfl)
      · have hb : b = false := by rw [HB.out]; unfold Cls.may; simp; omega
        subst hb
        clear HB
        go_enter Tryz.func196, Tryz.ntmps196
        go_wp2_with fail
        go_ret
        exact ⟨rfl, HT.out _⟩

theorem size_any (r v : Int) (w : World) (h : In64 r ∧ In64 v ∧ In64 (1 + r + v) ∧ In64 (1 + r)) :
    Calls Tryz.prog 193 #[.agg #[.int .i64 r, .int .i64 v]] w fun e w' => e = .returned (.int .i64 (1 + r + v)) ∧ Turned [] w w' := by
  have HT := hide (fun c => (Turned.refl [] w).alloc (.cells c 212))
  unfold In64 at h
  have e1 : wrap64 (1 + r) = 1 + r := by unfold wrap64; omega
  have e2 : wrap64 (1 + r + v) = 1 + r + v := by unfold wrap64; omega
  clear h
  go_enter Tryz.func193, Tryz.ntmps193
  go_wp2_with fail
  go_ret
  refine ⟨?_, HT.out _⟩
  show Ending.returned (.int .i64 (wrap64 (1 + r + v))) = _
  rw [e2]

theorem references_any (r v : Int) (w : World) :
    Calls Tryz.prog 190 #[.agg #[.int .i64 r, .int .i64 v]] w fun e w' => e = .returned (.int .i64 r) ∧ Turned [] w w' := by
  have HT := hide (fun c => (Turned.refl [] w).alloc (.cells c 212))
  go_enter Tryz.func190, Tryz.ntmps190
  go_wp2_with fail
  go_ret
  exact ⟨rfl, HT.out _⟩
end Go.Proofs.YtgbclfhgpkmcnaaGreatDoor

/-
  What find, lay, count and Size tell.
-/
namespace Go.Proofs.YtgbclfhgpkmcnaaGreatDoor
open Go.RowKit
set_option linter.unusedVariables false

/-- A slice of classes that can be read. -/
structure CRd (w : World) (ao : Option Addr) (len : Nat) (cs : List Cls) : Prop where
  size : cs.length = len
  room : len ≤ 9223372036854775807
  cell : ∀ i c, cs[i]? = some c → ∃ b off, ao = some ⟨b, off, none⟩ ∧ w.cell? ⟨b, off + i * 3, none⟩ = some (.int .i64 c.r) ∧ w.cell? ⟨b, off + i * 3 + 1, none⟩ = some (.int .i64 c.w) ∧ w.cell? ⟨b, off + i * 3 + 2, none⟩ = some (.int .i64 c.a)
  inn : ∀ c, c ∈ cs → c.In
theorem CRd.turned {w w' : World} {ao : Option Addr} {len : Nat} {cs : List Cls} (h : CRd w ao len cs) (ht : Turned [] w w') : CRd w' ao len cs := by
  refine ⟨h.size, h.room, fun i c hc => ?_, h.inn⟩
  obtain ⟨b, off, h0, h1, h2, h3⟩ := h.cell i c hc
  exact ⟨b, off, h0, by rw [ht.cell (block_lt h1) (by simp)]; exact h1, by rw [ht.cell (block_lt h2) (by simp)]; exact h2, by rw [ht.cell (block_lt h3) (by simp)]; exact h3⟩

/-- The class of that number, if it may be. -/
def clsAt (cs : List Cls) (k : Int) : Option Cls :=
  if k = 0 then some ⟨0, 0, 3⟩ else if k < 0 then none else match cs[(k - 1).toNat]? with
  | some c => if c.may then some c else none
  | none => none
def Cls.rN (c : Cls) (n : Int) : Int := if c.a = 1 then n else if c.a = 2 ∨ c.a = 3 then 0 else c.r
def Cls.wN (c : Cls) (n : Int) : Int := if c.a = 1 then 0 else if c.a = 2 ∨ c.a = 3 then n else c.w
def Cls.most (c : Cls) : Int := if c.a = 1 ∨ c.a = 2 then 1024 else if c.a = 3 then 65535 else 0
/-- What count tells, of those words that g takes. -/
def told (g : Int → Int → Int) (cs : List Cls) (k n : Int) : Int × Int :=
  match clsAt cs k with
  | none => (0, 12)
  | some c => if 0 ≤ n ∧ n ≤ c.most then (g (c.rN n) (c.wN n), 0) else (0, 11)

theorem find_none (ao : Option Addr) (len cap : Nat) (cs : List Cls) (k : Int) (w : World) (h : CRd w ao len cs) (hk : clsAt cs k = none) :
    Calls Tryz.prog 194 #[.slice ao len cap, .int .i64 k] w fun e w' => e = .returned (.tuple #[.agg #[.int .i64 0, .int .i64 0, .int .i64 0], .int .i64 12]) ∧ Turned [] w w' := by
  have hl := h.size
  have hr := h.room
  have hk0 : ¬ k = 0 := by intro e; simp [clsAt, e] at hk
  have HT := hide (fun c => (Turned.refl [] w).alloc (.cells c 94))
  by_cases h1 : k < 0
  · clear hk h
    go_enter Tryz.func194, Tryz.ntmps194
    go_wp2_with fail
    refine bodyPost_ret (v := .tuple #[.agg #[.int .i64 0, .int .i64 0, .int .i64 0], .int .i64 12]) (by simp [results, Tryz.results194, go_sem]) rfl ⟨rfl, HT.out _⟩
  · by_cases h2 : (len : Int) < k
    · clear hk h
      go_enter Tryz.func194, Tryz.ntmps194
      go_wp2_with fail
      refine bodyPost_ret (v := .tuple #[.agg #[.int .i64 0, .int .i64 0, .int .i64 0], .int .i64 12]) (by simp [results, Tryz.results194, go_sem]) rfl ⟨rfl, HT.out _⟩
    · obtain ⟨i, rfl⟩ : ∃ i : Nat, k = (i : Int) + 1 := ⟨(k - 1).toNat, by omega⟩
      obtain ⟨c, hc⟩ : ∃ c, cs[i]? = some c := ⟨_, List.getElem?_eq_getElem (by omega)⟩
      obtain ⟨b, off, rfl, c0, c1, c2⟩ := h.cell i c hc
      have hm : c.may = false := by simpa [clsAt, hk0, h1, hc] using hk
      have hTa : Turned [] w (w.alloc (.cells #[.int .i64 0, .int .i64 0, .int .i64 0] 94)) := (Turned.refl [] w).alloc _
      rw [← hTa.cell (block_lt c0) (by simp)] at c0
      rw [← hTa.cell (block_lt c1) (by simp)] at c1
      rw [← hTa.cell (block_lt c2) (by simp)] at c2
      have HTa := hide hTa
      clear hTa
      have e4 : ((i : Int) + 1 == 0) = false := by simp; omega
      have e3 : wrap64 ((i : Int) + 1 - 1) = (i : Int) := by unfold wrap64; omega
      have HM := hide (fun w => may_any c.r c.w c.a w (h.inn c (List.mem_of_getElem? hc)))
      rw [show (⟨c.r, c.w, c.a⟩ : Cls).may = false from hm] at HM
      clear hk h hc
      go_enter Tryz.func194, Tryz.ntmps194
      go_wp2_with fail
      refine (HM.out _).mono ?_
      rintro e w1 ⟨rfl, ht1⟩
      have HT1 := hide (HTa.out.trans ht1)
      have hbx : w1.heap[w.heap.size]? = some (.cells #[.int .i64 0, .int .i64 0, .int .i64 0] 94) := by rw [ht1.block _ (by simp) (by simp), heap_alloc_new]
      have x0 := cell_of_heap hbx 0
      have x1 := cell_of_heap hbx 1
      have x2 := cell_of_heap hbx 2
      have xf : ∀ i, w1.frozen? ⟨w.heap.size, i, none⟩ = false := fun i => by simp [World.frozen?, hbx]
      have xf0 := xf 0
      have xf1 := xf 1
      have xf2 := xf 2
      clear ht1 hbx HM c0 c1 c2 xf
      go_wp2_with fail
      refine bodyPost_ret (v := .tuple #[.agg #[.int .i64 0, .int .i64 0, .int .i64 0], .int .i64 12]) (by simp [results, Tryz.results194, go_sem, x0, x1, x2]) rfl ⟨rfl, ((HT1.out.setCell (.inr (Nat.le_refl _)) _).setCell (.inr (Nat.le_refl _)) _).setCell (.inr (Nat.le_refl _)) _⟩

theorem find_some (ao : Option Addr) (len cap : Nat) (cs : List Cls) (k : Int) (w : World) (d : Cls) (h : CRd w ao len cs) (hk : clsAt cs k = some d) :
    Calls Tryz.prog 194 #[.slice ao len cap, .int .i64 k] w fun e w' => e = .returned (.tuple #[.agg #[.int .i64 d.r, .int .i64 d.w, .int .i64 d.a], .int .i64 0]) ∧ Turned [] w w' := by
  have hl := h.size
  have hr := h.room
  have HT := hide (fun c => (Turned.refl [] w).alloc (.cells c 94))
  by_cases h0 : k = 0
  · subst h0
    simp [clsAt] at hk
    subst hk
    clear h
    go_enter Tryz.func194, Tryz.ntmps194
    go_wp2_with fail
    refine bodyPost_ret (v := .tuple #[.agg #[.int .i64 0, .int .i64 0, .int .i64 3], .int .i64 0]) (by simp [results, Tryz.results194, go_sem]) rfl ⟨rfl, HT.out _⟩
  · have h1 : ¬ k < 0 := by intro e; simp [clsAt, e, h0] at hk
    obtain ⟨i, rfl⟩ : ∃ i : Nat, k = (i : Int) + 1 := ⟨(k - 1).toNat, by omega⟩
    cases hc : cs[i]? with
    | none => simp [clsAt, h0, h1, hc] at hk
    | some c =>
      have hm : c.may = true ∧ c = d := by simpa [clsAt, h0, h1, hc] using hk
      obtain ⟨hm, rfl⟩ := hm
      have h2 : i < cs.length := (List.getElem?_eq_some_iff.1 hc).1
      have h3 : ¬ ((len : Int) < (i : Int) + 1) := by omega
      obtain ⟨b, off, rfl, c0, c1, c2⟩ := h.cell i c hc
      have hTa : Turned [] w (w.alloc (.cells #[.int .i64 0, .int .i64 0, .int .i64 0] 94)) := (Turned.refl [] w).alloc _
      rw [← hTa.cell (block_lt c0) (by simp)] at c0
      rw [← hTa.cell (block_lt c1) (by simp)] at c1
      rw [← hTa.cell (block_lt c2) (by simp)] at c2
      have HTa := hide hTa
      clear hTa
      have e4 : ((i : Int) + 1 == 0) = false := by simp; omega
      have e3 : wrap64 ((i : Int) + 1 - 1) = (i : Int) := by unfold wrap64; omega
      have HM := hide (fun w => may_any c.r c.w c.a w (h.inn c (List.mem_of_getElem? hc)))
      rw [show (⟨c.r, c.w, c.a⟩ : Cls).may = true from hm] at HM
      clear hk h hc
      go_enter Tryz.func194, Tryz.ntmps194
      go_wp2_with fail
      refine (HM.out _).mono ?_
      rintro e w1 ⟨rfl, ht1⟩
      have HT1 := hide (HTa.out.trans ht1)
      have hbx : w1.heap[w.heap.size]? = some (.cells #[.int .i64 0, .int .i64 0, .int .i64 0] 94) := by rw [ht1.block _ (by simp) (by simp), heap_alloc_new]
      rw [← ht1.cell (block_lt c0) (by simp)] at c0
      rw [← ht1.cell (block_lt c1) (by simp)] at c1
      rw [← ht1.cell (block_lt c2) (by simp)] at c2
      have x0 := cell_of_heap hbx 0
      have x1 := cell_of_heap hbx 1
      have x2 := cell_of_heap hbx 2
      have xf : ∀ i, w1.frozen? ⟨w.heap.size, i, none⟩ = false := fun i => by simp [World.frozen?, hbx]
      have xf0 := xf 0
      have xf1 := xf 1
      have xf2 := xf 2
      clear ht1 hbx HM xf
      go_wp2_with fail
      refine bodyPost_ret (v := .tuple #[.agg #[.int .i64 c.r, .int .i64 c.w, .int .i64 c.a], .int .i64 0]) (by simp [results, Tryz.results194, go_sem, x0, x1, x2]) rfl ⟨rfl, ((HT1.out.setCell (.inr (Nat.le_refl _)) _).setCell (.inr (Nat.le_refl _)) _).setCell (.inr (Nat.le_refl _)) _⟩

theorem lay_any (c : Cls) (n : Int) (w : World) (hn : In64 n) :
    Calls Tryz.prog 195 #[.agg #[.int .i64 c.r, .int .i64 c.w, .int .i64 c.a], .int .i64 n] w fun e w' => e = .returned (.tuple #[.agg #[.int .i64 (c.rN n), .int .i64 (c.wN n)], .int .i64 c.most]) ∧ Turned [] w w' := by
  have HT := hide (fun c d => ((Turned.refl [] w).alloc (.cells c 94)).alloc (.cells d 212))
  unfold In64 at hn
  obtain ⟨r, v, a⟩ := c
  by_cases h1 : a = 1
  · subst h1
    simp only [Cls.rN, Cls.wN, Cls.most, if_pos, true_or]
    go_enter Tryz.func195, Tryz.ntmps195
    go_wp2_with fail
    refine bodyPost_ret (v := .tuple #[.agg #[.int .i64 n, .int .i64 0], .int .i64 1024]) (by simp [results, Tryz.results195, go_sem]) rfl ⟨rfl, HT.out _ _⟩
  · by_cases h2 : a = 2
    · subst h2
      simp only [Cls.rN, Cls.wN, Cls.most, if_pos, true_or, or_true, if_neg h1]
      go_enter Tryz.func195, Tryz.ntmps195
      go_wp2_with fail
      refine bodyPost_ret (v := .tuple #[.agg #[.int .i64 0, .int .i64 n], .int .i64 1024]) (by simp [results, Tryz.results195, go_sem]) rfl ⟨rfl, HT.out _ _⟩
    · by_cases h3 : a = 3
      · subst h3
        rw [show Cls.rN ⟨r, v, 3⟩ n = 0 from rfl, show Cls.wN ⟨r, v, 3⟩ n = n from rfl, show Cls.most ⟨r, v, 3⟩ = 65535 from rfl]
        go_enter Tryz.func195, Tryz.ntmps195
        go_wp2_with fail
        refine bodyPost_ret (v := .tuple #[.agg #[.int .i64 0, .int .i64 n], .int .i64 65535]) (by simp [results, Tryz.results195, go_sem]) rfl ⟨rfl, HT.out _ _⟩
      · rw [show Cls.rN ⟨r, v, a⟩ n = r by simp [Cls.rN, h1, h2, h3], show Cls.wN ⟨r, v, a⟩ n = v by simp [Cls.wN, h1, h2, h3], show Cls.most ⟨r, v, a⟩ = 0 by simp [Cls.most, h1, h2, h3]]
        go_enter Tryz.func195, Tryz.ntmps195
        go_wp2_with fail
        refine bodyPost_ret (v := .tuple #[.agg #[.int .i64 r, .int .i64 v], .int .i64 0]) (by simp [results, Tryz.results195, go_sem]) rfl ⟨rfl, HT.out _ _⟩
end Go.Proofs.YtgbclfhgpkmcnaaGreatDoor

/-
  What count, Size and Ref tell, of any classes and any numbers.
-/
namespace Go.Proofs.YtgbclfhgpkmcnaaGreatDoor
open Go.RowKit
set_option linter.unusedVariables false

/-- A class that clsAt tells: it may be, or it is the filler's. -/
theorem clsAt_may {cs : List Cls} {k : Int} {c : Cls} (h : clsAt cs k = some c) : c = ⟨0, 0, 3⟩ ∧ k = 0 ∨ c.may = true ∧ 0 < k ∧ cs[(k - 1).toNat]? = some c := by
  unfold clsAt at h
  split at h
  · injection h with h; exact .inl ⟨h.symm, by assumption⟩
  · split at h
    · cases h
    · split at h
      · split at h
        · injection h with h; subst h; exact .inr ⟨by assumption, by omega, by assumption⟩
        · cases h
      · cases h
/-- What may be asked: its references and its words are few. -/
theorem clsAt_few {cs : List Cls} {k n : Int} {c : Cls} (h : clsAt cs k = some c) (hn : 0 ≤ n ∧ n ≤ c.most) : 0 ≤ c.rN n ∧ 0 ≤ c.wN n ∧ c.rN n + c.wN n ≤ 65535 := by
  rcases clsAt_may h with ⟨rfl, _⟩ | ⟨h1, _, _⟩
  · have h2 : (⟨0, 0, 3⟩ : Cls).most = 65535 := rfl
    have h3 : (⟨0, 0, 3⟩ : Cls).rN n = 0 := rfl
    have h4 : (⟨0, 0, 3⟩ : Cls).wN n = n := rfl
    omega
  · obtain ⟨r, v, a⟩ := c
    simp only [Cls.may, decide_eq_true_eq] at h1
    simp only [Cls.most, Cls.rN, Cls.wN] at hn ⊢
    rcases h1 with ⟨rfl, h1⟩ | ⟨rfl | rfl, h1⟩
    · simp at hn ⊢; omega
    · simp at hn ⊢; omega
    · simp at hn ⊢; omega

def gSize (r v : Int) : Int := 1 + r + v
def gRefs (r v : Int) : Int := r
/-- A function that is asked for: of few references and few words. -/
def Asked (K : Nat) (g : Int → Int → Int) : Prop :=
  ∀ (r v : Int) (w : World), 0 ≤ r → 0 ≤ v → r + v ≤ 65535 → Calls Tryz.prog K #[.agg #[.int .i64 r, .int .i64 v]] w fun e w' => e = .returned (.int .i64 (g r v)) ∧ Turned [] w w'
theorem asked_size : Asked 193 gSize := fun r v w h1 h2 h3 => size_any r v w (by unfold In64; omega)
theorem asked_refs : Asked 190 gRefs := fun r v w h1 h2 h3 => references_any r v w

theorem count_size (ao : Option Addr) (len cap : Nat) (cs : List Cls) (k n : Int) (w : World) (hn : In64 n) (h : CRd w ao len cs) :
    Calls Tryz.prog 189 #[.slice ao len cap, .int .i64 k, .int .i64 n, .func (.func 193) #[] #[]] w fun e w' => e = .returned (.tuple #[.int .i64 (told gSize cs k n).1, .int .i64 (told gSize cs k n).2]) ∧ Turned [] w w' := by
  cases hc : clsAt cs k with
  | none =>
    have e1 : told gSize cs k n = (0, 12) := by simp [told, hc]
    rw [e1]
    have HF := hide (find_none ao len cap cs k w h hc)
    clear hc h e1
    go_enter Tryz.func189, Tryz.ntmps189
    go_wp2_with fail
    refine HF.out.mono ?_
    rintro e w1 ⟨rfl, ht1⟩
    have HT := hide (fun c => ht1.alloc (.cells c 94))
    clear ht1 HF
    go_wp2_with fail
    go_ret2
    exact ⟨rfl, HT.out _⟩
  | some c =>
    have HF := hide (find_some ao len cap cs k w c h hc)
    have HL := hide (fun w => lay_any c n w hn)
    have HW := hide (fun hh => clsAt_few (n := n) hc hh)
    have HA : Hid (Asked 193 gSize) := asked_size
    obtain ⟨y, hy⟩ : ∃ y, y = told gSize cs k n := ⟨_, rfl⟩
    rw [← hy]
    have HY : Hid (y = if 0 ≤ n ∧ n ≤ c.most then (gSize (c.rN n) (c.wN n), 0) else (0, 11)) := by show _ = _; rw [hy]; simp [told, hc]
    clear hy hc h hn
    obtain ⟨r, v, a⟩ := c
    generalize Cls.rN ⟨r, v, a⟩ n = R at *
    generalize Cls.wN ⟨r, v, a⟩ n = V at *
    generalize Cls.most ⟨r, v, a⟩ = M at *
    by_cases hr : 0 ≤ n ∧ n ≤ M
    · obtain ⟨h1, h2⟩ := hr
      have e1 : y = (gSize R V, 0) := by rw [HY.out, if_pos ⟨h1, h2⟩]
      subst e1
      have HAs := hide (fun w => HA.out R V w (HW.out ⟨h1, h2⟩).1 (HW.out ⟨h1, h2⟩).2.1 (HW.out ⟨h1, h2⟩).2.2)
      clear HY HA HW
      go_enter Tryz.func189, Tryz.ntmps189
      go_wp2_with fail
      refine HF.out.mono ?_
      rintro e w1 ⟨rfl, ht1⟩
      have HT := hide (fun c => ht1.alloc (.cells c 94))
      clear ht1 HF
      go_wp2_with fail
      refine (HL.out _).mono ?_
      rintro e w2 ⟨rfl, ht2⟩
      have HT2 := hide (fun c => ((HT.out _).trans ht2).alloc (.cells c 212))
      clear ht2 HL HT
      go_wp2_with fail
      refine (HAs.out _).mono ?_
      rintro e w3 ⟨rfl, ht3⟩
      have HT3 := hide ((HT2.out _).trans ht3)
      clear ht3 HAs HT2
      go_wp2_with fail
      go_ret2
      exact ⟨rfl, HT3.out⟩
    · have e1 : y = (0, 11) := by rw [HY.out, if_neg hr]
      subst e1
      clear HY HA HW
      by_cases h1 : n < 0
      · clear hr
        go_enter Tryz.func189, Tryz.ntmps189
        go_wp2_with fail
        refine HF.out.mono ?_
        rintro e w1 ⟨rfl, ht1⟩
        have HT := hide (fun c => ht1.alloc (.cells c 94))
        clear ht1 HF
        go_wp2_with fail
        refine (HL.out _).mono ?_
        rintro e w2 ⟨rfl, ht2⟩
        have HT2 := hide (fun c => ((HT.out _).trans ht2).alloc (.cells c 212))
        clear ht2 HL HT
        go_wp2_with fail
        go_ret2
        exact ⟨rfl, HT2.out _⟩
      · have h2 : M < n := by omega
        clear hr
        go_enter Tryz.func189, Tryz.ntmps189
        go_wp2_with fail
        refine HF.out.mono ?_
        rintro e w1 ⟨rfl, ht1⟩
        have HT := hide (fun c => ht1.alloc (.cells c 94))
        clear ht1 HF
        go_wp2_with fail
        refine (HL.out _).mono ?_
        rintro e w2 ⟨rfl, ht2⟩
        have HT2 := hide (fun c => ((HT.out _).trans ht2).alloc (.cells c 212))
        clear ht2 HL HT
        go_wp2_with fail
        go_ret2
        exact ⟨rfl, HT2.out _⟩

theorem count_refs (ao : Option Addr) (len cap : Nat) (cs : List Cls) (k n : Int) (w : World) (hn : In64 n) (h : CRd w ao len cs) :
    Calls Tryz.prog 189 #[.slice ao len cap, .int .i64 k, .int .i64 n, .func (.func 190) #[] #[]] w fun e w' => e = .returned (.tuple #[.int .i64 (told gRefs cs k n).1, .int .i64 (told gRefs cs k n).2]) ∧ Turned [] w w' := by
  cases hc : clsAt cs k with
  | none =>
    have e1 : told gRefs cs k n = (0, 12) := by simp [told, hc]
    rw [e1]
    have HF := hide (find_none ao len cap cs k w h hc)
    clear hc h e1
    go_enter Tryz.func189, Tryz.ntmps189
    go_wp2_with fail
    refine HF.out.mono ?_
    rintro e w1 ⟨rfl, ht1⟩
    have HT := hide (fun c => ht1.alloc (.cells c 94))
    clear ht1 HF
    go_wp2_with fail
    go_ret2
    exact ⟨rfl, HT.out _⟩
  | some c =>
    have HF := hide (find_some ao len cap cs k w c h hc)
    have HL := hide (fun w => lay_any c n w hn)
    have HW := hide (fun hh => clsAt_few (n := n) hc hh)
    have HA : Hid (Asked 190 gRefs) := asked_refs
    obtain ⟨y, hy⟩ : ∃ y, y = told gRefs cs k n := ⟨_, rfl⟩
    rw [← hy]
    have HY : Hid (y = if 0 ≤ n ∧ n ≤ c.most then (gRefs (c.rN n) (c.wN n), 0) else (0, 11)) := by show _ = _; rw [hy]; simp [told, hc]
    clear hy hc h hn
    obtain ⟨r, v, a⟩ := c
    generalize Cls.rN ⟨r, v, a⟩ n = R at *
    generalize Cls.wN ⟨r, v, a⟩ n = V at *
    generalize Cls.most ⟨r, v, a⟩ = M at *
    by_cases hr : 0 ≤ n ∧ n ≤ M
    · obtain ⟨h1, h2⟩ := hr
      have e1 : y = (gRefs R V, 0) := by rw [HY.out, if_pos ⟨h1, h2⟩]
      subst e1
      have HAs := hide (fun w => HA.out R V w (HW.out ⟨h1, h2⟩).1 (HW.out ⟨h1, h2⟩).2.1 (HW.out ⟨h1, h2⟩).2.2)
      clear HY HA HW
      go_enter Tryz.func189, Tryz.ntmps189
      go_wp2_with fail
      refine HF.out.mono ?_
      rintro e w1 ⟨rfl, ht1⟩
      have HT := hide (fun c => ht1.alloc (.cells c 94))
      clear ht1 HF
      go_wp2_with fail
      refine (HL.out _).mono ?_
      rintro e w2 ⟨rfl, ht2⟩
      have HT2 := hide (fun c => ((HT.out _).trans ht2).alloc (.cells c 212))
      clear ht2 HL HT
      go_wp2_with fail
      refine (HAs.out _).mono ?_
      rintro e w3 ⟨rfl, ht3⟩
      have HT3 := hide ((HT2.out _).trans ht3)
      clear ht3 HAs HT2
      go_wp2_with fail
      go_ret2
      exact ⟨rfl, HT3.out⟩
    · have e1 : y = (0, 11) := by rw [HY.out, if_neg hr]
      subst e1
      clear HY HA HW
      by_cases h1 : n < 0
      · clear hr
        go_enter Tryz.func189, Tryz.ntmps189
        go_wp2_with fail
        refine HF.out.mono ?_
        rintro e w1 ⟨rfl, ht1⟩
        have HT := hide (fun c => ht1.alloc (.cells c 94))
        clear ht1 HF
        go_wp2_with fail
        refine (HL.out _).mono ?_
        rintro e w2 ⟨rfl, ht2⟩
        have HT2 := hide (fun c => ((HT.out _).trans ht2).alloc (.cells c 212))
        clear ht2 HL HT
        go_wp2_with fail
        go_ret2
        exact ⟨rfl, HT2.out _⟩
      · have h2 : M < n := by omega
        clear hr
        go_enter Tryz.func189, Tryz.ntmps189
        go_wp2_with fail
        refine HF.out.mono ?_
        rintro e w1 ⟨rfl, ht1⟩
        have HT := hide (fun c => ht1.alloc (.cells c 94))
        clear ht1 HF
        go_wp2_with fail
        refine (HL.out _).mono ?_
        rintro e w2 ⟨rfl, ht2⟩
        have HT2 := hide (fun c => ((HT.out _).trans ht2).alloc (.cells c 212))
        clear ht2 HL HT
        go_wp2_with fail
        go_ret2
        exact ⟨rfl, HT2.out _⟩

def sizeOf (cs : List Cls) (k n : Int) : Int × Int := told gSize cs k n
def refsOf (cs : List Cls) (k n : Int) : Int := (told gRefs cs k n).1

theorem sizes_any (ao : Option Addr) (len cap : Nat) (cs : List Cls) (k n : Int) (w : World) (hn : In64 n) (h : CRd w ao len cs) :
    Calls Tryz.prog 188 #[.slice ao len cap, .int .i64 k, .int .i64 n] w fun e w' => e = .returned (.tuple #[.int .i64 (sizeOf cs k n).1, .int .i64 (sizeOf cs k n).2]) ∧ Turned [] w w' := by
  have HC := hide (count_size ao len cap cs k n w hn h)
  clear hn h
  unfold sizeOf
  generalize told gSize cs k n = y at *
  go_enter Tryz.func188, Tryz.ntmps188
  go_wp2_with fail
  refine HC.out.mono ?_
  rintro e w1 ⟨rfl, ht1⟩
  have HT := hide ht1
  clear ht1 HC
  go_wp2_with fail
  go_ret2
  exact ⟨rfl, HT.out⟩

end Go.Proofs.YtgbclfhgpkmcnaaGreatDoor

/-
  What low, Header and Parts tell; the document's own Header and Parts tell the same.
-/
namespace Go.Proofs.YtgbclfhgpkmcnaaGreatDoor
open Go.RowKit
set_option linter.unusedVariables false

theorem wrap_few (n : Nat) (h : n < 9223372036854775808) : IntKind.i64.wrap (n : Int) = (n : Int) := by
  rw [IntKind.wrap_i64]
  omega
theorem ofInt_nat64 (n : Int) : (BitVec.ofInt 64 n).toNat = (n % 18446744073709551616).toNat := by
  simp [BitVec.toNat_ofInt]
theorem and_low (n : Int) (j : Nat) (hj : j ≤ 62) : bits .and .i64 n ((2 ^ j - 1 : Nat) : Int) = n % ((2 ^ j : Nat) : Int) := by
  show IntKind.i64.wrap ((BitVec.ofInt 64 n &&& BitVec.ofInt 64 ((2 ^ j - 1 : Nat) : Int)).toNat : Int) = _
  have h1 : 2 ^ j ≤ 2 ^ 62 := Nat.pow_le_pow_right (by omega) hj
  have h2 : 0 < 2 ^ j := Nat.two_pow_pos j
  have h3 : 2 ^ 62 = 4611686018427387904 := by decide
  have e1 : (((2 ^ j - 1 : Nat) : Int) % 18446744073709551616).toNat = 2 ^ j - 1 := by omega
  rw [BitVec.toNat_and, ofInt_nat64, ofInt_nat64, e1, Nat.and_two_pow_sub_one_eq_mod]
  have h4 : (n % 18446744073709551616).toNat % 2 ^ j < 2 ^ j := Nat.mod_lt _ h2
  rw [wrap_few _ (by omega)]
  have h5 : ((n % 18446744073709551616).toNat : Int) = n % 18446744073709551616 := Int.toNat_of_nonneg (Int.emod_nonneg _ (by omega))
  rw [Int.natCast_emod, h5]
  apply Int.emod_emod_of_dvd
  have h6 : (18446744073709551616 : Int) = ((2 ^ 64 : Nat) : Int) := by decide
  rw [h6]
  exact Int.natCast_dvd_natCast.2 (Nat.pow_dvd_pow 2 (by omega))
theorem and24 (n : Int) : bits .and .i64 n 16777215 = n % 16777216 := and_low n 24 (by omega)
theorem and32 (n : Int) : bits .and .i64 n 4294967295 = n % 4294967296 := and_low n 32 (by omega)
theorem or_apart (a b i : Nat) (hb : b < 2 ^ i) (hs : 2 ^ i * a + b < 9223372036854775808) : bits .or .i64 ((2 ^ i * a : Nat) : Int) (b : Int) = ((2 ^ i * a + b : Nat) : Int) := by
  show IntKind.i64.wrap ((BitVec.ofInt 64 ((2 ^ i * a : Nat) : Int) ||| BitVec.ofInt 64 (b : Int)).toNat : Int) = _
  have e1 : (((2 ^ i * a : Nat) : Int) % 18446744073709551616).toNat = 2 ^ i * a := by omega
  have e2 : ((b : Int) % 18446744073709551616).toNat = b := by omega
  rw [BitVec.toNat_or, ofInt_nat64, ofInt_nat64, e1, e2, ← Nat.two_pow_add_eq_or_of_lt hb]
  exact wrap_few _ hs
theorem or_mark (a : Int) (h : 0 ≤ a ∧ a < 16777216) : bits .or .i64 4611686018427387904 (a * 4294967296) = 4611686018427387904 + a * 4294967296 := by
  obtain ⟨n, rfl⟩ := Int.eq_ofNat_of_zero_le h.1
  have h1 := or_apart 1 (n * 4294967296) 62 (by omega) (by omega)
  have e1 : ((2 ^ 62 * 1 : Nat) : Int) = 4611686018427387904 := by decide
  have e2 : ((n * 4294967296 : Nat) : Int) = (n : Int) * 4294967296 := by omega
  rw [e1, e2] at h1
  rw [h1]
  omega
theorem or_length (a b : Int) (h : 0 ≤ a ∧ a < 16777216) (hb : 0 ≤ b ∧ b < 4294967296) : bits .or .i64 (4611686018427387904 + a * 4294967296) b = 4611686018427387904 + a * 4294967296 + b := by
  obtain ⟨n, rfl⟩ := Int.eq_ofNat_of_zero_le h.1
  obtain ⟨m, rfl⟩ := Int.eq_ofNat_of_zero_le hb.1
  have h1 := or_apart (1073741824 + n) m 32 (by omega) (by omega)
  have e1 : ((2 ^ 32 * (1073741824 + n) : Nat) : Int) = 4611686018427387904 + (n : Int) * 4294967296 := by omega
  rw [e1] at h1
  rw [h1]
  omega

theorem low24 (n : Int) (w : World) :
    Calls Tryz.prog 191 #[.int .i64 n, .int .i64 24] w fun e w' => e = .returned (.int .i64 (n % 16777216)) ∧ w' = w := by
  go_enter Tryz.func191, Tryz.ntmps191
  go_wp2_with fail
  go_ret
  refine ⟨?_, rfl⟩
  show Ending.returned (.int .i64 (bits .and .i64 n 16777215)) = _
  rw [and24]
theorem low32 (n : Int) (w : World) :
    Calls Tryz.prog 191 #[.int .i64 n, .int .i64 32] w fun e w' => e = .returned (.int .i64 (n % 4294967296)) ∧ w' = w := by
  go_enter Tryz.func191, Tryz.ntmps191
  go_wp2_with fail
  go_ret
  refine ⟨?_, rfl⟩
  show Ending.returned (.int .i64 (bits .and .i64 n 4294967295)) = _
  rw [and32]

def headOf (k n : Int) : Int := 4611686018427387904 + k % 16777216 * 4294967296 + n % 4294967296
theorem headOf_range (k n : Int) : 4611686018427387904 ≤ headOf k n ∧ headOf k n < 4683743612465315840 := by
  unfold headOf; omega

theorem header_any (k n : Int) (w : World) :
    Calls Tryz.prog 192 #[.int .i64 k, .int .i64 n] w fun e w' => e = .returned (.int .i64 (headOf k n)) ∧ w' = w := by
  have HK := hide (fun w => low24 k w)
  have HN := hide (fun w => low32 n w)
  have hk1 : 0 ≤ k % 16777216 ∧ k % 16777216 < 16777216 := by omega
  have hn1 : 0 ≤ n % 4294967296 ∧ n % 4294967296 < 4294967296 := by omega
  unfold headOf
  generalize k % 16777216 = a at *
  generalize n % 4294967296 = b at *
  go_enter Tryz.func192, Tryz.ntmps192
  go_wp2_with fail
  refine (HK.out _).mono ?_
  rintro e w1 ⟨rfl, rfl⟩
  go_wp2_with fail
  refine (HN.out _).mono ?_
  rintro e w1 ⟨rfl, rfl⟩
  go_wp2_with fail
  go_ret
  refine ⟨?_, rfl⟩
  show Ending.returned (.int .i64 (bits .or .i64 (bits .or .i64 4611686018427387904 (a * 4294967296)) b)) = _
  rw [or_mark a hk1, or_length a b hk1 hn1]

/-- What Parts tells. -/
def partC (h : Int) : Int := h / 4294967296 % 16777216
def partL (h : Int) : Int := h % 4294967296
def isHead (h : Int) : Bool := decide (headOf (partC h) (partL h) = h)

theorem parts_yes (h : Int) (w : World) (hh : isHead h = true) :
    Calls Tryz.prog 187 #[.int .i64 h] w fun e w' => e = .returned (.tuple #[.int .i64 (partC h), .int .i64 (partL h), .bool true]) ∧ w' = w := by
  have H1 := hide (fun w => low24 (h / 4294967296) w)
  have H2 := hide (fun w => low32 h w)
  have H3 := hide (fun w => header_any (partC h) (partL h) w)
  have h4 : headOf (partC h) (partL h) = h := by simpa [isHead] using hh
  rw [h4] at H3
  unfold partC partL at *
  clear hh h4
  generalize h / 4294967296 % 16777216 = a at *
  generalize h % 4294967296 = b at *
  go_enter Tryz.func187, Tryz.ntmps187
  go_wp2_with fail
  refine (H1.out _).mono ?_
  rintro e w1 ⟨rfl, rfl⟩
  go_wp2_with fail
  refine (H2.out _).mono ?_
  rintro e w1 ⟨rfl, rfl⟩
  go_wp2_with fail
  refine (H3.out _).mono ?_
  rintro e w1 ⟨rfl, rfl⟩
  go_wp2_with fail
  go_ret3
  exact ⟨rfl, rfl⟩
theorem parts_no (h : Int) (w : World) (hh : isHead h = false) :
    Calls Tryz.prog 187 #[.int .i64 h] w fun e w' => e = .returned (.tuple #[.int .i64 0, .int .i64 0, .bool false]) ∧ w' = w := by
  have H1 := hide (fun w => low24 (h / 4294967296) w)
  have H2 := hide (fun w => low32 h w)
  have H3 := hide (fun w => header_any (partC h) (partL h) w)
  have h4 : ¬ headOf (partC h) (partL h) = h := by simpa [isHead] using hh
  unfold partC partL at *
  clear hh
  generalize h / 4294967296 % 16777216 = a at *
  generalize h % 4294967296 = b at *
  generalize headOf a b = c at *
  go_enter Tryz.func187, Tryz.ntmps187
  go_wp2_with fail
  refine (H1.out _).mono ?_
  rintro e w1 ⟨rfl, rfl⟩
  go_wp2_with fail
  refine (H2.out _).mono ?_
  rintro e w1 ⟨rfl, rfl⟩
  go_wp2_with fail
  refine (H3.out _).mono ?_
  rintro e w1 ⟨rfl, rfl⟩
  go_wp2_with fail
  go_ret3
  exact ⟨rfl, rfl⟩

theorem rheader_any (k n : Int) (w : World) :
    Calls Tryz.prog 70 #[.int .i64 k, .int .i64 n] w fun e w' => e = .returned (.int .i64 (headOf k n)) ∧ w' = w := by
  have HK := hide (and24 k)
  have HN := hide (and32 n)
  have hk1 : 0 ≤ k % 16777216 ∧ k % 16777216 < 16777216 := by omega
  have hn1 : 0 ≤ n % 4294967296 ∧ n % 4294967296 < 4294967296 := by omega
  have hk2 := hk1
  have hn2 := hn1
  rw [← and24] at hk2
  rw [← and32] at hn2
  unfold headOf
  rw [← and24, ← and32]
  clear hk1 hn1
  go_enter Tryz.func70, Tryz.ntmps70
  go_wp2_with fail
  go_ret
  exact ⟨rfl, rfl⟩

theorem rparts_yes (h : Int) (w : World) (hh : isHead h = true) :
    Calls Tryz.prog 62 #[.int .i64 h] w fun e w' => e = .returned (.tuple #[.int .i64 (partC h), .int .i64 (partL h), .bool true]) ∧ w' = w := by
  have H3 := hide (fun w => rheader_any (partC h) (partL h) w)
  have h4 : headOf (partC h) (partL h) = h := by simpa [isHead] using hh
  rw [h4] at H3
  unfold partC partL at *
  rw [← and24, ← and32] at *
  clear hh h4
  go_enter Tryz.func62, Tryz.ntmps62
  go_wp2_with fail
  refine (H3.out _).mono ?_
  rintro e w1 ⟨rfl, rfl⟩
  go_wp2_with fail
  go_ret3
  exact ⟨rfl, rfl⟩
theorem rparts_no (h : Int) (w : World) (hh : isHead h = false) :
    Calls Tryz.prog 62 #[.int .i64 h] w fun e w' => e = .returned (.tuple #[.int .i64 0, .int .i64 0, .bool false]) ∧ w' = w := by
  have H3 := hide (fun w => rheader_any (partC h) (partL h) w)
  have h4 : ¬ headOf (partC h) (partL h) = h := by simpa [isHead] using hh
  generalize hc : headOf (partC h) (partL h) = c at *
  clear hc
  unfold partC partL at *
  rw [← and24, ← and32] at *
  clear hh
  go_enter Tryz.func62, Tryz.ntmps62
  go_wp2_with fail
  refine (H3.out _).mono ?_
  rintro e w1 ⟨rfl, rfl⟩
  go_wp2_with fail
  go_ret3
  exact ⟨rfl, rfl⟩
end Go.Proofs.YtgbclfhgpkmcnaaGreatDoor

/-
  Classes that can be read, in a block of their own type.
-/
namespace Go.Proofs.YtgbclfhgpkmcnaaGreatDoor
open Go.RowKit
set_option linter.unusedVariables false

/-- Classes that can be read, in a block of their own type. -/
structure CRow (w : World) (co : Option Addr) (len : Nat) (cs : List Cls) : Prop where
  rd : CRd w co len cs
  row : ∀ b off spot, co = some ⟨b, off, spot⟩ → ∃ c fr, w.heap[b]? = some (.cells c 94 fr)
theorem CRow.turned {w w' : World} {co : Option Addr} {len : Nat} {cs : List Cls} (h : CRow w co len cs) {S : List Nat} (t : Turned S w w') (hS : ∀ b off spot, co = some ⟨b, off, spot⟩ → b ∉ S) : CRow w' co len cs := by
  refine ⟨⟨h.rd.size, h.rd.room, fun i c hc => ?_, h.rd.inn⟩, fun b off spot e => ?_⟩
  · obtain ⟨b, off, h0, h1, h2, h3⟩ := h.rd.cell i c hc
    have hb := hS b off none h0
    exact ⟨b, off, h0, by rw [t.cell (block_lt h1) hb]; exact h1, by rw [t.cell (block_lt h2) hb]; exact h2, by rw [t.cell (block_lt h3) hb]; exact h3⟩
  · obtain ⟨c, fr, h1⟩ := h.row b off spot e
    exact ⟨c, fr, by rw [t.block b (lt_of_heap h1) (hS b off spot e)]; exact h1⟩
theorem CRow.turned0 {w w' : World} {co : Option Addr} {len : Nat} {cs : List Cls} (h : CRow w co len cs) (t : Turned [] w w') : CRow w' co len cs := h.turned t (by simp)
/-- What is turned of other types leaves them. -/
theorem CRow.keep {w w' : World} {co : Option Addr} {len : Nat} {cs : List Cls} (h : CRow w co len cs) {S : List Nat} (t : Turned S w w') (hS : ∀ k, k ∈ S → ∃ c e fr, w.heap[k]? = some (.cells c e fr) ∧ e ≠ 94) : CRow w' co len cs :=
  h.turned t (fun b off spot e hb => by
    obtain ⟨c, e', fr, h1, h2⟩ := hS b hb
    obtain ⟨c2, fr2, h3⟩ := h.row b off spot e
    rw [h1] at h3
    cases h3
    exact h2 rfl)

theorem Turned.at {S : List Nat} {w w' : World} (t : Turned S w w') {k : Nat} {o : Obj} (h : w.heap[k]? = some o) (hk : k ∉ S) : w'.heap[k]? = some o := by rw [t.block k (lt_of_heap h) hk]; exact h

/-- A variable of four cells that was stored to, and a new block behind it. -/
theorem four_set {w : World} {g : Nat} {a0 a1 a2 a3 : Value} {e : TypeId} {fr : Nat × Nat} (h : w.heap[g]? = some (.cells #[a0, a1, a2, a3] e fr)) (v0 v1 v2 v3 : Value) :
    ((((w.setCell ⟨g, 0, none⟩ v0).setCell ⟨g, 1, none⟩ v1).setCell ⟨g, 2, none⟩ v2).setCell ⟨g, 3, none⟩ v3).heap[g]? = some (.cells #[v0, v1, v2, v3] e fr) := by
  have h1 := heap_setCell_at _ _ 0 _ _ _ h v0
  have h2 := heap_setCell_at _ _ 1 _ _ _ h1 v1
  have h3 := heap_setCell_at _ _ 2 _ _ _ h2 v2
  have h4 := heap_setCell_at _ _ 3 _ _ _ h3 v3
  exact h4

theorem wr64 (n : Int) (h : -9223372036854775808 ≤ n ∧ n ≤ 9223372036854775807) : wrap64 n = n := by unfold wrap64; omega
end Go.Proofs.YtgbclfhgpkmcnaaGreatDoor

/-
  What Check tells.
-/
namespace Go.Proofs.YtgbclfhgpkmcnaaGreatDoor
open Go.RowKit
set_option linter.unusedVariables false

def checkOf (cs : List Cls) : Int := if cs.length ≤ 16 ∧ ∀ c, c ∈ cs → c.may = true then 0 else 12

end Go.Proofs.YtgbclfhgpkmcnaaGreatDoor
