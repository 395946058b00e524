/-
  What is only asked: New, the table that is nil, 'of', Holder, 'threads', Queue and Aside.
-/
import Derived.Test.YtlbcbphkgaoliabMonEnter
import Derived.Deep.Grids
import Derived.Deep.OwnRows
import Derived.BigQuiet
import Derived.Deep.Cut
import Derived.Deep.CutRange
import Derived.Deep.LoopGhost
namespace Go.Proofs.Ytlbcbphkgaoliab
open Go.RowKit
set_option linter.unusedVariables false
set_option linter.unusedSimpArgs false

theorem intInfo17 : (Try.prog.info? 3).map (fun i => (i.zero, i.size, i.bytes)) = some (some (.int .i64 0), 1, 8) := by kernel_rfl
theorem monInfo17 : (Try.prog.info? 54).map (·.size) = some 4 := by kernel_rfl
section
variable {B : Nat} {w w' : World} {b p n : Nat} {x y : Int} {m m' : Mon} {g : Int → Option Mon} {S : Int → Bool}
/-- A table without monitors. -/
theorem tb_empty (B : Nat) (w : World) (p : Nat) (hb : B ≤ p) (h : w.heap[p]? = some (.cells #[.map none, .map none] 42)) : Tb B w p 0 (fun _ => none) (fun _ => false) :=
  ⟨none, none, fun _ => none, ⟨h, fun _ => rfl, fun _ => rfl, fun b hb => by cases hb⟩, fun _ => rfl, fun y N k h => (by cases h), fun y z N K _ h => (by cases h), hb, fun b hb => (by cases hb), fun b hb => (by cases hb), fun y N k i h => by cases h⟩
set_option maxRecDepth 100000 in
/-- New. -/
theorem new_call (w : World) (hB : B ≤ w.heap.size) : Calls Try.prog 5 #[] w fun e w' => e = .returned (.pointer (some ⟨w.heap.size, 0, none⟩)) ∧ Tb B w' w.heap.size 0 (fun _ => none) (fun _ => false) ∧ Turned [] w w' := by
  have HT := hide (tb_empty B (w.alloc (.cells #[.map none, .map none] 42)) w.heap.size hB (heap_alloc_new _ _))
  have HU := hide ((Turned.refl [] w).alloc (.cells #[.map none, .map none] 42))
  go_enter Try.func5, Try.ntmps5
  go_wp2_with fail
  go_ret
  exact ⟨rfl, HT.out, HU.out⟩
/-- An object's monitor is looked up. -/
theorem tb_look (h : Tb B w p n g S) (hy : I64 y) : ∃ (mo : Option Nat) (M : MV), (∀ w', Turned [] w w' → w'.cell? ⟨p, 0, none⟩ = some (.map mo) ∧ (Instr.lookup 39 (.map mo) (.int .i64 y) false).run Try.prog w' = .ok M.val w') ∧ Rp w M ((g y).getD Mon.zero) := by
  obtain ⟨mo, so, f, h1, h2, h3, h4, h5⟩ := h.ex
  refine ⟨mo, (f y).getD MV.zero, fun w' t => ⟨by rw [cell_of_heap (t.at h1.row (by simp))]; rfl, ?_⟩, ?_⟩
  · cases hmo : mo with
    | none =>
      subst hmo
      rw [show f y = none from h1.mm y]
      exact mm_look_nil w' hy
    | some k =>
      subst hmo
      exact MM.look (h1.mm.turned t) hy
  · have hg := h2 y
    cases hf : f y with
    | none =>
      rw [hf] at hg
      have : g y = none := by cases q : g y with
        | none => rfl
        | some v => rw [q] at hg; cases hg
      rw [this]
      exact rp_zero w
    | some N =>
      rw [hf] at hg
      obtain ⟨k, hk⟩ := Option.isSome_iff_exists.1 hg.symm
      rw [hk]
      exact h3 y N k hf hk
/-- What 'of' tells. -/
def OfT (w : World) (m : Mon) (e : Ending) (w' : World) : Prop := ∃ M : MV, e = .returned M.val ∧ Rp w' M m ∧ Turned [] w w'
set_option maxRecDepth 100000 in
theorem of_any (hy : I64 y) (h : Tb B w p n g S) : Calls Try.prog 26 #[.pointer (some ⟨p, 0, none⟩), .int .i64 y] w (OfT w ((g y).getD Mon.zero)) := by
  have t1 : Turned [] w (w.alloc (.cells #[.int .i64 0, .int .i64 0, .slice none 0 0, .slice none 0 0] 54)) := (Turned.refl _ _).alloc _
  obtain ⟨mo, M, hall, hr⟩ := tb_look h hy
  obtain ⟨c0, hlk⟩ := hall _ t1
  obtain ⟨qa, hqa⟩ : ∃ qa, qa = M.q.addr := ⟨_, rfl⟩
  obtain ⟨aa, haa⟩ : ∃ aa, aa = M.a.addr := ⟨_, rfl⟩
  have hlk' : (Instr.lookup 39 (.map mo) (.int .i64 y) false).run Try.prog (w.alloc (.cells #[.int .i64 0, .int .i64 0, .slice none 0 0, .slice none 0 0] 54)) = .ok (.agg #[.int .i64 M.h, .int .i64 M.t, .slice qa M.q.len M.q.cap, .slice aa M.a.len M.a.cap]) (w.alloc (.cells #[.int .i64 0, .int .i64 0, .slice none 0 0, .slice none 0 0] 54)) := by rw [hqa, haa]; exact hlk
  have HV : Hid (M.val = .agg #[.int .i64 M.h, .int .i64 M.t, .slice qa M.q.len M.q.cap, .slice aa M.a.len M.a.cap]) := hide (by rw [hqa, haa]; rfl)
  have t2 : Turned [] w (w.alloc (.cells #[.int .i64 M.h, .int .i64 M.t, .slice qa M.q.len M.q.cap, .slice aa M.a.len M.a.cap] 54)) := (Turned.refl _ _).alloc _
  have HL : Hid (OfT w ((g y).getD Mon.zero) (.returned (.agg #[.int .i64 M.h, .int .i64 M.t, .slice qa M.q.len M.q.cap, .slice aa M.a.len M.a.cap])) (w.alloc (.cells #[.int .i64 M.h, .int .i64 M.t, .slice qa M.q.len M.q.cap, .slice aa M.a.len M.a.cap] 54))) := hide ⟨M, by rw [HV.out], hr.keep (F := fun _ _ => False) (St.of t2) (fun _ _ _ h => h), t2⟩
  obtain ⟨b, hb⟩ : ∃ b, b = w.heap.size := ⟨_, rfl⟩
  obtain ⟨Q, hQ⟩ : ∃ Q, Q = OfT w ((g y).getD Mon.zero) := ⟨_, rfl⟩
  rw [← hQ]
  rw [← hQ] at HL
  clear h hr hlk t1 t2 hall hy hqa haa HV
  go_enter Try.func26, Try.ntmps26
  go_wp2_with fail
  refine ⟨rfl, .agg #[.int .i64 M.h, .int .i64 M.t, .slice qa M.q.len M.q.cap, .slice aa M.a.len M.a.cap], ?_, HL.out⟩
  refine results_cell_row (fn := Try.f26) (p := 4) (ty := 54) rfl _ _ w.heap.size 54 #[.int .i64 M.h, .int .i64 M.t, .slice qa M.q.len M.q.cap, .slice aa M.a.len M.a.cap] (0, 0) _ ?_ (heap_alloc_new _ _) Try.underlying54 rfl monInfo17
  rfl
set_option maxRecDepth 100000 in
theorem of_nil (y : Int) (w : World) : Calls Try.prog 26 #[.pointer none, .int .i64 y] w (OfT w Mon.zero) := by
  have t1 : Turned [] w (w.alloc (.cells #[.int .i64 0, .int .i64 0, .slice none 0 0, .slice none 0 0] 54)) := (Turned.refl _ _).alloc _
  have HL : Hid (OfT w Mon.zero (.returned (.agg #[.int .i64 0, .int .i64 0, .slice none 0 0, .slice none 0 0])) (w.alloc (.cells #[.int .i64 0, .int .i64 0, .slice none 0 0, .slice none 0 0] 54))) := hide ⟨MV.zero, rfl, rp_zero _, t1⟩
  obtain ⟨Q, hQ⟩ : ∃ Q, Q = OfT w Mon.zero := ⟨_, rfl⟩
  rw [← hQ] at HL ⊢
  clear t1 hQ
  go_enter Try.func26, Try.ntmps26
  go_wp2_with fail
  refine ⟨rfl, .agg #[.int .i64 0, .int .i64 0, .slice none 0 0, .slice none 0 0], ?_, HL.out⟩
  refine results_cell_row (fn := Try.f26) (p := 4) (ty := 54) rfl _ _ w.heap.size 54 #[.int .i64 0, .int .i64 0, .slice none 0 0, .slice none 0 0] (0, 0) _ ?_ (heap_alloc_new _ _) Try.underlying54 rfl monInfo17
  rfl
set_option maxRecDepth 100000 in
/-- Holder. -/
theorem holder_of (v : Option Addr) (hof : Calls Try.prog 26 #[.pointer v, .int .i64 y] w (OfT w m)) : Calls Try.prog 12 #[.pointer v, .int .i64 y] w fun e w' => e = .returned (.tuple #[.int .i64 m.h, .int .i64 m.t]) ∧ Turned [] w w' := by
  have HO := hide hof
  clear hof
  go_enter Try.func12, Try.ntmps12
  go_wp2_with fail
  refine (HO.out).mono ?_
  rintro e w1 ⟨M, rfl, hr, t1⟩
  obtain ⟨qa, hqa⟩ : ∃ qa, qa = M.q.addr := ⟨_, rfl⟩
  obtain ⟨aa, haa⟩ : ∃ aa, aa = M.a.addr := ⟨_, rfl⟩
  have hv : M.val = .agg #[.int .i64 m.h, .int .i64 m.t, .slice qa M.q.len M.q.cap, .slice aa M.a.len M.a.cap] := by rw [hqa, haa, ← hr.h, ← hr.t]; rfl
  have HT := hide (t1.alloc (.cells #[.int .i64 m.h, .int .i64 m.t, .slice qa M.q.len M.q.cap, .slice aa M.a.len M.a.cap] 54))
  rw [hv]
  clear hr t1 hv hqa haa HO
  go_upto_region 2 with fail
  go_quiet (fail)
  go_wp2_with fail
  go_ret2
  exact ⟨rfl, HT.out.drewN _⟩
/-- Block g is these numbers. -/
def IntsAt (w : World) (g : Nat) (l : List Int) : Prop := ∃ c : Array Value, w.heap[g]? = some (.cells c 3 (0, 0)) ∧ c.size = l.length ∧ ∀ (i : Nat) (x : Int), l[i]? = some x → c[i]? = some (Value.int .i64 x)
/-- A fresh row of these numbers is told. -/
def RowT (w : World) (l : List Int) (e : Ending) (w' : World) : Prop := ∃ g, e = .returned (.slice (some ⟨g, 0, none⟩) l.length l.length) ∧ IntsAt w' g l ∧ Turned [] w w' ∧ w.heap.size ≤ g
theorem pcells_at : ∀ (l : List (Int × Int)) (j : Nat) (u : Int × Int), l[j]? = some u → (pcells l)[2 * j]? = some (Value.int .i64 u.1) ∧ (pcells l)[2 * j + 1]? = some (Value.int .i64 u.2)
  | [], j, u, h => by cases h
  | v :: l, 0, u, h => by cases h; exact ⟨rfl, rfl⟩
  | v :: l, j + 1, u, h => by
    have := pcells_at l j u h
    exact this
set_option maxRecDepth 100000 in
theorem threads_any (s : Sv) (l : List (Int × Int)) (w : World) (h : Qv w s l) (hl : l.length ≤ 1000) :
    Calls Try.prog 25 #[s.val] w (RowT w (l.map Prod.fst)) := by
  obtain ⟨m, hm⟩ : ∃ m, m = l.length := ⟨_, rfl⟩
  have hm1 : m ≤ 1000 := by omega
  have hlen := h.len
  have hroom := h.room
  have hcs : ∀ j, j < m → ∃ (b off : Nat) (u : Int × Int), s.at_ = some (b, off) ∧ l[j]? = some u ∧ ∀ w', Turned [] w w' → w'.cell? ⟨b, off + j * 2, none⟩ = some (.int .i64 u.1) ∧ w'.cell? ⟨b, off + j * 2 + 1, none⟩ = some (.int .i64 u.2) := fun j hj => by
    have hu : l[j]? = some (l[j]'(by omega)) := List.getElem?_eq_getElem _
    cases ha : s.at_ with
    | none => have := h.nil ha; omega
    | some z =>
      obtain ⟨b, off⟩ := z
      obtain ⟨c, k1, k2, k3⟩ := h.row b off ha (by omega)
      obtain ⟨g1, g2⟩ := pcells_at l j _ hu
      exact ⟨b, off, _, rfl, hu, fun w' t => ⟨by rw [cell_of_heap (t.at k1 (by simp)), Nat.mul_comm j 2]; exact k3 _ _ g1, by rw [cell_of_heap (t.at k1 (by simp)), Nat.mul_comm j 2]; exact k3 _ _ g2⟩⟩
  have hmk := run_make_row' (P := Try.prog) 32 3 (.int .i64 0) 8 Try.underlying32 intInfo17 rfl .i64 .i64 m (by omega) (by omega)
  have hv : s.val = .slice s.addr m s.cap := by unfold Sv.val; rw [hm, hlen]
  rw [hv]
  have HA : Hid (∀ b off, s.at_ = some (b, off) → s.addr = some ⟨b, off, none⟩) := hide (fun b off e => by unfold Sv.addr; rw [e]; rfl)
  have HC := hide hcs
  have HM := hide hm
  generalize s.addr = sa at *
  generalize s.cap = sc at *
  have HT2 := hide ((Turned.refl [] w).alloc (.cells (madeCells #[.int .i64 0] m) 3))
  have HB : Hid ((w.alloc (.cells (madeCells #[.int .i64 0] m) 3)).heap[w.heap.size]? = some (.cells (madeCells #[.int .i64 0] m) 3 (0, 0))) := heap_alloc_new _ _
  have HZ : Hid ((madeCells #[Value.int .i64 0] m).size = m) := by show _ = _; simp [madeCells]
  have hg : w.heap.size ≤ w.heap.size := Nat.le_refl _
  obtain ⟨g, hgg⟩ : ∃ g, g = w.heap.size := ⟨_, rfl⟩
  clear h hlen hroom hcs hv hm hl
  go_enter Try.func25, Try.ntmps25
  go_wp2_with fail
  rw [← hgg] at HB ⊢
  have hg' : w.heap.size ≤ g := by omega
  clear hmk hgg hg
  go_loopw [11] (fun i wr => ∃ (j : Nat) (c : Array Value), j ≤ m ∧ i = .int .i64 j ∧ Hid (wr.heap[g]? = some (.cells c 3 (0, 0)) ∧ c.size = m ∧ ∀ (i : Nat) (u : Int × Int), i < j → l[i]? = some u → c[i]? = some (.int .i64 u.1)) ∧ Hid (Turned [] w wr)) (fun i _ => m - (intOf i).toNat)
  case atStart => exact ⟨0, _, Nat.zero_le _, rfl, ⟨HB.out, HZ.out, fun i u hi => by omega⟩, HT2⟩
  case round =>
    obtain ⟨j, c, hj, rfl, HI, HTr⟩ := hrel
    by_cases hlt : j < m
    · obtain ⟨b, off, ⟨u1, u2⟩, ha, hu, hc⟩ := HC.out j hlt
      have hsa := HA.out b off ha
      obtain ⟨g1, g2⟩ := hc wr HTr.out
      subst hsa
      simp only at g1 g2
      have HTn := hide (HTr.out.alloc (.cells #[.int .i64 u1, .int .i64 u2] 52))
      have hg2 : g < wr.heap.size := lt_of_heap HI.out.1
      have hrow : (wr.alloc (.cells #[.int .i64 u1, .int .i64 u2] 52)).heap[g]? = some (.cells c 3 (0, 0)) := by rw [heap_alloc_old _ _ hg2]; exact HI.out.1
      have hcell : (wr.alloc (.cells #[.int .i64 u1, .int .i64 u2] 52)).cell? ⟨g, j, none⟩ = some (c[j]'(by have := HI.out.2.1; omega)) := by rw [cell_of_heap hrow, Array.getElem?_eq_getElem]
      have hfz : (wr.alloc (.cells #[.int .i64 u1, .int .i64 u2] 52)).frozen? ⟨g, j, none⟩ = false := by simp [World.frozen?, hrow]
      have HI2 : Hid (((wr.setCell ⟨g, j, none⟩ (.int .i64 u1)).alloc (.cells #[.int .i64 u1, .int .i64 u2] 52)).heap[g]? = some (.cells (c.setIfInBounds j (.int .i64 u1)) 3 (0, 0)) ∧ (c.setIfInBounds j (.int .i64 u1)).size = m ∧ ∀ (i : Nat) (u : Int × Int), i < j + 1 → l[i]? = some u → (c.setIfInBounds j (.int .i64 u1))[i]? = some (.int .i64 u.1)) := by
        have hs := heap_setCell_at _ _ j _ _ _ HI.out.1 (.int .i64 u1)
        refine ⟨by rw [heap_alloc_old _ _ (lt_of_heap hs)]; exact hs, by simp [HI.out.2.1], fun i u hi hui => ?_⟩
        by_cases he : i = j
        · subst he
          rw [hu] at hui
          cases hui
          rw [Array.getElem?_setIfInBounds_self_of_lt (by have := HI.out.2.1; omega)]
        · rw [Array.getElem?_setIfInBounds_ne (by omega)]
          exact HI.out.2.2 i u (by omega) hui
      have HT3 := hide ((HTr.out.setCell (p := ⟨g, j, none⟩) (.inr hg') (.int .i64 u1)).alloc (.cells #[.int .i64 u1, .int .i64 u2] 52))
      generalize c[j]'(by have := HI.out.2.1; omega) = u at *
      clear hc ha hrow HTn HA HC HI HTr HZ HB HT2
      go_wp2_with fail
      go_roundw
      case rel => exact ⟨j + 1, _, by omega, by go_num, HI2, HT3⟩
      case measure => simp [intOf]; omega
    · have hjm : j = m := by omega
      go_wp2_with fail
      go_ret
      subst hjm
      refine ⟨g, by rw [List.length_map, ← HM.out]; rfl, ⟨c, HI.out.1, by rw [List.length_map, ← HM.out]; exact HI.out.2.1, fun i x hx => ?_⟩, HTr.out, hg'⟩
      rw [List.getElem?_map] at hx
      obtain ⟨u, hu, rfl⟩ := Option.map_eq_some_iff.1 hx
      exact HI.out.2.2 i u (by have := (List.getElem?_eq_some_iff.1 hu).1; have := HM.out; omega) hu
set_option maxRecDepth 100000 in
theorem run_fieldq (h t : Int) (qa aa : Option Addr) (ql qc al ac : Nat) (w : World) : (Instr.field 54 (.agg #[.int .i64 h, .int .i64 t, .slice qa ql qc, .slice aa al ac]) 1).run Try.prog w = .ok (.slice qa ql qc) w := by kernel_rfl
set_option maxRecDepth 100000 in
theorem run_fielda (h t : Int) (qa aa : Option Addr) (ql qc al ac : Nat) (w : World) : (Instr.field 54 (.agg #[.int .i64 h, .int .i64 t, .slice qa ql qc, .slice aa al ac]) 2).run Try.prog w = .ok (.slice aa al ac) w := by kernel_rfl
set_option maxRecDepth 100000 in
/-- Queue. -/
theorem queue_of (v : Option Addr) (hm : m.q.length ≤ 1000) (hof : Calls Try.prog 26 #[.pointer v, .int .i64 y] w (OfT w m)) : Calls Try.prog 14 #[.pointer v, .int .i64 y] w (RowT w (m.q.map Prod.fst)) := by
  have HO := hide hof
  have HM := hide hm
  obtain ⟨Q, hQ⟩ : ∃ Q, Q = RowT w (m.q.map Prod.fst) := ⟨_, rfl⟩
  have HQ := hide hQ
  rw [← hQ]
  clear hof hm hQ
  go_enter Try.func14, Try.ntmps14
  go_wp2_with fail
  refine (HO.out).mono ?_
  rintro e w1 ⟨M, rfl, hr, t1⟩
  have HT := hide (threads_any M.q m.q w1 hr.q HM.out)
  obtain ⟨qa, hqa⟩ : ∃ qa, qa = M.q.addr := ⟨_, rfl⟩
  obtain ⟨aa, haa⟩ : ∃ aa, aa = M.a.addr := ⟨_, rfl⟩
  have hv : M.val = .agg #[.int .i64 M.h, .int .i64 M.t, .slice qa M.q.len M.q.cap, .slice aa M.a.len M.a.cap] := by rw [hqa, haa]; rfl
  have hs : M.q.val = .slice qa M.q.len M.q.cap := by rw [hqa]; rfl
  rw [hv]
  rw [hs] at HT
  have HTr := hide t1
  have hrf := run_fieldq M.h M.t qa aa M.q.len M.q.cap M.a.len M.a.cap w1
  clear hr hv hqa haa HO t1 hs
  go_wp2_with fail
  refine (HT.out).mono ?_
  rintro e w2 ⟨g, rfl, h1, h2, h3⟩
  have HE : Hid (Q (.returned (.slice (some ⟨g, 0, none⟩) (m.q.map Prod.fst).length (m.q.map Prod.fst).length)) w2) := hide (by rw [HQ.out]; exact ⟨g, rfl, h1, HTr.out.trans h2, Nat.le_trans HTr.out.size h3⟩)
  generalize (m.q.map Prod.fst).length = k at *
  clear HT HTr HQ HM h1 h2 h3 hrf
  go_wp2_with fail
  first | exact HE.out | exact ⟨rfl, _, results_tmp rfl _ _ _, HE.out⟩ | trace_state
set_option maxRecDepth 100000 in
/-- Aside. -/
theorem aside_of (v : Option Addr) (hm : m.a.length ≤ 1000) (hof : Calls Try.prog 26 #[.pointer v, .int .i64 y] w (OfT w m)) : Calls Try.prog 10 #[.pointer v, .int .i64 y] w (RowT w (m.a.map Prod.fst)) := by
  have HO := hide hof
  have HM := hide hm
  obtain ⟨Q, hQ⟩ : ∃ Q, Q = RowT w (m.a.map Prod.fst) := ⟨_, rfl⟩
  have HQ := hide hQ
  rw [← hQ]
  clear hof hm hQ
  go_enter Try.func10, Try.ntmps10
  go_wp2_with fail
  refine (HO.out).mono ?_
  rintro e w1 ⟨M, rfl, hr, t1⟩
  have HT := hide (threads_any M.a m.a w1 hr.a HM.out)
  obtain ⟨qa, hqa⟩ : ∃ qa, qa = M.q.addr := ⟨_, rfl⟩
  obtain ⟨aa, haa⟩ : ∃ aa, aa = M.a.addr := ⟨_, rfl⟩
  have hv : M.val = .agg #[.int .i64 M.h, .int .i64 M.t, .slice qa M.q.len M.q.cap, .slice aa M.a.len M.a.cap] := by rw [hqa, haa]; rfl
  have hs : M.a.val = .slice aa M.a.len M.a.cap := by rw [haa]; rfl
  rw [hv]
  rw [hs] at HT
  have HTr := hide t1
  have hrf := run_fielda M.h M.t qa aa M.q.len M.q.cap M.a.len M.a.cap w1
  clear hr hv hqa haa HO t1 hs
  go_wp2_with fail
  refine (HT.out).mono ?_
  rintro e w2 ⟨g, rfl, h1, h2, h3⟩
  have HE : Hid (Q (.returned (.slice (some ⟨g, 0, none⟩) (m.a.map Prod.fst).length (m.a.map Prod.fst).length)) w2) := hide (by rw [HQ.out]; exact ⟨g, rfl, h1, HTr.out.trans h2, Nat.le_trans HTr.out.size h3⟩)
  generalize (m.a.map Prod.fst).length = k at *
  clear HT HTr HQ HM h1 h2 h3 hrf
  go_wp2_with fail
  first | exact HE.out | exact ⟨rfl, _, results_tmp rfl _ _ _, HE.out⟩ | trace_state
end
end Go.Proofs.Ytlbcbphkgaoliab
