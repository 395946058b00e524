/-
  each of package plan, at each of its closures: a row of what is told of each region.
-/
import Derived.Test.YtcckflcjjgckoaaDoorPlanRows
namespace Go.Proofs.YtcckflcjjgckoaaDoor
open Go.RowKit Bt
set_option linter.unusedVariables false
set_option linter.unusedSimpArgs false

theorem Tryd.infoInt : (Tryd.prog.info? 3).map (fun i => (i.zero, i.size, i.bytes)) = some (some (.int .i64 0), 1, 8) := by kernel_rfl
theorem Tryd.infoI64 : (Tryd.prog.info? 2).map (fun i => (i.zero, i.size, i.bytes)) = some (some (.int .i64 0), 1, 8) := by kernel_rfl
theorem Tryd.infoTwo : (Tryd.prog.info? 43).map (fun i => (i.zero, i.size, i.bytes)) = some (some (.agg #[.int .i64 0, .int .i64 0]), 2, 16) := by kernel_rfl

theorem Ri.set {w : World} {ty : TypeId} {q n : Nat} {g : Nat → Int} (h : Ri w ty q n g) (i : Nat) (v : Int) : Ri (w.setCell ⟨q, i, none⟩ (.int .i64 v)) ty q n (fun j => if j = i then v else g j) := by
  obtain ⟨c, h1, h2⟩ := h
  refine ⟨_, heap_setCell_at _ _ _ _ _ _ h1 _, fun j hj => ?_⟩
  rw [Array.getElem?_setIfInBounds]
  have h3 := h2 j hj
  have h4 : j < c.size := (Array.getElem?_eq_some_iff.1 h3).1
  by_cases hji : j = i
  · subst hji
    rw [if_pos rfl, if_pos h4]; simp
  · rw [if_neg (fun e => hji e.symm), h3]; simp [hji]
theorem Ri.congr {w : World} {ty : TypeId} {q n : Nat} {g g' : Nat → Int} (h : Ri w ty q n g) (e : ∀ i, i < n → g i = g' i) : Ri w ty q n g' := by
  obtain ⟨c, h1, h2⟩ := h
  exact ⟨c, h1, fun i hi => by rw [h2 i hi, e i hi]⟩
theorem Ri.fz {w : World} {ty : TypeId} {q n : Nat} {g : Nat → Int} (h : Ri w ty q n g) (i : Nat) : w.frozen? ⟨q, i, none⟩ = false := by
  obtain ⟨c, h1, _⟩ := h
  simp [World.frozen?, h1]
theorem made_int (n i : Nat) (hi : i < n) : (madeCells #[Value.int .i64 0] n)[i]? = some (.int .i64 0) := by
  unfold madeCells
  rw [Array.getElem?_map, Array.getElem?_range, if_pos hi]
  simp [Nat.mod_one]
theorem made_two (R i s : Nat) (hi : i < R) (hs : s < 2) : (madeCells #[Value.int .i64 0, Value.int .i64 0] (R * 2))[i * 2 + s]? = some (.int .i64 0) := by
  unfold madeCells
  rw [Array.getElem?_map, Array.getElem?_range, if_pos (by omega)]
  have : (i * 2 + s) % 2 = 0 ∨ (i * 2 + s) % 2 = 1 := by omega
  rcases this with h | h <;> simp [h]

/-- A row of n pairs in a block of its own. -/
def Rp (w : World) (q n : Nat) (g : Nat → Nat → Int) : Prop := ∃ c : Array Value, w.heap[q]? = some (.cells c 43) ∧ ∀ i s, i < n → s < 2 → c[i * 2 + s]? = some (.int .i64 (g i s))
section
variable {w w' : World} {q n : Nat} {g : Nat → Nat → Int}
theorem Rp.lt (h : Rp w q n g) : q < w.heap.size := by obtain ⟨c, h1, _⟩ := h; exact lt_of_heap h1
theorem Rp.turned (h : Rp w q n g) {S : List Nat} (t : Turned S w w') (hq : q ∉ S) : Rp w' q n g := by
  obtain ⟨c, h1, h2⟩ := h
  exact ⟨c, by rw [t.block q (lt_of_heap h1) hq]; exact h1, h2⟩
theorem Rp.turned0 (h : Rp w q n g) (t : Turned [] w w') : Rp w' q n g := h.turned t (by simp)
theorem Rp.cell (h : Rp w q n g) {i s : Nat} (hi : i < n) (hs : s < 2) : w.cell? ⟨q, i * 2 + s, none⟩ = some (.int .i64 (g i s)) := by
  obtain ⟨c, h1, h2⟩ := h
  rw [cell_of_heap h1]
  exact h2 i s hi hs
theorem Rp.fz (h : Rp w q n g) (i : Nat) : w.frozen? ⟨q, i, none⟩ = false := by
  obtain ⟨c, h1, _⟩ := h
  simp [World.frozen?, h1]
theorem Rp.congr {g' : Nat → Nat → Int} (h : Rp w q n g) (e : ∀ i s, i < n → s < 2 → g i s = g' i s) : Rp w q n g' := by
  obtain ⟨c, h1, h2⟩ := h
  exact ⟨c, h1, fun i s hi hs => by rw [h2 i s hi hs, e i s hi hs]⟩
theorem Rp.set (h : Rp w q n g) (i s : Nat) (hs : s < 2) (v : Int) : Rp (w.setCell ⟨q, i * 2 + s, none⟩ (.int .i64 v)) q n (fun j t => if j = i ∧ t = s then v else g j t) := by
  obtain ⟨c, h1, h2⟩ := h
  refine ⟨_, heap_setCell_at _ _ _ _ _ _ h1 _, fun j t hj ht => ?_⟩
  rw [Array.getElem?_setIfInBounds]
  have h3 := h2 j t hj ht
  have h4 : j * 2 + t < c.size := (Array.getElem?_eq_some_iff.1 h3).1
  by_cases hji : j = i ∧ t = s
  · obtain ⟨rfl, rfl⟩ := hji
    rw [if_pos rfl, if_pos h4]; simp
  · rw [if_neg (by omega), h3]; simp only [if_neg hji]
end

set_option maxRecDepth 100000 in
theorem each_live (bb pb : Nat) (P : PN) (h : P.Ok) (l a wt tk : Value) (g : Nat → Int) (w : World)
    (hC : ∀ w', Turned [] w w' → ∀ r : Nat, r < P.R → Calls Tryd.prog 23 #[.int .i64 (r : Int), .pointer (some ⟨bb, 0, none⟩), .pointer (some ⟨pb, 0, none⟩)] w' fun e w'' => e = .returned (.int .i64 (g r)) ∧ Turned [] w' w'') :
    Calls Tryd.prog 22 #[.agg (plC P l a wt tk), .func (.func 23) #[] #[.pointer (some ⟨bb, 0, none⟩), .pointer (some ⟨pb, 0, none⟩)]] w fun e w' => ∃ q, e = .returned (.slice (some ⟨q, 0, none⟩) P.R P.R) ∧ Ri w' 3 q P.R g ∧ w.heap.size ≤ q ∧ Turned [] w w' := by
  have HR := hide (fun w => regions_any P h l a wt tk w)
  have hF := PN.R_few h
  have HC := hide hC
  have HB := hide (pb_new w P l a wt tk)
  have HT := hide ((Turned.refl [] w).alloc (.cells (plC P l a wt tk) 30))
  generalize hRR : P.R = n at *
  obtain ⟨f, t, k, d, e⟩ := P
  unfold plC at HR HB HT ⊢
  simp only at HR HB HT ⊢
  clear hRR h hC
  obtain ⟨i0, hi, hi0⟩ := Option.map_eq_some_iff.1 Tryd.infoInt
  simp only [Prod.mk.injEq] at hi0
  obtain ⟨hz0, hz1, hz2⟩ := hi0
  have hmk : ∀ w : World, (Instr.makeSlice 28 (.int .i64 (n : Int)) (.int .i64 (n : Int))).run Tryd.prog w = .ok (.slice (some ⟨w.heap.size, 0, none⟩) n n) (w.alloc (.cells (madeCells #[Value.int .i64 0] n) 3)) := fun w => by
    have hr := run_make (P := Tryd.prog) w 28 3 i0 (.int .i64 0) Tryd.underlying28 hi hz0 .i64 .i64 n n (by omega) (by omega) (by rw [hz2]; omega) (by omega)
    simp only [hz1, Int.toNat_natCast, Nat.mul_one] at hr
    exact hr
  clear hi hz0 hz1 hz2
  go_enter Tryd.func22, Tryd.ntmps22
  go_wp2_with fail
  obtain ⟨z, hz⟩ : ∃ z, z = w.heap.size := ⟨_, rfl⟩
  have HZ := hide hz
  rw [← hz] at HB ⊢
  generalize w.alloc (.cells #[Value.int .i64 f, Value.int .i64 t, Value.int .i64 k, Value.int .i64 d, Value.int .i64 e, l, a, wt, tk] 30) = w0 at *
  clear hz
  refine (HR.out _).mono ?_
  rintro e1 w1 ⟨rfl, ht1⟩
  have HT1 := hide (HT.out.trans ht1)
  have HB1 := hide (HB.out.turned0 ht1)
  have hlt1 := (HB.out.turned0 ht1).lt
  clear ht1 HB HT
  obtain ⟨w2, hw2⟩ : ∃ w2, w2 = w1.alloc (.cells (madeCells #[Value.int .i64 0] n) 3) := ⟨_, rfl⟩
  have hT2 : Turned [] w1 w2 := by rw [hw2]; exact (Turned.refl [] w1).alloc _
  obtain ⟨q, hq⟩ : ∃ q, q = w1.heap.size := ⟨_, rfl⟩
  have HRd : Hid (Ri w2 3 q n (fun i => if i < 0 then g i else 0)) := hide ⟨_, by rw [hw2, hq]; exact heap_alloc_new _ _, fun i hi => by simpa using made_int n i hi⟩
  have HQ := hide (show w.heap.size ≤ q by rw [hq]; exact HT1.out.size)
  obtain ⟨c0, c1, c2, c3, c4, c5, c6, c7, c8⟩ := HB1.out.cs
  have HT2 := hide (HT1.out.trans hT2)
  clear hT2 HT1 HB1
  go_wp2_with fail
  rw [← hw2, ← hq]
  clear hw2 hq hmk
  refine (HR.out _).mono ?_
  rintro e1 w3 ⟨rfl, ht3⟩
  have HRd3 := hide (HRd.out.turned0 ht3)
  have HT3 := hide (HT2.out.trans ht3)
  clear c0 c1 c2 c3 c4 c5 c6 c7 c8 ht3 HT2 HRd HR
  go_wp2_with fail
  go_loopw [12] (fun i wr => ∃ (j : Nat), j ≤ n ∧ i = .int .i64 j ∧ Hid (Ri wr 3 q n (fun i => if i < j then g i else 0)) ∧ Hid (Turned [] w wr)) (fun i _ => n - (intOf i).toNat)
  case atStart => exact ⟨0, Nat.zero_le _, rfl, HRd3, HT3⟩
  case round =>
    obtain ⟨j, hj, rfl, HRd, HTr⟩ := hrel
    by_cases hlt : j < n
    · have H := hide (HC.out wr HTr.out j hlt)
      have hji : (j : Int) < n := by omega
      go_wp2_with fail
      refine (H.out).mono ?_
      rintro e1 w5 ⟨rfl, ht5⟩
      have hq2 := (HRd.out.turned (S := []) ht5 (by simp))
      have c0 : w5.cell? ⟨q, j, none⟩ = some (.int .i64 0) := by
        have := hq2.cell hlt
        simpa using this
      have f0 := hq2.fz j
      have HS := hide ((hq2.set j (g j)).congr (g' := fun i => if i < j + 1 then g i else 0) (fun i hi => by
        by_cases hij : i = j
        · subst hij; simp
        · simp only [hij, if_false]
          by_cases h3 : i < j
          · rw [if_pos h3, if_pos (by omega)]
          · rw [if_neg h3, if_neg (by omega)]))
      have HT5 := hide ((HTr.out.trans ht5).setCell (p := ⟨q, j, none⟩) (.inr HQ.out) (.int .i64 (g j)))
      have hq5 := hq2.lt
      clear ht5 HRd HTr H hq2
      go_wp2_with fail
      go_roundw
      case rel => exact ⟨j + 1, by omega, by go_num, HS, HT5⟩
      case measure => simp [intOf]; omega
    · have hjn : j = n := by omega
      subst hjn
      go_wp2_with fail
      go_ret
      exact ⟨q, rfl, HRd.out.congr (fun i hi => by rw [if_pos hi]), HQ.out, HTr.out⟩

set_option maxRecDepth 100000 in
theorem each_ahead (sb : Nat) (P : PN) (h : P.Ok) (l a wt tk : Value) (g : Nat → Int) (w : World)
    (hC : ∀ w', Turned [] w w' → ∀ r : Nat, r < P.R → Calls Tryd.prog 32 #[.int .i64 (r : Int), .pointer (some ⟨sb, 0, none⟩)] w' fun e w'' => e = .returned (.int .i64 (g r)) ∧ Turned [] w' w'') :
    Calls Tryd.prog 22 #[.agg (plC P l a wt tk), .func (.func 32) #[] #[.pointer (some ⟨sb, 0, none⟩)]] w fun e w' => ∃ q, e = .returned (.slice (some ⟨q, 0, none⟩) P.R P.R) ∧ Ri w' 3 q P.R g ∧ w.heap.size ≤ q ∧ Turned [] w w' := by
  have HR := hide (fun w => regions_any P h l a wt tk w)
  have hF := PN.R_few h
  have HC := hide hC
  have HB := hide (pb_new w P l a wt tk)
  have HT := hide ((Turned.refl [] w).alloc (.cells (plC P l a wt tk) 30))
  generalize hRR : P.R = n at *
  obtain ⟨f, t, k, d, e⟩ := P
  unfold plC at HR HB HT ⊢
  simp only at HR HB HT ⊢
  clear hRR h hC
  obtain ⟨i0, hi, hi0⟩ := Option.map_eq_some_iff.1 Tryd.infoInt
  simp only [Prod.mk.injEq] at hi0
  obtain ⟨hz0, hz1, hz2⟩ := hi0
  have hmk : ∀ w : World, (Instr.makeSlice 28 (.int .i64 (n : Int)) (.int .i64 (n : Int))).run Tryd.prog w = .ok (.slice (some ⟨w.heap.size, 0, none⟩) n n) (w.alloc (.cells (madeCells #[Value.int .i64 0] n) 3)) := fun w => by
    have hr := run_make (P := Tryd.prog) w 28 3 i0 (.int .i64 0) Tryd.underlying28 hi hz0 .i64 .i64 n n (by omega) (by omega) (by rw [hz2]; omega) (by omega)
    simp only [hz1, Int.toNat_natCast, Nat.mul_one] at hr
    exact hr
  clear hi hz0 hz1 hz2
  go_enter Tryd.func22, Tryd.ntmps22
  go_wp2_with fail
  obtain ⟨z, hz⟩ : ∃ z, z = w.heap.size := ⟨_, rfl⟩
  have HZ := hide hz
  rw [← hz] at HB ⊢
  generalize w.alloc (.cells #[Value.int .i64 f, Value.int .i64 t, Value.int .i64 k, Value.int .i64 d, Value.int .i64 e, l, a, wt, tk] 30) = w0 at *
  clear hz
  refine (HR.out _).mono ?_
  rintro e1 w1 ⟨rfl, ht1⟩
  have HT1 := hide (HT.out.trans ht1)
  have HB1 := hide (HB.out.turned0 ht1)
  have hlt1 := (HB.out.turned0 ht1).lt
  clear ht1 HB HT
  obtain ⟨w2, hw2⟩ : ∃ w2, w2 = w1.alloc (.cells (madeCells #[Value.int .i64 0] n) 3) := ⟨_, rfl⟩
  have hT2 : Turned [] w1 w2 := by rw [hw2]; exact (Turned.refl [] w1).alloc _
  obtain ⟨q, hq⟩ : ∃ q, q = w1.heap.size := ⟨_, rfl⟩
  have HRd : Hid (Ri w2 3 q n (fun i => if i < 0 then g i else 0)) := hide ⟨_, by rw [hw2, hq]; exact heap_alloc_new _ _, fun i hi => by simpa using made_int n i hi⟩
  have HQ := hide (show w.heap.size ≤ q by rw [hq]; exact HT1.out.size)
  obtain ⟨c0, c1, c2, c3, c4, c5, c6, c7, c8⟩ := HB1.out.cs
  have HT2 := hide (HT1.out.trans hT2)
  clear hT2 HT1 HB1
  go_wp2_with fail
  rw [← hw2, ← hq]
  clear hw2 hq hmk
  refine (HR.out _).mono ?_
  rintro e1 w3 ⟨rfl, ht3⟩
  have HRd3 := hide (HRd.out.turned0 ht3)
  have HT3 := hide (HT2.out.trans ht3)
  clear c0 c1 c2 c3 c4 c5 c6 c7 c8 ht3 HT2 HRd HR
  go_wp2_with fail
  go_loopw [12] (fun i wr => ∃ (j : Nat), j ≤ n ∧ i = .int .i64 j ∧ Hid (Ri wr 3 q n (fun i => if i < j then g i else 0)) ∧ Hid (Turned [] w wr)) (fun i _ => n - (intOf i).toNat)
  case atStart => exact ⟨0, Nat.zero_le _, rfl, HRd3, HT3⟩
  case round =>
    obtain ⟨j, hj, rfl, HRd, HTr⟩ := hrel
    by_cases hlt : j < n
    · have H := hide (HC.out wr HTr.out j hlt)
      have hji : (j : Int) < n := by omega
      go_wp2_with fail
      refine (H.out).mono ?_
      rintro e1 w5 ⟨rfl, ht5⟩
      have hq2 := (HRd.out.turned (S := []) ht5 (by simp))
      have c0 : w5.cell? ⟨q, j, none⟩ = some (.int .i64 0) := by
        have := hq2.cell hlt
        simpa using this
      have f0 := hq2.fz j
      have HS := hide ((hq2.set j (g j)).congr (g' := fun i => if i < j + 1 then g i else 0) (fun i hi => by
        by_cases hij : i = j
        · subst hij; simp
        · simp only [hij, if_false]
          by_cases h3 : i < j
          · rw [if_pos h3, if_pos (by omega)]
          · rw [if_neg h3, if_neg (by omega)]))
      have HT5 := hide ((HTr.out.trans ht5).setCell (p := ⟨q, j, none⟩) (.inr HQ.out) (.int .i64 (g j)))
      have hq5 := hq2.lt
      clear ht5 HRd HTr H hq2
      go_wp2_with fail
      go_roundw
      case rel => exact ⟨j + 1, by omega, by go_num, HS, HT5⟩
      case measure => simp [intOf]; omega
    · have hjn : j = n := by omega
      subst hjn
      go_wp2_with fail
      go_ret
      exact ⟨q, rfl, HRd.out.congr (fun i hi => by rw [if_pos hi]), HQ.out, HTr.out⟩

set_option maxRecDepth 100000 in
theorem each_waits (pb mb : Nat) (P : PN) (h : P.Ok) (l a wt tk : Value) (g : Nat → Int) (w : World)
    (hC : ∀ w', Turned [] w w' → ∀ r : Nat, r < P.R → Calls Tryd.prog 36 #[.int .i64 (r : Int), .pointer (some ⟨pb, 0, none⟩), .pointer (some ⟨mb, 0, none⟩)] w' fun e w'' => e = .returned (.int .i64 (g r)) ∧ Turned [] w' w'') :
    Calls Tryd.prog 22 #[.agg (plC P l a wt tk), .func (.func 36) #[] #[.pointer (some ⟨pb, 0, none⟩), .pointer (some ⟨mb, 0, none⟩)]] w fun e w' => ∃ q, e = .returned (.slice (some ⟨q, 0, none⟩) P.R P.R) ∧ Ri w' 3 q P.R g ∧ w.heap.size ≤ q ∧ Turned [] w w' := by
  have HR := hide (fun w => regions_any P h l a wt tk w)
  have hF := PN.R_few h
  have HC := hide hC
  have HB := hide (pb_new w P l a wt tk)
  have HT := hide ((Turned.refl [] w).alloc (.cells (plC P l a wt tk) 30))
  generalize hRR : P.R = n at *
  obtain ⟨f, t, k, d, e⟩ := P
  unfold plC at HR HB HT ⊢
  simp only at HR HB HT ⊢
  clear hRR h hC
  obtain ⟨i0, hi, hi0⟩ := Option.map_eq_some_iff.1 Tryd.infoInt
  simp only [Prod.mk.injEq] at hi0
  obtain ⟨hz0, hz1, hz2⟩ := hi0
  have hmk : ∀ w : World, (Instr.makeSlice 28 (.int .i64 (n : Int)) (.int .i64 (n : Int))).run Tryd.prog w = .ok (.slice (some ⟨w.heap.size, 0, none⟩) n n) (w.alloc (.cells (madeCells #[Value.int .i64 0] n) 3)) := fun w => by
    have hr := run_make (P := Tryd.prog) w 28 3 i0 (.int .i64 0) Tryd.underlying28 hi hz0 .i64 .i64 n n (by omega) (by omega) (by rw [hz2]; omega) (by omega)
    simp only [hz1, Int.toNat_natCast, Nat.mul_one] at hr
    exact hr
  clear hi hz0 hz1 hz2
  go_enter Tryd.func22, Tryd.ntmps22
  go_wp2_with fail
  obtain ⟨z, hz⟩ : ∃ z, z = w.heap.size := ⟨_, rfl⟩
  have HZ := hide hz
  rw [← hz] at HB ⊢
  generalize w.alloc (.cells #[Value.int .i64 f, Value.int .i64 t, Value.int .i64 k, Value.int .i64 d, Value.int .i64 e, l, a, wt, tk] 30) = w0 at *
  clear hz
  refine (HR.out _).mono ?_
  rintro e1 w1 ⟨rfl, ht1⟩
  have HT1 := hide (HT.out.trans ht1)
  have HB1 := hide (HB.out.turned0 ht1)
  have hlt1 := (HB.out.turned0 ht1).lt
  clear ht1 HB HT
  obtain ⟨w2, hw2⟩ : ∃ w2, w2 = w1.alloc (.cells (madeCells #[Value.int .i64 0] n) 3) := ⟨_, rfl⟩
  have hT2 : Turned [] w1 w2 := by rw [hw2]; exact (Turned.refl [] w1).alloc _
  obtain ⟨q, hq⟩ : ∃ q, q = w1.heap.size := ⟨_, rfl⟩
  have HRd : Hid (Ri w2 3 q n (fun i => if i < 0 then g i else 0)) := hide ⟨_, by rw [hw2, hq]; exact heap_alloc_new _ _, fun i hi => by simpa using made_int n i hi⟩
  have HQ := hide (show w.heap.size ≤ q by rw [hq]; exact HT1.out.size)
  obtain ⟨c0, c1, c2, c3, c4, c5, c6, c7, c8⟩ := HB1.out.cs
  have HT2 := hide (HT1.out.trans hT2)
  clear hT2 HT1 HB1
  go_wp2_with fail
  rw [← hw2, ← hq]
  clear hw2 hq hmk
  refine (HR.out _).mono ?_
  rintro e1 w3 ⟨rfl, ht3⟩
  have HRd3 := hide (HRd.out.turned0 ht3)
  have HT3 := hide (HT2.out.trans ht3)
  clear c0 c1 c2 c3 c4 c5 c6 c7 c8 ht3 HT2 HRd HR
  go_wp2_with fail
  go_loopw [12] (fun i wr => ∃ (j : Nat), j ≤ n ∧ i = .int .i64 j ∧ Hid (Ri wr 3 q n (fun i => if i < j then g i else 0)) ∧ Hid (Turned [] w wr)) (fun i _ => n - (intOf i).toNat)
  case atStart => exact ⟨0, Nat.zero_le _, rfl, HRd3, HT3⟩
  case round =>
    obtain ⟨j, hj, rfl, HRd, HTr⟩ := hrel
    by_cases hlt : j < n
    · have H := hide (HC.out wr HTr.out j hlt)
      have hji : (j : Int) < n := by omega
      go_wp2_with fail
      refine (H.out).mono ?_
      rintro e1 w5 ⟨rfl, ht5⟩
      have hq2 := (HRd.out.turned (S := []) ht5 (by simp))
      have c0 : w5.cell? ⟨q, j, none⟩ = some (.int .i64 0) := by
        have := hq2.cell hlt
        simpa using this
      have f0 := hq2.fz j
      have HS := hide ((hq2.set j (g j)).congr (g' := fun i => if i < j + 1 then g i else 0) (fun i hi => by
        by_cases hij : i = j
        · subst hij; simp
        · simp only [hij, if_false]
          by_cases h3 : i < j
          · rw [if_pos h3, if_pos (by omega)]
          · rw [if_neg h3, if_neg (by omega)]))
      have HT5 := hide ((HTr.out.trans ht5).setCell (p := ⟨q, j, none⟩) (.inr HQ.out) (.int .i64 (g j)))
      have hq5 := hq2.lt
      clear ht5 HRd HTr H hq2
      go_wp2_with fail
      go_roundw
      case rel => exact ⟨j + 1, by omega, by go_num, HS, HT5⟩
      case measure => simp [intOf]; omega
    · have hjn : j = n := by omega
      subst hjn
      go_wp2_with fail
      go_ret
      exact ⟨q, rfl, HRd.out.congr (fun i hi => by rw [if_pos hi]), HQ.out, HTr.out⟩

set_option maxRecDepth 100000 in
theorem each_moved (bb pb : Nat) (P : PN) (h : P.Ok) (l a wt tk : Value) (g : Nat → Int) (w : World)
    (hC : ∀ w', Turned [] w w' → ∀ r : Nat, r < P.R → Calls Tryd.prog 29 #[.int .i64 (r : Int), .pointer (some ⟨bb, 0, none⟩), .pointer (some ⟨pb, 0, none⟩)] w' fun e w'' => e = .returned (.int .i64 (g r)) ∧ Turned [] w' w'') :
    Calls Tryd.prog 28 #[.agg (plC P l a wt tk), .func (.func 29) #[] #[.pointer (some ⟨bb, 0, none⟩), .pointer (some ⟨pb, 0, none⟩)]] w fun e w' => ∃ q, e = .returned (.slice (some ⟨q, 0, none⟩) P.R P.R) ∧ Ri w' 2 q P.R g ∧ w.heap.size ≤ q ∧ Turned [] w w' := by
  have HR := hide (fun w => regions_any P h l a wt tk w)
  have hF := PN.R_few h
  have HC := hide hC
  have HB := hide (pb_new w P l a wt tk)
  have HT := hide ((Turned.refl [] w).alloc (.cells (plC P l a wt tk) 30))
  generalize hRR : P.R = n at *
  obtain ⟨f, t, k, d, e⟩ := P
  unfold plC at HR HB HT ⊢
  simp only at HR HB HT ⊢
  clear hRR h hC
  obtain ⟨i0, hi, hi0⟩ := Option.map_eq_some_iff.1 Tryd.infoI64
  simp only [Prod.mk.injEq] at hi0
  obtain ⟨hz0, hz1, hz2⟩ := hi0
  have hmk : ∀ w : World, (Instr.makeSlice 57 (.int .i64 (n : Int)) (.int .i64 (n : Int))).run Tryd.prog w = .ok (.slice (some ⟨w.heap.size, 0, none⟩) n n) (w.alloc (.cells (madeCells #[Value.int .i64 0] n) 2)) := fun w => by
    have hr := run_make (P := Tryd.prog) w 57 2 i0 (.int .i64 0) Tryd.underlying57 hi hz0 .i64 .i64 n n (by omega) (by omega) (by rw [hz2]; omega) (by omega)
    simp only [hz1, Int.toNat_natCast, Nat.mul_one] at hr
    exact hr
  clear hi hz0 hz1 hz2
  go_enter Tryd.func28, Tryd.ntmps28
  go_wp2_with fail
  obtain ⟨z, hz⟩ : ∃ z, z = w.heap.size := ⟨_, rfl⟩
  have HZ := hide hz
  rw [← hz] at HB ⊢
  generalize w.alloc (.cells #[Value.int .i64 f, Value.int .i64 t, Value.int .i64 k, Value.int .i64 d, Value.int .i64 e, l, a, wt, tk] 30) = w0 at *
  clear hz
  refine (HR.out _).mono ?_
  rintro e1 w1 ⟨rfl, ht1⟩
  have HT1 := hide (HT.out.trans ht1)
  have HB1 := hide (HB.out.turned0 ht1)
  have hlt1 := (HB.out.turned0 ht1).lt
  clear ht1 HB HT
  obtain ⟨w2, hw2⟩ : ∃ w2, w2 = w1.alloc (.cells (madeCells #[Value.int .i64 0] n) 2) := ⟨_, rfl⟩
  have hT2 : Turned [] w1 w2 := by rw [hw2]; exact (Turned.refl [] w1).alloc _
  obtain ⟨q, hq⟩ : ∃ q, q = w1.heap.size := ⟨_, rfl⟩
  have HRd : Hid (Ri w2 2 q n (fun i => if i < 0 then g i else 0)) := hide ⟨_, by rw [hw2, hq]; exact heap_alloc_new _ _, fun i hi => by simpa using made_int n i hi⟩
  have HQ := hide (show w.heap.size ≤ q by rw [hq]; exact HT1.out.size)
  obtain ⟨c0, c1, c2, c3, c4, c5, c6, c7, c8⟩ := HB1.out.cs
  have HT2 := hide (HT1.out.trans hT2)
  clear hT2 HT1 HB1
  go_wp2_with fail
  rw [← hw2, ← hq]
  clear hw2 hq hmk
  refine (HR.out _).mono ?_
  rintro e1 w3 ⟨rfl, ht3⟩
  have HRd3 := hide (HRd.out.turned0 ht3)
  have HT3 := hide (HT2.out.trans ht3)
  clear c0 c1 c2 c3 c4 c5 c6 c7 c8 ht3 HT2 HRd HR
  go_wp2_with fail
  go_loopw [12] (fun i wr => ∃ (j : Nat), j ≤ n ∧ i = .int .i64 j ∧ Hid (Ri wr 2 q n (fun i => if i < j then g i else 0)) ∧ Hid (Turned [] w wr)) (fun i _ => n - (intOf i).toNat)
  case atStart => exact ⟨0, Nat.zero_le _, rfl, HRd3, HT3⟩
  case round =>
    obtain ⟨j, hj, rfl, HRd, HTr⟩ := hrel
    by_cases hlt : j < n
    · have H := hide (HC.out wr HTr.out j hlt)
      have hji : (j : Int) < n := by omega
      go_wp2_with fail
      refine (H.out).mono ?_
      rintro e1 w5 ⟨rfl, ht5⟩
      have hq2 := (HRd.out.turned (S := []) ht5 (by simp))
      have c0 : w5.cell? ⟨q, j, none⟩ = some (.int .i64 0) := by
        have := hq2.cell hlt
        simpa using this
      have f0 := hq2.fz j
      have HS := hide ((hq2.set j (g j)).congr (g' := fun i => if i < j + 1 then g i else 0) (fun i hi => by
        by_cases hij : i = j
        · subst hij; simp
        · simp only [hij, if_false]
          by_cases h3 : i < j
          · rw [if_pos h3, if_pos (by omega)]
          · rw [if_neg h3, if_neg (by omega)]))
      have HT5 := hide ((HTr.out.trans ht5).setCell (p := ⟨q, j, none⟩) (.inr HQ.out) (.int .i64 (g j)))
      have hq5 := hq2.lt
      clear ht5 HRd HTr H hq2
      go_wp2_with fail
      go_roundw
      case rel => exact ⟨j + 1, by omega, by go_num, HS, HT5⟩
      case measure => simp [intOf]; omega
    · have hjn : j = n := by omega
      subst hjn
      go_wp2_with fail
      go_ret
      exact ⟨q, rfl, HRd.out.congr (fun i hi => by rw [if_pos hi]), HQ.out, HTr.out⟩

set_option maxRecDepth 100000 in
theorem each_dead (pb : Nat) (P : PN) (h : P.Ok) (l a wt tk : Value) (g : Nat → Int) (w : World)
    (hC : ∀ w', Turned [] w w' → ∀ r : Nat, r < P.R → Calls Tryd.prog 54 #[.int .i64 (r : Int), .pointer (some ⟨pb, 0, none⟩)] w' fun e w'' => e = .returned (.int .i64 (g r)) ∧ Turned [] w' w'') :
    Calls Tryd.prog 28 #[.agg (plC P l a wt tk), .func (.func 54) #[] #[.pointer (some ⟨pb, 0, none⟩)]] w fun e w' => ∃ q, e = .returned (.slice (some ⟨q, 0, none⟩) P.R P.R) ∧ Ri w' 2 q P.R g ∧ w.heap.size ≤ q ∧ Turned [] w w' := by
  have HR := hide (fun w => regions_any P h l a wt tk w)
  have hF := PN.R_few h
  have HC := hide hC
  have HB := hide (pb_new w P l a wt tk)
  have HT := hide ((Turned.refl [] w).alloc (.cells (plC P l a wt tk) 30))
  generalize hRR : P.R = n at *
  obtain ⟨f, t, k, d, e⟩ := P
  unfold plC at HR HB HT ⊢
  simp only at HR HB HT ⊢
  clear hRR h hC
  obtain ⟨i0, hi, hi0⟩ := Option.map_eq_some_iff.1 Tryd.infoI64
  simp only [Prod.mk.injEq] at hi0
  obtain ⟨hz0, hz1, hz2⟩ := hi0
  have hmk : ∀ w : World, (Instr.makeSlice 57 (.int .i64 (n : Int)) (.int .i64 (n : Int))).run Tryd.prog w = .ok (.slice (some ⟨w.heap.size, 0, none⟩) n n) (w.alloc (.cells (madeCells #[Value.int .i64 0] n) 2)) := fun w => by
    have hr := run_make (P := Tryd.prog) w 57 2 i0 (.int .i64 0) Tryd.underlying57 hi hz0 .i64 .i64 n n (by omega) (by omega) (by rw [hz2]; omega) (by omega)
    simp only [hz1, Int.toNat_natCast, Nat.mul_one] at hr
    exact hr
  clear hi hz0 hz1 hz2
  go_enter Tryd.func28, Tryd.ntmps28
  go_wp2_with fail
  obtain ⟨z, hz⟩ : ∃ z, z = w.heap.size := ⟨_, rfl⟩
  have HZ := hide hz
  rw [← hz] at HB ⊢
  generalize w.alloc (.cells #[Value.int .i64 f, Value.int .i64 t, Value.int .i64 k, Value.int .i64 d, Value.int .i64 e, l, a, wt, tk] 30) = w0 at *
  clear hz
  refine (HR.out _).mono ?_
  rintro e1 w1 ⟨rfl, ht1⟩
  have HT1 := hide (HT.out.trans ht1)
  have HB1 := hide (HB.out.turned0 ht1)
  have hlt1 := (HB.out.turned0 ht1).lt
  clear ht1 HB HT
  obtain ⟨w2, hw2⟩ : ∃ w2, w2 = w1.alloc (.cells (madeCells #[Value.int .i64 0] n) 2) := ⟨_, rfl⟩
  have hT2 : Turned [] w1 w2 := by rw [hw2]; exact (Turned.refl [] w1).alloc _
  obtain ⟨q, hq⟩ : ∃ q, q = w1.heap.size := ⟨_, rfl⟩
  have HRd : Hid (Ri w2 2 q n (fun i => if i < 0 then g i else 0)) := hide ⟨_, by rw [hw2, hq]; exact heap_alloc_new _ _, fun i hi => by simpa using made_int n i hi⟩
  have HQ := hide (show w.heap.size ≤ q by rw [hq]; exact HT1.out.size)
  obtain ⟨c0, c1, c2, c3, c4, c5, c6, c7, c8⟩ := HB1.out.cs
  have HT2 := hide (HT1.out.trans hT2)
  clear hT2 HT1 HB1
  go_wp2_with fail
  rw [← hw2, ← hq]
  clear hw2 hq hmk
  refine (HR.out _).mono ?_
  rintro e1 w3 ⟨rfl, ht3⟩
  have HRd3 := hide (HRd.out.turned0 ht3)
  have HT3 := hide (HT2.out.trans ht3)
  clear c0 c1 c2 c3 c4 c5 c6 c7 c8 ht3 HT2 HRd HR
  go_wp2_with fail
  go_loopw [12] (fun i wr => ∃ (j : Nat), j ≤ n ∧ i = .int .i64 j ∧ Hid (Ri wr 2 q n (fun i => if i < j then g i else 0)) ∧ Hid (Turned [] w wr)) (fun i _ => n - (intOf i).toNat)
  case atStart => exact ⟨0, Nat.zero_le _, rfl, HRd3, HT3⟩
  case round =>
    obtain ⟨j, hj, rfl, HRd, HTr⟩ := hrel
    by_cases hlt : j < n
    · have H := hide (HC.out wr HTr.out j hlt)
      have hji : (j : Int) < n := by omega
      go_wp2_with fail
      refine (H.out).mono ?_
      rintro e1 w5 ⟨rfl, ht5⟩
      have hq2 := (HRd.out.turned (S := []) ht5 (by simp))
      have c0 : w5.cell? ⟨q, j, none⟩ = some (.int .i64 0) := by
        have := hq2.cell hlt
        simpa using this
      have f0 := hq2.fz j
      have HS := hide ((hq2.set j (g j)).congr (g' := fun i => if i < j + 1 then g i else 0) (fun i hi => by
        by_cases hij : i = j
        · subst hij; simp
        · simp only [hij, if_false]
          by_cases h3 : i < j
          · rw [if_pos h3, if_pos (by omega)]
          · rw [if_neg h3, if_neg (by omega)]))
      have HT5 := hide ((HTr.out.trans ht5).setCell (p := ⟨q, j, none⟩) (.inr HQ.out) (.int .i64 (g j)))
      have hq5 := hq2.lt
      clear ht5 HRd HTr H hq2
      go_wp2_with fail
      go_roundw
      case rel => exact ⟨j + 1, by omega, by go_num, HS, HT5⟩
      case measure => simp [intOf]; omega
    · have hjn : j = n := by omega
      subst hjn
      go_wp2_with fail
      go_ret
      exact ⟨q, rfl, HRd.out.congr (fun i hi => by rw [if_pos hi]), HQ.out, HTr.out⟩

set_option maxRecDepth 100000 in
theorem each_takes (pb : Nat) (P : PN) (h : P.Ok) (l a wt tk : Value) (g : Nat → Nat → Int) (w : World)
    (hC : ∀ w', Turned [] w w' → ∀ r : Nat, r < P.R → Calls Tryd.prog 34 #[.int .i64 (r : Int), .pointer (some ⟨pb, 0, none⟩)] w' fun e w'' => e = .returned (.agg #[.int .i64 (g r 0), .int .i64 (g r 1)]) ∧ Turned [] w' w'') :
    Calls Tryd.prog 33 #[.agg (plC P l a wt tk), .func (.func 34) #[] #[.pointer (some ⟨pb, 0, none⟩)]] w fun e w' => ∃ q, e = .returned (.slice (some ⟨q, 0, none⟩) P.R P.R) ∧ Rp w' q P.R g ∧ w.heap.size ≤ q ∧ Turned [] w w' := by
  have HR := hide (fun w => regions_any P h l a wt tk w)
  have hF := PN.R_few h
  have HC := hide hC
  have HB := hide (pb_new w P l a wt tk)
  have HT := hide ((Turned.refl [] w).alloc (.cells (plC P l a wt tk) 30))
  generalize hRR : P.R = n at *
  obtain ⟨f, t, k, d, e⟩ := P
  unfold plC at HR HB HT ⊢
  simp only at HR HB HT ⊢
  clear hRR h hC
  obtain ⟨i0, hi, hi0⟩ := Option.map_eq_some_iff.1 Tryd.infoTwo
  simp only [Prod.mk.injEq] at hi0
  obtain ⟨hz0, hz1, hz2⟩ := hi0
  have hmk : ∀ w : World, (Instr.makeSlice 22 (.int .i64 (n : Int)) (.int .i64 (n : Int))).run Tryd.prog w = .ok (.slice (some ⟨w.heap.size, 0, none⟩) n n) (w.alloc (.cells (madeCells #[Value.int .i64 0, Value.int .i64 0] (n * 2)) 43)) := fun w => by
    have hr := run_make (P := Tryd.prog) w 22 43 i0 (.agg #[.int .i64 0, .int .i64 0]) Tryd.underlying22 hi hz0 .i64 .i64 n n (by omega) (by omega) (by rw [hz2]; omega) (by omega)
    simp only [hz1, Int.toNat_natCast, Nat.mul_one] at hr
    exact hr
  clear hi hz0 hz1 hz2
  go_enter Tryd.func33, Tryd.ntmps33
  go_wp2_with fail
  obtain ⟨z, hz⟩ : ∃ z, z = w.heap.size := ⟨_, rfl⟩
  have HZ := hide hz
  rw [← hz] at HB ⊢
  generalize w.alloc (.cells #[Value.int .i64 f, Value.int .i64 t, Value.int .i64 k, Value.int .i64 d, Value.int .i64 e, l, a, wt, tk] 30) = w0 at *
  clear hz
  refine (HR.out _).mono ?_
  rintro e1 w1 ⟨rfl, ht1⟩
  have HT1 := hide (HT.out.trans ht1)
  have HB1 := hide (HB.out.turned0 ht1)
  have hlt1 := (HB.out.turned0 ht1).lt
  clear ht1 HB HT
  obtain ⟨w2, hw2⟩ : ∃ w2, w2 = w1.alloc (.cells (madeCells #[Value.int .i64 0, Value.int .i64 0] (n * 2)) 43) := ⟨_, rfl⟩
  have hT2 : Turned [] w1 w2 := by rw [hw2]; exact (Turned.refl [] w1).alloc _
  obtain ⟨q, hq⟩ : ∃ q, q = w1.heap.size := ⟨_, rfl⟩
  have HRd : Hid (Rp w2 q n (fun i s => if i < 0 then g i s else 0)) := hide ⟨_, by rw [hw2, hq]; exact heap_alloc_new _ _, fun i s hi hs => by simpa using made_two n i s hi hs⟩
  have HQ := hide (show w.heap.size ≤ q by rw [hq]; exact HT1.out.size)
  obtain ⟨c0, c1, c2, c3, c4, c5, c6, c7, c8⟩ := HB1.out.cs
  have HT2 := hide (HT1.out.trans hT2)
  clear hT2 HT1 HB1
  go_wp2_with fail
  rw [← hw2, ← hq]
  clear hw2 hq hmk
  refine (HR.out _).mono ?_
  rintro e1 w3 ⟨rfl, ht3⟩
  have HRd3 := hide (HRd.out.turned0 ht3)
  have HT3 := hide (HT2.out.trans ht3)
  clear c0 c1 c2 c3 c4 c5 c6 c7 c8 ht3 HT2 HRd HR
  go_wp2_with fail
  go_loopw [12] (fun i wr => ∃ (j : Nat), j ≤ n ∧ i = .int .i64 j ∧ Hid (Rp wr q n (fun i s => if i < j then g i s else 0)) ∧ Hid (Turned [] w wr)) (fun i _ => n - (intOf i).toNat)
  case atStart => exact ⟨0, Nat.zero_le _, rfl, HRd3, HT3⟩
  case round =>
    obtain ⟨j, hj, rfl, HRd, HTr⟩ := hrel
    by_cases hlt : j < n
    · have H := hide (HC.out wr HTr.out j hlt)
      have hji : (j : Int) < n := by omega
      go_wp2_with fail
      refine (H.out).mono ?_
      rintro e1 w5 ⟨rfl, ht5⟩
      have hq2 := (HRd.out.turned (S := []) ht5 (by simp))
      have c0 : w5.cell? ⟨q, j * 2, none⟩ = some (.int .i64 0) := by
        have := hq2.cell hlt (s := 0) (by omega)
        simpa using this
      have c1 : w5.cell? ⟨q, j * 2 + 1, none⟩ = some (.int .i64 0) := by
        have := hq2.cell hlt (s := 1) (by omega)
        simpa using this
      have f0 := hq2.fz (j * 2)
      have f1 := hq2.fz (j * 2 + 1)
      have HS := hide (((hq2.set j 0 (by omega) (g j 0)).set j 1 (by omega) (g j 1)).congr (g' := fun i s => if i < j + 1 then g i s else 0) (fun i s hi hs => by
        by_cases hij : i = j
        · subst hij
          have : s = 0 ∨ s = 1 := by omega
          rcases this with rfl | rfl <;> simp
        · simp only [hij, false_and, if_false]
          by_cases h3 : i < j
          · rw [if_pos h3, if_pos (by omega)]
          · rw [if_neg h3, if_neg (by omega)]))
      rw [Nat.add_zero] at HS
      have HT5 := hide (((HTr.out.trans ht5).setCell (p := ⟨q, j * 2, none⟩) (.inr HQ.out) (.int .i64 (g j 0))).setCell (p := ⟨q, j * 2 + 1, none⟩) (.inr HQ.out) (.int .i64 (g j 1)))
      have hq5 := hq2.lt
      clear ht5 HRd HTr H hq2
      go_wp2_with fail
      go_roundw
      case rel => exact ⟨j + 1, by omega, by go_num, HS, HT5⟩
      case measure => simp [intOf]; omega
    · have hjn : j = n := by omega
      subst hjn
      go_wp2_with fail
      go_ret
      exact ⟨q, rfl, HRd.out.congr (fun i s hi hs => by rw [if_pos hi]), HQ.out, HTr.out⟩
end Go.Proofs.YtcckflcjjgckoaaDoor
