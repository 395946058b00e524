/-
  Texts of the proof, several in one: ClassesSum, ClassesRefM, ClassesRefS.
-/
import Derived.Test.YtgbclfhgpkmcnaaGreatDoorPack2
import Derived.Test.YtgbclfhgpkmcnaaGreatDoorPack5
/-
  What Sum tells; the document's own Sum tells the same.
-/
namespace Go.Proofs.YtgbclfhgpkmcnaaGreatDoor
open Go.RowKit
set_option linter.unusedVariables false

/-- A slice of numbers that can be read. -/
structure IRd (w : World) (ao : Option Addr) (len : Nat) (l : List Int) : Prop where
  size : l.length = len
  room : len ≤ 9223372036854775807
  cell : ∀ i x, l[i]? = some x → ∃ b off, ao = some ⟨b, off, none⟩ ∧ w.cell? ⟨b, off + i, none⟩ = some (.int .i64 x)
  inn : ∀ x, x ∈ l → In64 x
theorem IRd.turned {w w' : World} {ao : Option Addr} {len : Nat} {l : List Int} (h : IRd w ao len l) (ht : Turned [] w w') : IRd w' ao len l := by
  refine ⟨h.size, h.room, fun i c hc => ?_, h.inn⟩
  obtain ⟨b, off, h0, h1⟩ := h.cell i c hc
  exact ⟨b, off, h0, by rw [ht.cell (block_lt h1) (by simp)]; exact h1⟩
theorem isRow_ird {w : World} {a : Option Addr} {len cap : Nat} {zs : List Int} (h : IsRow .i64 w a len cap zs) : IRd w a len (zs.take len) := by
  rcases h with ⟨rfl, rfl, rfl, rfl⟩ | ⟨x, rfl, hl, hm, hz, hc, hwf⟩
  · exact ⟨by simp, by omega, by simp, by intro x hx; simp at hx⟩
  · refine ⟨by simp; omega, by unfold maxLen at hm; omega, fun i y hy => ?_, fun y hy => wf_range (hwf y (List.mem_of_mem_take hy))⟩
    have hi := (List.getElem?_eq_some_iff.1 hy).1
    simp at hi
    have h1 := hc i (by omega)
    have hsp : x.spot = none := by
      have := World.cell?_spot (hc 0 (by omega))
      simpa [Addr.add] using this
    obtain ⟨b, off, spot⟩ := x
    simp at hsp
    subst hsp
    refine ⟨b, off, rfl, ?_⟩
    rw [show Addr.add ⟨b, off, none⟩ i = ⟨b, off + i, none⟩ by simp [Addr.add]] at h1
    rw [h1]
    rw [List.getElem?_take_of_lt (by omega)] at hy
    rw [List.getD_eq_getElem?_getD, hy]
    rfl

/-- All sizes, as far as they fit. -/
def Fits (l : List Int) : Prop := (∀ x, x ∈ l → 0 ≤ x) ∧ l.sum ≤ 65536
theorem sum_nonneg {l : List Int} (h : ∀ x, x ∈ l → 0 ≤ x) : 0 ≤ l.sum := by
  induction l with
  | nil => simp
  | cons a l ih =>
    rw [List.sum_cons]
    have h1 := h a (by simp)
    have h2 := ih (fun x hx => h x (by simp [hx]))
    omega
theorem Fits.range {l : List Int} (h : Fits l) : 0 ≤ l.sum ∧ l.sum ≤ 65536 := ⟨sum_nonneg h.1, h.2⟩
theorem fits_nil : Fits [] := ⟨by simp, by simp⟩
theorem sum_snoc (l : List Int) (k : Nat) (x : Int) (h : l[k]? = some x) : (l.take (k + 1)).sum = (l.take k).sum + x := by
  obtain ⟨h1, h2⟩ := List.getElem?_eq_some_iff.1 h
  rw [List.take_succ_eq_append_getElem h1, List.sum_append, h2]
  simp
theorem fits_snoc {l : List Int} {k : Nat} {x : Int} (h : l[k]? = some x) (hf : Fits (l.take k)) (h0 : ¬ x < 0) (h1 : ¬ 65536 - (l.take k).sum < x) : Fits (l.take (k + 1)) := by
  refine ⟨fun y hy => ?_, by rw [sum_snoc l k x h]; omega⟩
  obtain ⟨h2, h3⟩ := List.getElem?_eq_some_iff.1 h
  rw [List.take_succ_eq_append_getElem h2] at hy
  rcases List.mem_append.1 hy with hy | hy
  · exact hf.1 y hy
  · simp at hy
    subst hy
    omega
theorem fits_take {l : List Int} (h : Fits l) (k : Nat) : Fits (l.take k) := by
  refine ⟨fun y hy => h.1 y (List.mem_of_mem_take hy), ?_⟩
  have h1 : l.sum = (l.take k).sum + (l.drop k).sum := by rw [← List.sum_append, List.take_append_drop]
  have h2 := sum_nonneg (l := l.drop k) (fun x hx => h.1 x (List.mem_of_mem_drop hx))
  have h3 := h.2
  omega
theorem fits_not {l : List Int} {k : Nat} {x : Int} (h : l[k]? = some x) (h1 : x < 0 ∨ 65536 - (l.take k).sum < x) : ¬ Fits l := by
  intro hf
  have h2 := fits_take hf (k + 1)
  have h3 := h2.2
  rw [sum_snoc l k x h] at h3
  have h4 := hf.1 x (List.mem_of_getElem? h)
  omega

open Classical in
/-- What Sum tells. -/
noncomputable def sumOf (l : List Int) : Int × Int := if Fits l then (l.sum, 0) else (0, 11)

end Go.Proofs.YtgbclfhgpkmcnaaGreatDoor

/-
  The document's own answers: May, Check, Sum, Size tell the same.
-/
namespace Go.Proofs.YtgbclfhgpkmcnaaGreatDoor
open Go.RowKit
set_option linter.unusedVariables false

set_option maxRecDepth 100000 in
theorem rmay_any (r v a : Int) (w : World) (h : Cls.In ⟨r, v, a⟩) :
    Calls Tryz.prog 72 #[.agg #[.int .i64 r, .int .i64 v, .int .i64 a]] w fun e w' => e = .returned (.bool (Cls.may ⟨r, v, a⟩)) ∧ Turned [] w w' := by
  have HT := hide (fun c => (Turned.refl [] w).alloc (.cells c 94))
  clear h
  obtain ⟨b, hb⟩ : ∃ b, b = Cls.may ⟨r, v, a⟩ := ⟨_, rfl⟩
  rw [← hb]
  have HB := hide hb
  clear hb
  by_cases h1 : a = 1
  · subst h1
    have HB0 : Hid (b = decide (r = 0 ∧ v = 0)) := by show _ = _; rw [HB.out]; unfold Cls.may; simp
    clear HB
    go_enter Tryz.func72, Tryz.ntmps72
    go_wp2_with fail
    all_goals (go_ret; refine ⟨?_, HT.out _⟩; have hb := HB0.out; clear HB0; subst hb; simp_all [Ending.returned.injEq, Value.bool.injEq]; try rfl)
  · by_cases h2 : a = 2
    · subst h2
      have HB0 : Hid (b = decide (r = 0 ∧ v = 0)) := by show _ = _; rw [HB.out]; unfold Cls.may; simp
      clear HB
      go_enter Tryz.func72, Tryz.ntmps72
      go_wp2_with fail
      all_goals (go_ret; refine ⟨?_, HT.out _⟩; have hb := HB0.out; clear HB0; subst hb; simp_all [Ending.returned.injEq, Value.bool.injEq]; try rfl)
    · by_cases h0 : a = 0
      · subst h0
        have HB0 : Hid (b = decide (0 ≤ r ∧ 0 ≤ v ∧ r + v ≤ 64)) := by show _ = _; rw [HB.out]; unfold Cls.may; simp
        clear HB
        by_cases hr : 0 ≤ r ∧ r ≤ 64
        · by_cases hv : 0 ≤ v ∧ v ≤ 64
          · obtain ⟨r0, r1⟩ := hr
            obtain ⟨v0, v1⟩ := hv
            have hb : b = decide (r + v ≤ 64) := by rw [HB0.out]; simp [r0, v0]
            subst hb
            clear HB0
            have e1 : wrap64 (r + v) = r + v := by unfold wrap64; omega
            go_enter Tryz.func72, Tryz.ntmps72
            go_wp2_with fail
            go_ret
            exact ⟨rfl, HT.out _⟩
          · have hb : b = false := by rw [HB0.out]; simp; omega
            subst hb
            clear HB0
            obtain ⟨r0, r1⟩ := hr
            by_cases v0 : 0 ≤ v
            · have v1 : ¬ (v ≤ 64) := fun hh => hv ⟨v0, hh⟩
              clear hv
              go_enter Tryz.func72, Tryz.ntmps72
              go_wp2_with fail
              go_ret
              exact ⟨rfl, HT.out _⟩
            · clear hv
              go_enter Tryz.func72, Tryz.ntmps72
              go_wp2_with fail
              go_ret
              exact ⟨rfl, HT.out _⟩
        · have hb : b = false := by rw [HB0.out]; simp; omega
          subst hb
          clear HB0
          by_cases r0 : 0 ≤ r
          · have r1 : ¬ (r ≤ 64) := fun hh => hr ⟨r0, hh⟩
            clear hr
            by_cases v0 : 0 ≤ v
            · go_enter Tryz.func72, Tryz.ntmps72
              go_wp2_with fail
              go_ret
              exact ⟨rfl, HT.out _⟩
            · go_enter Tryz.func72, Tryz.ntmps72
              go_wp2_with fail
              go_ret
              exact ⟨rfl, HT.out _⟩
          · clear hr
            go_enter Tryz.func72, Tryz.ntmps72
            go_wp2_with fail
            go_ret
            exact ⟨rfl, HT.out _⟩
      · have hb : b = false := by rw [HB.out]; unfold Cls.may; simp; omega
        subst hb
        clear HB
        have e1 : (a == 1) = false := by simp [h1]
        have e2 : (a == 2) = false := by simp [h2]
        have e0 : (a == 0) = false := by simp [h0]
        go_enter Tryz.func72, Tryz.ntmps72
        go_wp2_with fail
        go_ret
        exact ⟨rfl, HT.out _⟩

end Go.Proofs.YtgbclfhgpkmcnaaGreatDoor

/-
  The document's own Size tells the same.
-/
namespace Go.Proofs.YtgbclfhgpkmcnaaGreatDoor
open Go.RowKit
set_option linter.unusedVariables false

set_option maxRecDepth 100000 in
theorem rsize_any (ao : Option Addr) (len cap : Nat) (cs : List Cls) (k n : Int) (w : World) (hn : In64 n) (h : CRd w ao len cs) :
    Calls Tryz.prog 63 #[.slice ao len cap, .int .i64 k, .int .i64 n] w fun e w' => e = .returned (.tuple #[.int .i64 (sizeOf cs k n).1, .int .i64 (sizeOf cs k n).2]) ∧ Turned [] w w' := by
  have hl := h.size
  have hr := h.room
  unfold In64 at hn
  have HT := hide (fun c => (Turned.refl [] w).alloc (.cells c 94))
  by_cases h1 : k < 0
  · have e1 : sizeOf cs k n = (0, 12) := by
      have : clsAt cs k = none := by unfold clsAt; rw [if_neg (by omega), if_pos h1]
      simp [sizeOf, told, this]
    rw [e1]
    clear e1 h
    go_enter Tryz.func63, Tryz.ntmps63
    go_wp2_with fail
    go_ret2
    exact ⟨rfl, Turned.refl _ _⟩
  · by_cases h2 : (len : Int) < k
    · have e1 : sizeOf cs k n = (0, 12) := by
        have : clsAt cs k = none := by unfold clsAt; rw [if_neg (by omega), if_neg h1, List.getElem?_eq_none (by omega)]
        simp [sizeOf, told, this]
      rw [e1]
      clear e1 h
      go_enter Tryz.func63, Tryz.ntmps63
      go_wp2_with fail
      go_ret2
      exact ⟨rfl, Turned.refl _ _⟩
    · by_cases h0 : k = 0
      · subst h0
        have e1 : sizeOf cs 0 n = if 0 ≤ n ∧ n ≤ 65535 then (1 + n, 0) else (0, 11) := by
          have : clsAt cs 0 = some ⟨0, 0, 3⟩ := rfl
          simp [sizeOf, told, this, Cls.most, Cls.rN, Cls.wN, gSize]
        by_cases hq : 0 ≤ n ∧ n ≤ 65535
        · rw [if_pos hq] at e1
          rw [e1]
          obtain ⟨q0, q1⟩ := hq
          have e2 : wrap64 (1 + n) = 1 + n := by unfold wrap64; omega
          clear e1 h
          go_enter Tryz.func63, Tryz.ntmps63
          go_wp2_with fail
          go_ret2
          exact ⟨rfl, HT.out _⟩
        · rw [if_neg hq] at e1
          rw [e1]
          clear e1 h
          by_cases q0 : n < 0
          · clear hq
            go_enter Tryz.func63, Tryz.ntmps63
            go_wp2_with fail
            go_ret2
            exact ⟨rfl, HT.out _⟩
          · have q1 : 65535 < n := by omega
            clear hq
            go_enter Tryz.func63, Tryz.ntmps63
            go_wp2_with fail
            go_ret2
            exact ⟨rfl, HT.out _⟩
      · obtain ⟨i, rfl⟩ : ∃ i : Nat, k = (i : Int) + 1 := ⟨(k - 1).toNat, by omega⟩
        obtain ⟨c, hc⟩ : ∃ c, cs[i]? = some c := ⟨_, List.getElem?_eq_getElem (by omega)⟩
        obtain ⟨b, off, rfl, c0, c1, c2⟩ := h.cell i c hc
        have hTa : Turned [] w (w.alloc (.cells #[.int .i64 0, .int .i64 0, .int .i64 0] 94)) := (Turned.refl [] w).alloc _
        rw [← hTa.cell (block_lt c0) (by simp)] at c0
        rw [← hTa.cell (block_lt c1) (by simp)] at c1
        rw [← hTa.cell (block_lt c2) (by simp)] at c2
        have e3 : wrap64 ((i : Int) + 1 - 1) = (i : Int) := by unfold wrap64; omega
        have e5 : 0 < (i : Int) + 1 := by omega
        have HM := hide (fun w => rmay_any c.r c.w c.a w (h.inn c (List.mem_of_getElem? hc)))
        have hmm : (⟨c.r, c.w, c.a⟩ : Cls).may = c.may := rfl
        rw [hmm] at HM
        obtain ⟨y, hy⟩ : ∃ y, y = sizeOf cs ((i : Int) + 1) n := ⟨_, rfl⟩
        rw [← hy]
        have HY : Hid (y = if c.may = true then (if 0 ≤ n ∧ n ≤ c.most then (gSize (c.rN n) (c.wN n), 0) else (0, 11)) else (0, 12)) := by
          show _ = _
          rw [hy]
          unfold sizeOf told clsAt
          rw [if_neg h0, if_neg h1, show ((i : Int) + 1 - 1).toNat = i by omega, hc]
          cases hcm : c.may <;> simp [hcm]
        clear hTa hc h hy hmm hl
        obtain ⟨r, v, a⟩ := c
        simp only at c0 c1 c2 HM
        cases hm : (⟨r, v, a⟩ : Cls).may with
        | false =>
          have e6 : y = (0, 12) := by rw [HY.out, hm]; rfl
          subst e6
          rw [hm] at HM
          clear HY hm
          go_enter Tryz.func63, Tryz.ntmps63
          go_wp2_with fail
          refine (HM.out _).mono ?_
          rintro e w1 ⟨rfl, ht1⟩
          have HT1 := hide ((HT.out _).trans ht1)
          clear ht1 HM HT
          go_wp2_with fail
          go_ret2
          exact ⟨rfl, HT1.out⟩
        | true =>
          rw [hm] at HM
          have hmp : a = 0 ∧ 0 ≤ r ∧ 0 ≤ v ∧ r + v ≤ 64 ∨ (a = 1 ∨ a = 2) ∧ r = 0 ∧ v = 0 := by simpa [Cls.may] using hm
          have HY2 : Hid (y = if 0 ≤ n ∧ n ≤ (if a = 0 then 0 else 1024) then (1 + r + v + n, 0) else (0, 11)) := by
            show _ = _
            rw [HY.out, hm]
            rcases hmp with ⟨rfl, p1, p2, p3⟩ | ⟨rfl | rfl, rfl, rfl⟩
            · simp only [Cls.most, Cls.rN, Cls.wN, gSize]
              simp
              by_cases q : 0 ≤ n ∧ n ≤ 0
              · have : n = 0 := by omega
                subst this
                simp
              · rw [if_neg q, if_neg q]
            · simp [Cls.most, Cls.rN, Cls.wN, gSize]
            · simp [Cls.most, Cls.rN, Cls.wN, gSize]
          clear HY hm
          have e7 : wrap64 (1 + r) = 1 + r := by unfold wrap64; omega
          have e8 : wrap64 (1 + r + v) = 1 + r + v := by unfold wrap64; omega
          by_cases ha : a = 0
          · have ha1 : ¬ (0 < a) := by omega
            rw [if_pos ha] at HY2
            clear hmp ha
            by_cases q : 0 ≤ n ∧ n ≤ 0
            · have e6 : y = (1 + r + v, 0) := by
                have h00 : n = 0 := by omega
                rw [HY2.out, if_pos q, h00]
                simp
              subst e6
              have hn0 : n = 0 := by omega
              subst hn0
              clear HY2 q hn
              go_enter Tryz.func63, Tryz.ntmps63
              go_wp2_with fail
              refine (HM.out _).mono ?_
              rintro e w1 ⟨rfl, ht1⟩
              have HT1 := hide ((HT.out _).trans ht1)
              have hbx : w1.heap[w.heap.size]? = some (.cells #[.int .i64 r, .int .i64 v, .int .i64 a] 94) := by rw [ht1.block _ (by simp) (by simp), heap_alloc_new]
              have x0 := cell_of_heap hbx 0
              have x1 := cell_of_heap hbx 1
              have x2 := cell_of_heap hbx 2
              clear ht1 HM HT hbx c0 c1 c2
              go_wp2_with fail
              go_ret2
              refine ⟨?_, HT1.out⟩
              show Ending.returned (.tuple #[.int .i64 (wrap64 (1 + r + v)), .int .i64 0]) = _
              rw [e8]
            · have e6 : y = (0, 11) := by rw [HY2.out, if_neg q]
              subst e6
              clear HY2
              by_cases q0 : n < 0
              · clear q
                go_enter Tryz.func63, Tryz.ntmps63
                go_wp2_with fail
                refine (HM.out _).mono ?_
                rintro e w1 ⟨rfl, ht1⟩
                have HT1 := hide ((HT.out _).trans ht1)
                have hbx : w1.heap[w.heap.size]? = some (.cells #[.int .i64 r, .int .i64 v, .int .i64 a] 94) := by rw [ht1.block _ (by simp) (by simp), heap_alloc_new]
                have x0 := cell_of_heap hbx 0
                have x1 := cell_of_heap hbx 1
                have x2 := cell_of_heap hbx 2
                clear ht1 HM HT hbx c0 c1 c2
                go_wp2_with fail
                go_ret2
                exact ⟨rfl, HT1.out⟩
              · have q1 : 0 < n := by omega
                clear q
                go_enter Tryz.func63, Tryz.ntmps63
                go_wp2_with fail
                refine (HM.out _).mono ?_
                rintro e w1 ⟨rfl, ht1⟩
                have HT1 := hide ((HT.out _).trans ht1)
                have hbx : w1.heap[w.heap.size]? = some (.cells #[.int .i64 r, .int .i64 v, .int .i64 a] 94) := by rw [ht1.block _ (by simp) (by simp), heap_alloc_new]
                have x0 := cell_of_heap hbx 0
                have x1 := cell_of_heap hbx 1
                have x2 := cell_of_heap hbx 2
                clear ht1 HM HT hbx c0 c1 c2
                go_wp2_with fail
                go_ret2
                exact ⟨rfl, HT1.out⟩
          · have ha1 : 0 < a := by omega
            have hr0 : r = 0 ∧ v = 0 := by omega
            obtain ⟨rfl, rfl⟩ := hr0
            rw [if_neg ha] at HY2
            clear hmp ha e7 e8
            by_cases q : 0 ≤ n ∧ n ≤ 1024
            · have e6 : y = (1 + n, 0) := by rw [HY2.out, if_pos q]; simp
              subst e6
              obtain ⟨q0, q1⟩ := q
              clear HY2
              have e9 : wrap64 (1 + n) = 1 + n := by unfold wrap64; omega
              go_enter Tryz.func63, Tryz.ntmps63
              go_wp2_with fail
              refine (HM.out _).mono ?_
              rintro e w1 ⟨rfl, ht1⟩
              have HT1 := hide ((HT.out _).trans ht1)
              have hbx : w1.heap[w.heap.size]? = some (.cells #[.int .i64 0, .int .i64 0, .int .i64 a] 94) := by rw [ht1.block _ (by simp) (by simp), heap_alloc_new]
              have x0 := cell_of_heap hbx 0
              have x1 := cell_of_heap hbx 1
              have x2 := cell_of_heap hbx 2
              clear ht1 HM HT hbx c0 c1 c2
              go_wp2_with fail
              go_ret2
              exact ⟨rfl, HT1.out⟩
            · have e6 : y = (0, 11) := by rw [HY2.out, if_neg q]
              subst e6
              clear HY2
              by_cases q0 : n < 0
              · clear q
                go_enter Tryz.func63, Tryz.ntmps63
                go_wp2_with fail
                refine (HM.out _).mono ?_
                rintro e w1 ⟨rfl, ht1⟩
                have HT1 := hide ((HT.out _).trans ht1)
                have hbx : w1.heap[w.heap.size]? = some (.cells #[.int .i64 0, .int .i64 0, .int .i64 a] 94) := by rw [ht1.block _ (by simp) (by simp), heap_alloc_new]
                have x0 := cell_of_heap hbx 0
                have x1 := cell_of_heap hbx 1
                have x2 := cell_of_heap hbx 2
                clear ht1 HM HT hbx c0 c1 c2
                go_wp2_with fail
                go_ret2
                exact ⟨rfl, HT1.out⟩
              · have q1 : 1024 < n := by omega
                clear q
                go_enter Tryz.func63, Tryz.ntmps63
                go_wp2_with fail
                refine (HM.out _).mono ?_
                rintro e w1 ⟨rfl, ht1⟩
                have HT1 := hide ((HT.out _).trans ht1)
                have hbx : w1.heap[w.heap.size]? = some (.cells #[.int .i64 0, .int .i64 0, .int .i64 a] 94) := by rw [ht1.block _ (by simp) (by simp), heap_alloc_new]
                have x0 := cell_of_heap hbx 0
                have x1 := cell_of_heap hbx 1
                have x2 := cell_of_heap hbx 2
                clear ht1 HM HT hbx c0 c1 c2
                go_wp2_with fail
                go_ret2
                exact ⟨rfl, HT1.out⟩
end Go.Proofs.YtgbclfhgpkmcnaaGreatDoor
