/-
  The document's own Size tells the same.
-/
import Derived.Test.YtelljfckffmjmaaClassesRefM
namespace Go.Proofs.Ytelljfckffmjmaa
open Go.RowKit
set_option linter.unusedVariables false

set_option maxRecDepth 100000 in
theorem rsize_any (ao : Option Addr) (len cap : Nat) (cs : List Cls) (k n : Int) (w : World) (hn : In64 n) (h : CRd w ao len cs) :
    Calls Try.prog 49 #[.slice ao len cap, .int .i64 k, .int .i64 n] w fun e w' => e = .returned (.tuple #[.int .i64 (sizeOf cs k n).1, .int .i64 (sizeOf cs k n).2]) ∧ Turned [] w w' := by
  have hl := h.size
  have hr := h.room
  unfold In64 at hn
  have HT := hide (fun c => (Turned.refl [] w).alloc (.cells c 72))
  by_cases h1 : k < 0
  · have e1 : sizeOf cs k n = (0, 12) := by
      have : clsAt cs k = none := by unfold clsAt; rw [if_neg (by omega), if_pos h1]
      simp [sizeOf, told, this]
    rw [e1]
    clear e1 h
    go_enter Try.func49, Try.ntmps49
    go_wp2_with fail
    go_ret2
    exact ⟨rfl, Turned.refl _ _⟩
  · by_cases h2 : (len : Int) < k
    · have e1 : sizeOf cs k n = (0, 12) := by
        have : clsAt cs k = none := by unfold clsAt; rw [if_neg (by omega), if_neg h1, List.getElem?_eq_none (by omega)]
        simp [sizeOf, told, this]
      rw [e1]
      clear e1 h
      go_enter Try.func49, Try.ntmps49
      go_wp2_with fail
      go_ret2
      exact ⟨rfl, Turned.refl _ _⟩
    · by_cases h0 : k = 0
      · subst h0
        have e1 : sizeOf cs 0 n = if 0 ≤ n ∧ n ≤ 65535 then (1 + n, 0) else (0, 11) := by
          have : clsAt cs 0 = some ⟨0, 0, 3⟩ := rfl
          simp [sizeOf, told, this, Cls.most, Cls.rN, Cls.wN, gSize]
        by_cases hq : 0 ≤ n ∧ n ≤ 65535
        · rw [if_pos hq] at e1
          rw [e1]
          obtain ⟨q0, q1⟩ := hq
          have e2 : wrap64 (1 + n) = 1 + n := by unfold wrap64; omega
          clear e1 h
          go_enter Try.func49, Try.ntmps49
          go_wp2_with fail
          go_ret2
          exact ⟨rfl, HT.out _⟩
        · rw [if_neg hq] at e1
          rw [e1]
          clear e1 h
          by_cases q0 : n < 0
          · clear hq
            go_enter Try.func49, Try.ntmps49
            go_wp2_with fail
            go_ret2
            exact ⟨rfl, HT.out _⟩
          · have q1 : 65535 < n := by omega
            clear hq
            go_enter Try.func49, Try.ntmps49
            go_wp2_with fail
            go_ret2
            exact ⟨rfl, HT.out _⟩
      · obtain ⟨i, rfl⟩ : ∃ i : Nat, k = (i : Int) + 1 := ⟨(k - 1).toNat, by omega⟩
        obtain ⟨c, hc⟩ : ∃ c, cs[i]? = some c := ⟨_, List.getElem?_eq_getElem (by omega)⟩
        obtain ⟨b, off, rfl, c0, c1, c2⟩ := h.cell i c hc
        have hTa : Turned [] w (w.alloc (.cells #[.int .i64 0, .int .i64 0, .int .i64 0] 72)) := (Turned.refl [] w).alloc _
        rw [← hTa.cell (block_lt c0) (by simp)] at c0
        rw [← hTa.cell (block_lt c1) (by simp)] at c1
        rw [← hTa.cell (block_lt c2) (by simp)] at c2
        have e3 : wrap64 ((i : Int) + 1 - 1) = (i : Int) := by unfold wrap64; omega
        have e5 : 0 < (i : Int) + 1 := by omega
        have HM := hide (fun w => rmay_any c.r c.w c.a w (h.inn c (List.mem_of_getElem? hc)))
        have hmm : (⟨c.r, c.w, c.a⟩ : Cls).may = c.may := rfl
        rw [hmm] at HM
        obtain ⟨y, hy⟩ : ∃ y, y = sizeOf cs ((i : Int) + 1) n := ⟨_, rfl⟩
        rw [← hy]
        have HY : Hid (y = if c.may = true then (if 0 ≤ n ∧ n ≤ c.most then (gSize (c.rN n) (c.wN n), 0) else (0, 11)) else (0, 12)) := by
          show _ = _
          rw [hy]
          unfold sizeOf told clsAt
          rw [if_neg h0, if_neg h1, show ((i : Int) + 1 - 1).toNat = i by omega, hc]
          cases hcm : c.may <;> simp [hcm]
        clear hTa hc h hy hmm hl
        obtain ⟨r, v, a⟩ := c
        simp only at c0 c1 c2 HM
        cases hm : (⟨r, v, a⟩ : Cls).may with
        | false =>
          have e6 : y = (0, 12) := by rw [HY.out, hm]; rfl
          subst e6
          rw [hm] at HM
          clear HY hm
          go_enter Try.func49, Try.ntmps49
          go_wp2_with fail
          refine (HM.out _).mono ?_
          rintro e w1 ⟨rfl, ht1⟩
          have HT1 := hide ((HT.out _).trans ht1)
          clear ht1 HM HT
          go_wp2_with fail
          go_ret2
          exact ⟨rfl, HT1.out⟩
        | true =>
          rw [hm] at HM
          have hmp : a = 0 ∧ 0 ≤ r ∧ 0 ≤ v ∧ r + v ≤ 64 ∨ (a = 1 ∨ a = 2) ∧ r = 0 ∧ v = 0 := by simpa [Cls.may] using hm
          have HY2 : Hid (y = if 0 ≤ n ∧ n ≤ (if a = 0 then 0 else 1024) then (1 + r + v + n, 0) else (0, 11)) := by
            show _ = _
            rw [HY.out, hm]
            rcases hmp with ⟨rfl, p1, p2, p3⟩ | ⟨rfl | rfl, rfl, rfl⟩
            · simp only [Cls.most, Cls.rN, Cls.wN, gSize]
              simp
              by_cases q : 0 ≤ n ∧ n ≤ 0
              · have : n = 0 := by omega
                subst this
                simp
              · rw [if_neg q, if_neg q]
            · simp [Cls.most, Cls.rN, Cls.wN, gSize]
            · simp [Cls.most, Cls.rN, Cls.wN, gSize]
          clear HY hm
          have e7 : wrap64 (1 + r) = 1 + r := by unfold wrap64; omega
          have e8 : wrap64 (1 + r + v) = 1 + r + v := by unfold wrap64; omega
          by_cases ha : a = 0
          · have ha1 : ¬ (0 < a) := by omega
            rw [if_pos ha] at HY2
            clear hmp ha
            by_cases q : 0 ≤ n ∧ n ≤ 0
            · have e6 : y = (1 + r + v, 0) := by
                have h00 : n = 0 := by omega
                rw [HY2.out, if_pos q, h00]
                simp
              subst e6
              have hn0 : n = 0 := by omega
              subst hn0
              clear HY2 q hn
              go_enter Try.func49, Try.ntmps49
              go_wp2_with fail
              refine (HM.out _).mono ?_
              rintro e w1 ⟨rfl, ht1⟩
              have HT1 := hide ((HT.out _).trans ht1)
              have hbx : w1.heap[w.heap.size]? = some (.cells #[.int .i64 r, .int .i64 v, .int .i64 a] 72) := by rw [ht1.block _ (by simp) (by simp), heap_alloc_new]
              have x0 := cell_of_heap hbx 0
              have x1 := cell_of_heap hbx 1
              have x2 := cell_of_heap hbx 2
              clear ht1 HM HT hbx c0 c1 c2
              go_wp2_with fail
              go_ret2
              refine ⟨?_, HT1.out⟩
              show Ending.returned (.tuple #[.int .i64 (wrap64 (1 + r + v)), .int .i64 0]) = _
              rw [e8]
            · have e6 : y = (0, 11) := by rw [HY2.out, if_neg q]
              subst e6
              clear HY2
              by_cases q0 : n < 0
              · clear q
                go_enter Try.func49, Try.ntmps49
                go_wp2_with fail
                refine (HM.out _).mono ?_
                rintro e w1 ⟨rfl, ht1⟩
                have HT1 := hide ((HT.out _).trans ht1)
                have hbx : w1.heap[w.heap.size]? = some (.cells #[.int .i64 r, .int .i64 v, .int .i64 a] 72) := by rw [ht1.block _ (by simp) (by simp), heap_alloc_new]
                have x0 := cell_of_heap hbx 0
                have x1 := cell_of_heap hbx 1
                have x2 := cell_of_heap hbx 2
                clear ht1 HM HT hbx c0 c1 c2
                go_wp2_with fail
                go_ret2
                exact ⟨rfl, HT1.out⟩
              · have q1 : 0 < n := by omega
                clear q
                go_enter Try.func49, Try.ntmps49
                go_wp2_with fail
                refine (HM.out _).mono ?_
                rintro e w1 ⟨rfl, ht1⟩
                have HT1 := hide ((HT.out _).trans ht1)
                have hbx : w1.heap[w.heap.size]? = some (.cells #[.int .i64 r, .int .i64 v, .int .i64 a] 72) := by rw [ht1.block _ (by simp) (by simp), heap_alloc_new]
                have x0 := cell_of_heap hbx 0
                have x1 := cell_of_heap hbx 1
                have x2 := cell_of_heap hbx 2
                clear ht1 HM HT hbx c0 c1 c2
                go_wp2_with fail
                go_ret2
                exact ⟨rfl, HT1.out⟩
          · have ha1 : 0 < a := by omega
            have hr0 : r = 0 ∧ v = 0 := by omega
            obtain ⟨rfl, rfl⟩ := hr0
            rw [if_neg ha] at HY2
            clear hmp ha e7 e8
            by_cases q : 0 ≤ n ∧ n ≤ 1024
            · have e6 : y = (1 + n, 0) := by rw [HY2.out, if_pos q]; simp
              subst e6
              obtain ⟨q0, q1⟩ := q
              clear HY2
              have e9 : wrap64 (1 + n) = 1 + n := by unfold wrap64; omega
              go_enter Try.func49, Try.ntmps49
              go_wp2_with fail
              refine (HM.out _).mono ?_
              rintro e w1 ⟨rfl, ht1⟩
              have HT1 := hide ((HT.out _).trans ht1)
              have hbx : w1.heap[w.heap.size]? = some (.cells #[.int .i64 0, .int .i64 0, .int .i64 a] 72) := by rw [ht1.block _ (by simp) (by simp), heap_alloc_new]
              have x0 := cell_of_heap hbx 0
              have x1 := cell_of_heap hbx 1
              have x2 := cell_of_heap hbx 2
              clear ht1 HM HT hbx c0 c1 c2
              go_wp2_with fail
              go_ret2
              exact ⟨rfl, HT1.out⟩
            · have e6 : y = (0, 11) := by rw [HY2.out, if_neg q]
              subst e6
              clear HY2
              by_cases q0 : n < 0
              · clear q
                go_enter Try.func49, Try.ntmps49
                go_wp2_with fail
                refine (HM.out _).mono ?_
                rintro e w1 ⟨rfl, ht1⟩
                have HT1 := hide ((HT.out _).trans ht1)
                have hbx : w1.heap[w.heap.size]? = some (.cells #[.int .i64 0, .int .i64 0, .int .i64 a] 72) := by rw [ht1.block _ (by simp) (by simp), heap_alloc_new]
                have x0 := cell_of_heap hbx 0
                have x1 := cell_of_heap hbx 1
                have x2 := cell_of_heap hbx 2
                clear ht1 HM HT hbx c0 c1 c2
                go_wp2_with fail
                go_ret2
                exact ⟨rfl, HT1.out⟩
              · have q1 : 1024 < n := by omega
                clear q
                go_enter Try.func49, Try.ntmps49
                go_wp2_with fail
                refine (HM.out _).mono ?_
                rintro e w1 ⟨rfl, ht1⟩
                have HT1 := hide ((HT.out _).trans ht1)
                have hbx : w1.heap[w.heap.size]? = some (.cells #[.int .i64 0, .int .i64 0, .int .i64 a] 72) := by rw [ht1.block _ (by simp) (by simp), heap_alloc_new]
                have x0 := cell_of_heap hbx 0
                have x1 := cell_of_heap hbx 1
                have x2 := cell_of_heap hbx 2
                clear ht1 HM HT hbx c0 c1 c2
                go_wp2_with fail
                go_ret2
                exact ⟨rfl, HT1.out⟩
end Go.Proofs.Ytelljfckffmjmaa
