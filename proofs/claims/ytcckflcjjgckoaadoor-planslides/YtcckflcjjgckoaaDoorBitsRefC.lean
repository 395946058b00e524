/-
  The document's own Mark and New.
-/
import Derived.Test.YtcckflcjjgckoaaDoorBitsRefB
namespace Go.Proofs.YtcckflcjjgckoaaDoor.Bt
open Go.RowKit
set_option linter.unusedVariables false

theorem RB.put {w : World} {p q n : Nat} {S S' : Nat → Nat} (h : RB w p q n S) {a z : Nat} (ha : a < n) (hb : Bl n S') (hS : ∀ i, i < n → S' i = if i = a then z else S i) : RB (w.setCell ⟨q, a, none⟩ (.int .i64 (z : Int))) p q n S' := by
  obtain ⟨c, hc, hr⟩ := h.row
  refine ⟨h.few, hb, h.p0, h.q0, h.ne, by rw [Below.heap_setCell _ _ _ _ (fun e => h.ne e)]; exact h.head, _, heap_setCell_at _ _ _ _ _ _ hc _, fun i hi => ?_⟩
  have hlt : a < c.size := (Array.getElem?_eq_some_iff.1 (hr a ha)).1
  rw [Array.getElem?_setIfInBounds, hS i hi]
  by_cases he : a = i
  · subst he
    rw [if_pos rfl, if_pos hlt, if_pos rfl]
  · rw [if_neg he, hr i hi, if_neg (fun e => he e.symm)]

theorem not_free {S : Nat → Nat} {a z k : Nat} (h1 : 0 < S k) (h2 : k < a + z) (h3 : a < k + S k) (hz : 1 ≤ z) : ¬ Free S a z := by
  intro hf
  have := free_no hf hz h1
  omega
theorem is_free {S : Nat → Nat} {a z : Nat} (h : ∀ k, 0 < S k → ¬ (k < a + z ∧ a < k + S k)) : Free S a z := by
  intro k h1 h2
  unfold live
  rw [bo_false]
  rintro ⟨b, hb1, hb2⟩
  exact h b (by omega) ⟨by omega, by omega⟩

set_option maxHeartbeats 1000000 in
theorem rmark_any (p q n : Nat) (S : Nat → Nat) (x z : Int) (w : World) (hz : In64 z) (h : RB w p q n S) :
    Calls Tryd.prog 19 #[.pointer (some ⟨p, 0, none⟩), .int .i64 x, .int .i64 z] w fun e w' => e = .returned (.tuple #[.bool (markT n S x z).1, .int .i64 (markT n S x z).2.1]) ∧ RB w' p q n (markT n S x z).2.2 ∧ Turned [q] w w' := by
  have hn := h.few
  have c0 := h.c0
  unfold In64 at hz
  have HB := hide h
  obtain ⟨M, hM⟩ : ∃ M, M = markT n S x z := ⟨_, rfl⟩
  rw [← hM]
  unfold markT at hM
  by_cases h0 : 0 ≤ x ∧ x < n
  · rw [if_neg (by simpa using h0)] at hM
    obtain ⟨a, rfl⟩ := Int.eq_ofNat_of_zero_le h0.1
    rw [Int.toNat_natCast] at hM
    have han : a < n := by omega
    have hd0 : decide ((a : Int) < 0) = false := decide_eq_false (by omega)
    by_cases h1 : z < 1 ∨ (n : Int) - a < z
    · rw [if_pos h1] at hM
      subst hM
      clear h
      by_cases h2 : z < 1
      · go_enter Tryd.func19, Tryd.ntmps19
        go_wp2_with fail
        go_ret2
        exact ⟨rfl, HB.out, Turned.refl _ _⟩
      · have hd : decide (z < 1) = false := decide_eq_false h2
        have h3 : (n : Int) - a < z := by omega
        go_enter Tryd.func19, Tryd.ntmps19
        go_wp2_with fail
        go_ret2
        exact ⟨rfl, HB.out, Turned.refl _ _⟩
    · rw [if_neg h1] at hM
      have hz1 : ¬ z < 1 := by omega
      obtain ⟨y, rfl⟩ := Int.eq_ofNat_of_zero_le (show 0 ≤ z by omega)
      rw [Int.toNat_natCast] at hM
      have hay : a + y ≤ n := by omega
      have hd : decide ((y : Int) < 1) = false := decide_eq_false hz1
      have hd2 : ¬ ((n : Int) - a < y) := by omega
      have ca := h.cell han
      have hsa := h.small a
      by_cases h2 : 0 < S a
      · rw [if_pos h2] at hM
        subst hM
        clear h h1 h0
        generalize S a = sa at *
        go_enter Tryd.func19, Tryd.ntmps19
        go_wp2_with fail
        go_ret2
        exact ⟨rfl, HB.out, Turned.refl _ _⟩
      · rw [if_neg h2] at hM
        have hs0 : S a = 0 := by omega
        rw [hs0] at ca
        have fa := h.fq a
        have HM := hide hM
        clear h h1 h0 hM
        go_enter Tryd.func19, Tryd.ntmps19
        go_wp2_with fail
        go_loop [9] (fun i => ∃ k : Nat, k ≤ n ∧ i = .int .i64 k ∧ Hid (∀ j, j < k → 0 < S j → ¬ (j < a + y ∧ a < j + S j))) (fun i => n - (intOf i).toNat)
        case atStart => exact ⟨0, by omega, rfl, fun j h1 => by omega⟩
        case round =>
          obtain ⟨k, hk, rfl, HF⟩ := hrel
          by_cases hlt : k < n
          · have c1 := HB.out.cell hlt
            have hsm := HB.out.small k
            have hkn : (k : Int) < (n : Int) := by omega
            by_cases hc : 0 < S k ∧ k < a + y ∧ a < k + S k
            · obtain ⟨h3, h4, h5⟩ := hc
              have hM := HM.out
              rw [if_neg (not_free h3 h4 h5 (by omega))] at hM
              subst hM
              have h4i : (k : Int) < (a : Int) + y := by omega
              have h5i : (a : Int) < (k : Int) + (S k : Int) := by omega
              generalize S k = sk at *
              go_wp2_with fail
              go_ret2
              exact ⟨rfl, HB.out, Turned.refl _ _⟩
            · have HF2 : Hid (∀ j, j < k + 1 → 0 < S j → ¬ (j < a + y ∧ a < j + S j)) := by
                intro j h3 h4 h5
                by_cases hj : j = k
                · subst hj; exact hc ⟨h4, h5.1, h5.2⟩
                · exact HF.out j (by omega) h4 h5
              clear HF
              by_cases h3 : 0 < S k
              · by_cases h4 : (k : Int) < (a : Int) + y
                · have h5 : ¬ ((a : Int) < (k : Int) + (S k : Int)) := fun h5 => hc ⟨h3, by omega, by omega⟩
                  clear hc
                  generalize S k = sk at *
                  go_wp2_with fail
                  go_round
                  case rel => exact ⟨k + 1, by omega, by go_num, HF2⟩
                  case measure => simp [intOf]; omega
                · have hd4 : decide ((k : Int) < (a : Int) + y) = false := decide_eq_false h4
                  clear hc
                  generalize S k = sk at *
                  go_wp2_with fail
                  go_round
                  case rel => exact ⟨k + 1, by omega, by go_num, HF2⟩
                  case measure => simp [intOf]; omega
              · have hs0 : S k = 0 := by omega
                rw [hs0] at c1
                clear hc
                go_wp2_with fail
                go_round
                case rel => exact ⟨k + 1, by omega, by go_num, HF2⟩
                case measure => simp [intOf]; omega
          · have hf : Free S a y := is_free (fun j h3 h4 => HF.out j (by have := HB.out.bl.into j h3; omega) h3 h4)
            have hM := HM.out
            rw [if_pos hf] at hM
            subst hM
            have HR := hide (HB.out.put (a := a) (z := y) han (HB.out.bl.mark (by omega) hay hf) (fun i _ => rfl))
            have HTt := hide ((Turned.refl [q] w).setCell (p := ⟨q, a, none⟩) (.inl (by simp)) (.int .i64 (y : Int)))
            have hai : (a : Int) < (n : Int) := by omega
            clear hf HF
            go_wp2_with fail
            go_ret2
            exact ⟨rfl, HR.out, HTt.out⟩
  · rw [if_pos h0] at hM
    subst hM
    clear h
    by_cases h1 : x < 0
    · go_enter Tryd.func19, Tryd.ntmps19
      go_wp2_with fail
      go_ret2
      exact ⟨rfl, HB.out, Turned.refl _ _⟩
    · have hd : decide (x < 0) = false := decide_eq_false h1
      have h2 : (n : Int) ≤ x := by omega
      go_enter Tryd.func19, Tryd.ntmps19
      go_wp2_with fail
      go_ret2
      exact ⟨rfl, HB.out, Turned.refl _ _⟩

theorem Tryd.infoInt : (Tryd.prog.info? 3).map (fun i => (i.zero, i.size, i.bytes)) = some (some (.int .i64 0), 1, 8) := by kernel_rfl
theorem rnew_any (x : Int) (w : World) (hx : In64 x) (hT : Tab w) :
    Calls Tryd.prog 18 #[.int .i64 x] w fun e w' => ∃ p q, e = .returned (.pointer (some ⟨p, 0, none⟩)) ∧ RB w' p q (kp 65536 x) S0 ∧ w.heap.size ≤ p ∧ w.heap.size ≤ q ∧ Turned [] w w' := by
  unfold In64 at hx
  have h0 : 0 < w.heap.size := block_lt (hT 0 (by omega))
  obtain ⟨n, hn⟩ : ∃ n, n = kp 65536 x := ⟨_, rfl⟩
  rw [← hn]
  have hn2 : n ≤ 65536 := by rw [hn]; exact kp_le _ _
  have HN := hide hn
  clear hn hT
  obtain ⟨i0, hi, hi0⟩ := Option.map_eq_some_iff.1 Tryd.infoInt
  simp only [Prod.mk.injEq] at hi0
  obtain ⟨hz0, hz1, hz2⟩ := hi0
  have hmk : ∀ w : World, (Instr.makeSlice 28 (.int .i64 (n : Int)) (.int .i64 (n : Int))).run Tryd.prog w = .ok (.slice (some ⟨w.heap.size, 0, none⟩) n n) (w.alloc (.cells (madeCells #[.int .i64 0] n) 3)) := fun w => by
    have hr := run_make (P := Tryd.prog) w 28 3 i0 (.int .i64 0) Tryd.underlying28 hi hz0 .i64 .i64 n n (by omega) (by omega) (by rw [hz2]; omega) (by omega)
    simp only [hz1, Int.toNat_natCast, Nat.mul_one] at hr
    exact hr
  have fin : ∀ w1 : World, w1 = w → (∃ p q, Ending.returned (.pointer (some ⟨w1.heap.size + 1, 0, none⟩)) = Ending.returned (.pointer (some ⟨p, 0, none⟩)) ∧ RB ((w1.alloc (.cells (madeCells #[.int .i64 0] n) 3)).alloc (.cells #[.slice (some ⟨w1.heap.size, 0, none⟩) n n] 74)) p q n S0 ∧ w1.heap.size ≤ p ∧ w1.heap.size ≤ q ∧ Turned [] w1 ((w1.alloc (.cells (madeCells #[.int .i64 0] n) 3)).alloc (.cells #[.slice (some ⟨w1.heap.size, 0, none⟩) n n] 74))) := by
    rintro w1 rfl
    have hs1 : (w1.alloc (.cells (madeCells #[.int .i64 0] n) 3)).heap.size = w1.heap.size + 1 := by simp
    refine ⟨w1.heap.size + 1, w1.heap.size, rfl, ⟨hn2, Bl.none n, by omega, by omega, by omega, ?_, ⟨madeCells #[.int .i64 0] n, ?_, fun i hi => ?_⟩⟩, by omega, by omega, ((Turned.refl [] w1).alloc _).alloc _⟩
    · have h1 := heap_alloc_new (w1.alloc (.cells (madeCells #[.int .i64 0] n) 3)) (.cells #[.slice (some ⟨w1.heap.size, 0, none⟩) n n] 74)
      rw [hs1] at h1
      exact h1
    · rw [Below.heap_alloc _ _ _ (by rw [hs1]; omega)]
      exact heap_alloc_new _ _
    · unfold madeCells
      rw [Array.getElem?_map, Array.getElem?_range, if_pos (by omega)]
      simp [S0, Nat.mod_one]
  have HF := hide (fin w rfl)
  clear fin
  by_cases h1 : x < 0
  · have e : n = 0 := by have := HN.out; unfold kp at this; omega
    subst e
    have hmk0 : ∀ w : World, (Instr.makeSlice 28 (.int .i64 0) (.int .i64 0)).run Tryd.prog w = .ok (.slice (some ⟨w.heap.size, 0, none⟩) 0 0) (w.alloc (.cells (madeCells #[.int .i64 0] 0) 3)) := hmk
    clear hmk
    go_enter Tryd.func18, Tryd.ntmps18
    go_wp2_with fail
    go_ret
    obtain ⟨p', q', e1, r1, r2, r3, r4⟩ := HF.out
    first | exact ⟨p', q', e1, r1, r2, r3, r4⟩ | exact ⟨p', e1, q', r1, r2, r3, r4⟩
  · by_cases h2 : 65536 < x
    · have e : n = 65536 := by have := HN.out; unfold kp at this; omega
      subst e
      have hmk0 : ∀ w : World, (Instr.makeSlice 28 (.int .i64 65536) (.int .i64 65536)).run Tryd.prog w = .ok (.slice (some ⟨w.heap.size, 0, none⟩) 65536 65536) (w.alloc (.cells (madeCells #[.int .i64 0] 65536) 3)) := hmk
      clear hmk
      go_enter Tryd.func18, Tryd.ntmps18
      go_wp2_with fail
      go_ret
      obtain ⟨p', q', e1, r1, r2, r3, r4⟩ := HF.out
      first | exact ⟨p', q', e1, r1, r2, r3, r4⟩ | exact ⟨p', e1, q', r1, r2, r3, r4⟩
    · have e : x = (n : Int) := by have := HN.out; unfold kp at this; omega
      subst e
      go_enter Tryd.func18, Tryd.ntmps18
      go_wp2_with fail
      go_ret
      obtain ⟨p', q', e1, r1, r2, r3, r4⟩ := HF.out
      first | exact ⟨p', q', e1, r1, r2, r3, r4⟩ | exact ⟨p', e1, q', r1, r2, r3, r4⟩
end Go.Proofs.YtcckflcjjgckoaaDoor.Bt
