/-
  What Read tells.
-/
import Derived.Test.YthigmechfcndcaaBlocksMem
namespace Go.Proofs.Ythigmechfcndcaa
open Go.RowKit
set_option linter.unusedVariables false

def Blk.val (b : Blk) : Value := .agg #[.int .i64 b.t, .int .i64 b.k, .int .i64 b.n, .int .i64 b.s]

theorem part_in64 (x : Int) : In64 (partL x) := by
  unfold In64 partL
  omega

theorem read_some (v : Value) (l : List Int) (ao : Option Addr) (len cap : Nat) (cs : List Cls) (t : Int) (b : Blk) (w : World) (hl : l.length ≤ 65536) (hv : AnyMem w v l) (hc : CRd w ao len cs) (h : readOf l cs t = some b) :
    Calls Try.prog 8 #[v, .slice ao len cap, .int .i64 t] w fun e w' => e = .returned (.tuple #[.agg #[.int .i64 b.t, .int .i64 b.k, .int .i64 b.n, .int .i64 b.s], .int .i64 0]) ∧ Turned [] w w' := by
  obtain ⟨h1, h2, h3, h4, h5, h6, h7, x, h8, h9, h10, h11⟩ := readOf_some h
  obtain ⟨w0, hw0⟩ : ∃ w0, w0 = w.alloc (.cells #[.int .i64 0, .int .i64 0, .int .i64 0, .int .i64 0] 38) := ⟨_, rfl⟩
  have ht0 : Turned [] w w0 := by rw [hw0]; exact (Turned.refl [] w).alloc _
  have hb0 : w0.heap[w.heap.size]? = some (.cells #[.int .i64 0, .int .i64 0, .int .i64 0, .int .i64 0] 38) := by rw [hw0]; exact heap_alloc_new _ _
  have HW := hide (word_some v l t x w0 hl (hv.turned ht0) h8)
  have HP := hide (fun w => parts_yes x w h9)
  have HS := hide (fun w' (ht : Turned [] w0 w') => sizes_any ao len cap cs b.k b.n w' (by rw [h11]; exact part_in64 x) (hc.turned (ht0.trans ht)))
  rw [← h10, ← h11] at HP
  rw [h6, ← h7] at HS
  have HV := hide (fun w' (ht : Turned [] w0 w') => len_amem v l w' (hv.turned (ht0.trans ht)))
  have HE := hide (fun w' (ht : Turned [] w0 w') => And.intro (ht0.trans ht) (show w'.heap[w.heap.size]? = some (.cells #[.int .i64 0, .int .i64 0, .int .i64 0, .int .i64 0] 38) by rw [ht.block _ (lt_of_heap hb0) (by simp)]; exact hb0))
  obtain ⟨bt, bk, bn, bs⟩ := b
  simp only at *
  subst h1
  clear h h6 h7 h8 h9 h10 h11 hv hc ht0 hb0
  go_enter Try.func8, Try.ntmps8
  go_wp2_with fail
  rw [← hw0]
  clear hw0
  refine HW.out.mono ?_
  rintro e w1 ⟨rfl, ht1⟩
  have HT1 := hide ht1
  clear ht1 HW
  go_wp2_with fail
  refine (HP.out _).mono ?_
  rintro e w2 ⟨rfl, rfl⟩
  go_wp2_with fail
  refine (HS.out _ HT1.out).mono ?_
  rintro e w3 ⟨rfl, ht3⟩
  have HT3 := hide (HT1.out.trans ht3)
  obtain ⟨htE, hbx⟩ := HE.out _ HT3.out
  have x0 := cell_of_heap hbx 0
  have x1 := cell_of_heap hbx 1
  have x2 := cell_of_heap hbx 2
  have x3 := cell_of_heap hbx 3
  have xf : ∀ i, w3.frozen? ⟨w.heap.size, i, none⟩ = false := fun i => by simp [World.frozen?, hbx]
  have xf0 := xf 0
  have xf1 := xf 1
  have xf2 := xf 2
  have xf3 := xf 3
  have HTE := hide htE
  clear ht3 HS HP HT1 hbx xf htE HE
  go_wp2_with (go_at_call 24; refine (HV.out _ HT3.out).mono ?_; rintro e w' ⟨rfl, rfl⟩)
  refine bodyPost_ret (v := .tuple #[.agg #[.int .i64 bt, .int .i64 bk, .int .i64 bn, .int .i64 bs], .int .i64 0]) (by simp [results, Try.results8, go_sem, x0, x1, x2, x3]) rfl ⟨rfl, ?_⟩
  exact (((HTE.out.setCell (.inr (Nat.le_refl _)) _).setCell (.inr (Nat.le_refl _)) _).setCell (.inr (Nat.le_refl _)) _).setCell (.inr (Nat.le_refl _)) _

theorem read_out (v : Value) (l : List Int) (ao : Option Addr) (len cap : Nat) (t : Int) (w : World) (hl : l.length ≤ 65536) (hv : AnyMem w v l) (ht : In64 t) (h : wordAt l t = none) :
    Calls Try.prog 8 #[v, .slice ao len cap, .int .i64 t] w fun e w' => e = .returned (.tuple #[.agg #[.int .i64 0, .int .i64 0, .int .i64 0, .int .i64 0], .int .i64 10]) ∧ Turned [] w w' := by
  obtain ⟨w0, hw0⟩ : ∃ w0, w0 = w.alloc (.cells #[.int .i64 0, .int .i64 0, .int .i64 0, .int .i64 0] 38) := ⟨_, rfl⟩
  have ht0 : Turned [] w w0 := by rw [hw0]; exact (Turned.refl [] w).alloc _
  have hb0 : w0.heap[w.heap.size]? = some (.cells #[.int .i64 0, .int .i64 0, .int .i64 0, .int .i64 0] 38) := by rw [hw0]; exact heap_alloc_new _ _
  have HE := hide (fun w' (ht : Turned [] w0 w') => And.intro (ht0.trans ht) (show w'.heap[w.heap.size]? = some (.cells #[.int .i64 0, .int .i64 0, .int .i64 0, .int .i64 0] 38) by rw [ht.block _ (lt_of_heap hb0) (by simp)]; exact hb0))
  have HW := hide (word_none v l t w0 hl ht (hv.turned ht0) h)
  clear h hv ht0 hb0 ht
  go_enter Try.func8, Try.ntmps8
  go_wp2_with fail
  rw [← hw0]
  clear hw0
  refine HW.out.mono ?_
  rintro e w1 ⟨rfl, ht1⟩
  have HT1 := hide ht1
  clear ht1 HW
  obtain ⟨htE, hbx⟩ := HE.out _ HT1.out
  have x0 := cell_of_heap hbx 0
  have x1 := cell_of_heap hbx 1
  have x2 := cell_of_heap hbx 2
  have x3 := cell_of_heap hbx 3
  have xf := fun i => show World.frozen? w1 ⟨w.heap.size, i, none⟩ = false by simp [World.frozen?, hbx]
  have xf0 := xf 0
  have xf1 := xf 1
  have xf2 := xf 2
  have xf3 := xf 3
  have HTE := hide htE
  clear hbx xf htE HE
  go_wp2_with fail
  refine bodyPost_ret (v := .tuple #[.agg #[.int .i64 0, .int .i64 0, .int .i64 0, .int .i64 0], .int .i64 10]) (by simp [results, Try.results8, go_sem, x0, x1, x2, x3]) rfl ⟨rfl, ?_⟩
  first | exact HTE.out | exact (((HTE.out.setCell (.inr (Nat.le_refl _)) _).setCell (.inr (Nat.le_refl _)) _).setCell (.inr (Nat.le_refl _)) _).setCell (.inr (Nat.le_refl _)) _

theorem read_word (v : Value) (l : List Int) (ao : Option Addr) (len cap : Nat) (t x : Int) (w : World) (hl : l.length ≤ 65536) (hv : AnyMem w v l) (h : wordAt l t = some x) (hx : isHead x = false) :
    Calls Try.prog 8 #[v, .slice ao len cap, .int .i64 t] w fun e w' => e = .returned (.tuple #[.agg #[.int .i64 0, .int .i64 0, .int .i64 0, .int .i64 0], .int .i64 13]) ∧ Turned [] w w' := by
  obtain ⟨w0, hw0⟩ : ∃ w0, w0 = w.alloc (.cells #[.int .i64 0, .int .i64 0, .int .i64 0, .int .i64 0] 38) := ⟨_, rfl⟩
  have ht0 : Turned [] w w0 := by rw [hw0]; exact (Turned.refl [] w).alloc _
  have hb0 : w0.heap[w.heap.size]? = some (.cells #[.int .i64 0, .int .i64 0, .int .i64 0, .int .i64 0] 38) := by rw [hw0]; exact heap_alloc_new _ _
  have HE := hide (fun w' (ht : Turned [] w0 w') => And.intro (ht0.trans ht) (show w'.heap[w.heap.size]? = some (.cells #[.int .i64 0, .int .i64 0, .int .i64 0, .int .i64 0] 38) by rw [ht.block _ (lt_of_heap hb0) (by simp)]; exact hb0))
  have HW := hide (word_some v l t x w0 hl (hv.turned ht0) h)
  have HP := hide (fun w => parts_no x w hx)
  clear h hv ht0 hb0 hx
  go_enter Try.func8, Try.ntmps8
  go_wp2_with fail
  rw [← hw0]
  clear hw0
  refine HW.out.mono ?_
  rintro e w1 ⟨rfl, ht1⟩
  have HT1 := hide ht1
  clear ht1 HW
  obtain ⟨htE, hbx⟩ := HE.out _ HT1.out
  have x0 := cell_of_heap hbx 0
  have x1 := cell_of_heap hbx 1
  have x2 := cell_of_heap hbx 2
  have x3 := cell_of_heap hbx 3
  have xf := fun i => show World.frozen? w1 ⟨w.heap.size, i, none⟩ = false by simp [World.frozen?, hbx]
  have xf0 := xf 0
  have xf1 := xf 1
  have xf2 := xf 2
  have xf3 := xf 3
  have HTE := hide htE
  clear hbx xf htE HE
  go_wp2_with fail
  refine (HP.out _).mono ?_
  rintro e w2 ⟨rfl, rfl⟩
  go_wp2_with fail
  refine bodyPost_ret (v := .tuple #[.agg #[.int .i64 0, .int .i64 0, .int .i64 0, .int .i64 0], .int .i64 13]) (by simp [results, Try.results8, go_sem, x0, x1, x2, x3]) rfl ⟨rfl, ?_⟩
  first | exact HTE.out | exact (((HTE.out.setCell (.inr (Nat.le_refl _)) _).setCell (.inr (Nat.le_refl _)) _).setCell (.inr (Nat.le_refl _)) _).setCell (.inr (Nat.le_refl _)) _

theorem read_size (v : Value) (l : List Int) (ao : Option Addr) (len cap : Nat) (cs : List Cls) (t x : Int) (w : World) (hl : l.length ≤ 65536) (hv : AnyMem w v l) (hc : CRd w ao len cs) (h : wordAt l t = some x) (hx : isHead x = true) (hs : ¬ (sizeOf cs (partC x) (partL x)).2 = 0) :
    Calls Try.prog 8 #[v, .slice ao len cap, .int .i64 t] w fun e w' => e = .returned (.tuple #[.agg #[.int .i64 0, .int .i64 0, .int .i64 0, .int .i64 0], .int .i64 13]) ∧ Turned [] w w' := by
  obtain ⟨w0, hw0⟩ : ∃ w0, w0 = w.alloc (.cells #[.int .i64 0, .int .i64 0, .int .i64 0, .int .i64 0] 38) := ⟨_, rfl⟩
  have ht0 : Turned [] w w0 := by rw [hw0]; exact (Turned.refl [] w).alloc _
  have hb0 : w0.heap[w.heap.size]? = some (.cells #[.int .i64 0, .int .i64 0, .int .i64 0, .int .i64 0] 38) := by rw [hw0]; exact heap_alloc_new _ _
  have HE := hide (fun w' (ht : Turned [] w0 w') => And.intro (ht0.trans ht) (show w'.heap[w.heap.size]? = some (.cells #[.int .i64 0, .int .i64 0, .int .i64 0, .int .i64 0] 38) by rw [ht.block _ (lt_of_heap hb0) (by simp)]; exact hb0))
  have HW := hide (word_some v l t x w0 hl (hv.turned ht0) h)
  have HP := hide (fun w => parts_yes x w hx)
  have HS := hide (fun w' (ht : Turned [] w0 w') => sizes_any ao len cap cs (partC x) (partL x) w' (part_in64 x) (hc.turned (ht0.trans ht)))
  generalize sizeOf cs (partC x) (partL x) = y at *
  obtain ⟨y1, y2⟩ := y
  simp only at hs HS
  generalize partC x = a at *
  generalize partL x = c at *
  clear h hv ht0 hb0 hx hc
  go_enter Try.func8, Try.ntmps8
  go_wp2_with fail
  rw [← hw0]
  clear hw0
  refine HW.out.mono ?_
  rintro e w1 ⟨rfl, ht1⟩
  have HT1 := hide ht1
  clear ht1 HW
  go_wp2_with fail
  refine (HP.out _).mono ?_
  rintro e w2 ⟨rfl, rfl⟩
  go_wp2_with fail
  refine (HS.out _ HT1.out).mono ?_
  rintro e w3 ⟨rfl, ht3⟩
  have HT3 := hide (HT1.out.trans ht3)
  clear ht3 HT1
  obtain ⟨htE, hbx⟩ := HE.out _ HT3.out
  have x0 := cell_of_heap hbx 0
  have x1 := cell_of_heap hbx 1
  have x2 := cell_of_heap hbx 2
  have x3 := cell_of_heap hbx 3
  have xf := fun i => show World.frozen? w3 ⟨w.heap.size, i, none⟩ = false by simp [World.frozen?, hbx]
  have xf0 := xf 0
  have xf1 := xf 1
  have xf2 := xf 2
  have xf3 := xf 3
  have HTE := hide htE
  clear hbx xf htE HE
  go_wp2_with fail
  refine bodyPost_ret (v := .tuple #[.agg #[.int .i64 0, .int .i64 0, .int .i64 0, .int .i64 0], .int .i64 13]) (by simp [results, Try.results8, go_sem, x0, x1, x2, x3]) rfl ⟨rfl, ?_⟩
  first | exact HTE.out | exact (((HTE.out.setCell (.inr (Nat.le_refl _)) _).setCell (.inr (Nat.le_refl _)) _).setCell (.inr (Nat.le_refl _)) _).setCell (.inr (Nat.le_refl _)) _

theorem read_room (v : Value) (l : List Int) (ao : Option Addr) (len cap : Nat) (cs : List Cls) (t x : Int) (w : World) (hl : l.length ≤ 65536) (hv : AnyMem w v l) (hc : CRd w ao len cs) (h : wordAt l t = some x) (hx : isHead x = true) (hs : (sizeOf cs (partC x) (partL x)).2 = 0) (hr : l.length - t < (sizeOf cs (partC x) (partL x)).1) :
    Calls Try.prog 8 #[v, .slice ao len cap, .int .i64 t] w fun e w' => e = .returned (.tuple #[.agg #[.int .i64 0, .int .i64 0, .int .i64 0, .int .i64 0], .int .i64 13]) ∧ Turned [] w w' := by
  obtain ⟨w0, hw0⟩ : ∃ w0, w0 = w.alloc (.cells #[.int .i64 0, .int .i64 0, .int .i64 0, .int .i64 0] 38) := ⟨_, rfl⟩
  have ht0 : Turned [] w w0 := by rw [hw0]; exact (Turned.refl [] w).alloc _
  have hb0 : w0.heap[w.heap.size]? = some (.cells #[.int .i64 0, .int .i64 0, .int .i64 0, .int .i64 0] 38) := by rw [hw0]; exact heap_alloc_new _ _
  have HE := hide (fun w' (ht : Turned [] w0 w') => And.intro (ht0.trans ht) (show w'.heap[w.heap.size]? = some (.cells #[.int .i64 0, .int .i64 0, .int .i64 0, .int .i64 0] 38) by rw [ht.block _ (lt_of_heap hb0) (by simp)]; exact hb0))
  have HW := hide (word_some v l t x w0 hl (hv.turned ht0) h)
  have HP := hide (fun w => parts_yes x w hx)
  have HS := hide (fun w' (ht : Turned [] w0 w') => sizes_any ao len cap cs (partC x) (partL x) w' (part_in64 x) (hc.turned (ht0.trans ht)))
  have HV := hide (fun w' (ht : Turned [] w0 w') => len_amem v l w' (hv.turned (ht0.trans ht)))
  have hz := sizeOf_ok hs
  have hti : 0 ≤ t ∧ t < l.length := by obtain ⟨i, rfl, hi, _⟩ := wordAt_some h; omega
  generalize sizeOf cs (partC x) (partL x) = y at *
  obtain ⟨y1, y2⟩ := y
  simp only at hs HS hr hz
  subst hs
  generalize partC x = a at *
  generalize partL x = c at *
  clear h hv ht0 hb0 hx hc
  go_enter Try.func8, Try.ntmps8
  go_wp2_with fail
  rw [← hw0]
  clear hw0
  refine HW.out.mono ?_
  rintro e w1 ⟨rfl, ht1⟩
  have HT1 := hide ht1
  clear ht1 HW
  go_wp2_with fail
  refine (HP.out _).mono ?_
  rintro e w2 ⟨rfl, rfl⟩
  go_wp2_with fail
  refine (HS.out _ HT1.out).mono ?_
  rintro e w3 ⟨rfl, ht3⟩
  have HT3 := hide (HT1.out.trans ht3)
  clear ht3 HT1
  obtain ⟨htE, hbx⟩ := HE.out _ HT3.out
  have x0 := cell_of_heap hbx 0
  have x1 := cell_of_heap hbx 1
  have x2 := cell_of_heap hbx 2
  have x3 := cell_of_heap hbx 3
  have xf := fun i => show World.frozen? w3 ⟨w.heap.size, i, none⟩ = false by simp [World.frozen?, hbx]
  have xf0 := xf 0
  have xf1 := xf 1
  have xf2 := xf 2
  have xf3 := xf 3
  have HTE := hide htE
  clear hbx xf htE HE
  go_wp2_with (go_at_call 24; refine (HV.out _ HT3.out).mono ?_; rintro e w' ⟨rfl, rfl⟩)
  refine bodyPost_ret (v := .tuple #[.agg #[.int .i64 0, .int .i64 0, .int .i64 0, .int .i64 0], .int .i64 13]) (by simp [results, Try.results8, go_sem, x0, x1, x2, x3]) rfl ⟨rfl, ?_⟩
  first | exact HTE.out | exact (((HTE.out.setCell (.inr (Nat.le_refl _)) _).setCell (.inr (Nat.le_refl _)) _).setCell (.inr (Nat.le_refl _)) _).setCell (.inr (Nat.le_refl _)) _

/-- Whatever stands there. -/
theorem read_none (v : Value) (l : List Int) (ao : Option Addr) (len cap : Nat) (cs : List Cls) (t : Int) (w : World) (hl : l.length ≤ 65536) (hv : AnyMem w v l) (hc : CRd w ao len cs) (ht : In64 t) (h : readOf l cs t = none) :
    Calls Try.prog 8 #[v, .slice ao len cap, .int .i64 t] w fun e w' => e = .returned (.tuple #[.agg #[.int .i64 0, .int .i64 0, .int .i64 0, .int .i64 0], .int .i64 (readE l cs t)]) ∧ Turned [] w w' := by
  unfold readE
  rw [h]
  cases hx : wordAt l t with
  | none =>
    simp only [Option.isNone_none, if_true]
    exact read_out v l ao len cap t w hl hv ht hx
  | some x =>
    simp only [Option.isNone_some, Option.isNone_none, if_true]
    rw [if_neg (by simp)]
    unfold readOf at h
    simp only [hx] at h
    by_cases h1 : isHead x = true
    · by_cases h2 : (sizeOf cs (partC x) (partL x)).2 = 0
      · refine read_room v l ao len cap cs t x w hl hv hc hx h1 h2 ?_
        by_cases h3 : (sizeOf cs (partC x) (partL x)).1 ≤ l.length - t
        · rw [if_pos ⟨h1, h2, h3⟩] at h
          cases h
        · omega
      · exact read_size v l ao len cap cs t x w hl hv hc hx h1 h2
    · exact read_word v l ao len cap t x w hl hv hx (by simpa using h1)
end Go.Proofs.Ythigmechfcndcaa
