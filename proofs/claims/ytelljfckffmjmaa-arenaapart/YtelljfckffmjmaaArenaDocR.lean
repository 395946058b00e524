/-
  (Text by ArenaDoc.gen.py.) The document's own Read.
-/
import Derived.Test.YtelljfckffmjmaaArenaDoc
namespace Go.Proofs.Ytelljfckffmjmaa
open Go.RowKit
set_option linter.unusedVariables false

theorem rread_out (dc q : Nat) (l : List Int) (ao : Option Addr) (len cap : Nat) (cs : List Cls) (t : Int) (w : World) (hl : l.length ≤ 65536) (hd : Doc w q l) (hc : CRd w ao len cs) (h : t < 0 ∨ (l.length : Int) ≤ t) :
    Calls Try.prog 30 #[.slice (some ⟨q, 0, none⟩) l.length dc, .slice ao len cap, .int .i64 t] w fun e w' => e = .returned (.tuple #[.agg #[.int .i64 0, .int .i64 0, .int .i64 0, .int .i64 0], .int .i64 10]) ∧ Turned [] w w' := by
  obtain ⟨w0, hw0⟩ : ∃ w0, w0 = w.alloc (.cells #[.int .i64 0, .int .i64 0, .int .i64 0, .int .i64 0] 80) := ⟨_, rfl⟩
  have ht0 : Turned [] w w0 := by rw [hw0]; exact (Turned.refl [] w).alloc _
  have hb0 : w0.heap[w.heap.size]? = some (.cells #[.int .i64 0, .int .i64 0, .int .i64 0, .int .i64 0] 80) := by rw [hw0]; exact heap_alloc_new _ _
  have HE := hide (fun w' (ht : Turned [] w0 w') => And.intro (ht0.trans ht) (show w'.heap[w.heap.size]? = some (.cells #[.int .i64 0, .int .i64 0, .int .i64 0, .int .i64 0] 80) by rw [ht.block _ (lt_of_heap hb0) (by simp)]; exact hb0))
  have HTW := hide (Turned.refl [] w0)
  obtain ⟨htE, hbx⟩ := HE.out w0 HTW.out
  have x0 := cell_of_heap hbx 0
  have x1 := cell_of_heap hbx 1
  have x2 := cell_of_heap hbx 2
  have x3 := cell_of_heap hbx 3
  have xf := fun i => show World.frozen? w0 ⟨w.heap.size, i, none⟩ = false by simp [World.frozen?, hbx]
  have xf0 := xf 0
  have xf1 := xf 1
  have xf2 := xf 2
  have xf3 := xf 3
  have HTE := hide htE
  clear hbx xf htE HE
  clear ht0 hb0 hd hc
  by_cases hn : t < 0
  · clear h
    go_enter Try.func30, Try.ntmps30
    go_wp2_with fail
    rw [← hw0]
    clear hw0
    refine bodyPost_ret (v := .tuple #[.agg #[.int .i64 0, .int .i64 0, .int .i64 0, .int .i64 0], .int .i64 10]) (by simp [results, Try.results30, go_sem, x0, x1, x2, x3]) rfl ⟨rfl, ?_⟩
    first | exact HTE.out | exact (((HTE.out.setCell (.inr (Nat.le_refl _)) _).setCell (.inr (Nat.le_refl _)) _).setCell (.inr (Nat.le_refl _)) _).setCell (.inr (Nat.le_refl _)) _
  · have h2 : (l.length : Int) ≤ t := by omega
    clear h
    go_enter Try.func30, Try.ntmps30
    go_wp2_with fail
    rw [← hw0]
    clear hw0
    refine bodyPost_ret (v := .tuple #[.agg #[.int .i64 0, .int .i64 0, .int .i64 0, .int .i64 0], .int .i64 10]) (by simp [results, Try.results30, go_sem, x0, x1, x2, x3]) rfl ⟨rfl, ?_⟩
    first | exact HTE.out | exact (((HTE.out.setCell (.inr (Nat.le_refl _)) _).setCell (.inr (Nat.le_refl _)) _).setCell (.inr (Nat.le_refl _)) _).setCell (.inr (Nat.le_refl _)) _

theorem rread_some (dc q : Nat) (l : List Int) (ao : Option Addr) (len cap : Nat) (cs : List Cls) (t : Int) (b : Blk) (w : World) (hl : l.length ≤ 65536) (hd : Doc w q l) (hc : CRd w ao len cs) (h : readOf l cs t = some b) :
    Calls Try.prog 30 #[.slice (some ⟨q, 0, none⟩) l.length dc, .slice ao len cap, .int .i64 t] w fun e w' => e = .returned (.tuple #[.agg #[.int .i64 b.t, .int .i64 b.k, .int .i64 b.n, .int .i64 b.s], .int .i64 0]) ∧ Turned [] w w' := by
  obtain ⟨h1, h2, h3, h4, h5, h6, h7, x, h8, h9, h10, h11⟩ := readOf_some h
  obtain ⟨w0, hw0⟩ : ∃ w0, w0 = w.alloc (.cells #[.int .i64 0, .int .i64 0, .int .i64 0, .int .i64 0] 80) := ⟨_, rfl⟩
  have ht0 : Turned [] w w0 := by rw [hw0]; exact (Turned.refl [] w).alloc _
  have hb0 : w0.heap[w.heap.size]? = some (.cells #[.int .i64 0, .int .i64 0, .int .i64 0, .int .i64 0] 80) := by rw [hw0]; exact heap_alloc_new _ _
  have HE := hide (fun w' (ht : Turned [] w0 w') => And.intro (ht0.trans ht) (show w'.heap[w.heap.size]? = some (.cells #[.int .i64 0, .int .i64 0, .int .i64 0, .int .i64 0] 80) by rw [ht.block _ (lt_of_heap hb0) (by simp)]; exact hb0))
  obtain ⟨tn, rfl, htl, hwx⟩ := wordAt_some h8
  have hx0 := (hd.turned ht0 (by simp)).word hwx
  have htli : (tn : Int) < (l.length : Int) := by omega
  have hxw := hd.word hwx
  have hxa := hx0
  rw [hw0] at hxa
  have hq1 : ¬ (q = w.heap.size) := by have := hd.ltq; omega
  have hq2 : ¬ (w.heap.size = q) := by have := hd.ltq; omega
  have HP := hide (fun w => rparts_yes x w h9)
  have HS := hide (rsize_any ao len cap cs b.k b.n w0 (by rw [h11]; exact part_in64 x) (hc.turned ht0))
  rw [← h10, ← h11] at HP
  rw [h6, ← h7] at HS
  obtain ⟨bt, bk, bn, bs⟩ := b
  simp only at *
  subst h1
  have hr : ¬ ((l.length : Int) - (tn : Int) < bs) := by omega
  clear h h6 h7 h8 h9 h10 h11 hc ht0 hb0 hd hwx
  go_enter Try.func30, Try.ntmps30
  go_wp2_with fail
  rw [← hw0]
  clear hw0
  refine (HP.out _).mono ?_
  rintro e w2 ⟨rfl, hw2⟩
  subst hw2
  clear hx0 hxw hxa hq1 hq2
  go_wp2_with fail
  refine HS.out.mono ?_
  rintro e w3 ⟨rfl, ht3⟩
  have HTW := hide ht3
  clear ht3 HS HP
  obtain ⟨htE, hbx⟩ := HE.out w3 HTW.out
  have x0 := cell_of_heap hbx 0
  have x1 := cell_of_heap hbx 1
  have x2 := cell_of_heap hbx 2
  have x3 := cell_of_heap hbx 3
  have xf := fun i => show World.frozen? w3 ⟨w.heap.size, i, none⟩ = false by simp [World.frozen?, hbx]
  have xf0 := xf 0
  have xf1 := xf 1
  have xf2 := xf 2
  have xf3 := xf 3
  have HTE := hide htE
  clear hbx xf htE HE
  go_wp2_with fail
  refine bodyPost_ret (v := .tuple #[.agg #[.int .i64 tn, .int .i64 bk, .int .i64 bn, .int .i64 bs], .int .i64 0]) (by simp [results, Try.results30, go_sem, x0, x1, x2, x3]) rfl ⟨rfl, ?_⟩
  first | exact HTE.out | exact (((HTE.out.setCell (.inr (Nat.le_refl _)) _).setCell (.inr (Nat.le_refl _)) _).setCell (.inr (Nat.le_refl _)) _).setCell (.inr (Nat.le_refl _)) _

theorem rread_word (dc q : Nat) (l : List Int) (ao : Option Addr) (len cap : Nat) (cs : List Cls) (t x : Int) (w : World) (hl : l.length ≤ 65536) (hd : Doc w q l) (hc : CRd w ao len cs) (h : wordAt l t = some x) (hx : isHead x = false) :
    Calls Try.prog 30 #[.slice (some ⟨q, 0, none⟩) l.length dc, .slice ao len cap, .int .i64 t] w fun e w' => e = .returned (.tuple #[.agg #[.int .i64 0, .int .i64 0, .int .i64 0, .int .i64 0], .int .i64 13]) ∧ Turned [] w w' := by
  obtain ⟨w0, hw0⟩ : ∃ w0, w0 = w.alloc (.cells #[.int .i64 0, .int .i64 0, .int .i64 0, .int .i64 0] 80) := ⟨_, rfl⟩
  have ht0 : Turned [] w w0 := by rw [hw0]; exact (Turned.refl [] w).alloc _
  have hb0 : w0.heap[w.heap.size]? = some (.cells #[.int .i64 0, .int .i64 0, .int .i64 0, .int .i64 0] 80) := by rw [hw0]; exact heap_alloc_new _ _
  have HE := hide (fun w' (ht : Turned [] w0 w') => And.intro (ht0.trans ht) (show w'.heap[w.heap.size]? = some (.cells #[.int .i64 0, .int .i64 0, .int .i64 0, .int .i64 0] 80) by rw [ht.block _ (lt_of_heap hb0) (by simp)]; exact hb0))
  obtain ⟨tn, rfl, htl, hwx⟩ := wordAt_some h
  have hx0 := (hd.turned ht0 (by simp)).word hwx
  have htli : (tn : Int) < (l.length : Int) := by omega
  have hxw := hd.word hwx
  have hxa := hx0
  rw [hw0] at hxa
  have hq1 : ¬ (q = w.heap.size) := by have := hd.ltq; omega
  have hq2 : ¬ (w.heap.size = q) := by have := hd.ltq; omega
  have HP := hide (fun w => rparts_no x w hx)
  have HS := hide (rsize_any ao len cap cs 0 0 w0 (by unfold In64; omega) (hc.turned ht0))
  generalize sizeOf cs 0 0 = y at *
  obtain ⟨y1, y2⟩ := y
  simp only at HS
  clear h hx hc ht0 hb0 hd hwx
  go_enter Try.func30, Try.ntmps30
  go_wp2_with fail
  rw [← hw0]
  clear hw0
  refine (HP.out _).mono ?_
  rintro e w2 ⟨rfl, hw2⟩
  subst hw2
  clear hx0 hxw hxa hq1 hq2
  go_wp2_with fail
  refine HS.out.mono ?_
  rintro e w3 ⟨rfl, ht3⟩
  have HTW := hide ht3
  clear ht3 HS HP
  obtain ⟨htE, hbx⟩ := HE.out w3 HTW.out
  have x0 := cell_of_heap hbx 0
  have x1 := cell_of_heap hbx 1
  have x2 := cell_of_heap hbx 2
  have x3 := cell_of_heap hbx 3
  have xf := fun i => show World.frozen? w3 ⟨w.heap.size, i, none⟩ = false by simp [World.frozen?, hbx]
  have xf0 := xf 0
  have xf1 := xf 1
  have xf2 := xf 2
  have xf3 := xf 3
  have HTE := hide htE
  clear hbx xf htE HE
  go_wp2_with fail
  refine bodyPost_ret (v := .tuple #[.agg #[.int .i64 0, .int .i64 0, .int .i64 0, .int .i64 0], .int .i64 13]) (by simp [results, Try.results30, go_sem, x0, x1, x2, x3]) rfl ⟨rfl, ?_⟩
  first | exact HTE.out | exact (((HTE.out.setCell (.inr (Nat.le_refl _)) _).setCell (.inr (Nat.le_refl _)) _).setCell (.inr (Nat.le_refl _)) _).setCell (.inr (Nat.le_refl _)) _

theorem rread_size (dc q : Nat) (l : List Int) (ao : Option Addr) (len cap : Nat) (cs : List Cls) (t x : Int) (w : World) (hl : l.length ≤ 65536) (hd : Doc w q l) (hc : CRd w ao len cs) (h : wordAt l t = some x) (hx : isHead x = true) (hs : ¬ (sizeOf cs (partC x) (partL x)).2 = 0) :
    Calls Try.prog 30 #[.slice (some ⟨q, 0, none⟩) l.length dc, .slice ao len cap, .int .i64 t] w fun e w' => e = .returned (.tuple #[.agg #[.int .i64 0, .int .i64 0, .int .i64 0, .int .i64 0], .int .i64 13]) ∧ Turned [] w w' := by
  obtain ⟨w0, hw0⟩ : ∃ w0, w0 = w.alloc (.cells #[.int .i64 0, .int .i64 0, .int .i64 0, .int .i64 0] 80) := ⟨_, rfl⟩
  have ht0 : Turned [] w w0 := by rw [hw0]; exact (Turned.refl [] w).alloc _
  have hb0 : w0.heap[w.heap.size]? = some (.cells #[.int .i64 0, .int .i64 0, .int .i64 0, .int .i64 0] 80) := by rw [hw0]; exact heap_alloc_new _ _
  have HE := hide (fun w' (ht : Turned [] w0 w') => And.intro (ht0.trans ht) (show w'.heap[w.heap.size]? = some (.cells #[.int .i64 0, .int .i64 0, .int .i64 0, .int .i64 0] 80) by rw [ht.block _ (lt_of_heap hb0) (by simp)]; exact hb0))
  obtain ⟨tn, rfl, htl, hwx⟩ := wordAt_some h
  have hx0 := (hd.turned ht0 (by simp)).word hwx
  have htli : (tn : Int) < (l.length : Int) := by omega
  have hxw := hd.word hwx
  have hxa := hx0
  rw [hw0] at hxa
  have hq1 : ¬ (q = w.heap.size) := by have := hd.ltq; omega
  have hq2 : ¬ (w.heap.size = q) := by have := hd.ltq; omega
  have HP := hide (fun w => rparts_yes x w hx)
  have HS := hide (rsize_any ao len cap cs (partC x) (partL x) w0 (part_in64 x) (hc.turned ht0))
  generalize sizeOf cs (partC x) (partL x) = y at *
  obtain ⟨y1, y2⟩ := y
  simp only at hs HS
  generalize partC x = a at *
  generalize partL x = c at *
  clear h hx hc ht0 hb0 hd hwx
  go_enter Try.func30, Try.ntmps30
  go_wp2_with fail
  rw [← hw0]
  clear hw0
  refine (HP.out _).mono ?_
  rintro e w2 ⟨rfl, hw2⟩
  subst hw2
  clear hx0 hxw hxa hq1 hq2
  go_wp2_with fail
  refine HS.out.mono ?_
  rintro e w3 ⟨rfl, ht3⟩
  have HTW := hide ht3
  clear ht3 HS HP
  obtain ⟨htE, hbx⟩ := HE.out w3 HTW.out
  have x0 := cell_of_heap hbx 0
  have x1 := cell_of_heap hbx 1
  have x2 := cell_of_heap hbx 2
  have x3 := cell_of_heap hbx 3
  have xf := fun i => show World.frozen? w3 ⟨w.heap.size, i, none⟩ = false by simp [World.frozen?, hbx]
  have xf0 := xf 0
  have xf1 := xf 1
  have xf2 := xf 2
  have xf3 := xf 3
  have HTE := hide htE
  clear hbx xf htE HE
  go_wp2_with fail
  refine bodyPost_ret (v := .tuple #[.agg #[.int .i64 0, .int .i64 0, .int .i64 0, .int .i64 0], .int .i64 13]) (by simp [results, Try.results30, go_sem, x0, x1, x2, x3]) rfl ⟨rfl, ?_⟩
  first | exact HTE.out | exact (((HTE.out.setCell (.inr (Nat.le_refl _)) _).setCell (.inr (Nat.le_refl _)) _).setCell (.inr (Nat.le_refl _)) _).setCell (.inr (Nat.le_refl _)) _

theorem rread_room (dc q : Nat) (l : List Int) (ao : Option Addr) (len cap : Nat) (cs : List Cls) (t x : Int) (w : World) (hl : l.length ≤ 65536) (hd : Doc w q l) (hc : CRd w ao len cs) (h : wordAt l t = some x) (hx : isHead x = true) (hs : (sizeOf cs (partC x) (partL x)).2 = 0) (hr : l.length - t < (sizeOf cs (partC x) (partL x)).1) :
    Calls Try.prog 30 #[.slice (some ⟨q, 0, none⟩) l.length dc, .slice ao len cap, .int .i64 t] w fun e w' => e = .returned (.tuple #[.agg #[.int .i64 0, .int .i64 0, .int .i64 0, .int .i64 0], .int .i64 13]) ∧ Turned [] w w' := by
  obtain ⟨w0, hw0⟩ : ∃ w0, w0 = w.alloc (.cells #[.int .i64 0, .int .i64 0, .int .i64 0, .int .i64 0] 80) := ⟨_, rfl⟩
  have ht0 : Turned [] w w0 := by rw [hw0]; exact (Turned.refl [] w).alloc _
  have hb0 : w0.heap[w.heap.size]? = some (.cells #[.int .i64 0, .int .i64 0, .int .i64 0, .int .i64 0] 80) := by rw [hw0]; exact heap_alloc_new _ _
  have HE := hide (fun w' (ht : Turned [] w0 w') => And.intro (ht0.trans ht) (show w'.heap[w.heap.size]? = some (.cells #[.int .i64 0, .int .i64 0, .int .i64 0, .int .i64 0] 80) by rw [ht.block _ (lt_of_heap hb0) (by simp)]; exact hb0))
  obtain ⟨tn, rfl, htl, hwx⟩ := wordAt_some h
  have hx0 := (hd.turned ht0 (by simp)).word hwx
  have htli : (tn : Int) < (l.length : Int) := by omega
  have hxw := hd.word hwx
  have hxa := hx0
  rw [hw0] at hxa
  have hq1 : ¬ (q = w.heap.size) := by have := hd.ltq; omega
  have hq2 : ¬ (w.heap.size = q) := by have := hd.ltq; omega
  have HP := hide (fun w => rparts_yes x w hx)
  have HS := hide (rsize_any ao len cap cs (partC x) (partL x) w0 (part_in64 x) (hc.turned ht0))
  have hz := sizeOf_ok hs
  generalize sizeOf cs (partC x) (partL x) = y at *
  obtain ⟨y1, y2⟩ := y
  simp only at hs HS hr hz
  subst hs
  generalize partC x = a at *
  generalize partL x = c at *
  clear h hx hc ht0 hb0 hd hwx
  go_enter Try.func30, Try.ntmps30
  go_wp2_with fail
  rw [← hw0]
  clear hw0
  refine (HP.out _).mono ?_
  rintro e w2 ⟨rfl, hw2⟩
  subst hw2
  clear hx0 hxw hxa hq1 hq2
  go_wp2_with fail
  refine HS.out.mono ?_
  rintro e w3 ⟨rfl, ht3⟩
  have HTW := hide ht3
  clear ht3 HS HP
  obtain ⟨htE, hbx⟩ := HE.out w3 HTW.out
  have x0 := cell_of_heap hbx 0
  have x1 := cell_of_heap hbx 1
  have x2 := cell_of_heap hbx 2
  have x3 := cell_of_heap hbx 3
  have xf := fun i => show World.frozen? w3 ⟨w.heap.size, i, none⟩ = false by simp [World.frozen?, hbx]
  have xf0 := xf 0
  have xf1 := xf 1
  have xf2 := xf 2
  have xf3 := xf 3
  have HTE := hide htE
  clear hbx xf htE HE
  go_wp2_with fail
  refine bodyPost_ret (v := .tuple #[.agg #[.int .i64 0, .int .i64 0, .int .i64 0, .int .i64 0], .int .i64 13]) (by simp [results, Try.results30, go_sem, x0, x1, x2, x3]) rfl ⟨rfl, ?_⟩
  first | exact HTE.out | exact (((HTE.out.setCell (.inr (Nat.le_refl _)) _).setCell (.inr (Nat.le_refl _)) _).setCell (.inr (Nat.le_refl _)) _).setCell (.inr (Nat.le_refl _)) _

/-- Whatever stands there. -/
theorem rread_none (dc q : Nat) (l : List Int) (ao : Option Addr) (len cap : Nat) (cs : List Cls) (t : Int) (w : World) (hl : l.length ≤ 65536) (hd : Doc w q l) (hc : CRd w ao len cs) (h : readOf l cs t = none) :
    Calls Try.prog 30 #[.slice (some ⟨q, 0, none⟩) l.length dc, .slice ao len cap, .int .i64 t] w fun e w' => e = .returned (.tuple #[.agg #[.int .i64 0, .int .i64 0, .int .i64 0, .int .i64 0], .int .i64 (readE l cs t)]) ∧ Turned [] w w' := by
  unfold readE
  rw [h]
  cases hx : wordAt l t with
  | none =>
    simp only [Option.isNone_none, if_true]
    exact rread_out dc q l ao len cap cs t w hl hd hc (wordAt_none hx)
  | some x =>
    simp only [Option.isNone_some, Option.isNone_none, if_true]
    rw [if_neg (by simp)]
    unfold readOf at h
    simp only [hx] at h
    by_cases h1 : isHead x = true
    · by_cases h2 : (sizeOf cs (partC x) (partL x)).2 = 0
      · refine rread_room dc q l ao len cap cs t x w hl hd hc hx h1 h2 ?_
        by_cases h3 : (sizeOf cs (partC x) (partL x)).1 ≤ l.length - t
        · rw [if_pos ⟨h1, h2, h3⟩] at h
          cases h
        · omega
      · exact rread_size dc q l ao len cap cs t x w hl hd hc hx h1 h2
    · exact rread_word dc q l ao len cap cs t x w hl hd hc hx (by simpa using h1)
end Go.Proofs.Ytelljfckffmjmaa
