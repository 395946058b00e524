/-
  Texts of the proof, several in one: BlocksDoc, BlocksDocR.
-/
import Derived.Test.YtgbclfhgpkmcnaaGreatDoorPack14
import Derived.Test.YtgbclfhgpkmcnaaGreatDoorPack12
import Derived.Deep.QuietTactic
import Derived.BigQuiet
/-
  The document's own words (a slice of int64 in a block of its own): Lay, Fill and Read of package ballastref04.
-/
namespace Go.Proofs.YtgbclfhgpkmcnaaGreatDoor
open Go.RowKit
set_option linter.unusedVariables false

/-- The document's own words: block q. -/
structure Doc (w : World) (q : Nat) (l : List Int) : Prop where
  row : w.heap[q]? = some (.cells (l.map (Value.int .i64)).toArray 2)

section
variable {w : World} {q : Nat} {l : List Int}
theorem Doc.fw (h : Doc w q l) (i : Nat) : w.frozen? ⟨q, i, none⟩ = false := by
  simp [World.frozen?, h.row]
theorem Doc.word (h : Doc w q l) {i : Nat} {x : Int} (hx : l[i]? = some x) : w.cell? ⟨q, i, none⟩ = some (.int .i64 x) := by
  simp [World.cell?, h.row, hx]
theorem Doc.ltq (h : Doc w q l) : q < w.heap.size := lt_of_heap h.row
theorem Doc.turned (h : Doc w q l) {S : List Nat} {w' : World} (t : Turned S w w') (hq : q ∉ S) : Doc w' q l :=
  ⟨by rw [t.block q h.ltq hq]; exact h.row⟩
theorem Doc.store (h : Doc w q l) (k : Nat) (v : Int) : Doc (w.setCell ⟨q, k, none⟩ (.int .i64 v)) q (l.set k v) :=
  ⟨by rw [heap_setCell_at _ _ _ _ _ _ h.row, List.map_set]; simp⟩
theorem Doc.ird (h : Doc w q l) (hl : l.length ≤ 65536) (hi : AllIn l) : IRd w (some ⟨q, 0, none⟩) l.length l :=
  ⟨rfl, by omega, fun i x hx => ⟨q, 0, rfl, by rw [Nat.zero_add]; exact h.word hx⟩, hi⟩
end

theorem over_more (l : List Int) (t : Nat) (m : List Int) (k : Nat) (x : Int) (h : t + m.length ≤ l.length) (hx : m[k]? = some x) : over l t (m.take (k + 1)) = (over l t (m.take k)).set (t + k) x := by
  have hk : k < m.length := (List.getElem?_eq_some_iff.1 hx).1
  apply List.ext_getElem?
  intro i
  rw [over_get _ _ _ (by simp; omega)]
  by_cases hi : i = t + k
  · subst hi
    rw [if_pos (by simp; omega), List.getElem?_take_of_lt (by omega), show t + k - t = k by omega, List.getElem?_set_self (by rw [over_length _ _ _ (by simp; omega)]; omega), hx]
  · rw [List.getElem?_set_ne (by omega), over_get _ _ _ (by simp; omega)]
    simp only [List.length_take]
    by_cases h1 : t ≤ i ∧ i < t + k
    · rw [if_pos (by omega), if_pos (by omega), List.getElem?_take_of_lt (by omega), List.getElem?_take_of_lt (by omega)]
    · rw [if_neg (by omega), if_neg (by omega)]

theorem laid_at (k n : Int) (m j : Nat) (h1 : 1 ≤ j) (h2 : j < m) : (laid k n m)[j]? = some 0 := by
  obtain ⟨i, rfl⟩ : ∃ i, j = i + 1 := ⟨j - 1, by omega⟩
  unfold laid
  rw [List.getElem?_cons_succ, List.getElem?_replicate, if_pos (by omega)]

theorem rlay_fits (q : Nat) (l : List Int) (ao : Option Addr) (len cap : Nat) (cs : List Cls) (t : Nat) (k n : Int) (m : Nat) (w : World) (hl : l.length ≤ 65536) (hn : In64 n) (h : Doc w q l) (hc : CRd w ao len cs) (he : (sizeOf cs k n).2 = 0) (hm : (sizeOf cs k n).1 = m) (h1 : 1 ≤ m) (hf : t + m ≤ l.length) :
    Calls Tryz.prog 57 #[.slice (some ⟨q, 0, none⟩) l.length l.length, .slice ao len cap, .int .i64 t, .int .i64 k, .int .i64 n] w fun e w' => e = .returned (.tuple #[.int .i64 m, .int .i64 0]) ∧ Doc w' q (over l t (laid k n m)) ∧ Turned [q] w w' := by
  have HS := hide (rsize_any ao len cap cs k n w hn hc)
  rw [he, hm] at HS
  have HH := hide (fun w => rheader_any k n w)
  have HD := hide h
  have hll := laid_length k n m h1
  have HO := hide (fun j x hx => over_more l t (laid k n m) j x (by rw [hll]; exact hf) hx)
  have HOl := hide (fun j => over_length l t ((laid k n m).take j) (by rw [List.length_take, hll]; omega))
  have HZ := hide (fun j a b => laid_at k n m j a b)
  have H0 : Hid ((laid k n m)[0]? = some (headOf k n)) := rfl
  have HT : Hid ((laid k n m).take m = laid k n m) := List.take_of_length_le (by rw [hll]; exact Nat.le_refl _)
  obtain ⟨x0, hx0⟩ : ∃ x, l[t]? = some x := ⟨_, List.getElem?_eq_getElem (by omega)⟩
  have HX := hide hx0
  have e0 : ¬ ((l.length : Int) < (t : Int)) := by omega
  have e1 : ¬ ((l.length : Int) - (t : Int) < (m : Int)) := by omega
  have e2 : (t : Int) < (l.length : Int) := by omega
  have d0 : decide ((t : Int) < 0) = false := decide_eq_false (by omega)
  have d1 : decide ((l.length : Int) < (t : Int)) = false := decide_eq_false (by omega)
  have d2 : decide (l.length < t) = false := decide_eq_false (by omega)
  have d3 : decide ((l.length : Int) - (t : Int) < (m : Int)) = false := decide_eq_false (by omega)
  generalize laid k n m = lay at *
  generalize headOf k n = H at *
  clear he hm hn hc h hx0 hll
  go_enter Tryz.func57, Tryz.ntmps57
  go_wp2_with fail
  refine HS.out.mono ?_
  rintro e w1 ⟨rfl, ht1⟩
  have HD1 := hide (HD.out.turned ht1 (by simp))
  have HT1 := hide (ht1.mono (T := [q]) (by simp))
  have c0 := HD1.out.word HX.out
  have f0 := HD1.out.fw t
  clear ht1 HS HD
  go_wp2_with (go_at_call 70; refine (HH.out _).mono ?_; rintro e w2 ⟨rfl, rfl⟩)
  have HD2 : Hid (Doc (w2.setCell ⟨q, t, none⟩ (.int .i64 H)) q (over l t (lay.take 1))) := by
    have := HO.out 0 H H0.out
    show Doc _ _ _
    rw [this, show over l t (lay.take 0) = l by simp [over]]
    exact HD1.out.store t H
  have HT2 := hide (HT1.out.setCell (p := ⟨q, t, none⟩) (.inl (by simp)) (.int .i64 H))
  clear c0 f0
  go_loopw [14] (fun i wr => ∃ j : Nat, 1 ≤ j ∧ j ≤ m ∧ i = .int .i64 j ∧ Hid (Doc wr q (over l t (lay.take j))) ∧ Hid (Turned [q] w wr)) (fun i _ => m - (intOf i).toNat)
  case atStart => exact ⟨1, Nat.le_refl _, h1, rfl, HD2.out, HT2.out⟩
  case round =>
    obtain ⟨j, hj1, hjm, rfl, HDr, HTr⟩ := hrel
    by_cases hlt : j < m
    · have hlj : ((t : Int) + (j : Int)) < (l.length : Int) := by omega
      have hzz := HZ.out j hj1 hlt
      have HS2 := hide (HO.out j 0 hzz)
      obtain ⟨y, hy⟩ : ∃ y, (over l t (lay.take j))[t + j]? = some y := ⟨_, List.getElem?_eq_getElem (by rw [HOl.out]; omega)⟩
      have cj := HDr.out.word hy
      have fj := HDr.out.fw (t + j)
      clear hy hzz
      go_wp2_with fail
      go_roundw
      case rel => exact ⟨j + 1, by omega, by omega, by go_num, by show Doc _ _ _; rw [HS2.out]; exact HDr.out.store _ _, HTr.out.setCell (.inl (by simp)) _⟩
      case measure => simp [intOf]; omega
    · obtain rfl : j = m := by omega
      go_wp2_with fail
      go_ret2
      exact ⟨rfl, by have := HDr.out; rw [HT.out] at this; exact this, HTr.out⟩

theorem rlay_doc (q : Nat) (l : List Int) (ao : Option Addr) (len cap : Nat) (cs : List Cls) (t k n : Int) (w : World) (hl : l.length ≤ 65536) (ht : In64 t) (hn : In64 n) (h : Doc w q l) (hc : CRd w ao len cs) :
    Calls Tryz.prog 57 #[.slice (some ⟨q, 0, none⟩) l.length l.length, .slice ao len cap, .int .i64 t, .int .i64 k, .int .i64 n] w fun e w' => e = .returned (.tuple #[.int .i64 (layS l cs t k n), .int .i64 (layE l cs t k n)]) ∧ Doc w' q (layL l cs t k n) ∧ Turned [q] w w' := by
  have HS := hide (rsize_any ao len cap cs k n w hn hc)
  by_cases he : (sizeOf cs k n).2 = 0
  · have hs := sizeOf_ok he
    obtain ⟨m, hm⟩ : ∃ m : Nat, (sizeOf cs k n).1 = m := ⟨_, (Int.toNat_of_nonneg (by omega)).symm⟩
    have h1 : 1 ≤ m := by omega
    have hll := laid_length k n m h1
    rw [layS_eq l cs t k n m he hm h1, show layE l cs t k n = putE l t (laid k n m) by unfold layE; rw [if_pos he, hm]; rfl, show layL l cs t k n = putL l t (laid k n m) by unfold layL; rw [if_pos he, hm]; rfl]
    by_cases hf : 0 ≤ t ∧ t + (m : Int) ≤ l.length
    · obtain ⟨tn, rfl⟩ := Int.eq_ofNat_of_zero_le hf.1
      rw [show putE l tn (laid k n m) = 0 by unfold putE; rw [hll, if_pos hf], if_pos rfl, show putL l tn (laid k n m) = over l tn (laid k n m) by unfold putL; rw [hll, if_pos hf]; rfl]
      exact rlay_fits q l ao len cap cs tn k n m w hl hn h hc he hm h1 (by omega)
    · rw [show putE l t (laid k n m) = 10 by unfold putE; rw [hll, if_neg hf], if_neg (by decide), show putL l t (laid k n m) = l by unfold putL; rw [hll, if_neg hf]]
      rw [he, hm] at HS
      have HD := hide h
      unfold In64 at ht
      have hm2 : m ≤ 65536 := by omega
      clear he hm hn hc h hll hs
      by_cases ha : t < 0
      · clear hf
        go_enter Tryz.func57, Tryz.ntmps57
        go_wp2_with fail
        refine HS.out.mono ?_
        rintro e w1 ⟨rfl, ht1⟩
        have HD1 := hide (HD.out.turned ht1 (by simp))
        have HT1 := hide (ht1.mono (T := [q]) (by simp))
        clear ht1
        go_wp2_with fail
        go_ret2
        exact ⟨rfl, HD1.out, HT1.out⟩
      · by_cases hb : (l.length : Int) < t
        · clear hf
          go_enter Tryz.func57, Tryz.ntmps57
          go_wp2_with fail
          refine HS.out.mono ?_
          rintro e w1 ⟨rfl, ht1⟩
          have HD1 := hide (HD.out.turned ht1 (by simp))
          have HT1 := hide (ht1.mono (T := [q]) (by simp))
          clear ht1
          go_wp2_with fail
          go_ret2
          exact ⟨rfl, HD1.out, HT1.out⟩
        · have hr : (l.length : Int) - t < (m : Int) := by omega
          clear hf
          go_enter Tryz.func57, Tryz.ntmps57
          go_wp2_with fail
          refine HS.out.mono ?_
          rintro e w1 ⟨rfl, ht1⟩
          have HD1 := hide (HD.out.turned ht1 (by simp))
          have HT1 := hide (ht1.mono (T := [q]) (by simp))
          clear ht1
          go_wp2_with fail
          go_ret2
          exact ⟨rfl, HD1.out, HT1.out⟩
  · have hb := sizeOf_bad he
    rw [show layS l cs t k n = 0 by unfold layS; rw [if_neg (fun h => he h.1)], show layE l cs t k n = (sizeOf cs k n).2 by unfold layE; rw [if_neg he], show layL l cs t k n = l by unfold layL; rw [if_neg he]]
    rw [hb.1] at HS
    have HD := hide h
    generalize (sizeOf cs k n).2 = E at *
    clear hb hc hn hl h
    go_enter Tryz.func57, Tryz.ntmps57
    go_wp2_with fail
    refine HS.out.mono ?_
    rintro e w1 ⟨rfl, ht1⟩
    have HD1 := hide (HD.out.turned ht1 (by simp))
    have HT1 := hide (ht1.mono (T := [q]) (by simp))
    clear ht1 HS HD
    go_wp2_with fail
    go_ret2
    exact ⟨rfl, HD1.out, HT1.out⟩

theorem rfill_doc (q : Nat) (l : List Int) (f g : Int) (w : World) (hl : l.length ≤ 65536) (h : Doc w q l) :
    Calls Tryz.prog 59 #[.slice (some ⟨q, 0, none⟩) l.length l.length, .int .i64 f, .int .i64 g] w fun e w' => e = .returned (.int .i64 (fillE l f g)) ∧ Doc w' q (fillL l f g) ∧ Turned [q] w w' := by
  have HD := hide h
  by_cases hw : 0 ≤ f ∧ f ≤ g ∧ g ≤ l.length
  · rw [show fillE l f g = 0 by unfold fillE; rw [if_pos hw]]
    by_cases he : f = g
    · subst he
      rw [show fillL l f f = l by unfold fillL; rw [if_neg (by omega)]]
      have hw1 := hw.1
      have hw2 := hw.2.2
      clear h hw
      go_enter Tryz.func59, Tryz.ntmps59
      go_wp2_with fail
      go_ret
      exact ⟨rfl, HD.out, Turned.refl _ _⟩
    · have hz := sizeOf_filler (g - f - 1) [] (by omega)
      have HL := hide (rlay_doc q l none 0 0 [] f 0 (g - f - 1) w hl (by unfold In64; omega) (by unfold In64; omega) h (crd_nil w))
      have eL : layL l [] f 0 (g - f - 1) = fillL l f g := by
        unfold layL fillL
        rw [hz, if_pos rfl, if_pos (by omega), show (1 + (g - f - 1) : Int) = g - f by omega]
      rw [eL] at HL
      generalize layS l [] f 0 (g - f - 1) = S at *
      generalize layE l [] f 0 (g - f - 1) = E at *
      generalize fillL l f g = L at *
      have e1 : wrap64 (wrap64 (g - f) - 1) = g - f - 1 := by unfold wrap64; omega
      have hb : -9223372036854775808 ≤ g - f - 1 ∧ g - f ≤ 9223372036854775807 := by omega
      have hw0 := hw.1
      have hw1 : ¬ (g < f) := by omega
      have hw2 : ¬ ((l.length : Int) < g) := by omega
      have hw3 : f < g := by omega
      clear h hz eL hw
      go_enter Tryz.func59, Tryz.ntmps59
      go_wp2_with fail
      refine HL.out.mono ?_
      rintro e w2 ⟨rfl, hm2, ht2⟩
      have HM2 := hide hm2
      have HT2 := hide ht2
      clear hm2 ht2
      go_wp2_with fail
      go_ret
      exact ⟨rfl, HM2.out, HT2.out⟩
  · rw [show fillE l f g = 10 by unfold fillE; rw [if_neg hw], show fillL l f g = l by unfold fillL; rw [if_neg (by omega)]]
    clear h
    by_cases h1 : f < 0
    · clear hw
      go_enter Tryz.func59, Tryz.ntmps59
      go_wp2_with fail
      go_ret
      exact ⟨rfl, HD.out, Turned.refl _ _⟩
    · by_cases h2 : g < f
      · clear hw
        go_enter Tryz.func59, Tryz.ntmps59
        go_wp2_with fail
        go_ret
        exact ⟨rfl, HD.out, Turned.refl _ _⟩
      · have h3 : (l.length : Int) < g := by omega
        clear hw
        go_enter Tryz.func59, Tryz.ntmps59
        go_wp2_with fail
        go_ret
        exact ⟨rfl, HD.out, Turned.refl _ _⟩
end Go.Proofs.YtgbclfhgpkmcnaaGreatDoor

/-
  The document's own Read.
-/
namespace Go.Proofs.YtgbclfhgpkmcnaaGreatDoor
open Go.RowKit
set_option linter.unusedVariables false

theorem rread_out (q : Nat) (l : List Int) (ao : Option Addr) (len cap : Nat) (cs : List Cls) (t : Int) (w : World) (hl : l.length ≤ 65536) (hd : Doc w q l) (hc : CRd w ao len cs) (h : t < 0 ∨ (l.length : Int) ≤ t) :
    Calls Tryz.prog 37 #[.slice (some ⟨q, 0, none⟩) l.length l.length, .slice ao len cap, .int .i64 t] w fun e w' => e = .returned (.tuple #[.agg #[.int .i64 0, .int .i64 0, .int .i64 0, .int .i64 0], .int .i64 10]) ∧ Turned [] w w' := by
  obtain ⟨w0, hw0⟩ : ∃ w0, w0 = w.alloc (.cells #[.int .i64 0, .int .i64 0, .int .i64 0, .int .i64 0] 54) := ⟨_, rfl⟩
  have ht0 : Turned [] w w0 := by rw [hw0]; exact (Turned.refl [] w).alloc _
  have hb0 : w0.heap[w.heap.size]? = some (.cells #[.int .i64 0, .int .i64 0, .int .i64 0, .int .i64 0] 54) := by rw [hw0]; exact heap_alloc_new _ _
  have HE := hide (fun w' (ht : Turned [] w0 w') => And.intro (ht0.trans ht) (show w'.heap[w.heap.size]? = some (.cells #[.int .i64 0, .int .i64 0, .int .i64 0, .int .i64 0] 54) by rw [ht.block _ (lt_of_heap hb0) (by simp)]; exact hb0))
  have HTW := hide (Turned.refl [] w0)
  obtain ⟨htE, hbx⟩ := HE.out w0 HTW.out
  have x0 := cell_of_heap hbx 0
  have x1 := cell_of_heap hbx 1
  have x2 := cell_of_heap hbx 2
  have x3 := cell_of_heap hbx 3
  have xf := fun i => show World.frozen? w0 ⟨w.heap.size, i, none⟩ = false by simp [World.frozen?, hbx]
  have xf0 := xf 0
  have xf1 := xf 1
  have xf2 := xf 2
  have xf3 := xf 3
  have HTE := hide htE
  clear hbx xf htE HE
  clear ht0 hb0 hd hc
  by_cases hn : t < 0
  · clear h
    go_enter Tryz.func37, Tryz.ntmps37
    go_wp2_with fail
    rw [← hw0]
    clear hw0
    refine bodyPost_ret (v := .tuple #[.agg #[.int .i64 0, .int .i64 0, .int .i64 0, .int .i64 0], .int .i64 10]) (by simp [results, Tryz.results37, go_sem, x0, x1, x2, x3]) rfl ⟨rfl, ?_⟩
    first | exact HTE.out | exact (((HTE.out.setCell (.inr (Nat.le_refl _)) _).setCell (.inr (Nat.le_refl _)) _).setCell (.inr (Nat.le_refl _)) _).setCell (.inr (Nat.le_refl _)) _
  · have h2 : (l.length : Int) ≤ t := by omega
    clear h
    go_enter Tryz.func37, Tryz.ntmps37
    go_wp2_with fail
    rw [← hw0]
    clear hw0
    refine bodyPost_ret (v := .tuple #[.agg #[.int .i64 0, .int .i64 0, .int .i64 0, .int .i64 0], .int .i64 10]) (by simp [results, Tryz.results37, go_sem, x0, x1, x2, x3]) rfl ⟨rfl, ?_⟩
    first | exact HTE.out | exact (((HTE.out.setCell (.inr (Nat.le_refl _)) _).setCell (.inr (Nat.le_refl _)) _).setCell (.inr (Nat.le_refl _)) _).setCell (.inr (Nat.le_refl _)) _

theorem rread_some (q : Nat) (l : List Int) (ao : Option Addr) (len cap : Nat) (cs : List Cls) (t : Int) (b : Blk) (w : World) (hl : l.length ≤ 65536) (hd : Doc w q l) (hc : CRd w ao len cs) (h : readOf l cs t = some b) :
    Calls Tryz.prog 37 #[.slice (some ⟨q, 0, none⟩) l.length l.length, .slice ao len cap, .int .i64 t] w fun e w' => e = .returned (.tuple #[.agg #[.int .i64 b.t, .int .i64 b.k, .int .i64 b.n, .int .i64 b.s], .int .i64 0]) ∧ Turned [] w w' := by
  obtain ⟨h1, h2, h3, h4, h5, h6, h7, x, h8, h9, h10, h11⟩ := readOf_some h
  obtain ⟨w0, hw0⟩ : ∃ w0, w0 = w.alloc (.cells #[.int .i64 0, .int .i64 0, .int .i64 0, .int .i64 0] 54) := ⟨_, rfl⟩
  have ht0 : Turned [] w w0 := by rw [hw0]; exact (Turned.refl [] w).alloc _
  have hb0 : w0.heap[w.heap.size]? = some (.cells #[.int .i64 0, .int .i64 0, .int .i64 0, .int .i64 0] 54) := by rw [hw0]; exact heap_alloc_new _ _
  have HE := hide (fun w' (ht : Turned [] w0 w') => And.intro (ht0.trans ht) (show w'.heap[w.heap.size]? = some (.cells #[.int .i64 0, .int .i64 0, .int .i64 0, .int .i64 0] 54) by rw [ht.block _ (lt_of_heap hb0) (by simp)]; exact hb0))
  obtain ⟨tn, rfl, htl, hwx⟩ := wordAt_some h8
  have hx0 := (hd.turned ht0 (by simp)).word hwx
  have htli : (tn : Int) < (l.length : Int) := by omega
  have hxw := hd.word hwx
  have hxa := hx0
  rw [hw0] at hxa
  have hq1 : ¬ (q = w.heap.size) := by have := hd.ltq; omega
  have hq2 : ¬ (w.heap.size = q) := by have := hd.ltq; omega
  have HP := hide (fun w => rparts_yes x w h9)
  have HS := hide (rsize_any ao len cap cs b.k b.n w0 (by rw [h11]; exact part_in64 x) (hc.turned ht0))
  rw [← h10, ← h11] at HP
  rw [h6, ← h7] at HS
  obtain ⟨bt, bk, bn, bs⟩ := b
  simp only at *
  subst h1
  have hr : ¬ ((l.length : Int) - (tn : Int) < bs) := by omega
  clear h h6 h7 h8 h9 h10 h11 hc ht0 hb0 hd hwx
  go_enter Tryz.func37, Tryz.ntmps37
  go_wp2_with fail
  rw [← hw0]
  clear hw0
  refine (HP.out _).mono ?_
  rintro e w2 ⟨rfl, hw2⟩
  subst hw2
  clear hx0 hxw hxa hq1 hq2
  go_wp2_with fail
  refine HS.out.mono ?_
  rintro e w3 ⟨rfl, ht3⟩
  have HTW := hide ht3
  clear ht3 HS HP
  obtain ⟨htE, hbx⟩ := HE.out w3 HTW.out
  have x0 := cell_of_heap hbx 0
  have x1 := cell_of_heap hbx 1
  have x2 := cell_of_heap hbx 2
  have x3 := cell_of_heap hbx 3
  have xf := fun i => show World.frozen? w3 ⟨w.heap.size, i, none⟩ = false by simp [World.frozen?, hbx]
  have xf0 := xf 0
  have xf1 := xf 1
  have xf2 := xf 2
  have xf3 := xf 3
  have HTE := hide htE
  clear hbx xf htE HE
  go_wp2_with fail
  refine bodyPost_ret (v := .tuple #[.agg #[.int .i64 tn, .int .i64 bk, .int .i64 bn, .int .i64 bs], .int .i64 0]) (by simp [results, Tryz.results37, go_sem, x0, x1, x2, x3]) rfl ⟨rfl, ?_⟩
  first | exact HTE.out | exact (((HTE.out.setCell (.inr (Nat.le_refl _)) _).setCell (.inr (Nat.le_refl _)) _).setCell (.inr (Nat.le_refl _)) _).setCell (.inr (Nat.le_refl _)) _

theorem rread_word (q : Nat) (l : List Int) (ao : Option Addr) (len cap : Nat) (cs : List Cls) (t x : Int) (w : World) (hl : l.length ≤ 65536) (hd : Doc w q l) (hc : CRd w ao len cs) (h : wordAt l t = some x) (hx : isHead x = false) :
    Calls Tryz.prog 37 #[.slice (some ⟨q, 0, none⟩) l.length l.length, .slice ao len cap, .int .i64 t] w fun e w' => e = .returned (.tuple #[.agg #[.int .i64 0, .int .i64 0, .int .i64 0, .int .i64 0], .int .i64 13]) ∧ Turned [] w w' := by
  obtain ⟨w0, hw0⟩ : ∃ w0, w0 = w.alloc (.cells #[.int .i64 0, .int .i64 0, .int .i64 0, .int .i64 0] 54) := ⟨_, rfl⟩
  have ht0 : Turned [] w w0 := by rw [hw0]; exact (Turned.refl [] w).alloc _
  have hb0 : w0.heap[w.heap.size]? = some (.cells #[.int .i64 0, .int .i64 0, .int .i64 0, .int .i64 0] 54) := by rw [hw0]; exact heap_alloc_new _ _
  have HE := hide (fun w' (ht : Turned [] w0 w') => And.intro (ht0.trans ht) (show w'.heap[w.heap.size]? = some (.cells #[.int .i64 0, .int .i64 0, .int .i64 0, .int .i64 0] 54) by rw [ht.block _ (lt_of_heap hb0) (by simp)]; exact hb0))
  obtain ⟨tn, rfl, htl, hwx⟩ := wordAt_some h
  have hx0 := (hd.turned ht0 (by simp)).word hwx
  have htli : (tn : Int) < (l.length : Int) := by omega
  have hxw := hd.word hwx
  have hxa := hx0
  rw [hw0] at hxa
  have hq1 : ¬ (q = w.heap.size) := by have := hd.ltq; omega
  have hq2 : ¬ (w.heap.size = q) := by have := hd.ltq; omega
  have HP := hide (fun w => rparts_no x w hx)
  have HS := hide (rsize_any ao len cap cs 0 0 w0 (by unfold In64; omega) (hc.turned ht0))
  generalize sizeOf cs 0 0 = y at *
  obtain ⟨y1, y2⟩ := y
  simp only at HS
  clear h hx hc ht0 hb0 hd hwx
  go_enter Tryz.func37, Tryz.ntmps37
  go_wp2_with fail
  rw [← hw0]
  clear hw0
  refine (HP.out _).mono ?_
  rintro e w2 ⟨rfl, hw2⟩
  subst hw2
  clear hx0 hxw hxa hq1 hq2
  go_wp2_with fail
  refine HS.out.mono ?_
  rintro e w3 ⟨rfl, ht3⟩
  have HTW := hide ht3
  clear ht3 HS HP
  obtain ⟨htE, hbx⟩ := HE.out w3 HTW.out
  have x0 := cell_of_heap hbx 0
  have x1 := cell_of_heap hbx 1
  have x2 := cell_of_heap hbx 2
  have x3 := cell_of_heap hbx 3
  have xf := fun i => show World.frozen? w3 ⟨w.heap.size, i, none⟩ = false by simp [World.frozen?, hbx]
  have xf0 := xf 0
  have xf1 := xf 1
  have xf2 := xf 2
  have xf3 := xf 3
  have HTE := hide htE
  clear hbx xf htE HE
  go_wp2_with fail
  refine bodyPost_ret (v := .tuple #[.agg #[.int .i64 0, .int .i64 0, .int .i64 0, .int .i64 0], .int .i64 13]) (by simp [results, Tryz.results37, go_sem, x0, x1, x2, x3]) rfl ⟨rfl, ?_⟩
  first | exact HTE.out | exact (((HTE.out.setCell (.inr (Nat.le_refl _)) _).setCell (.inr (Nat.le_refl _)) _).setCell (.inr (Nat.le_refl _)) _).setCell (.inr (Nat.le_refl _)) _

theorem rread_size (q : Nat) (l : List Int) (ao : Option Addr) (len cap : Nat) (cs : List Cls) (t x : Int) (w : World) (hl : l.length ≤ 65536) (hd : Doc w q l) (hc : CRd w ao len cs) (h : wordAt l t = some x) (hx : isHead x = true) (hs : ¬ (sizeOf cs (partC x) (partL x)).2 = 0) :
    Calls Tryz.prog 37 #[.slice (some ⟨q, 0, none⟩) l.length l.length, .slice ao len cap, .int .i64 t] w fun e w' => e = .returned (.tuple #[.agg #[.int .i64 0, .int .i64 0, .int .i64 0, .int .i64 0], .int .i64 13]) ∧ Turned [] w w' := by
  obtain ⟨w0, hw0⟩ : ∃ w0, w0 = w.alloc (.cells #[.int .i64 0, .int .i64 0, .int .i64 0, .int .i64 0] 54) := ⟨_, rfl⟩
  have ht0 : Turned [] w w0 := by rw [hw0]; exact (Turned.refl [] w).alloc _
  have hb0 : w0.heap[w.heap.size]? = some (.cells #[.int .i64 0, .int .i64 0, .int .i64 0, .int .i64 0] 54) := by rw [hw0]; exact heap_alloc_new _ _
  have HE := hide (fun w' (ht : Turned [] w0 w') => And.intro (ht0.trans ht) (show w'.heap[w.heap.size]? = some (.cells #[.int .i64 0, .int .i64 0, .int .i64 0, .int .i64 0] 54) by rw [ht.block _ (lt_of_heap hb0) (by simp)]; exact hb0))
  obtain ⟨tn, rfl, htl, hwx⟩ := wordAt_some h
  have hx0 := (hd.turned ht0 (by simp)).word hwx
  have htli : (tn : Int) < (l.length : Int) := by omega
  have hxw := hd.word hwx
  have hxa := hx0
  rw [hw0] at hxa
  have hq1 : ¬ (q = w.heap.size) := by have := hd.ltq; omega
  have hq2 : ¬ (w.heap.size = q) := by have := hd.ltq; omega
  have HP := hide (fun w => rparts_yes x w hx)
  have HS := hide (rsize_any ao len cap cs (partC x) (partL x) w0 (part_in64 x) (hc.turned ht0))
  generalize sizeOf cs (partC x) (partL x) = y at *
  obtain ⟨y1, y2⟩ := y
  simp only at hs HS
  generalize partC x = a at *
  generalize partL x = c at *
  clear h hx hc ht0 hb0 hd hwx
  go_enter Tryz.func37, Tryz.ntmps37
  go_wp2_with fail
  rw [← hw0]
  clear hw0
  refine (HP.out _).mono ?_
  rintro e w2 ⟨rfl, hw2⟩
  subst hw2
  clear hx0 hxw hxa hq1 hq2
  go_wp2_with fail
  refine HS.out.mono ?_
  rintro e w3 ⟨rfl, ht3⟩
  have HTW := hide ht3
  clear ht3 HS HP
  obtain ⟨htE, hbx⟩ := HE.out w3 HTW.out
  have x0 := cell_of_heap hbx 0
  have x1 := cell_of_heap hbx 1
  have x2 := cell_of_heap hbx 2
  have x3 := cell_of_heap hbx 3
  have xf := fun i => show World.frozen? w3 ⟨w.heap.size, i, none⟩ = false by simp [World.frozen?, hbx]
  have xf0 := xf 0
  have xf1 := xf 1
  have xf2 := xf 2
  have xf3 := xf 3
  have HTE := hide htE
  clear hbx xf htE HE
  go_wp2_with fail
  refine bodyPost_ret (v := .tuple #[.agg #[.int .i64 0, .int .i64 0, .int .i64 0, .int .i64 0], .int .i64 13]) (by simp [results, Tryz.results37, go_sem, x0, x1, x2, x3]) rfl ⟨rfl, ?_⟩
  first | exact HTE.out | exact (((HTE.out.setCell (.inr (Nat.le_refl _)) _).setCell (.inr (Nat.le_refl _)) _).setCell (.inr (Nat.le_refl _)) _).setCell (.inr (Nat.le_refl _)) _

theorem rread_room (q : Nat) (l : List Int) (ao : Option Addr) (len cap : Nat) (cs : List Cls) (t x : Int) (w : World) (hl : l.length ≤ 65536) (hd : Doc w q l) (hc : CRd w ao len cs) (h : wordAt l t = some x) (hx : isHead x = true) (hs : (sizeOf cs (partC x) (partL x)).2 = 0) (hr : l.length - t < (sizeOf cs (partC x) (partL x)).1) :
    Calls Tryz.prog 37 #[.slice (some ⟨q, 0, none⟩) l.length l.length, .slice ao len cap, .int .i64 t] w fun e w' => e = .returned (.tuple #[.agg #[.int .i64 0, .int .i64 0, .int .i64 0, .int .i64 0], .int .i64 13]) ∧ Turned [] w w' := by
  obtain ⟨w0, hw0⟩ : ∃ w0, w0 = w.alloc (.cells #[.int .i64 0, .int .i64 0, .int .i64 0, .int .i64 0] 54) := ⟨_, rfl⟩
  have ht0 : Turned [] w w0 := by rw [hw0]; exact (Turned.refl [] w).alloc _
  have hb0 : w0.heap[w.heap.size]? = some (.cells #[.int .i64 0, .int .i64 0, .int .i64 0, .int .i64 0] 54) := by rw [hw0]; exact heap_alloc_new _ _
  have HE := hide (fun w' (ht : Turned [] w0 w') => And.intro (ht0.trans ht) (show w'.heap[w.heap.size]? = some (.cells #[.int .i64 0, .int .i64 0, .int .i64 0, .int .i64 0] 54) by rw [ht.block _ (lt_of_heap hb0) (by simp)]; exact hb0))
  obtain ⟨tn, rfl, htl, hwx⟩ := wordAt_some h
  have hx0 := (hd.turned ht0 (by simp)).word hwx
  have htli : (tn : Int) < (l.length : Int) := by omega
  have hxw := hd.word hwx
  have hxa := hx0
  rw [hw0] at hxa
  have hq1 : ¬ (q = w.heap.size) := by have := hd.ltq; omega
  have hq2 : ¬ (w.heap.size = q) := by have := hd.ltq; omega
  have HP := hide (fun w => rparts_yes x w hx)
  have HS := hide (rsize_any ao len cap cs (partC x) (partL x) w0 (part_in64 x) (hc.turned ht0))
  have hz := sizeOf_ok hs
  generalize sizeOf cs (partC x) (partL x) = y at *
  obtain ⟨y1, y2⟩ := y
  simp only at hs HS hr hz
  subst hs
  generalize partC x = a at *
  generalize partL x = c at *
  clear h hx hc ht0 hb0 hd hwx
  go_enter Tryz.func37, Tryz.ntmps37
  go_wp2_with fail
  rw [← hw0]
  clear hw0
  refine (HP.out _).mono ?_
  rintro e w2 ⟨rfl, hw2⟩
  subst hw2
  clear hx0 hxw hxa hq1 hq2
  go_wp2_with fail
  refine HS.out.mono ?_
  rintro e w3 ⟨rfl, ht3⟩
  have HTW := hide ht3
  clear ht3 HS HP
  obtain ⟨htE, hbx⟩ := HE.out w3 HTW.out
  have x0 := cell_of_heap hbx 0
  have x1 := cell_of_heap hbx 1
  have x2 := cell_of_heap hbx 2
  have x3 := cell_of_heap hbx 3
  have xf := fun i => show World.frozen? w3 ⟨w.heap.size, i, none⟩ = false by simp [World.frozen?, hbx]
  have xf0 := xf 0
  have xf1 := xf 1
  have xf2 := xf 2
  have xf3 := xf 3
  have HTE := hide htE
  clear hbx xf htE HE
  go_wp2_with fail
  refine bodyPost_ret (v := .tuple #[.agg #[.int .i64 0, .int .i64 0, .int .i64 0, .int .i64 0], .int .i64 13]) (by simp [results, Tryz.results37, go_sem, x0, x1, x2, x3]) rfl ⟨rfl, ?_⟩
  first | exact HTE.out | exact (((HTE.out.setCell (.inr (Nat.le_refl _)) _).setCell (.inr (Nat.le_refl _)) _).setCell (.inr (Nat.le_refl _)) _).setCell (.inr (Nat.le_refl _)) _

/-- Whatever stands there. -/
theorem rread_none (q : Nat) (l : List Int) (ao : Option Addr) (len cap : Nat) (cs : List Cls) (t : Int) (w : World) (hl : l.length ≤ 65536) (hd : Doc w q l) (hc : CRd w ao len cs) (h : readOf l cs t = none) :
    Calls Tryz.prog 37 #[.slice (some ⟨q, 0, none⟩) l.length l.length, .slice ao len cap, .int .i64 t] w fun e w' => e = .returned (.tuple #[.agg #[.int .i64 0, .int .i64 0, .int .i64 0, .int .i64 0], .int .i64 (readE l cs t)]) ∧ Turned [] w w' := by
  unfold readE
  rw [h]
  cases hx : wordAt l t with
  | none =>
    simp only [Option.isNone_none, if_true]
    exact rread_out q l ao len cap cs t w hl hd hc (wordAt_none hx)
  | some x =>
    simp only [Option.isNone_some, Option.isNone_none, if_true]
    rw [if_neg (by simp)]
    unfold readOf at h
    simp only [hx] at h
    by_cases h1 : isHead x = true
    · by_cases h2 : (sizeOf cs (partC x) (partL x)).2 = 0
      · refine rread_room q l ao len cap cs t x w hl hd hc hx h1 h2 ?_
        by_cases h3 : (sizeOf cs (partC x) (partL x)).1 ≤ l.length - t
        · rw [if_pos ⟨h1, h2, h3⟩] at h
          cases h
        · omega
      · exact rread_size q l ao len cap cs t x w hl hd hc hx h1 h2
    · exact rread_word q l ao len cap cs t x w hl hd hc hx (by simpa using h1)
end Go.Proofs.YtgbclfhgpkmcnaaGreatDoor
