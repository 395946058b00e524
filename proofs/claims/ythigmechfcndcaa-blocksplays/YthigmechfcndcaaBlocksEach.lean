/-
  What eachRef does, by a contract of the function that it shows references to: once for the closure in Refs, once for the one in follow.
-/
import Derived.Test.YthigmechfcndcaaBlocksRead
import Derived.Test.YthigmechfcndcaaClassesRow
namespace Go.Proofs.Ythigmechfcndcaa
open Go.RowKit
set_option linter.unusedVariables false

/-- What a function that takes references does, one behind the other, till it refuses one. -/
def runRefs {σ : Type} (step : σ → Int → σ × Bool) (s : σ) : List Int → σ × Bool
  | [] => (s, true)
  | r :: rs => if (step s r).2 then runRefs step (step s r).1 rs else ((step s r).1, false)

/-- The words of a block's references, those that have a cell. -/
def refWords (l : List Int) (cs : List Cls) (b : Blk) : List Int := (rowTo (refsOf cs b.k b.n).toNat).filterMap fun i => wordAt l (b.t + i)

theorem rowTo_drop {m j : Nat} (h : j < m) : (rowTo m).drop j = ((j : Int) + 1) :: (rowTo m).drop (j + 1) := by
  have h1 : j < (rowTo m).length := by rw [rowTo_length]; exact h
  rw [List.drop_eq_getElem_cons h1]
  congr 1
  have := rowTo_get h
  rw [List.getElem?_eq_getElem h1] at this
  injection this

/-- A contract of a function that takes references, in the state s with the blocks O of its own. -/
structure Taker (σ : Type) (Inv : Nat → σ → List Nat → World → Prop) : Prop where
  lt : ∀ k s O w, Inv k s O w → ∀ x, x ∈ O → x < w.heap.size
  keep : ∀ k s O w w', Inv k s O w → Turned [] w w' → Inv k s O w'
  up : ∀ k s O w, Inv k s O w → Inv (k + 1) s O w

set_option maxRecDepth 100000 in
theorem eachRef_refs {σ : Type} (Inv : Nat → σ → List Nat → World → Prop) (step : σ → Int → σ × Bool) (T : Taker σ Inv) (c1 : Nat)
    (hstep : ∀ k s O w r, k < 65536 → In64 r → Inv k s O w → Calls Try.prog 32 #[.int .i64 r, .pointer (some ⟨c1, 0, none⟩)] w fun e w' => e = .returned (.bool (step s r).2) ∧ ∃ O', Inv (k + 1) (step s r).1 O' w' ∧ Turned O w w' ∧ ∀ x, x ∈ O' → x ∈ O ∨ w.heap.size ≤ x)
    (v : Value) (l : List Int) (ao : Option Addr) (len cap : Nat) (cs : List Cls) (b : Blk) (w : World) (s : σ) (O : List Nat) (hl : l.length ≤ 65536) (hl64 : ∀ x, x ∈ l → In64 x) (hbt : 0 ≤ b.t ∧ b.t ≤ 65536) (hbn : In64 b.n)
    (hv : ∀ w', Turned O w w' → AnyMem w' v l ∧ CRd w' ao len cs) (hI : Inv 0 s O w) :
    Calls Try.prog 31 #[v, .slice ao len cap, .agg #[.int .i64 b.t, .int .i64 b.k, .int .i64 b.n, .int .i64 b.s], .func (.func 32) #[] #[.pointer (some ⟨c1, 0, none⟩)]] w fun e w' =>
      e = .returned (.bool (runRefs step s (refWords l cs b)).2) ∧ ∃ n O', Inv n (runRefs step s (refWords l cs b)).1 O' w' ∧ Turned O w w' ∧ ∀ x, x ∈ O' → x ∈ O ∨ w.heap.size ≤ x := by
  obtain ⟨bt, bk, bn, bz⟩ := b
  simp only at *
  obtain ⟨w0, hw0⟩ : ∃ w0, w0 = w.alloc (.cells #[.int .i64 bt, .int .i64 bk, .int .i64 bn, .int .i64 bz] 38) := ⟨_, rfl⟩
  have ht0 : Turned [] w w0 := by rw [hw0]; exact (Turned.refl [] w).alloc _
  have hb0 : w0.heap[w.heap.size]? = some (.cells #[.int .i64 bt, .int .i64 bk, .int .i64 bn, .int .i64 bz] 38) := by rw [hw0]; exact heap_alloc_new _ _
  have HR := hide (refs_new ao len cap cs bk bn w0 hbn (hv w0 (ht0.mono (by simp))).2)
  have hrr := refsOf_range cs bk bn
  obtain ⟨m, hm⟩ : ∃ m : Nat, (refsOf cs bk bn).toNat = m := ⟨_, rfl⟩
  have hm65 : m ≤ 65535 := by omega
  have HF : Hid (runRefs step s (refWords l cs ⟨bt, bk, bn, bz⟩) = runRefs step s (((rowTo m).drop 0).filterMap fun i => wordAt l (bt + i))) := by
    show _ = _
    simp only [refWords, List.drop_zero, hm]
  obtain ⟨res, hres⟩ : ∃ res, res = runRefs step s (refWords l cs ⟨bt, bk, bn, bz⟩) := ⟨_, rfl⟩
  rw [← hres] at HF ⊢
  rw [hm] at HR
  have HV := hide hv
  have HS := hide hstep
  have HI := hide hI
  have HTk := hide T
  have HL64 := hide hl64
  have HT0 := hide ht0
  have HB0 := hide hb0
  clear hv hstep hI hrr hm hres T hl64 ht0 hb0 hbn
  go_enter Try.func31, Try.ntmps31
  go_wp2_with fail
  rw [← hw0]
  clear hw0
  refine HR.out.mono ?_
  rintro e w1 ⟨g, cp, rfl, hrd, ht1, hg⟩
  have hw01 := HT0.out.size
  have hw1 := ht1.size
  have hgl : m = 0 ∨ g < w1.heap.size := by
    by_cases h0 : 0 < m
    · right
      obtain ⟨b', off, h1, h2⟩ := hrd.cell 0 1 (rowTo_get h0)
      injection h1 with h1
      injection h1 with h1
      subst h1
      exact block_lt h2
    · left; omega
  have hbl := lt_of_heap HB0.out
  have HRd := hide hrd
  have HT1 := hide (HT0.out.trans ht1)
  have hb1 : w1.heap[w.heap.size]? = some (.cells #[.int .i64 bt, .int .i64 bk, .int .i64 bn, .int .i64 bz] 38) := by rw [ht1.block _ hbl (by simp)]; exact HB0.out
  have HB1 := hide hb1
  have HI1 := hide (HTk.out.keep _ _ _ _ _ HI.out (HT0.out.trans ht1))
  have HO := hide (HTk.out.lt _ _ _ _ HI.out)
  clear hrd ht1 hb1 HT0 HB0 HR HI
  go_wp2_with fail
  go_loopw [20] (fun i wr => ∃ (k : Nat) (sk : σ) (Ok : List Nat), k ≤ m ∧ i = .int .i64 k ∧ Hid (Inv k sk Ok wr) ∧ Hid (Turned O w1 wr) ∧ Hid (∀ x, x ∈ Ok → x ∈ O ∨ w1.heap.size ≤ x) ∧ Hid (res = runRefs step sk (((rowTo m).drop k).filterMap fun i => wordAt l (bt + i)))) (fun i _ => m - (intOf i).toNat)
  case atStart => exact ⟨0, s, O, Nat.zero_le _, rfl, HI1, Turned.refl _ _, fun x hx => .inl hx, HF⟩
  case round =>
    obtain ⟨k, sk, Ok, hk, rfl, HIk, HTk', HOk, HFk⟩ := hrel
    by_cases hlt : k < m
    · have hgw : g < w1.heap.size := by omega
      have hnO : g ∉ O := fun hh => by have := HO.out g hh; omega
      have hbO : w.heap.size ∉ O := fun hh => by have := HO.out _ hh; omega
      have hcg : wr.cell? ⟨g, k, none⟩ = some (.int .i64 ((k : Int) + 1)) := by
        obtain ⟨b', off, h1, h2⟩ := HRd.out.cell k _ (rowTo_get hlt)
        injection h1 with h1
        injection h1 with h1 h3
        subst h1 h3
        rw [HTk'.out.cell (by exact hgw) (by simpa using hnO)]
        simpa using h2
      have hbx : wr.heap[w.heap.size]? = some (.cells #[.int .i64 bt, .int .i64 bk, .int .i64 bn, .int .i64 bz] 38) := by rw [HTk'.out.block _ (lt_of_heap HB1.out) hbO]; exact HB1.out
      have x0 : wr.cell? ⟨w.heap.size, 0, none⟩ = some (.int .i64 bt) := cell_of_heap hbx 0
      have hTw : Turned O w wr := (HT1.out.mono (T := O) (by simp)).trans_new HTk'.out (fun x hx => .inl hx)
      have HVk := hide (HV.out wr hTw)
      have hdr := rowTo_drop hlt
      cases hx : wordAt l (bt + ((k : Int) + 1)) with
      | none =>
        have HW := hide (word_none v l (bt + ((k : Int) + 1)) wr hl (by unfold In64; omega) HVk.out.1 hx)
        have HF2 : Hid (res = runRefs step sk (((rowTo m).drop (k + 1)).filterMap fun i => wordAt l (bt + i))) := by
          show _ = _
          rw [HFk.out, hdr, List.filterMap_cons_none (f := fun i => wordAt l (bt + i)) hx]
        clear hx hdr HVk hTw hbx HFk hbO hnO
        go_wp2_with fail
        refine HW.out.mono ?_
        rintro e w2 ⟨rfl, ht2⟩
        have HI2 := hide (HTk.out.keep _ _ _ _ _ HIk.out ht2)
        have HT2 := hide (HTk'.out.trans (ht2.mono (T := O) (by simp)))
        clear ht2 HW HIk HTk'
        go_wp2_with fail
        go_roundw
        case rel => exact ⟨k + 1, sk, Ok, by omega, by go_num, HTk.out.up _ _ _ _ HI2.out, HT2, HOk, HF2⟩
        case measure => simp [intOf]; omega
      | some r =>
        have HW := hide (word_some v l (bt + ((k : Int) + 1)) r wr hl HVk.out.1 hx)
        have hr64 : In64 r := by
          obtain ⟨i, _, _, hi⟩ := wordAt_some hx
          exact HL64.out r (List.mem_of_getElem? hi)
        have HF2 : Hid (res = runRefs step sk (r :: ((rowTo m).drop (k + 1)).filterMap fun i => wordAt l (bt + i))) := by
          show _ = _
          rw [HFk.out, hdr, List.filterMap_cons_some (f := fun i => wordAt l (bt + i)) hx]
        have HSk := hide (fun w2 hi => HS.out k sk Ok w2 r (by omega) hr64 hi)
        clear hx hdr HVk hTw hbx HFk hbO hnO hr64
        cases hb2 : (step sk r).2 with
        | true =>
          have HF3 : Hid (res = runRefs step (step sk r).1 (((rowTo m).drop (k + 1)).filterMap fun i => wordAt l (bt + i))) := by
            show _ = _
            rw [HF2.out, runRefs, hb2]
            rfl
          rw [hb2] at HSk
          clear hb2 HF2
          go_wp2_with fail
          refine HW.out.mono ?_
          rintro e w2 ⟨rfl, ht2⟩
          have HI2 := hide (HTk.out.keep _ _ _ _ _ HIk.out ht2)
          have HT2 := hide (HTk'.out.trans (ht2.mono (T := O) (by simp)))
          have hz2 := ht2.size
          have hzr := HTk'.out.size
          clear ht2 HW HIk HTk'
          go_wp2_with (go_at_call 32; refine (HSk.out _ HI2.out).mono ?_; rintro e w3 ⟨rfl, O3, hi3, ht3, ho3⟩; have HI3 := hide hi3; have HT3 := hide ht3; have HO3 := hide ho3; clear hi3 ht3 ho3)
          go_roundw
          case rel => exact ⟨k + 1, (step sk r).1, O3, by omega, by go_num, HI3, HT2.out.trans_new HT3.out (fun x hx => HOk.out x hx), fun x hx => (by rcases HO3.out x hx with h1 | h1; exact HOk.out x h1; exact .inr (by omega)), HF3⟩
          case measure => simp [intOf]; omega
        | false =>
          have HF3 : Hid (res = ((step sk r).1, false)) := by
            show _ = _
            rw [HF2.out, runRefs, hb2]
            rfl
          rw [hb2] at HSk
          clear hb2 HF2
          go_wp2_with fail
          refine HW.out.mono ?_
          rintro e w2 ⟨rfl, ht2⟩
          have HI2 := hide (HTk.out.keep _ _ _ _ _ HIk.out ht2)
          have HT2 := hide (HTk'.out.trans (ht2.mono (T := O) (by simp)))
          have hz2 := ht2.size
          have hzr := HTk'.out.size
          clear ht2 HW HIk HTk'
          go_wp2_with (go_at_call 32; refine (HSk.out _ HI2.out).mono ?_; rintro e w3 ⟨rfl, O3, hi3, ht3, ho3⟩; have HI3 := hide hi3; have HT3 := hide ht3; have HO3 := hide ho3; clear hi3 ht3 ho3)
          go_ret
          have hF := HF3.out
          subst hF
          exact ⟨rfl, _, O3, HI3.out, (HT1.out.mono (T := O) (by simp)).trans_new (HT2.out.trans_new HT3.out (fun x hx => HOk.out x hx)) (fun x hx => .inl hx), fun x hx => (by rcases HO3.out x hx with h1 | h1; rcases HOk.out x h1 with h2 | h2; exact .inl h2; exact .inr (by omega); exact .inr (by omega))⟩
    · have hkm : k = m := by omega
      subst hkm
      have HF2 : Hid (res = (sk, true)) := by
        show _ = _
        rw [HFk.out, List.drop_eq_nil_of_le (by rw [rowTo_length]; exact Nat.le_refl _)]
        rfl
      go_wp2_with fail
      go_ret
      have hF := HF2.out
      subst hF
      exact ⟨rfl, _, Ok, HIk.out, (HT1.out.mono (T := O) (by simp)).trans_new HTk'.out (fun x hx => .inl hx), fun x hx => (by rcases HOk.out x hx with h1 | h1; exact .inl h1; exact .inr (by omega))⟩

set_option maxRecDepth 100000 in
theorem eachRef_follow {σ : Type} (Inv : Nat → σ → List Nat → World → Prop) (step : σ → Int → σ × Bool) (T : Taker σ Inv) (c1 c2 c3 : Nat)
    (hstep : ∀ k s O w r, k < 65536 → In64 r → Inv k s O w → Calls Try.prog 45 #[.int .i64 r, .pointer (some ⟨c1, 0, none⟩), .pointer (some ⟨c2, 0, none⟩), .pointer (some ⟨c3, 0, none⟩)] w fun e w' => e = .returned (.bool (step s r).2) ∧ ∃ O', Inv (k + 1) (step s r).1 O' w' ∧ Turned O w w' ∧ ∀ x, x ∈ O' → x ∈ O ∨ w.heap.size ≤ x)
    (v : Value) (l : List Int) (ao : Option Addr) (len cap : Nat) (cs : List Cls) (b : Blk) (w : World) (s : σ) (O : List Nat) (hl : l.length ≤ 65536) (hl64 : ∀ x, x ∈ l → In64 x) (hbt : 0 ≤ b.t ∧ b.t ≤ 65536) (hbn : In64 b.n)
    (hv : ∀ w', Turned O w w' → AnyMem w' v l ∧ CRd w' ao len cs) (hI : Inv 0 s O w) :
    Calls Try.prog 31 #[v, .slice ao len cap, .agg #[.int .i64 b.t, .int .i64 b.k, .int .i64 b.n, .int .i64 b.s], .func (.func 45) #[] #[.pointer (some ⟨c1, 0, none⟩), .pointer (some ⟨c2, 0, none⟩), .pointer (some ⟨c3, 0, none⟩)]] w fun e w' =>
      e = .returned (.bool (runRefs step s (refWords l cs b)).2) ∧ ∃ n O', Inv n (runRefs step s (refWords l cs b)).1 O' w' ∧ Turned O w w' ∧ ∀ x, x ∈ O' → x ∈ O ∨ w.heap.size ≤ x := by
  obtain ⟨bt, bk, bn, bz⟩ := b
  simp only at *
  obtain ⟨w0, hw0⟩ : ∃ w0, w0 = w.alloc (.cells #[.int .i64 bt, .int .i64 bk, .int .i64 bn, .int .i64 bz] 38) := ⟨_, rfl⟩
  have ht0 : Turned [] w w0 := by rw [hw0]; exact (Turned.refl [] w).alloc _
  have hb0 : w0.heap[w.heap.size]? = some (.cells #[.int .i64 bt, .int .i64 bk, .int .i64 bn, .int .i64 bz] 38) := by rw [hw0]; exact heap_alloc_new _ _
  have HR := hide (refs_new ao len cap cs bk bn w0 hbn (hv w0 (ht0.mono (by simp))).2)
  have hrr := refsOf_range cs bk bn
  obtain ⟨m, hm⟩ : ∃ m : Nat, (refsOf cs bk bn).toNat = m := ⟨_, rfl⟩
  have hm65 : m ≤ 65535 := by omega
  have HF : Hid (runRefs step s (refWords l cs ⟨bt, bk, bn, bz⟩) = runRefs step s (((rowTo m).drop 0).filterMap fun i => wordAt l (bt + i))) := by
    show _ = _
    simp only [refWords, List.drop_zero, hm]
  obtain ⟨res, hres⟩ : ∃ res, res = runRefs step s (refWords l cs ⟨bt, bk, bn, bz⟩) := ⟨_, rfl⟩
  rw [← hres] at HF ⊢
  rw [hm] at HR
  have HV := hide hv
  have HS := hide hstep
  have HI := hide hI
  have HTk := hide T
  have HL64 := hide hl64
  have HT0 := hide ht0
  have HB0 := hide hb0
  clear hv hstep hI hrr hm hres T hl64 ht0 hb0 hbn
  go_enter Try.func31, Try.ntmps31
  go_wp2_with fail
  rw [← hw0]
  clear hw0
  refine HR.out.mono ?_
  rintro e w1 ⟨g, cp, rfl, hrd, ht1, hg⟩
  have hw01 := HT0.out.size
  have hw1 := ht1.size
  have hgl : m = 0 ∨ g < w1.heap.size := by
    by_cases h0 : 0 < m
    · right
      obtain ⟨b', off, h1, h2⟩ := hrd.cell 0 1 (rowTo_get h0)
      injection h1 with h1
      injection h1 with h1
      subst h1
      exact block_lt h2
    · left; omega
  have hbl := lt_of_heap HB0.out
  have HRd := hide hrd
  have HT1 := hide (HT0.out.trans ht1)
  have hb1 : w1.heap[w.heap.size]? = some (.cells #[.int .i64 bt, .int .i64 bk, .int .i64 bn, .int .i64 bz] 38) := by rw [ht1.block _ hbl (by simp)]; exact HB0.out
  have HB1 := hide hb1
  have HI1 := hide (HTk.out.keep _ _ _ _ _ HI.out (HT0.out.trans ht1))
  have HO := hide (HTk.out.lt _ _ _ _ HI.out)
  clear hrd ht1 hb1 HT0 HB0 HR HI
  go_wp2_with fail
  go_loopw [20] (fun i wr => ∃ (k : Nat) (sk : σ) (Ok : List Nat), k ≤ m ∧ i = .int .i64 k ∧ Hid (Inv k sk Ok wr) ∧ Hid (Turned O w1 wr) ∧ Hid (∀ x, x ∈ Ok → x ∈ O ∨ w1.heap.size ≤ x) ∧ Hid (res = runRefs step sk (((rowTo m).drop k).filterMap fun i => wordAt l (bt + i)))) (fun i _ => m - (intOf i).toNat)
  case atStart => exact ⟨0, s, O, Nat.zero_le _, rfl, HI1, Turned.refl _ _, fun x hx => .inl hx, HF⟩
  case round =>
    obtain ⟨k, sk, Ok, hk, rfl, HIk, HTk', HOk, HFk⟩ := hrel
    by_cases hlt : k < m
    · have hgw : g < w1.heap.size := by omega
      have hnO : g ∉ O := fun hh => by have := HO.out g hh; omega
      have hbO : w.heap.size ∉ O := fun hh => by have := HO.out _ hh; omega
      have hcg : wr.cell? ⟨g, k, none⟩ = some (.int .i64 ((k : Int) + 1)) := by
        obtain ⟨b', off, h1, h2⟩ := HRd.out.cell k _ (rowTo_get hlt)
        injection h1 with h1
        injection h1 with h1 h3
        subst h1 h3
        rw [HTk'.out.cell (by exact hgw) (by simpa using hnO)]
        simpa using h2
      have hbx : wr.heap[w.heap.size]? = some (.cells #[.int .i64 bt, .int .i64 bk, .int .i64 bn, .int .i64 bz] 38) := by rw [HTk'.out.block _ (lt_of_heap HB1.out) hbO]; exact HB1.out
      have x0 : wr.cell? ⟨w.heap.size, 0, none⟩ = some (.int .i64 bt) := cell_of_heap hbx 0
      have hTw : Turned O w wr := (HT1.out.mono (T := O) (by simp)).trans_new HTk'.out (fun x hx => .inl hx)
      have HVk := hide (HV.out wr hTw)
      have hdr := rowTo_drop hlt
      cases hx : wordAt l (bt + ((k : Int) + 1)) with
      | none =>
        have HW := hide (word_none v l (bt + ((k : Int) + 1)) wr hl (by unfold In64; omega) HVk.out.1 hx)
        have HF2 : Hid (res = runRefs step sk (((rowTo m).drop (k + 1)).filterMap fun i => wordAt l (bt + i))) := by
          show _ = _
          rw [HFk.out, hdr, List.filterMap_cons_none (f := fun i => wordAt l (bt + i)) hx]
        clear hx hdr HVk hTw hbx HFk hbO hnO
        go_wp2_with fail
        refine HW.out.mono ?_
        rintro e w2 ⟨rfl, ht2⟩
        have HI2 := hide (HTk.out.keep _ _ _ _ _ HIk.out ht2)
        have HT2 := hide (HTk'.out.trans (ht2.mono (T := O) (by simp)))
        clear ht2 HW HIk HTk'
        go_wp2_with fail
        go_roundw
        case rel => exact ⟨k + 1, sk, Ok, by omega, by go_num, HTk.out.up _ _ _ _ HI2.out, HT2, HOk, HF2⟩
        case measure => simp [intOf]; omega
      | some r =>
        have HW := hide (word_some v l (bt + ((k : Int) + 1)) r wr hl HVk.out.1 hx)
        have hr64 : In64 r := by
          obtain ⟨i, _, _, hi⟩ := wordAt_some hx
          exact HL64.out r (List.mem_of_getElem? hi)
        have HF2 : Hid (res = runRefs step sk (r :: ((rowTo m).drop (k + 1)).filterMap fun i => wordAt l (bt + i))) := by
          show _ = _
          rw [HFk.out, hdr, List.filterMap_cons_some (f := fun i => wordAt l (bt + i)) hx]
        have HSk := hide (fun w2 hi => HS.out k sk Ok w2 r (by omega) hr64 hi)
        clear hx hdr HVk hTw hbx HFk hbO hnO hr64
        cases hb2 : (step sk r).2 with
        | true =>
          have HF3 : Hid (res = runRefs step (step sk r).1 (((rowTo m).drop (k + 1)).filterMap fun i => wordAt l (bt + i))) := by
            show _ = _
            rw [HF2.out, runRefs, hb2]
            rfl
          rw [hb2] at HSk
          clear hb2 HF2
          go_wp2_with fail
          refine HW.out.mono ?_
          rintro e w2 ⟨rfl, ht2⟩
          have HI2 := hide (HTk.out.keep _ _ _ _ _ HIk.out ht2)
          have HT2 := hide (HTk'.out.trans (ht2.mono (T := O) (by simp)))
          have hz2 := ht2.size
          have hzr := HTk'.out.size
          clear ht2 HW HIk HTk'
          go_wp2_with (go_at_call 45; refine (HSk.out _ HI2.out).mono ?_; rintro e w3 ⟨rfl, O3, hi3, ht3, ho3⟩; have HI3 := hide hi3; have HT3 := hide ht3; have HO3 := hide ho3; clear hi3 ht3 ho3)
          go_roundw
          case rel => exact ⟨k + 1, (step sk r).1, O3, by omega, by go_num, HI3, HT2.out.trans_new HT3.out (fun x hx => HOk.out x hx), fun x hx => (by rcases HO3.out x hx with h1 | h1; exact HOk.out x h1; exact .inr (by omega)), HF3⟩
          case measure => simp [intOf]; omega
        | false =>
          have HF3 : Hid (res = ((step sk r).1, false)) := by
            show _ = _
            rw [HF2.out, runRefs, hb2]
            rfl
          rw [hb2] at HSk
          clear hb2 HF2
          go_wp2_with fail
          refine HW.out.mono ?_
          rintro e w2 ⟨rfl, ht2⟩
          have HI2 := hide (HTk.out.keep _ _ _ _ _ HIk.out ht2)
          have HT2 := hide (HTk'.out.trans (ht2.mono (T := O) (by simp)))
          have hz2 := ht2.size
          have hzr := HTk'.out.size
          clear ht2 HW HIk HTk'
          go_wp2_with (go_at_call 45; refine (HSk.out _ HI2.out).mono ?_; rintro e w3 ⟨rfl, O3, hi3, ht3, ho3⟩; have HI3 := hide hi3; have HT3 := hide ht3; have HO3 := hide ho3; clear hi3 ht3 ho3)
          go_ret
          have hF := HF3.out
          subst hF
          exact ⟨rfl, _, O3, HI3.out, (HT1.out.mono (T := O) (by simp)).trans_new (HT2.out.trans_new HT3.out (fun x hx => HOk.out x hx)) (fun x hx => .inl hx), fun x hx => (by rcases HO3.out x hx with h1 | h1; rcases HOk.out x h1 with h2 | h2; exact .inl h2; exact .inr (by omega); exact .inr (by omega))⟩
    · have hkm : k = m := by omega
      subst hkm
      have HF2 : Hid (res = (sk, true)) := by
        show _ = _
        rw [HFk.out, List.drop_eq_nil_of_le (by rw [rowTo_length]; exact Nat.le_refl _)]
        rfl
      go_wp2_with fail
      go_ret
      have hF := HF2.out
      subst hF
      exact ⟨rfl, _, Ok, HIk.out, (HT1.out.mono (T := O) (by simp)).trans_new HTk'.out (fun x hx => .inl hx), fun x hx => (by rcases HOk.out x hx with h1 | h1; exact .inl h1; exact .inr (by omega))⟩
end Go.Proofs.Ythigmechfcndcaa
