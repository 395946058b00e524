/-
  What Lay and Fill do to a memory.
-/
import Derived.Test.YthigmechfcndcaaBlocksMem
namespace Go.Proofs.Ythigmechfcndcaa
open Go.RowKit
set_option linter.unusedVariables false

theorem laid_row (w : World) (g m : Nat) (k n : Int) (hm : 1 ≤ m) (hm2 : m ≤ 65536) (h : w.heap[g]? = some (.cells (((laid k n m).map (Value.int .i64)).toArray) 2)) : IsRow .i64 w (some ⟨g, 0, none⟩) m m (laid k n m) := by
  have hl := laid_length k n m hm
  refine .inr ⟨_, rfl, Nat.le_refl _, by unfold maxLen; omega, hl, fun i hi => ?_, fun x hx => ?_⟩
  · rw [show Addr.add ⟨g, 0, none⟩ i = ⟨g, i, none⟩ by simp [Addr.add]; intro e; omega, cell_of_heap h]
    rw [List.getElem?_toArray, List.getElem?_map, List.getD_eq_getElem?_getD, List.getElem?_eq_getElem hi]
    rfl
  · have hr := headOf_range k n
    have : x = headOf k n ∨ x = 0 := by
      unfold laid at hx
      rcases List.mem_cons.1 hx with h1 | h1
      · exact .inl h1
      · exact .inr (List.eq_of_mem_replicate h1)
    rcases this with rfl | rfl
    · exact WalkArith.wf_i64 (by omega)
    · rfl

theorem made_laid (m : Nat) (k n : Int) (hm : 1 ≤ m) : (madeCells #[Value.int .i64 0] m).setIfInBounds 0 (.int .i64 (headOf k n)) = ((laid k n m).map (Value.int .i64)).toArray := by
  obtain ⟨j, rfl⟩ : ∃ j, m = j + 1 := ⟨m - 1, by omega⟩
  rw [madeCells_zeros]
  simp [laid, List.replicate_succ]

theorem layS_eq (l : List Int) (cs : List Cls) (t k n : Int) (m : Nat) (he : (sizeOf cs k n).2 = 0) (hm : (sizeOf cs k n).1 = m) (h1 : 1 ≤ m) : layS l cs t k n = if putE l t (laid k n m) = 0 then (m : Int) else 0 := by
  unfold layS putE
  rw [laid_length k n m h1, hm]
  by_cases hf : 0 ≤ t ∧ t + (m : Int) ≤ l.length
  · rw [if_pos ⟨he, hf⟩, if_pos hf, if_pos rfl]
  · rw [if_neg (fun h => hf h.2), if_neg hf, if_neg (by decide)]

theorem blay_mem (p q : Nat) (l : List Int) (s : Int) (ao : Option Addr) (len cap : Nat) (cs : List Cls) (t k n : Int) (w : World) (hl : l.length ≤ 65536) (hn : In64 n) (h : Mem w p q l s) (hc : CRd w ao len cs) :
    Calls Try.prog 17 #[.pointer (some ⟨p, 0, none⟩), .slice ao len cap, .int .i64 t, .int .i64 k, .int .i64 n] w fun e w' => e = .returned (.tuple #[.int .i64 (layS l cs t k n), .int .i64 (layE l cs t k n)]) ∧ Mem w' p q (layL l cs t k n) s ∧ Turned [p, q] w w' := by
  have HS := hide (sizes_any ao len cap cs k n w hn hc)
  have HM := hide h
  by_cases he : (sizeOf cs k n).2 = 0
  · have hs := sizeOf_ok he
    obtain ⟨m, hm⟩ : ∃ m : Nat, (sizeOf cs k n).1 = m := ⟨_, (Int.toNat_of_nonneg (by omega)).symm⟩
    have h1 : 1 ≤ m := by omega
    have h2 : m ≤ 65536 := by omega
    rw [layS_eq l cs t k n m he hm h1, show layE l cs t k n = putE l t (laid k n m) by unfold layE; rw [if_pos he, hm]; rfl, show layL l cs t k n = putL l t (laid k n m) by unfold layL; rw [if_pos he, hm]; rfl]
    rw [he, hm] at HS
    have HH := hide (fun w => header_any k n w)
    have HML := hide (made_laid m k n h1)
    have HR := hide (fun w g => laid_row w g m k n h1 h2)
    have HPE : Hid (putE l t (laid k n m) = 0 ∨ putE l t (laid k n m) = 10) := by
      show _ ∨ _
      unfold putE
      split
      · exact .inl rfl
      · exact .inr rfl
    have HP := hide (fun w' g (hM : Mem w' p q l s) (hR : IsRow .i64 w' (some ⟨g, 0, none⟩) m m (laid k n m)) => put_any p q l s t (some ⟨g, 0, none⟩) m m (laid k n m) w' hl hM hR)
    rw [show (laid k n m).take m = laid k n m from List.take_of_length_le (Nat.le_of_eq (laid_length k n m h1))] at HP
    have hmk := run_make_row' (P := Try.prog) 24 2 (.int .i64 0) 8 Try.underlying24 Try.info2 rfl .i64 .i64 m (by omega) (by omega)
    have hz0 : (madeCells #[Value.int .i64 0] m)[0]? = some (.int .i64 0) := by
      obtain ⟨j, rfl⟩ : ∃ j, m = j + 1 := ⟨m - 1, by omega⟩
      rw [madeCells_zeros]
      simp [List.replicate_succ]
    generalize madeCells #[Value.int .i64 0] m = row at *
    generalize laid k n m = lay at *
    generalize putL l t lay = L at *
    generalize putE l t lay = E at *
    generalize headOf k n = H at *
    clear he hm hs hn hc h hl
    go_enter Try.func17, Try.ntmps17
    go_wp2_with fail
    refine HS.out.mono ?_
    rintro e w1 ⟨rfl, ht1⟩
    have HM1 := hide (HM.out.turned ht1 (by simp) (by simp))
    have HT1 := hide (ht1.mono (T := [p, q]) (by simp))
    clear ht1 HS HM
    go_wp2_with (go_at_call 38; refine (HH.out _).mono ?_; rintro e w2 ⟨rfl, rfl⟩)
    rw [HML.out]
    have hT0 := (Turned.refl [] w1).alloc (.cells (lay.map (Value.int .i64)).toArray 2)
    have HP2 := hide (HP.out (w1.alloc (.cells (lay.map (Value.int .i64)).toArray 2)) w1.heap.size (HM1.out.turned hT0 (by simp) (by simp)) (HR.out _ _ (heap_alloc_new _ _)))
    have HT2 := hide (HT1.out.alloc (.cells (lay.map (Value.int .i64)).toArray 2))
    clear hT0 HP HR HML HT1 HM1 HH hmk hz0
    refine HP2.out.mono ?_
    rintro e w3 ⟨rfl, hm3, ht3⟩
    have HM3 := hide hm3
    have HT3 := hide (HT2.out.trans ht3)
    clear hm3 ht3 HT2 HP2
    rcases HPE.out with e0 | e0
    · subst e0
      go_wp2_with fail
      go_ret2
      exact ⟨rfl, HM3.out, HT3.out⟩
    · subst e0
      go_wp2_with fail
      go_ret2
      exact ⟨rfl, HM3.out, HT3.out⟩
  · have hb := sizeOf_bad he
    rw [show layS l cs t k n = 0 by unfold layS; rw [if_neg (fun h => he h.1)], show layE l cs t k n = (sizeOf cs k n).2 by unfold layE; rw [if_neg he], show layL l cs t k n = l by unfold layL; rw [if_neg he]]
    rw [hb.1] at HS
    generalize (sizeOf cs k n).2 = E at *
    clear hb hc hn hl h
    go_enter Try.func17, Try.ntmps17
    go_wp2_with fail
    refine HS.out.mono ?_
    rintro e w1 ⟨rfl, ht1⟩
    have HM1 := hide (HM.out.turned ht1 (by simp) (by simp))
    have HT1 := hide (ht1.mono (T := [p, q]) (by simp))
    clear ht1 HS HM
    go_wp2_with fail
    go_ret2
    exact ⟨rfl, HM1.out, HT1.out⟩

theorem blay_nil (ao : Option Addr) (len cap : Nat) (cs : List Cls) (t k n : Int) (w : World) (hn : In64 n) (hc : CRd w ao len cs) (he : (sizeOf cs k n).2 = 0) :
    Calls Try.prog 17 #[.pointer none, .slice ao len cap, .int .i64 t, .int .i64 k, .int .i64 n] w fun e w' => e = .returned (.tuple #[.int .i64 0, .int .i64 10]) ∧ Turned [] w w' := by
  have HS := hide (sizes_any ao len cap cs k n w hn hc)
  have hs := sizeOf_ok he
  obtain ⟨m, hm⟩ : ∃ m : Nat, (sizeOf cs k n).1 = m := ⟨_, (Int.toNat_of_nonneg (by omega)).symm⟩
  have h1 : 1 ≤ m := by omega
  have h2 : m ≤ 65536 := by omega
  rw [he, hm] at HS
  have HH := hide (fun w => header_any k n w)
  have HP := hide (fun w' g => put_nil t (some ⟨g, 0, none⟩) m m w')
  have hmk := run_make_row' (P := Try.prog) 24 2 (.int .i64 0) 8 Try.underlying24 Try.info2 rfl .i64 .i64 m (by omega) (by omega)
  have hz0 : (madeCells #[Value.int .i64 0] m)[0]? = some (.int .i64 0) := by
    obtain ⟨j, rfl⟩ : ∃ j, m = j + 1 := ⟨m - 1, by omega⟩
    rw [madeCells_zeros]
    simp [List.replicate_succ]
  generalize madeCells #[Value.int .i64 0] m = row at *
  generalize headOf k n = H at *
  clear he hm hs hn hc
  go_enter Try.func17, Try.ntmps17
  go_wp2_with fail
  refine HS.out.mono ?_
  rintro e w1 ⟨rfl, ht1⟩
  have HT1 := hide (fun o => ht1.alloc o)
  clear ht1 HS
  go_wp2_with (go_at_call 38; refine (HH.out _).mono ?_; rintro e w2 ⟨rfl, rfl⟩)
  refine (HP.out _ _).mono ?_
  rintro e w3 ⟨rfl, rfl⟩
  go_wp2_with fail
  go_ret2
  exact ⟨rfl, HT1.out _⟩

theorem sizeOf_filler (n : Int) (cs : List Cls) (h : 0 ≤ n ∧ n ≤ 65535) : sizeOf cs 0 n = (1 + n, 0) := by
  unfold sizeOf told
  simp only [clsAt, if_true]
  rw [if_pos (by exact h)]
  simp [gSize, Cls.rN, Cls.wN]
theorem crd_nil (w : World) : CRd w none 0 [] := ⟨rfl, by omega, fun i c h => by simp at h, fun c h => by simp at h⟩

/-- The words behind a fill. -/
def fillL (l : List Int) (f g : Int) : List Int := if 0 ≤ f ∧ f < g ∧ g ≤ l.length then putL l f (laid 0 (g - f - 1) (g - f).toNat) else l
def fillE (l : List Int) (f g : Int) : Int := if 0 ≤ f ∧ f ≤ g ∧ g ≤ l.length then 0 else 10
theorem fillL_length (l : List Int) (f g : Int) : (fillL l f g).length = l.length := by
  unfold fillL
  split
  · exact putL_length _ _ _
  · rfl

theorem fill_out (v : Value) (l : List Int) (f g : Int) (w : World) (h : AnyMem w v l) (hw : ¬ (0 ≤ f ∧ f ≤ g ∧ g ≤ l.length)) :
    Calls Try.prog 19 #[v, .int .i64 f, .int .i64 g] w fun e w' => e = .returned (.int .i64 10) ∧ w' = w := by
  have HW := hide (within_any v l f g w h)
  rw [decide_eq_false hw] at HW
  clear h hw
  go_enter Try.func19, Try.ntmps19
  go_wp2_with fail
  refine HW.out.mono ?_
  rintro e w1 ⟨rfl, rfl⟩
  go_wp2_with fail
  go_ret
  exact ⟨rfl, rfl⟩

theorem bfill_mem (p q : Nat) (l : List Int) (s f g : Int) (w : World) (hl : l.length ≤ 65536) (h : Mem w p q l s) :
    Calls Try.prog 19 #[.pointer (some ⟨p, 0, none⟩), .int .i64 f, .int .i64 g] w fun e w' => e = .returned (.int .i64 (fillE l f g)) ∧ Mem w' p q (fillL l f g) s ∧ Turned [p, q] w w' := by
  by_cases hw : 0 ≤ f ∧ f ≤ g ∧ g ≤ l.length
  · rw [show fillE l f g = 0 by unfold fillE; rw [if_pos hw]]
    have HW := hide (within_any _ l f g w h.any)
    rw [decide_eq_true hw] at HW
    have HM := hide h
    by_cases he : f = g
    · subst he
      rw [show fillL l f f = l by unfold fillL; rw [if_neg (by omega)]]
      clear h
      go_enter Try.func19, Try.ntmps19
      go_wp2_with fail
      refine HW.out.mono ?_
      rintro e w1 ⟨rfl, rfl⟩
      go_wp2_with fail
      go_ret
      exact ⟨rfl, HM.out, Turned.refl _ _⟩
    · have hz := sizeOf_filler (g - f - 1) [] (by omega)
      have HL := hide (blay_mem p q l s none 0 0 [] f 0 (g - f - 1) w hl (by unfold In64; omega) h (crd_nil w))
      have eL : layL l [] f 0 (g - f - 1) = fillL l f g := by
        unfold layL fillL
        rw [hz, if_pos rfl, if_pos (by omega), show (1 + (g - f - 1) : Int) = g - f by omega]
      have eE : layE l [] f 0 (g - f - 1) = 0 := by
        unfold layE putE
        rw [hz, if_pos rfl, laid_length _ _ _ (by omega), if_pos (by omega)]
      rw [eL, eE] at HL
      generalize layS l [] f 0 (g - f - 1) = S at *
      generalize fillL l f g = L at *
      have e1 : wrap64 (wrap64 (g - f) - 1) = g - f - 1 := by unfold wrap64; omega
      have hb : -9223372036854775808 ≤ g - f - 1 ∧ g - f ≤ 9223372036854775807 := by omega
      clear h hz eL eE
      go_enter Try.func19, Try.ntmps19
      go_wp2_with fail
      refine HW.out.mono ?_
      rintro e w1 ⟨rfl, rfl⟩
      go_wp2_with fail
      refine HL.out.mono ?_
      rintro e w2 ⟨rfl, hm2, ht2⟩
      have HM2 := hide hm2
      have HT2 := hide ht2
      clear hm2 ht2
      go_wp2_with fail
      go_ret
      exact ⟨rfl, HM2.out, HT2.out⟩
  · rw [show fillE l f g = 10 by unfold fillE; rw [if_neg hw], show fillL l f g = l by unfold fillL; rw [if_neg (by omega)]]
    refine (fill_out _ l f g w h.any hw).mono ?_
    rintro e w1 ⟨rfl, rfl⟩
    exact ⟨rfl, h, Turned.refl _ _⟩
end Go.Proofs.Ythigmechfcndcaa
