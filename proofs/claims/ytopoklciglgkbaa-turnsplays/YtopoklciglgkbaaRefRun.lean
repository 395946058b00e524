/-
  Run of the document's own tasks.
-/
import Derived.Test.YtopoklciglgkbaaRefPick
namespace Go.Proofs.Ytopoklciglgkbaa
open Go.RowKit
set_option linter.unusedVariables false

theorem next_at (l : List Int) (k : Nat) : nextOf (l.drop k) ((k - l.length : Nat) : Int) = (if h : k < l.length then l[k] else (k : Int) - l.length, l.drop (k + 1), ((k + 1 - l.length : Nat) : Int)) := by
  by_cases h : k < l.length
  · rw [List.drop_eq_getElem_cons h]
    simp [nextOf, h]
    omega
  · rw [List.drop_eq_nil_of_le (by omega), List.drop_eq_nil_of_le (by omega)]
    simp [nextOf, h]
    omega

set_option maxRecDepth 100000 in
set_option maxHeartbeats 4000000 in
theorem rrun_any (B : Nat) (w : World) (q : Nat) (G : List Nat) (ts : List Task) (ls : List Sl) (ao : Option Addr) (len cap : Nat) (l : List Int) (f : Nat) (fuel : Int) (N : Int) (hf : f = fuel.toNat) (hfu : -65536 ≤ fuel ∧ fuel ≤ 65536) (hN : N + f < 4611686018427387904) (hN0 : 0 ≤ N) (hlen : len ≤ 65536) (hl : Ranged l) (hr : Rd w G ao len l) (hlim : Lim N ts) (h : Rf B w q G ts ls) :
    Calls Try.prog 17 #[.pointer (some ⟨q, 0, none⟩), .int .i64 fuel, .slice ao len cap] w fun e w' =>
      e = .returned (.int .i64 ((runOf f l 0 ts).1 : Nat)) ∧ Rf B w' q G (runOf f l 0 ts).2 ls ∧ Turned G w w' := by
  have HH := hide h
  have HR := hide hr
  have HL := hide hl
  have HLim := hide hlim
  have HLen := hide hr.1
  have HF := hide hf
  clear h hr hl hlim
  go_enter Try.func17, Try.ntmps17
  go_wp2_with fail
  go_loopw [7, 8, 9, 10] (fun d _ _ _ wr => ∃ (k : Nat) (us : List Task), k ≤ f ∧ d = .int .i64 k ∧ Hid (Rf B wr q G us ls) ∧ Hid (Turned G w wr) ∧ Hid (Lim (N + k) us) ∧ Hid ((runOf f l 0 ts) = (k + (runOf (f - k) (l.drop k) ((k - l.length : Nat) : Int) us).1, (runOf (f - k) (l.drop k) ((k - l.length : Nat) : Int) us).2))) (fun d _ _ _ _ => f - (intOf d).toNat)
  case atStart => exact ⟨0, ts, Nat.zero_le _, rfl, HH, Turned.refl _ _, by show Lim _ _; simpa using HLim.out, by show _ = _; simp⟩
  case round =>
    obtain ⟨k, us, hk, rfl, HT, HTr, HLr, HE⟩ := hrel
    by_cases hlt : k < f
    · have e0 : (k : Int) < fuel := by omega
      have e4 : wrap64 ((k : Int) - (len : Int)) = (k : Int) - (len : Int) := by unfold wrap64; omega
      have e1 : wrap64 ((k : Int) + 1) = (k : Int) + 1 := by unfold wrap64; omega
      obtain ⟨x, hx⟩ : ∃ x, x = (nextOf (l.drop k) ((k - l.length : Nat) : Int)).1 := ⟨_, rfl⟩
      have hnx := next_at l k
      have hll := HLen.out
      have HE2 : Hid (runOf (f - k) (l.drop k) ((k - l.length : Nat) : Int) us = if (pickOf us x).isSome then
        ((runOf (f - (k + 1)) (l.drop (k + 1)) ((k + 1 - l.length : Nat) : Int) (pickTo us x)).1 + 1, (runOf (f - (k + 1)) (l.drop (k + 1)) ((k + 1 - l.length : Nat) : Int) (pickTo us x)).2) else (0, us)) := by
        show _ = _
        rw [show f - k = f - (k + 1) + 1 by omega, runOf, ← hx, hnx]
      have HXV : Hid (x = if h : k < l.length then l[k] else (k : Int) - l.length) := by show _ = _; rw [hx, hnx]
      clear hx hnx
      have HXA : Hid (k < l.length → l[k]? = some x) := fun h => by
        have h1 := HXV.out
        rw [dif_pos h] at h1
        rw [h1]
        exact List.getElem?_eq_getElem h
      have HXB : Hid (¬ k < l.length → x = (k : Int) - l.length) := fun h => by
        have h1 := HXV.out
        rw [dif_neg h] at h1
        exact h1
      have hxr : -9223372036854775808 ≤ x ∧ x ≤ 9223372036854775807 := by
        by_cases h : k < l.length
        · exact HL.out _ (List.mem_of_getElem? (HXA.out h))
        · have h1 := HXB.out h
          omega
      have HP := hide (fun wq (hq : Rf B wq q G us ls) => rpick_any B wq q G us ls x hxr (N + k) (by omega) HLr.out hq)
      by_cases hkl : k < l.length
      · have hxv2 := HXA.out hkl
        obtain ⟨g, off, rfl, hgG, hc⟩ := HR.out.2 k x hxv2
        have hcr : wr.cell? ⟨g, off + k, none⟩ = some (.int .i64 x) := by rw [HTr.out.cell (block_lt hc) hgG]; exact hc
        have hkl2 : (k : Int) < (len : Int) := by omega
        clear hxv2 hc hgG hll hf
        go_wp2_with fail
        refine (HP.out _ HT.out).mono ?_
        rintro e w2 ⟨rfl, hT2, ht2⟩
        have HT2 := hide hT2
        have HTT := hide (HTr.out.trans ht2)
        clear hT2 ht2 HP HTr HT
        cases hpk : pickOf us x with
        | some i =>
          have HLim2 := hide (lim_pick HLr.out x)
          have HE3 := HE2.out
          rw [hpk] at HE3
          simp only [Option.isSome_some, if_true] at HE3
          have HE4 := hide HE3
          clear HE3 HE2
          rw [Option.isSome_some]
          go_wp2_with fail
          go_roundw
          case rel =>
            refine ⟨k + 1, pickTo us x, by omega, by go_num, HT2, HTT, ?_, ?_⟩
            · show Lim _ _
              have := HLim2.out
              rw [show N + ((k + 1 : Nat) : Int) = N + k + 1 by omega]
              exact this
            · show _ = _
              rw [HE.out, HE4.out]
              simp
              omega
          case measure => simp [intOf]; omega
        | none =>
          have HE3 := HE2.out
          rw [hpk] at HE3
          simp only [Option.isSome_none, Bool.false_eq_true, if_false] at HE3
          have e2 := pickTo_none hpk
          have hres : runOf f l 0 ts = (k, us) := by rw [HE.out, HE3]; simp
          rw [e2] at HT2
          rw [Option.isSome_none]
          have HRes := hide hres
          clear HE HE2 HE3 hres
          go_wp2_with fail
          go_ret
          rw [HRes.out]
          exact ⟨rfl, HT2.out, HTT.out⟩
      · have hxv2 : (k : Int) - (len : Int) = x := by have h1 := HXB.out hkl; omega
        have hkl2 : ¬ ((k : Int) < (len : Int)) := by omega
        subst hxv2
        clear hll hf HXA HXB HXV
        go_wp2_with fail
        refine (HP.out _ HT.out).mono ?_
        rintro e w2 ⟨rfl, hT2, ht2⟩
        have HT2 := hide hT2
        have HTT := hide (HTr.out.trans ht2)
        clear hT2 ht2 HP HTr HT
        cases hpk : pickOf us ((k : Int) - (len : Int)) with
        | some i =>
          have HLim2 := hide (lim_pick HLr.out ((k : Int) - (len : Int)))
          have HE3 := HE2.out
          rw [hpk] at HE3
          simp only [Option.isSome_some, if_true] at HE3
          have HE4 := hide HE3
          clear HE3 HE2
          rw [Option.isSome_some]
          go_wp2_with fail
          go_roundw
          case rel =>
            refine ⟨k + 1, pickTo us ((k : Int) - (len : Int)), by omega, by go_num, HT2, HTT, ?_, ?_⟩
            · show Lim _ _
              have := HLim2.out
              rw [show N + ((k + 1 : Nat) : Int) = N + k + 1 by omega]
              exact this
            · show _ = _
              rw [HE.out, HE4.out]
              simp
              omega
          case measure => simp [intOf]; omega
        | none =>
          have HE3 := HE2.out
          rw [hpk] at HE3
          simp only [Option.isSome_none, Bool.false_eq_true, if_false] at HE3
          have e2 := pickTo_none hpk
          have hres : runOf f l 0 ts = (k, us) := by rw [HE.out, HE3]; simp
          rw [e2] at HT2
          rw [Option.isSome_none]
          have HRes := hide hres
          clear HE HE2 HE3 hres
          go_wp2_with fail
          go_ret
          rw [HRes.out]
          exact ⟨rfl, HT2.out, HTT.out⟩
    · have e0 : ¬ ((k : Int) < fuel) := by omega
      have e1 : k = f := by omega
      have hres : runOf f l 0 ts = (k, us) := by rw [HE.out, e1]; simp [runOf]
      have HRes := hide hres
      have HK := hide e1
      clear HE hres hf e1
      by_cases hn : fuel < 0
      · have hk0 : k = 0 := by have := HF.out; have := HK.out; omega
        subst hk0
        clear e0
        have e0 : ¬ ((0 : Int) < fuel) := by omega
        go_wp2_with fail
        go_ret
        rw [HRes.out]
        exact ⟨rfl, HT.out, HTr.out⟩
      · have hfk : fuel = (k : Int) := by have := HF.out; have := HK.out; omega
        subst hfk
        go_wp2_with fail
        go_ret
        rw [HRes.out]
        exact ⟨rfl, HT.out, HTr.out⟩
end Go.Proofs.Ytopoklciglgkbaa
