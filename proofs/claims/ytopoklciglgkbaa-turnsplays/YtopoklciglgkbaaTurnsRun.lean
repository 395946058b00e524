/-
  Run of package turns.
-/
import Derived.Test.YtopoklciglgkbaaTurnsNext
namespace Go.Proofs.Ytopoklciglgkbaa
open Go.RowKit
set_option linter.unusedVariables false

def Ranged (l : List Int) : Prop := ∀ x, x ∈ l → -9223372036854775808 ≤ x ∧ x ≤ 9223372036854775807

/-- A run: how many picks were done, and how the tasks stand behind it. -/
def runOf : Nat → List Int → Int → List Task → Nat × List Task
  | 0, _, _, ts => (0, ts)
  | f + 1, l, m, ts => if (pickOf ts (nextOf l m).1).isSome then
      ((runOf f (nextOf l m).2.1 (nextOf l m).2.2 (pickTo ts (nextOf l m).1)).1 + 1, (runOf f (nextOf l m).2.1 (nextOf l m).2.2 (pickTo ts (nextOf l m).1)).2) else (0, ts)

theorem next_facts {l : List Int} {m M : Int} (hr : Ranged l) (hm : 0 ≤ m ∧ m ≤ M) (hM : M < 4611686018427387904) :
    (-9223372036854775808 ≤ (nextOf l m).1 ∧ (nextOf l m).1 ≤ 9223372036854775807) ∧ Ranged (nextOf l m).2.1 ∧ 0 ≤ (nextOf l m).2.2 ∧ (nextOf l m).2.2 ≤ M + 1 := by
  cases l with
  | nil => exact ⟨by simp [nextOf]; omega, by intro x hx; simp [nextOf] at hx, by simp [nextOf]; omega, by simp [nextOf]; omega⟩
  | cons x l => exact ⟨hr x (by simp), fun y hy => hr y (by simp only [nextOf] at hy; simp [hy]), hm.1, by simp [nextOf]; omega⟩

theorem lim_pick {N : Int} {ts : List Task} (h : Lim N ts) (p : Int) : Lim (N + 1) (pickTo ts p) := by
  unfold pickTo
  split
  · rename_i i hi
    split
    · rename_i t ht
      intro u hu
      obtain ⟨j, hj⟩ := List.mem_iff_getElem?.1 hu
      rw [List.getElem?_set] at hj
      split at hj
      · split at hj
        · injection hj with hj
          have := h t (List.mem_of_getElem? ht)
          rw [← hj]
          simp [Task.adv]
          omega
        · cases hj
      · have := h u (List.mem_of_getElem? hj)
        omega
    · intro u hu
      have := h u hu
      omega
  · intro u hu
    have := h u hu
    omega
theorem pickTo_none {ts : List Task} {p : Int} (h : pickOf ts p = none) : pickTo ts p = ts := by
  unfold pickTo; rw [h]

def nextFv (s : Nat) : Value := .func (.func 35) #[.pointer (some ⟨s, 0, none⟩)] #[]

set_option maxRecDepth 100000 in
theorem follow_any (B : Nat) (w : World) (p : Nat) (F : List Nat) (ts : List Task) (s : Nat) (l : List Int) (f : Nat) (fuel : Int) (N : Int) (hf : f = fuel.toNat) (hs : B ≤ s ∧ s ∉ F) (hN : N + f < 4611686018427387904) (hN0 : 0 ≤ N) (hl : Ranged l) (hlim : Lim N ts) (h : Tur B w p F ts) (hc : Scr w F s l 0) :
    Calls Try.prog 34 #[.pointer (some ⟨p, 0, none⟩), .int .i64 fuel, .func (.func 35) #[.pointer (some ⟨s, 0, none⟩)] #[]] w fun e w' =>
      e = .returned (.int .i64 ((runOf f l 0 ts).1 : Nat)) ∧ Tur B w' p F (runOf f l 0 ts).2 ∧ Turned (s :: F) w w' := by
  have HH := hide h
  have HC := hide hc
  have HL := hide hl
  have HLim := hide hlim
  have HS := hide hs
  clear h hc hl hlim hs
  go_enter Try.func34, Try.ntmps34
  go_wp2_with fail
  go_loopw [7, 8, 9] (fun d _ _ wr => ∃ (k : Nat) (l' : List Int) (m' : Int) (us : List Task), k ≤ f ∧ d = .int .i64 k ∧ 0 ≤ m' ∧ m' ≤ k ∧ Hid (Tur B wr p F us) ∧ Hid (Scr wr F s l' m') ∧ Hid (Turned (s :: F) w wr) ∧ Hid (Ranged l') ∧ Hid (Lim (N + k) us) ∧ Hid ((runOf f l 0 ts) = (k + (runOf (f - k) l' m' us).1, (runOf (f - k) l' m' us).2))) (fun d _ _ _ => f - (intOf d).toNat)
  case atStart => exact ⟨0, l, 0, ts, Nat.zero_le _, rfl, Int.le_refl _, Int.le_refl _, HH, HC, Turned.refl _ _, HL, by show Lim _ _; simpa using HLim.out, by show _ = _; simp⟩
  case round =>
    obtain ⟨k, l', m', us, hk, rfl, hm0, hmk, HT, HCr, HTr, HRr, HLr, HE⟩ := hrel
    by_cases hlt : k < f
    · have e0 : (k : Int) < fuel := by omega
      obtain ⟨n1, n2, n3, n4⟩ := next_facts HRr.out ⟨hm0, hmk⟩ (by omega)
      have HN := hide (next_any F s l' m' wr (by omega) HCr.out)
      have HE2 : Hid (runOf (f - k) l' m' us = if (pickOf us (nextOf l' m').1).isSome then
        ((runOf (f - (k + 1)) (nextOf l' m').2.1 (nextOf l' m').2.2 (pickTo us (nextOf l' m').1)).1 + 1, (runOf (f - (k + 1)) (nextOf l' m').2.1 (nextOf l' m').2.2 (pickTo us (nextOf l' m').1)).2) else (0, us)) := by
        show _ = _
        rw [show f - k = f - (k + 1) + 1 by omega, runOf]
      have HR2 := hide n2
      have HNN := hide n1
      clear n2 HRr n1
      generalize (nextOf l' m').2.1 = l2 at *
      generalize (nextOf l' m').2.2 = m2 at *
      generalize (nextOf l' m').1 = x at *
      go_wp2_with fail
      refine HN.out.mono ?_
      rintro e w1 ⟨rfl, hc1, ht1⟩
      have hT1 := HT.out.turned ht1 (by intro k hk hm; simp at hm; subst hm; exact HS.out.2 hk) (by intro k hm; simp at hm; subst hm; exact HS.out.1)
      have HP := hide (pick_tur B w1 p F us x HNN.out (N + k) (by omega) HLr.out hT1)
      have HC1 := hide hc1
      have HT1 := hide (HTr.out.trans (ht1.mono (by simp)))
      clear hc1 ht1 hT1 HN HCr HTr
      go_wp2_with fail
      refine HP.out.mono ?_
      rintro e w2 ⟨rfl, hT2, ht2⟩
      have HT2 := hide hT2
      have HC2 := hide (HC1.out.turned ht2 HS.out.2 (fun _ hk => hk))
      have HTT := hide (HT1.out.trans (ht2.mono (by intro k hk; simp [hk])))
      clear hT2 ht2 HP HC1 HT1
      cases hpk : pickOf us x with
      | some i =>
        have HLim2 := hide (lim_pick HLr.out x)
        have HE3 := HE2.out
        rw [hpk] at HE3
        simp only [Option.isSome_some, if_true] at HE3
        have HE4 := hide HE3
        clear HE3 HE2
        have e1 : wrap64 ((k : Int) + 1) = (k : Int) + 1 := by unfold wrap64; omega
        rw [Option.isSome_some]
        go_wp2_with fail
        go_roundw
        case rel =>
          refine ⟨k + 1, l2, m2, pickTo us x, by omega, by go_num, n3, by omega, HT2, HC2, HTT, HR2, ?_, ?_⟩
          · show Lim _ _
            have := HLim2.out
            rw [show N + ((k + 1 : Nat) : Int) = N + k + 1 by omega]
            exact this
          · show _ = _
            rw [HE.out, HE4.out]
            simp
            omega
        case measure => simp [intOf]; omega
      | none =>
        have HE3 := HE2.out
        rw [hpk] at HE3
        simp only [Option.isSome_none, Bool.false_eq_true, if_false] at HE3
        have e2 := pickTo_none hpk
        have hres : runOf f l 0 ts = (k, us) := by rw [HE.out, HE3]; simp
        rw [e2] at HT2
        rw [Option.isSome_none]
        have HRes := hide hres
        clear HE HE2 HE3 hres
        go_wp2_with fail
        go_ret
        rw [HRes.out]
        exact ⟨rfl, HT2.out, HTT.out⟩
    · have e0 : ¬ ((k : Int) < fuel) := by omega
      have e1 : k = f := by omega
      have hres : runOf f l 0 ts = (k, us) := by rw [HE.out, e1]; simp [runOf]
      have HRes := hide hres
      clear HE hres e1
      go_wp2_with fail
      go_ret
      rw [← hf, HRes.out]
      exact ⟨rfl, HT.out, HTr.out⟩

theorem run_tur (B : Nat) (w : World) (p : Nat) (F : List Nat) (ts : List Task) (ao : Option Addr) (len cap : Nat) (l : List Int) (f : Nat) (fuel : Int) (N : Int) (hf : f = fuel.toNat) (hN : N + f < 4611686018427387904) (hN0 : 0 ≤ N) (hlen : len ≤ 65536) (hl : Ranged l) (hr : Rd w F ao len l) (hlim : Lim N ts) (h : Tur B w p F ts) :
    Calls Try.prog 16 #[.pointer (some ⟨p, 0, none⟩), .int .i64 fuel, .slice ao len cap] w fun e w' =>
      e = .returned (.int .i64 ((runOf f l 0 ts).1 : Nat)) ∧ Tur B w' p F (runOf f l 0 ts).2 ∧ Turned F w w' := by
  have HC := hide (clone_any F ao len cap l w hlen hr)
  have hmf : ∀ (fn : Fn) (first cap : Array Value) (w : World), (Instr.makeFunc fn first cap).run Try.prog w = .ok (.func fn first cap) w := fun _ _ _ _ => rfl
  have HF := hide (fun w1 s (hs : B ≤ s ∧ s ∉ F) h1 h2 => follow_any B w1 p F ts s l f fuel N hf hs hN hN0 hl hlim h1 h2)
  have HH := hide h
  have HLen := hide hr.1
  clear h hr hl hlim hf hN
  go_enter Try.func16, Try.ntmps16
  go_wp2_with fail
  refine HC.out.mono ?_
  rintro e w1 ⟨v, rfl, hown, hT⟩
  obtain ⟨-, ao2, cap2, rfl, hcl⟩ := ownsRow_any hown
  have hcap2 : len ≤ cap2 := by
    rcases hown.2 with ⟨e, h0⟩ | ⟨g, c, cur, e, _, _, h1, _⟩
    · omega
    · have e2 := (Value.slice.injEq .. ▸ e)
      omega
  have hlow := HH.out.trn.lo
  have hp := hlow p HH.out.trn.pF
  have hsF : B ≤ w1.heap.size ∧ w1.heap.size ∉ F := ⟨by have := hT.size; omega, fun hk => by have := (hlow _ hk).2; have := hT.size; omega⟩
  have HTU := hide ((HH.out.same hT).same ((Turned.refl [] w1).alloc (.cells #[.slice ao2 len cap2, .int .i64 0] 74)))
  have HSC : Hid (Scr (w1.alloc (.cells #[.slice ao2 len cap2, .int .i64 0] 74)) F w1.heap.size l 0) := by
    refine ⟨ao2, cap2, by rw [heap_alloc_new, HLen.out], ⟨rfl, fun i x hx => ?_⟩, by rw [HLen.out]; exact hcap2⟩
    obtain ⟨g, e, hg1, hg2, hc, _⟩ := hcl i (.int .i64 x) (by rw [List.getElem?_map, hx]; rfl)
    refine ⟨g, 0, e, ?_, ?_⟩
    · simp
      exact ⟨by omega, fun hk => by have := (hlow _ hk).2; omega⟩
    · rw [Nat.zero_add, World.cell?_of_block (w := w1) (Below.heap_alloc _ _ _ hg2)]
      exact hc
  have HFF := hide (HF.out _ w1.heap.size hsF HTU.out HSC.out)
  have HTW := hide hT
  clear HC HF hown hcl hT hcap2 hlow hp
  go_wp2_with fail
  refine HFF.out.mono ?_
  rintro e w2 ⟨rfl, h1, h2⟩
  have HT2 := hide (((HTW.out.alloc _).mono (T := F) (by simp)).trans_new h2 (by intro k hk; simp at hk; rcases hk with rfl | hk; exact .inr HTW.out.size; exact .inl hk))
  have H1 := hide h1
  clear h1 h2
  go_wp2_with fail
  go_ret
  exact ⟨rfl, H1.out, HT2.out⟩
end Go.Proofs.Ytopoklciglgkbaa
