/-
  Texts of the proof, several in one: DocPlanD.
-/
import Derived.Test.YtpeglndlhjnaaaaGreatDoorPack22
/-
  The document's plan (ballastref13): Make.
-/
namespace Go.Proofs.YtpeglndlhjnaaaaGreatDoor
open Go.RowKit Bt
set_option linter.unusedVariables false
set_option linter.unusedSimpArgs false

set_option maxHeartbeats 4000000 in
set_option maxRecDepth 100000 in
theorem rmake13 (p q n : Nat) (S : Nat → Nat) (f t k waste : Nat) (w : World) (hb : RB w p q n S) (hft : f ≤ t) (htn : t ≤ n) (hk : 1 ≤ k) (hk2 : k ≤ 65536) (hw : waste ≤ 1000000) (hcf : NoCut S f) (hct : NoCut S t) :
    Calls Tryz.prog 31 #[.pointer (some ⟨p, 0, none⟩), .int .i64 (f : Int), .int .i64 (t : Int), .int .i64 (k : Int), .int .i64 (waste : Int)] w fun e w' => ∃ P l a wq tq, e = .returned (.tuple #[.agg (plC P l a (slc wq P.R) (slc tq P.R)), .int .i64 0]) ∧ Makes S f t k waste P ∧ DPl w' P S l a wq tq ∧ Turned [] w w' := by
  have hn := hb.few
  have hOk : ∀ d e, PN.Ok ⟨f, t, k, d, e⟩ := fun d e => ⟨by show f ≤ t; omega, by show t ≤ 65536; omega, hk, hk2⟩
  have HCf := hide (fun (w' : World) (t : Turned [] w w') => rcross13 p q n S f w' (hb.turned0 t) (by omega))
  have HCt := hide (fun (w' : World) (tt : Turned [] w w') => rcross13 p q n S t w' (hb.turned0 tt) (by omega))
  rw [crS_not hcf] at HCf
  rw [crS_not hct] at HCt
  have HBr := hide hb
  have HCT := hide hct
  have HOK := hide hOk
  have hfi : ¬ (t : Int) < f := by omega
  have hti : ¬ (n : Int) < t := by omega
  have hki : ¬ (k : Int) < 1 := by omega
  obtain ⟨w0, hw0⟩ : ∃ w0, w0 = w.alloc (.cells #[.int .i64 0, .int .i64 0, .int .i64 0, .int .i64 0, .int .i64 0, .slice none 0 0, .slice none 0 0, .slice none 0 0, .slice none 0 0] 42) := ⟨_, rfl⟩
  have hT0 : Turned [] w w0 := by rw [hw0]; exact (Turned.refl [] w).alloc _
  have hr0 : Pb w0 w.heap.size ⟨0, 0, 0, 0, 0⟩ (.slice none 0 0) (.slice none 0 0) (.slice none 0 0) (.slice none 0 0) := by
    rw [hw0]
    exact heap_alloc_new _ _
  have HT0 := hide hT0
  have HR0 := hide hr0
  obtain ⟨rb, hrb⟩ : ∃ rb, rb = w.heap.size := ⟨_, rfl⟩
  rw [← hrb] at HR0
  have HNb := hide (show w.heap.size ≤ rb by omega)
  have cb0 := (hb.turned0 hT0).c0
  clear hb hcf hct hOk hT0 hr0
  go_enter Tryz.func31, Tryz.ntmps31
  rw [hw0] at cb0
  go_wp2_with fail
  rw [← hw0, ← hrb]
  clear hw0 hrb cb0
  refine (HCf.out _ HT0.out).mono ?_
  rintro e1 w2 ⟨rfl, ht2⟩
  have HT2 := hide (HT0.out.trans ht2)
  have HR2 := hide (HR0.out.turned0 ht2)
  clear ht2 HT0 HR0
  go_wp2_with fail
  refine (HCt.out _ HT2.out).mono ?_
  rintro e1 w3 ⟨rfl, ht3⟩
  have HT3 := hide (HT2.out.trans ht3)
  have HR3 := hide (HR2.out.turned0 ht3)
  clear ht3 HT2 HR2 HCf HCt
  go_upto_region 8 with fail
  have HM4 := hide (show Dm w (w3.alloc (.cells #[.int .i64 (f : Int), .int .i64 (t : Int), .int .i64 (k : Int), .int .i64 (f : Int), .int .i64 0, .slice none 0 0, .slice none 0 0, .slice none 0 0, .slice none 0 0] 42)) w3.heap.size rb ⟨f, t, k, f, 0⟩ (.slice none 0 0) (.slice none 0 0) (.slice none 0 0) (.slice none 0 0) from ⟨HT3.out.alloc _, heap_alloc_new _ _, HR3.out.turned0 ((Turned.refl [] w3).alloc _), by have := HR3.out.lt; omega, HT3.out.size, HNb.out⟩)
  have hsz4 : w3.heap.size + 1 ≤ (w3.alloc (.cells #[.int .i64 (f : Int), .int .i64 (t : Int), .int .i64 (k : Int), .int .i64 (f : Int), .int .i64 0, .slice none 0 0, .slice none 0 0, .slice none 0 0, .slice none 0 0] 42)).heap.size := by simp
  have HS4 := hide hsz4
  clear hsz4
  generalize w3.alloc (.cells #[Value.int .i64 (f : Int), Value.int .i64 (t : Int), Value.int .i64 (k : Int), Value.int .i64 (f : Int), Value.int .i64 0, .slice none 0 0, .slice none 0 0, .slice none 0 0, .slice none 0 0] 42) = w4 at *
  generalize w3.heap.size = pb at *
  clear HT3 HR3 HNb
  have HRg := hide (fun w => rregions13 ⟨f, t, k, f, 0⟩ (HOK.out f 0) (.slice none 0 0) (.slice none 0 0) (.slice none 0 0) (.slice none 0 0) w)
  obtain ⟨R, hRR⟩ : ∃ R, R = PN.R ⟨f, t, k, f, 0⟩ := ⟨_, rfl⟩
  rw [← hRR] at HRg
  have HRR : Hid (∀ d e, PN.R ⟨f, t, k, d, e⟩ = R) := hide (fun d e => hRR.symm)
  have hR6 : R ≤ 65536 := by rw [hRR]; exact PN.R_few (HOK.out f 0)
  clear hRR
  unfold plC at HRg
  simp only [Int.cast_ofNat_Int] at HRg
  obtain ⟨c0, c1, c2, c3, c4, c5, c6, c7, c8⟩ := HM4.out.p.cs
  simp only [Int.cast_ofNat_Int] at c0 c1 c2 c3 c4
  go_wp2_with fail
  refine (HRg.out _).mono ?_
  rintro e1 w5 ⟨rfl, ht5⟩
  have HM5 := hide (HM4.out.turned0 ht5)
  have HS5 := hide (Nat.le_trans HS4.out ht5.size)
  clear ht5 HM4 HS4 HRg c0 c1 c2 c3 c4 c5 c6 c7 c8
  obtain ⟨i0, hi, hi0⟩ := Option.map_eq_some_iff.1 Tryz.infoInt
  simp only [Prod.mk.injEq] at hi0
  obtain ⟨hz0, hz1, hz2⟩ := hi0
  have HI := hide (And.intro hi (And.intro hz0 (And.intro hz1 hz2)))
  clear hi hz0 hz1 hz2 hfi hti hki
  obtain ⟨P0, hP0⟩ : ∃ P0 : PN, P0 = ⟨f, t, k, 0, 0⟩ := ⟨_, rfl⟩
  have HP0 := hide hP0
  have HSp : Hid (∀ (r D : Nat) (l : Value) (w : World), r < R → Calls Tryz.prog 77 #[.agg #[.int .i64 (f : Int), .int .i64 (t : Int), .int .i64 (k : Int), .int .i64 (D : Int), .int .i64 0, l, .slice none 0 0, .slice none 0 0, .slice none 0 0], .int .i64 (r : Int)] w fun e w' => e = .returned (.tuple #[.int .i64 (P0.ed r : Nat), .int .i64 (P0.ed (r + 1) : Nat)]) ∧ Turned [] w w') := hide (fun r D l w hr => by
    have := rspan13 ⟨f, t, k, D, 0⟩ (HOK.out D 0) l (.slice none 0 0) (.slice none 0 0) (.slice none 0 0) r (by rw [HRR.out]; exact hr) w
    rw [hP0]
    exact this)
  have HCn := hide (fun (a b : Nat) (hb : b ≤ n) (ha : a ≤ 65536) (w' : World) (tt : Turned [] w w') => rcount13 p q n S a b w' (HBr.out.turned0 tt) ha hb)
  have HEd : Hid (∀ r, P0.ed r ≤ t) := hide (fun r => by have := PN.ed_le P0 r; rw [hP0] at this ⊢; exact this)
  have HOK0 : Hid P0.Ok := hide (by rw [hP0]; exact HOK.out 0 0)
  have HE0 : Hid (P0.ed 0 = f) := hide (by rw [PN.ed_zero HOK0.out, hP0])
  have HDN := hide (fun r => dead_next HOK0.out (live S) r)
  have HDl : Hid (∀ x, x ≤ t → deadTo P0 (live S) x ≤ 65536) := hide (fun x hx => by unfold deadTo; omega)
  clear hP0
  have HRow0 : Hid (w5.ownsRow (pb + 1) 3 1 (.slice none 0 0) 0 (rowOf (lvR P0 (live S)) 0)) := hide ⟨by unfold rowOf; simp, .inl ⟨rfl, rfl⟩⟩
  have hf6 : f ≤ 65536 := by omega
  have hpbw : Hid (w.heap.size ≤ pb + 1) := hide (by have := HM5.out.np; omega)
  go_wp2_with fail
  go_loopg [16, 17] R (fun gg s16 s17 wr => ∃ (r D dd K : Nat) (l : Value), r ≤ R ∧ gg = R - r ∧ s17 = .int .i64 (r : Int) ∧ s16 = .int .i64 (dd : Int) ∧ dd ≤ 65536 ∧ D ≤ 65536 ∧ Hid (Dm w wr pb rb ⟨f, t, k, D, 0⟩ l (.slice none 0 0) (.slice none 0 0) (.slice none 0 0)) ∧ Hid (wr.ownsRow (pb + 1) 3 1 l r (rowOf (lvR P0 (live S)) r)) ∧ Hid (dd = deadTo P0 (live S) (P0.ed r) ∧ D = P0.ed K ∧ PackT P0 (live S) waste r K))
  case atStart => exact ⟨0, f, 0, 0, .slice none 0 0, Nat.zero_le _, rfl, rfl, rfl, Nat.zero_le _, hf6, HM5, HRow0, hide ⟨by rw [HE0.out]; have := HP0.out; rw [this]; unfold deadTo; simp, HE0.out.symm, PackT.zero HOK0.out _ _⟩⟩
  case round =>
    clear HM5 HRow0
    obtain ⟨r, D, dd, K, l, hrR, rfl, rfl, rfl, hdd, hD6, HM, HO, HA⟩ := hrel
    by_cases hlt : r < R
    · have hlti : (r : Int) < (R : Int) := by omega
      have HSr := hide (fun w => HSp.out r D l w hlt)
      obtain ⟨c0, c1, c2, c3, c4, c5, c6, c7, c8⟩ := HM.out.p.cs
      simp only [Int.cast_ofNat_Int] at c0 c1 c2 c3 c4
      have hE1 := HEd.out r
      have hE2 := HEd.out (r + 1)
      have HD2 := hide (HDN.out r)
      have HD3 := hide (HDl.out (P0.ed (r + 1)) hE2)
      have HLv : Hid (lvR P0 (live S) r = cnt (live S) (P0.ed (r + 1)) - cnt (live S) (P0.ed r)) := hide rfl
      have hcl : cnt (live S) (P0.ed (r + 1)) - cnt (live S) (P0.ed r) ≤ 65536 := by have := cnt_le (live S) (P0.ed (r + 1)); omega
      have hdA := HA.out.1
      have HPk := hide HA.out.2
      rw [← hdA] at HD2
      clear hdA HA
      obtain ⟨E1, hE1e⟩ : ∃ E1, E1 = P0.ed r := ⟨_, rfl⟩
      obtain ⟨E2, hE2e⟩ : ∃ E2, E2 = P0.ed (r + 1) := ⟨_, rfl⟩
      have HEE := hide (And.intro hE1e hE2e)
      rw [← hE1e, ← hE2e] at HSr HD2 HLv hcl
      rw [← hE1e] at hE1
      rw [← hE2e] at hE2 HD3
      clear hE1e hE2e
      have HCc := hide (HCn.out E1 E2 (by omega) (by omega))
      obtain ⟨c, hc⟩ : ∃ c, c = cnt (live S) E2 - cnt (live S) E1 := ⟨_, rfl⟩
      rw [← hc] at HLv HD2 HCc hcl
      clear hc
      obtain ⟨d2, hd2⟩ : ∃ d2, d2 = deadTo P0 (live S) E2 := ⟨_, rfl⟩
      rw [← hd2] at HD2 HD3
      have HD4 := hide hd2
      clear hd2
      go_wp2_with fail
      refine (HSr.out _).mono ?_
      rintro e1 w6 ⟨rfl, ht6⟩
      have HM6 := hide (HM.out.turned0 ht6)
      have HO6 := hide (own_turned HO.out ht6)
      clear ht6 HM HO HSr c0 c1 c2 c3 c4 c5 c6 c7 c8
      go_wp2_with fail
      refine (HCc.out _ HM6.out.t).mono ?_
      rintro e1 w7 ⟨rfl, ht7⟩
      have HM7 := hide (HM6.out.turned0 ht7)
      have HO7 := hide (own_turned HO6.out ht7)
      clear ht7 HM6 HO6 HCc
      obtain ⟨c0, c1, c2, c3, c4, c5, c6, c7, c8⟩ := HM7.out.p.cs
      have hpl := HM7.out.p.lt
      have hsz7 := HM7.out.t.size
      go_upto_region 16 with (at_builtin; (refine wpList_append_own _ rfl _ _ 23 rfl (pb + 1) 3 i0 _ 1 8 Tryz.underlying23 HI.out.1 HI.out.2.1 HI.out.2.2.1 HI.out.2.2.2 rfl (by decide) _ _ _ rfl (HO7.out.alloc _) ⟨w7.heap.size, 0, none⟩ 1 1 [.int .i64 (c : Int)] rfl rfl (cells_new13 _ _ _ _ rfl) (ints_oneCell .i64 [(c : Int)]) (by unfold maxLen; omega) (by omega) (by simp; omega) ?_); intro v8 w8 hown8 hgr8 hnil8; have HO8 := hide hown8; have HM8 := hide (HM7.out.grown HO7.out _ hgr8 hpbw.out); have fz8 := HM8.out.p.fz 5; have pl8 := HM8.out.p.lt; have c58 := HM8.out.p.cs.2.2.2.2.2.1; clear hown8 hgr8 hnil8; obtain ⟨-, ao8, cap8, hv8, -⟩ := ownsRow_any HO8.out; subst hv8)
      have HM9 := hide (HM8.out.set 5 (.slice ao8 (r + 1) cap8) (P' := ⟨f, t, k, D, 0⟩) (l' := .slice ao8 (r + 1) cap8) (a' := .slice none 0 0) (wt' := .slice none 0 0) (tk' := .slice none 0 0) rfl)
      have HO9 : Hid ((w8.setCell ⟨pb, 5, none⟩ (.slice ao8 (r + 1) cap8)).ownsRow (pb + 1) 3 1 (.slice ao8 (r + 1) cap8) (r + 1) (rowOf (lvR P0 (live S)) (r + 1))) := hide (by
        rw [rowOf_succ, HLv.out]
        exact own_off HM8.out.p HO8.out 5 _)
      clear c58 HM8 HO8 HM7 HO7 c0 c1 c2 c3 c4 c5 c6 c7 c8 fz8 pl8 hpl hsz7
      generalize w8.setCell ⟨pb, 5, none⟩ (.slice ao8 (r + 1) cap8) = w9 at *
      have hsum : (dd : Int) + E2 - E1 - c = (d2 : Nat) := HD2.out
      have hd26 : d2 ≤ 65536 := HD3.out
      by_cases hyes : d2 ≤ waste
      · have hyi : (dd : Int) + E2 - E1 - c ≤ (waste : Int) := by omega
        have fz9 := HM9.out.p.fz 3
        have pl9 := HM9.out.p.lt
        have c39 := HM9.out.p.cs.2.2.2.1
        have HMa := hide (HM9.out.set 3 (.int .i64 (E2 : Int)) (P' := ⟨f, t, k, E2, 0⟩) (l' := .slice ao8 (r + 1) cap8) (a' := .slice none 0 0) (wt' := .slice none 0 0) (tk' := .slice none 0 0) rfl)
        have HOa := hide (own_off HM9.out.p HO9.out 3 (.int .i64 (E2 : Int)))
        have HAa : Hid (d2 = deadTo P0 (live S) (P0.ed (r + 1)) ∧ E2 = P0.ed (r + 1) ∧ PackT P0 (live S) waste (r + 1) (r + 1)) := hide ⟨by rw [← HEE.out.2]; exact HD4.out, HEE.out.2, HPk.out.2.yes HOK0.out (by rw [← HEE.out.2, ← HD4.out]; exact hyes)⟩
        go_wp2_with fail
        go_roundg (R - (r + 1))
        case measure => omega
        case rel => exact ⟨r + 1, E2, d2, r + 1, .slice ao8 (r + 1) cap8, by omega, rfl, by go_num, by rw [← hsum], by omega, by omega, HMa, HOa, HAa⟩
      · have hyi : ¬ (dd : Int) + E2 - E1 - c ≤ (waste : Int) := by omega
        have HAa : Hid (d2 = deadTo P0 (live S) (P0.ed (r + 1)) ∧ D = P0.ed K ∧ PackT P0 (live S) waste (r + 1) K) := hide ⟨by rw [← HEE.out.2]; exact HD4.out, HPk.out.1, HPk.out.2.no HOK0.out (by rw [← HEE.out.2, ← HD4.out]; omega)⟩
        go_wp2_with fail
        go_roundg (R - (r + 1))
        case measure => omega
        case rel => exact ⟨r + 1, D, d2, K, .slice ao8 (r + 1) cap8, by omega, rfl, by go_num, by rw [← hsum], by omega, by omega, HM9, HO9, HAa⟩
    · have hlti : ¬ (r : Int) < (R : Int) := by omega
      have hrR2 : r = R := by omega
      subst hrR2
      have HOv := hide (rover_any p q n S (D : Int) wr (HBr.out.turned0 HM.out.t))
      have HCx := hide (fun (w' : World) (tt : Turned [] wr w') => rcross13 p q n S D w' (HBr.out.turned0 (HM.out.t.trans tt)) hD6)
      have HBl := hide HBr.out.bl
      have c3 := HM.out.p.cs.2.2.2.1
      go_upto_region 19 with fail
      go_wp2_with fail
      refine (HOv.out).mono ?_
      rintro e1 w6 ⟨oa, oz, ot, rfl, hov, m6, hw6⟩
      have ht6 : Turned [] wr w6 := by rw [hw6]; exact (Turned.refl [] wr).drewN m6
      have HOV := hide hov
      have HT6 := hide ht6
      have HM6 := hide (HM.out.turned0 ht6)
      have HO6 := hide (own_turned HO.out ht6)
      clear hov ht6 hw6 c3 HOv
      have c3 := HM6.out.p.cs.2.2.2.1
      go_wp2_with fail
      refine (HCx.out _ HT6.out).mono ?_
      rintro e1 w7 ⟨rfl, ht7⟩
      have HM7 := hide (HM6.out.turned0 ht7)
      have HO7 := hide (own_turned HO6.out ht7)
      clear ht7 HM HO HM6 HO6 HT6 HCx c3
      have HK1 : Hid (crS S D = true → ∃ D2 : Nat, oa + oz = (D2 : Int) ∧ (0 ≤ oa ∧ oa ≤ 65536) ∧ (0 ≤ oz ∧ oz ≤ 65536) ∧ D2 ≤ 65536 ∧ IsPast S D D2) := hide (fun hc => by
        obtain ⟨kk, rfl, rfl, h1, h2, h3⟩ := cross_over HBl.out HOV.out hc
        exact ⟨kk + S kk, by simp, by omega, by omega, by omega, .inl ⟨kk, h1, h2, rfl⟩⟩)
      have HK2 := hide (fun hc => cross_no (S := S) (D := D) hc)
      generalize crS S D = cx at *
      clear HOV
      have c3 := HM7.out.p.cs.2.2.2.1
      have fz7 := HM7.out.p.fz 3
      have pl7 := HM7.out.p.lt
      go_upto_if 122 with fail
      go_cut [] (fun wc => ∃ D2 : Nat, Aside (D2 ≤ 65536) ∧ Aside (Dm w wc pb rb ⟨f, t, k, D2, 0⟩ l (.slice none 0 0) (.slice none 0 0) (.slice none 0 0)) ∧ Aside (wc.ownsRow (pb + 1) 3 1 l r (rowOf (lvR P0 (live S)) r)) ∧ Aside (IsPast S D D2))
      case first =>
        cases cx
        · have HN := hide (HK2.out rfl)
          clear HK1 HK2 hlti c3
          go_wp2_with fail
          go_meet
          case rel => exact ⟨D, hD6, HM7.out, HO7.out, .inr ⟨HN.out, rfl⟩⟩
        · obtain ⟨D2, hsum, hb1, hb2, hD2, hP2⟩ := HK1.out rfl
          have HP2 := hide hP2
          have HMa := hide (HM7.out.set 3 (.int .i64 (D2 : Int)) (P' := ⟨f, t, k, D2, 0⟩) (l' := l) (a' := .slice none 0 0) (wt' := .slice none 0 0) (tk' := .slice none 0 0) (by simp [plC]))
          have HOa := hide (own_off HM7.out.p HO7.out 3 (.int .i64 (D2 : Int)))
          clear HK1 HK2 hlti hP2
          go_wp2_with fail
          go_meet
          case rel => exact ⟨D2, hD2, HMa.out, HOa.out, HP2.out⟩
      case rest =>
        clear HK1 HK2 HM7 HO7 c3 fz7 pl7
        obtain ⟨D2, hD2a, hMa, hOa, hPa⟩ := hcut
        have hD2 : D2 ≤ 65536 := hD2a.out
        have HM := hide hMa.out
        have HO := hide hOa.out
        have HPD := hide hPa.out
        clear hMa hOa hPa hD2a
        obtain ⟨w8, hw8⟩ : ∃ w8, w8 = wc := ⟨_, rfl⟩
        subst hw8
        have HDD := hide HA.out.2.1
        have HPk := hide HA.out.2.2
        have hDt : D2 ≤ t := by
          have h3 := HEd.out K
          rw [← HDD.out] at h3
          rcases HPD.out with ⟨a, k1, k2, k3⟩ | ⟨_, k1⟩
          · by_cases h4 : D2 ≤ t
            · exact h4
            · exact absurd (show t < a + S a by omega) (HCT.out a (by omega))
          · omega
        have hfD : f ≤ D2 := by
          have h3 := PN.ed_ge HOK0.out K
          have h4 := HPD.out.ge
          have h5 : P0.f = f := by rw [HP0.out]
          rw [← HDD.out] at h3
          omega
        clear HA HSp HDN HDl HE0 hpbw HEd
        have HCn2 := hide (fun (w' : World) (tt : Turned [] w8 w') => HCn.out D2 t htn hD2 w' (HM.out.t.trans tt))
        obtain ⟨cc, hcc⟩ : ∃ cc, cc = cnt (live S) t - cnt (live S) D2 := ⟨_, rfl⟩
        have hc6 : D2 + cc ≤ 65536 := by have := cnt_gap (live S) hDt; omega
        rw [← hcc] at HCn2
        have HCC := hide hcc
        obtain ⟨E, hE⟩ : ∃ E, E = D2 + cc := ⟨_, rfl⟩
        have HEE := hide hE
        have hwe : IntKind.i64.wrap ((D2 : Int) + (cc : Int)) = (E : Int) := by rw [IntKind.wrap_i64]; omega
        have hE6 : E ≤ 65536 := by omega
        clear hcc hE hc6
        have c3 := HM.out.p.cs.2.2.2.1
        go_upto_region 23 with fail
        have HNm := hide (And.intro hDt (And.intro hfD (And.intro hD2 (And.intro hE6 (And.intro hn (And.intro hf6 (And.intro hft htn)))))))
        clear hDt hfD hD2 hE6 hn hf6 hft htn hk hk2 hw hdd hD6 hR6 hrR hlti
        go_region_held3 (fun w' => w'.cell? ⟨pb, 3, none⟩ = some (.int .i64 (D2 : Int))) (first | go_keep | (dsimp only; exact SB _))
          (first
            | (go_at_call 78; refine (HCn2.out _ (Turned.refl [] w8).drew).mono ?_; rintro e w9 ⟨rfl, t9⟩; have HM9 := hide (HM.out.turned0 ((Turned.refl [] w8).drew.trans t9)); have HO9 := hide (own_turned HO.out ((Turned.refl [] w8).drew.trans t9)); have j3 := HM9.out.p.cs.2.2.2.1; have j4 := HM9.out.p.cs.2.2.2.2.1; have f4 := HM9.out.p.fz 4; have l4 := HM9.out.p.lt; have SB := HM9.out.p.keep3; clear t9))
        clear j3 j4 f4 l4 SB HM HO HCn2 hwe
        have HM10 := hide (HM9.out.set 4 (.int .i64 (E : Int)) (P' := ⟨f, t, k, D2, E⟩) (l' := l) (a' := (.slice none 0 0)) (wt' := (.slice none 0 0)) (tk' := (.slice none 0 0)) rfl)
        have HO10 := hide (own_off HM9.out.p HO9.out 4 (.int .i64 (E : Int)))
        generalize w9.setCell ⟨pb, 4, none⟩ (.int .i64 (E : Int)) = w10 at *
        clear HM9 HO9
        obtain ⟨R, hRe⟩ : ∃ R, R = r := ⟨_, rfl⟩
        subst hRe
        obtain ⟨b2, hb2⟩ : ∃ b2, b2 = w10.heap.size := ⟨_, rfl⟩
        have HB2 : Hid ((∀ k, l.ownBlock = some k → k < b2) ∧ w.heap.size ≤ b2) := hide ⟨fun k hk => by rw [hb2]; exact (ownsRow_lt HO10.out k hk).2.1, by rw [hb2]; exact HM10.out.t.size⟩
        have HS10 : Hid (b2 ≤ w10.heap.size) := hide (by omega)
        clear hb2
        have HA10 : Hid (w10.ownsRow b2 3 1 (.slice none 0 0) 0 (rowOf (ahR ⟨f, t, k, D2, E⟩ (live S)) 0)) := hide ⟨by unfold rowOf; simp, .inl ⟨rfl, rfl⟩⟩
        have HSp2 : Hid (∀ (r : Nat) (av : Value) (w : World), r < R → Calls Tryz.prog 77 #[.agg #[.int .i64 (f : Int), .int .i64 (t : Int), .int .i64 (k : Int), .int .i64 (D2 : Int), .int .i64 (E : Int), l, av, (.slice none 0 0), (.slice none 0 0)], .int .i64 (r : Int)] w fun e w' => e = .returned (.tuple #[.int .i64 (P0.ed r : Nat), .int .i64 (P0.ed (r + 1) : Nat)]) ∧ Turned [] w w') := hide (fun r av w hr => by
          have := rspan13 ⟨f, t, k, D2, E⟩ (HOK.out D2 E) l av (.slice none 0 0) (.slice none 0 0) r (by rw [HRR.out]; exact hr) w
          rw [HP0.out]
          exact this)
        have HEd : Hid (∀ r, P0.ed r ≤ t) := hide (fun r => by have := PN.ed_le P0 r; rw [HP0.out] at this ⊢; exact this)
        have HAh : Hid (∀ r, ahR ⟨f, t, k, D2, E⟩ (live S) r = cnt (live S) (P0.ed r) - cnt (live S) D2) := hide (fun r => by rw [HP0.out]; rfl)
        have HR6 : Hid (R ≤ 65536) := hide (by rw [← HRR.out 0 0]; exact PN.R_few (HOK.out 0 0))
        go_wp2_with fail
        go_loopg [25] R (fun gg s25 wr => ∃ (r : Nat) (av : Value), Hid (r ≤ R) ∧ gg = R - r ∧ s25 = .int .i64 (r : Int) ∧ Hid (Dm w wr pb rb ⟨f, t, k, D2, E⟩ l av (.slice none 0 0) (.slice none 0 0)) ∧ Hid (wr.ownsRow (pb + 1) 3 1 l R (rowOf (lvR P0 (live S)) R)) ∧ Hid (wr.ownsRow b2 3 1 av r (rowOf (ahR ⟨f, t, k, D2, E⟩ (live S)) r)) ∧ Hid (b2 ≤ wr.heap.size))
        case atStart => exact ⟨0, (.slice none 0 0), hide (Nat.zero_le _), rfl, rfl, HM10, HO10, HA10, HS10⟩
        case round =>
          clear HM10 HO10 HA10 HS10
          obtain ⟨r, av, HRr, rfl, rfl, HM, HO, HA, HS⟩ := hrel
          by_cases hlt : r < R
          · have hlti : (r : Int) < (R : Int) := by omega
            have HR1 : Hid (r ≤ 1000000) := hide (by have := HR6.out; omega)
            have HR2 : Hid (r + 1 ≤ R) := hide hlt
            have HSr := hide (fun w => HSp2.out r av w hlt)
            have hE1 := HEd.out r
            have HE1 := hide (show P0.ed r ≤ n from by have := HNm.out; omega)
            have HLc := hide (HAh.out r)
            obtain ⟨E1, hE1e⟩ : ∃ E1, E1 = P0.ed r := ⟨_, rfl⟩
            rw [← hE1e] at HSr HLc HE1
            generalize P0.ed (r + 1) = E2 at *
            clear hE1e hE1 hlt
            obtain ⟨c, hc⟩ : ∃ c, c = cnt (live S) E1 - cnt (live S) D2 := ⟨_, rfl⟩
            obtain ⟨c0, c1, c2, c3, c4, c5, c6, c7, c8⟩ := HM.out.p.cs
            obtain ⟨w10, hw10⟩ : ∃ w10, w10 = wr := ⟨_, rfl⟩
            subst hw10
            go_wp2_with fail
            refine (HSr.out _).mono ?_
            rintro e1 w11 ⟨rfl, t11⟩
            have HM11 := hide (HM.out.turned0 t11)
            have HO11 := hide (own_turned HO.out t11)
            have HA11 := hide (own_turned HA.out t11)
            have HS11 := hide (Nat.le_trans HS.out t11.size)
            clear t11 HSr c0 c1 c2 c3 c4 c5 c6 c7 c8 HM HO HA HS
            have HCr := hide (fun (w' : World) (tt : Turned [] w11 w') => HCn.out D2 E1 HE1.out HNm.out.2.2.1 w' (HM11.out.t.trans tt))
            rw [← hc] at HCr HLc
            clear hc
            have c3 := (HM11.out.turned0 ((Turned.refl [] w11).drew)).p.cs.2.2.2.1
            have c6 := (HM11.out.turned0 ((Turned.refl [] w11).drew)).p.cs.2.2.2.2.2.2.1
            go_upto_region 28 with fail
            refine wp_region_held_drew (S := (fun w' => w'.cell? ⟨pb, 3, none⟩ = some (.int .i64 (D2 : Int)))) (by kernel_rfl) c3 (fun hHeld => ?_)
            refine wpAnyH_take (i := 0) (v := ?_) rfl (by kernel_rfl) (by kernel_rfl) (by kernel_rfl) (fun _ _ _ h => h) (Or.inl ⟨by rfl, ?_⟩) (by assumption) ?_
            rotate_left
            · (intro w hSw; (try dsimp only at hSw); go_simp; all_goals with_reducible rfl)
            (try simp only [List.getElem_toArray, List.getElem_cons_succ, List.getElem_cons_zero, Act.put, List.setIfInBounds_toArray, List.set_cons_zero, List.set_cons_succ])
            refine wpAnyH_take (i := 2) (v := ?_) rfl (by kernel_rfl) (by kernel_rfl) (by kernel_rfl) (fun _ _ _ h => h) (Or.inl ⟨by rfl, ?_⟩) (by assumption) ?_
            rotate_left
            · (intro w hSw; (try dsimp only at hSw); go_simp; all_goals with_reducible rfl)
            (try simp only [List.getElem_toArray, List.getElem_cons_succ, List.getElem_cons_zero, Act.put, List.setIfInBounds_toArray, List.set_cons_zero, List.set_cons_succ])
            refine wpAnyH_take (i := 3) (v := ?_) rfl (by kernel_rfl) (by kernel_rfl) (by kernel_rfl) (fun _ _ _ h => h) (Or.inl ⟨by rfl, ?_⟩) (by assumption) ?_
            rotate_left
            · (intro w hSw; (try dsimp only at hSw); go_simp; all_goals with_reducible rfl)
            (try simp only [List.getElem_toArray, List.getElem_cons_succ, List.getElem_cons_zero, Act.put, List.setIfInBounds_toArray, List.set_cons_zero, List.set_cons_succ])
            refine wpAnyH_take (i := 4) (v := ?_) rfl (by kernel_rfl) (by kernel_rfl) (by kernel_rfl) (fun _ _ _ h => h) (Or.inl ⟨by rfl, ?_⟩) (by assumption) ?_
            rotate_left
            · (intro w hSw; (try dsimp only at hSw); go_simp; all_goals with_reducible rfl)
            (try simp only [List.getElem_toArray, List.getElem_cons_succ, List.getElem_cons_zero, Act.put, List.setIfInBounds_toArray, List.set_cons_zero, List.set_cons_succ])
            refine wpAnyH_take (i := 5) (v := ?_) rfl (by kernel_rfl) (by kernel_rfl) (by kernel_rfl) (fun _ _ _ h => h) (Or.inl ⟨by rfl, ?_⟩) (by assumption) ?_
            rotate_left
            · (intro w hSw; (try dsimp only at hSw); go_simp; all_goals with_reducible rfl)
            (try simp only [List.getElem_toArray, List.getElem_cons_succ, List.getElem_cons_zero, Act.put, List.setIfInBounds_toArray, List.set_cons_zero, List.set_cons_succ])
            refine wpAnyH_ready (rs := [1, 6]) (by kernel_rfl) (by simp) ?_
            refine AllReadyH.cons rfl (fun K hK => ?_) ?_
            · (try simp only [List.getElem_toArray, List.getElem_cons_succ, List.getElem_cons_zero])
              go_simp
              refine hK.out _ _ ?_ (fun hHeld => ?_)
              · ((try dsimp only); assumption)
              clear hK K
              (try simp only [List.getElem_toArray, List.getElem_cons_succ, List.getElem_cons_zero, Act.put, List.setIfInBounds_toArray, List.set_cons_zero, List.set_cons_succ])
              refine wpAnyH_ready (rs := [6]) (by kernel_rfl) (by simp) ?_
              refine AllReadyH.cons rfl (fun K hK => ?_) AllReadyH.nil
              (try simp only [List.getElem_toArray, List.getElem_cons_succ, List.getElem_cons_zero])
              go_simp
              refine (HCr.out _ (Turned.refl [] w11).drew).mono ?_
              rintro e1 w12 ⟨rfl, t12⟩
              have HM12 := hide (HM11.out.turned0 ((Turned.refl [] w11).drew.trans t12))
              have HO12 := hide (own_turned HO11.out ((Turned.refl [] w11).drew.trans t12))
              have HA12 := hide (own_turned HA11.out ((Turned.refl [] w11).drew.trans t12))
              have HS12 := hide (Nat.le_trans HS11.out ((Turned.refl [] w11).drew.trans t12).size)
              have j3 := HM12.out.p.cs.2.2.2.1
              have j6 := HM12.out.p.cs.2.2.2.2.2.2.1
              have l12 := HM12.out.p.lt
              clear t12
              refine hK.out _ _ ?_ (fun hHeld => ?_)
              · ((try dsimp only); exact j3)
              clear hK K
              (try simp only [List.getElem_toArray, List.getElem_cons_succ, List.getElem_cons_zero, Act.put, List.setIfInBounds_toArray, List.set_cons_zero, List.set_cons_succ])
              refine wpAnyH_ready (rs := [7]) (by kernel_rfl) (by simp) ?_
              refine AllReadyH.cons rfl (fun K hK => ?_) AllReadyH.nil
              (try simp only [List.getElem_toArray, List.getElem_cons_succ, List.getElem_cons_zero])
              go_simp
              have HM13 := hide (HM12.out.turned0 ((Turned.refl [] w12).alloc (.cells #[.int .i64 (c : Int)] 3)))
              have k3 := HM13.out.p.cs.2.2.2.1
              have k6 := HM13.out.p.cs.2.2.2.2.2.2.1
              refine hK.out _ _ ?_ (fun hHeld => ?_)
              · ((try dsimp only); exact k3)
              clear hK K
              (try simp only [List.getElem_toArray, List.getElem_cons_succ, List.getElem_cons_zero, Act.put, List.setIfInBounds_toArray, List.set_cons_zero, List.set_cons_succ])
              refine wpAnyH_ready (rs := [8]) (by kernel_rfl) (by simp) ?_
              refine AllReadyH.cons rfl (fun K hK => ?_) AllReadyH.nil
              (try simp only [List.getElem_toArray, List.getElem_cons_succ, List.getElem_cons_zero])
              refine of_wanted13 (by rfl) ?_
              refine wp_append13 (w12.alloc (.cells #[.int .i64 (c : Int)] 3)) (.tmp 148) (.tmp 154) ?_ b2 av r _ ?_ (HA12.out.alloc _) w12.heap.size (c : Int) ?_ ?_ ?_ ?_ ?_
              · rfl
              · rfl
              · rfl
              · exact cell_alloc_new _ _ _
              · exact HR1.out
              · have := HS12.out; simp; omega
              intro ao14 cap14 w14 o14 g14
              have HO14 := hide (own_grown HO12.out HA12.out _ g14 HB2.out.1)
              have HA14 := hide o14
              have HM14 := hide (HM12.out.grown HA12.out _ g14 HB2.out.2)
              have HS14 := hide (show b2 ≤ w14.heap.size from by have := g14.size; simp at this; have := HS12.out; omega)
              have f6 := HM14.out.p.fz 6
              have m3 := HM14.out.p.cs.2.2.2.1
              have m6 := HM14.out.p.cs.2.2.2.2.2.2.1
              have l14 := HM14.out.p.lt
              have SB := HM14.out.p.keep36
              clear o14 g14
              refine hK.out _ _ ?_ (fun hHeld => ?_)
              · ((try dsimp only); exact m3)
              clear hK K
              (try simp only [List.getElem_toArray, List.getElem_cons_succ, List.getElem_cons_zero, Act.put, List.setIfInBounds_toArray, List.set_cons_zero, List.set_cons_succ])
              refine wpAnyH_take (i := 9) (v := ?_) rfl (by kernel_rfl) (by kernel_rfl) (by kernel_rfl) (fun _ _ _ h => h) (Or.inl ⟨by rfl, ?_⟩) (by assumption) ?_
              rotate_left
              · (intro w hSw; (try dsimp only at hSw); go_simp; all_goals with_reducible rfl)
              (try simp only [List.getElem_toArray, List.getElem_cons_succ, List.getElem_cons_zero, Act.put, List.setIfInBounds_toArray, List.set_cons_zero, List.set_cons_succ])
              refine wpAnyH_ready (rs := [10]) (by kernel_rfl) (by simp) ?_
              refine AllReadyH.cons rfl (fun K hK => ?_) AllReadyH.nil
              (try simp only [List.getElem_toArray, List.getElem_cons_succ, List.getElem_cons_zero])
              go_simp
              refine hK.out _ _ ?_ (fun hHeld => ?_)
              · ((try dsimp only); exact SB _)
              clear hK K
              (try simp only [List.getElem_toArray, List.getElem_cons_succ, List.getElem_cons_zero, Act.put, List.setIfInBounds_toArray, List.set_cons_zero, List.set_cons_succ])
              refine wpAnyH_done (by kernel_rfl) ?_ _
              have HM15 := hide (HM14.out.set 6 (.slice ao14 (r + 1) cap14) (P' := ⟨f, t, k, D2, E⟩) (l' := l) (a' := .slice ao14 (r + 1) cap14) (wt' := .slice none 0 0) (tk' := .slice none 0 0) rfl)
              have HO15 := hide (own_off HM14.out.p HO14.out 6 (.slice ao14 (r + 1) cap14))
              have HA15 := hide (own_off HM14.out.p HA14.out 6 (.slice ao14 (r + 1) cap14))
              rw [← HLc.out, ← rowOf_succ] at HA15
              have HS15 := hide (show b2 ≤ (w14.setCell ⟨pb, 6, none⟩ (.slice ao14 (r + 1) cap14)).heap.size from by simp; exact HS14.out)
              generalize w14.setCell ⟨pb, 6, none⟩ (.slice ao14 (r + 1) cap14) = w15 at *
              clear HM14 HO14 HA14 HS14 HM12 HO12 HA12 HS12 HM11 HO11 HA11 HS11 f6 m3 m6 l14 SB l12 j3 j6 hHeld c3 c6
              have hr6 : r ≤ 1000000 := HR1.out
              go_wp2_with fail
              go_roundg (R - (r + 1))
              case measure => have := HR2.out; omega
              case rel => exact ⟨r + 1, .slice ao14 (r + 1) cap14, hide HR2.out, rfl, by go_num, HM15, HO15, HA15, HS15⟩
            · refine AllReadyH.cons rfl (fun K hK => ?_) AllReadyH.nil
              (try simp only [List.getElem_toArray, List.getElem_cons_succ, List.getElem_cons_zero])
              go_simp
              refine (HCr.out _ (Turned.refl [] w11).drew).mono ?_
              rintro e1 w12 ⟨rfl, t12⟩
              have HM12 := hide (HM11.out.turned0 ((Turned.refl [] w11).drew.trans t12))
              have HO12 := hide (own_turned HO11.out ((Turned.refl [] w11).drew.trans t12))
              have HA12 := hide (own_turned HA11.out ((Turned.refl [] w11).drew.trans t12))
              have HS12 := hide (Nat.le_trans HS11.out ((Turned.refl [] w11).drew.trans t12).size)
              have j3 := HM12.out.p.cs.2.2.2.1
              have j6 := HM12.out.p.cs.2.2.2.2.2.2.1
              have l12 := HM12.out.p.lt
              clear t12
              refine hK.out _ _ ?_ (fun hHeld => ?_)
              · ((try dsimp only); exact j3)
              clear hK K
              (try simp only [List.getElem_toArray, List.getElem_cons_succ, List.getElem_cons_zero, Act.put, List.setIfInBounds_toArray, List.set_cons_zero, List.set_cons_succ])
              refine wpAnyH_ready (rs := [1, 7]) (by kernel_rfl) (by simp) ?_
              refine AllReadyH.cons rfl (fun K hK => ?_) ?_
              · (try simp only [List.getElem_toArray, List.getElem_cons_succ, List.getElem_cons_zero])
                go_simp
                refine hK.out _ _ ?_ (fun hHeld => ?_)
                · ((try dsimp only); exact j3)
                clear hK K
                (try simp only [List.getElem_toArray, List.getElem_cons_succ, List.getElem_cons_zero, Act.put, List.setIfInBounds_toArray, List.set_cons_zero, List.set_cons_succ])
                refine wpAnyH_ready (rs := [7]) (by kernel_rfl) (by simp) ?_
                refine AllReadyH.cons rfl (fun K hK => ?_) AllReadyH.nil
                (try simp only [List.getElem_toArray, List.getElem_cons_succ, List.getElem_cons_zero])
                go_simp
                have HM13 := hide (HM12.out.turned0 ((Turned.refl [] w12).alloc (.cells #[.int .i64 (c : Int)] 3)))
                have k3 := HM13.out.p.cs.2.2.2.1
                have k6 := HM13.out.p.cs.2.2.2.2.2.2.1
                refine hK.out _ _ ?_ (fun hHeld => ?_)
                · ((try dsimp only); exact k3)
                clear hK K
                (try simp only [List.getElem_toArray, List.getElem_cons_succ, List.getElem_cons_zero, Act.put, List.setIfInBounds_toArray, List.set_cons_zero, List.set_cons_succ])
                refine wpAnyH_ready (rs := [8]) (by kernel_rfl) (by simp) ?_
                refine AllReadyH.cons rfl (fun K hK => ?_) AllReadyH.nil
                (try simp only [List.getElem_toArray, List.getElem_cons_succ, List.getElem_cons_zero])
                refine of_wanted13 (by rfl) ?_
                refine wp_append13 (w12.alloc (.cells #[.int .i64 (c : Int)] 3)) (.tmp 148) (.tmp 154) ?_ b2 av r _ ?_ (HA12.out.alloc _) w12.heap.size (c : Int) ?_ ?_ ?_ ?_ ?_
                · rfl
                · rfl
                · rfl
                · exact cell_alloc_new _ _ _
                · exact HR1.out
                · have := HS12.out; simp; omega
                intro ao14 cap14 w14 o14 g14
                have HO14 := hide (own_grown HO12.out HA12.out _ g14 HB2.out.1)
                have HA14 := hide o14
                have HM14 := hide (HM12.out.grown HA12.out _ g14 HB2.out.2)
                have HS14 := hide (show b2 ≤ w14.heap.size from by have := g14.size; simp at this; have := HS12.out; omega)
                have f6 := HM14.out.p.fz 6
                have m3 := HM14.out.p.cs.2.2.2.1
                have m6 := HM14.out.p.cs.2.2.2.2.2.2.1
                have l14 := HM14.out.p.lt
                have SB := HM14.out.p.keep36
                clear o14 g14
                refine hK.out _ _ ?_ (fun hHeld => ?_)
                · ((try dsimp only); exact m3)
                clear hK K
                (try simp only [List.getElem_toArray, List.getElem_cons_succ, List.getElem_cons_zero, Act.put, List.setIfInBounds_toArray, List.set_cons_zero, List.set_cons_succ])
                refine wpAnyH_take (i := 9) (v := ?_) rfl (by kernel_rfl) (by kernel_rfl) (by kernel_rfl) (fun _ _ _ h => h) (Or.inl ⟨by rfl, ?_⟩) (by assumption) ?_
                rotate_left
                · (intro w hSw; (try dsimp only at hSw); go_simp; all_goals with_reducible rfl)
                (try simp only [List.getElem_toArray, List.getElem_cons_succ, List.getElem_cons_zero, Act.put, List.setIfInBounds_toArray, List.set_cons_zero, List.set_cons_succ])
                refine wpAnyH_ready (rs := [10]) (by kernel_rfl) (by simp) ?_
                refine AllReadyH.cons rfl (fun K hK => ?_) AllReadyH.nil
                (try simp only [List.getElem_toArray, List.getElem_cons_succ, List.getElem_cons_zero])
                go_simp
                refine hK.out _ _ ?_ (fun hHeld => ?_)
                · ((try dsimp only); exact SB _)
                clear hK K
                (try simp only [List.getElem_toArray, List.getElem_cons_succ, List.getElem_cons_zero, Act.put, List.setIfInBounds_toArray, List.set_cons_zero, List.set_cons_succ])
                refine wpAnyH_done (by kernel_rfl) ?_ _
                have HM15 := hide (HM14.out.set 6 (.slice ao14 (r + 1) cap14) (P' := ⟨f, t, k, D2, E⟩) (l' := l) (a' := .slice ao14 (r + 1) cap14) (wt' := .slice none 0 0) (tk' := .slice none 0 0) rfl)
                have HO15 := hide (own_off HM14.out.p HO14.out 6 (.slice ao14 (r + 1) cap14))
                have HA15 := hide (own_off HM14.out.p HA14.out 6 (.slice ao14 (r + 1) cap14))
                rw [← HLc.out, ← rowOf_succ] at HA15
                have HS15 := hide (show b2 ≤ (w14.setCell ⟨pb, 6, none⟩ (.slice ao14 (r + 1) cap14)).heap.size from by simp; exact HS14.out)
                generalize w14.setCell ⟨pb, 6, none⟩ (.slice ao14 (r + 1) cap14) = w15 at *
                clear HM14 HO14 HA14 HS14 HM12 HO12 HA12 HS12 HM11 HO11 HA11 HS11 f6 m3 m6 l14 SB l12 j3 j6 hHeld c3 c6
                have hr6 : r ≤ 1000000 := HR1.out
                go_wp2_with fail
                go_roundg (R - (r + 1))
                case measure => have := HR2.out; omega
                case rel => exact ⟨r + 1, .slice ao14 (r + 1) cap14, hide HR2.out, rfl, by go_num, HM15, HO15, HA15, HS15⟩
              · refine AllReadyH.cons rfl (fun K hK => ?_) AllReadyH.nil
                (try simp only [List.getElem_toArray, List.getElem_cons_succ, List.getElem_cons_zero])
                go_simp
                have HM13 := hide (HM12.out.turned0 ((Turned.refl [] w12).alloc (.cells #[.int .i64 (c : Int)] 3)))
                have k3 := HM13.out.p.cs.2.2.2.1
                have k6 := HM13.out.p.cs.2.2.2.2.2.2.1
                refine hK.out _ _ ?_ (fun hHeld => ?_)
                · ((try dsimp only); exact k3)
                clear hK K
                (try simp only [List.getElem_toArray, List.getElem_cons_succ, List.getElem_cons_zero, Act.put, List.setIfInBounds_toArray, List.set_cons_zero, List.set_cons_succ])
                refine wpAnyH_ready (rs := [1]) (by kernel_rfl) (by simp) ?_
                refine AllReadyH.cons rfl (fun K hK => ?_) AllReadyH.nil
                (try simp only [List.getElem_toArray, List.getElem_cons_succ, List.getElem_cons_zero])
                go_simp
                refine hK.out _ _ ?_ (fun hHeld => ?_)
                · ((try dsimp only); exact k3)
                clear hK K
                (try simp only [List.getElem_toArray, List.getElem_cons_succ, List.getElem_cons_zero, Act.put, List.setIfInBounds_toArray, List.set_cons_zero, List.set_cons_succ])
                refine wpAnyH_ready (rs := [8]) (by kernel_rfl) (by simp) ?_
                refine AllReadyH.cons rfl (fun K hK => ?_) AllReadyH.nil
                (try simp only [List.getElem_toArray, List.getElem_cons_succ, List.getElem_cons_zero])
                refine of_wanted13 (by rfl) ?_
                refine wp_append13 (w12.alloc (.cells #[.int .i64 (c : Int)] 3)) (.tmp 148) (.tmp 154) ?_ b2 av r _ ?_ (HA12.out.alloc _) w12.heap.size (c : Int) ?_ ?_ ?_ ?_ ?_
                · rfl
                · rfl
                · rfl
                · exact cell_alloc_new _ _ _
                · exact HR1.out
                · have := HS12.out; simp; omega
                intro ao14 cap14 w14 o14 g14
                have HO14 := hide (own_grown HO12.out HA12.out _ g14 HB2.out.1)
                have HA14 := hide o14
                have HM14 := hide (HM12.out.grown HA12.out _ g14 HB2.out.2)
                have HS14 := hide (show b2 ≤ w14.heap.size from by have := g14.size; simp at this; have := HS12.out; omega)
                have f6 := HM14.out.p.fz 6
                have m3 := HM14.out.p.cs.2.2.2.1
                have m6 := HM14.out.p.cs.2.2.2.2.2.2.1
                have l14 := HM14.out.p.lt
                have SB := HM14.out.p.keep36
                clear o14 g14
                refine hK.out _ _ ?_ (fun hHeld => ?_)
                · ((try dsimp only); exact m3)
                clear hK K
                (try simp only [List.getElem_toArray, List.getElem_cons_succ, List.getElem_cons_zero, Act.put, List.setIfInBounds_toArray, List.set_cons_zero, List.set_cons_succ])
                refine wpAnyH_take (i := 9) (v := ?_) rfl (by kernel_rfl) (by kernel_rfl) (by kernel_rfl) (fun _ _ _ h => h) (Or.inl ⟨by rfl, ?_⟩) (by assumption) ?_
                rotate_left
                · (intro w hSw; (try dsimp only at hSw); go_simp; all_goals with_reducible rfl)
                (try simp only [List.getElem_toArray, List.getElem_cons_succ, List.getElem_cons_zero, Act.put, List.setIfInBounds_toArray, List.set_cons_zero, List.set_cons_succ])
                refine wpAnyH_ready (rs := [10]) (by kernel_rfl) (by simp) ?_
                refine AllReadyH.cons rfl (fun K hK => ?_) AllReadyH.nil
                (try simp only [List.getElem_toArray, List.getElem_cons_succ, List.getElem_cons_zero])
                go_simp
                refine hK.out _ _ ?_ (fun hHeld => ?_)
                · ((try dsimp only); exact SB _)
                clear hK K
                (try simp only [List.getElem_toArray, List.getElem_cons_succ, List.getElem_cons_zero, Act.put, List.setIfInBounds_toArray, List.set_cons_zero, List.set_cons_succ])
                refine wpAnyH_done (by kernel_rfl) ?_ _
                have HM15 := hide (HM14.out.set 6 (.slice ao14 (r + 1) cap14) (P' := ⟨f, t, k, D2, E⟩) (l' := l) (a' := .slice ao14 (r + 1) cap14) (wt' := .slice none 0 0) (tk' := .slice none 0 0) rfl)
                have HO15 := hide (own_off HM14.out.p HO14.out 6 (.slice ao14 (r + 1) cap14))
                have HA15 := hide (own_off HM14.out.p HA14.out 6 (.slice ao14 (r + 1) cap14))
                rw [← HLc.out, ← rowOf_succ] at HA15
                have HS15 := hide (show b2 ≤ (w14.setCell ⟨pb, 6, none⟩ (.slice ao14 (r + 1) cap14)).heap.size from by simp; exact HS14.out)
                generalize w14.setCell ⟨pb, 6, none⟩ (.slice ao14 (r + 1) cap14) = w15 at *
                clear HM14 HO14 HA14 HS14 HM12 HO12 HA12 HS12 HM11 HO11 HA11 HS11 f6 m3 m6 l14 SB l12 j3 j6 hHeld c3 c6
                have hr6 : r ≤ 1000000 := HR1.out
                go_wp2_with fail
                go_roundg (R - (r + 1))
                case measure => have := HR2.out; omega
                case rel => exact ⟨r + 1, .slice ao14 (r + 1) cap14, hide HR2.out, rfl, by go_num, HM15, HO15, HA15, HS15⟩
          · have hlti : ¬ (r : Int) < (R : Int) := by omega
            have hrR2 : r = R := by have := HRr.out; omega
            subst hrR2
            clear hlti HRr
            obtain ⟨R, hRe⟩ : ∃ R, R = r := ⟨_, rfl⟩
            subst hRe
            obtain ⟨w16, hw16⟩ : ∃ w16, w16 = wr := ⟨_, rfl⟩
            subst hw16
            have hR6 : R ≤ 65536 := HR6.out
            have hmk := make_ints R hR6
            have c7 := HM.out.p.cs.2.2.2.2.2.2.2.1
            have fz7 := HM.out.p.fz 7
            have pl7 := HM.out.p.lt
            go_upto_region 29 with fail
            go_upto_region 30 with fail
            obtain ⟨wq, hwq⟩ : ∃ wq, wq = w16.heap.size := ⟨_, rfl⟩
            rw [← hwq]
            have HT17 := hide ((Turned.refl [] (w16.setCell ⟨pb, 7, none⟩ (slc wq R))).alloc (.cells (madeCells #[Value.int .i64 0] R) 3))
            have HM17 := hide ((HM.out.set 7 (slc wq R) (P' := ⟨f, t, k, D2, E⟩) (l' := l) (a' := av) (wt' := slc wq R) (tk' := (.slice none 0 0)) rfl).turned0 HT17.out)
            have HO17 := hide (own_turned (own_off HM.out.p HO.out 7 (slc wq R)) HT17.out)
            have HA17 := hide (own_turned (own_off HM.out.p HA.out 7 (slc wq R)) HT17.out)
            have HW17 := hide (new_ints (w16.setCell ⟨pb, 7, none⟩ (slc wq R)) R)
            rw [show (w16.setCell ⟨pb, 7, none⟩ (slc wq R)).heap.size = wq by simp [hwq]] at HW17
            have HNq : Hid ((∀ k, l.ownBlock = some k → k < wq) ∧ (∀ k, av.ownBlock = some k → k < wq) ∧ w.heap.size ≤ wq ∧ wq ≠ pb) := hide ⟨fun k hk => by rw [hwq]; exact (ownsRow_lt HO.out k hk).2.1, fun k hk => by rw [hwq]; exact (ownsRow_lt HA.out k hk).2.1, by rw [hwq]; exact HM.out.t.size, by omega⟩
            unfold slc at HM17 HO17 HA17 HW17
            generalize (w16.setCell ⟨pb, 7, none⟩ (.slice (some ⟨wq, 0, none⟩) R R)).alloc (.cells (madeCells #[Value.int .i64 0] R) 3) = w17 at *
            clear HM HO HA HS c7 fz7 pl7 hmk HT17 hwq
            have hmk := make_pairs R hR6
            have c8 := HM17.out.p.cs.2.2.2.2.2.2.2.2
            have fz8 := HM17.out.p.fz 8
            have pl8 := HM17.out.p.lt
            go_upto_region 31 with fail
            obtain ⟨tq, htq⟩ : ∃ tq, tq = w17.heap.size := ⟨_, rfl⟩
            rw [← htq]
            have HT18 := hide ((Turned.refl [] (w17.setCell ⟨pb, 8, none⟩ (slc tq R))).alloc (.cells (madeCells #[Value.int .i64 0, Value.int .i64 0] (R * 2)) 139))
            have HM18 := hide ((HM17.out.set 8 (slc tq R) (P' := ⟨f, t, k, D2, E⟩) (l' := l) (a' := av) (wt' := slc wq R) (tk' := slc tq R) rfl).turned0 HT18.out)
            have HO18 := hide (own_turned (own_off HM17.out.p HO17.out 8 (slc tq R)) HT18.out)
            have HA18 := hide (own_turned (own_off HM17.out.p HA17.out 8 (slc tq R)) HT18.out)
            have HW18 := hide ((HW17.out.off (pb := pb) (i := 8) (v := slc tq R) HNq.out.2.2.2).turned0 HT18.out)
            have HP18 := hide (new_pairs (w17.setCell ⟨pb, 8, none⟩ (slc tq R)) R)
            rw [show (w17.setCell ⟨pb, 8, none⟩ (slc tq R)).heap.size = tq by simp [htq]] at HP18
            have HX18 := hide (show D3 w _ pb rb wq tq R ⟨f, t, k, D2, E⟩ l av (pb + 1) b2 _ _ from ⟨HM18.out, HO18.out, HA18.out, HNq.out.1, HNq.out.2.1, HNq.out.2.2.1, by rw [htq]; exact HM17.out.t.size⟩)
            unfold slc at HX18 HW18 HP18
            generalize (w17.setCell ⟨pb, 8, none⟩ (.slice (some ⟨tq, 0, none⟩) R R)).alloc (.cells (madeCells #[Value.int .i64 0, Value.int .i64 0] (R * 2)) 139) = w18 at *
            clear HM17 HO17 HA17 HW17 HM18 HO18 HA18 c8 fz8 pl8 hmk HT18 htq
            have HFit : Hid (Fit ⟨f, t, k, D2, E⟩ (live S)) := hide ⟨HOK.out D2 E, HNm.out.2.1, HNm.out.1, by show E = D2 + (cnt (live S) t - cnt (live S) D2); rw [← HCC.out]; exact HEE.out⟩
            have HGo : Hid (∀ r, r < R → ∀ w, Calls Tryz.prog 80 #[.agg #[.int .i64 (f : Int), .int .i64 (t : Int), .int .i64 (k : Int), .int .i64 (D2 : Int), .int .i64 (E : Int), l, av, .slice (some ⟨wq, 0, none⟩) R R, .slice (some ⟨tq, 0, none⟩) R R], .int .i64 (r : Int)] w fun e w' => e = .returned (.tuple #[.int .i64 (gF ⟨f, t, k, D2, E⟩ r : Nat), .int .i64 (gT ⟨f, t, k, D2, E⟩ r : Nat)]) ∧ Turned [] w w') := hide (fun r hr w => rgoal13 ⟨f, t, k, D2, E⟩ (HOK.out D2 E) l av (slc wq R) (slc tq R) r (by rw [HRR.out]; exact hr) w)
            have HSo : Hid (∀ x, D2 ≤ x → x < E → ∀ w', Turned [] w w' → Calls Tryz.prog 82 #[.agg #[.int .i64 (f : Int), .int .i64 (t : Int), .int .i64 (k : Int), .int .i64 (D2 : Int), .int .i64 (E : Int), l, av, .slice (some ⟨wq, 0, none⟩) R R, .slice (some ⟨tq, 0, none⟩) R R], .pointer (some ⟨p, 0, none⟩), .int .i64 (x : Int)] w' fun e w'' => ∃ s : Nat, e = .returned (.int .i64 (s : Int)) ∧ SrcOf ⟨f, t, k, D2, E⟩ S x s ∧ Turned [] w' w'') := hide (fun x h1 h2 w' tt => rsource13 p q n S ⟨f, t, k, D2, E⟩ (HOK.out D2 E) l av (slc wq R) (slc tq R) x w' (HBr.out.turned0 tt) HNm.out.2.2.2.2.2.2.2 HNm.out.2.1 HNm.out.1 h1 (by show x < D2 + (cnt (live S) t - cnt (live S) D2); rw [← HCC.out, ← HEE.out]; exact h2))
            have HRe : Hid (∀ x s, SrcOf ⟨f, t, k, D2, E⟩ S x s → (PN.reg ⟨f, t, k, D2, E⟩ s < R) ∧ ∀ w', Calls Tryz.prog 81 #[.agg #[.int .i64 (f : Int), .int .i64 (t : Int), .int .i64 (k : Int), .int .i64 (D2 : Int), .int .i64 (E : Int), l, av, .slice (some ⟨wq, 0, none⟩) R R, .slice (some ⟨tq, 0, none⟩) R R], .int .i64 (s : Int)] w' fun e w'' => e = .returned (.int .i64 (PN.reg ⟨f, t, k, D2, E⟩ s : Nat)) ∧ Turned [] w' w'') := hide (fun x s hs => by
              have h1 : f ≤ s := by have := HNm.out.2.1; have := hs.1; simp only at this; omega
              have h2 : s < t := hs.2.1
              refine ⟨by have := (PN.reg_in (HOK.out D2 E) (x := s) h1 h2).1; rw [HRR.out] at this; exact this, fun w' => ?_⟩
              have h3 := rregion13 ⟨f, t, k, D2, E⟩ (HOK.out D2 E) l av (slc wq R) (slc tq R) (s : Int) w'
              unfold rgI at h3
              rw [if_pos (by simp only; omega)] at h3
              exact h3)
            go_wp2_with fail
            go_loopg [28] R (fun gg s28 wr => ∃ (r : Nat), Hid (r ≤ R) ∧ gg = R - r ∧ s28 = .int .i64 (r : Int) ∧ Hid (D3 w wr pb rb wq tq R ⟨f, t, k, D2, E⟩ l av (pb + 1) b2 (rowOf (lvR P0 (live S)) R) (rowOf (ahR ⟨f, t, k, D2, E⟩ (live S)) R)) ∧ Hid (Ri wr 3 wq R (fun j => (wt0 ⟨f, t, k, D2, E⟩ (live S) j r : Nat))) ∧ Hid (Rp wr tq R (fun j s => if j < r then tkR ⟨f, t, k, D2, E⟩ (live S) j s else 0)))
            case atStart => exact ⟨0, hide (Nat.zero_le _), rfl, rfl, HX18, HW18, hide (HP18.out.congr (fun i s _ _ => by rw [if_neg (by omega)]))⟩
            case round =>
              clear HX18 HW18 HP18
              obtain ⟨r, HRr, rfl, rfl, HX, HW, HPr⟩ := hrel
              by_cases hlt : r < R
              · have hlti : (r : Int) < (R : Int) := by omega
                have HRl := hide hlt
                have HGr := hide (HGo.out r hlt)
                obtain ⟨c0, c1, c2, c3, c4, c5, c6, c7, c8⟩ := HX.out.m.p.cs
                unfold slc at c7 c8
                obtain ⟨w19, hw19⟩ : ∃ w19, w19 = wr := ⟨_, rfl⟩
                subst hw19
                obtain ⟨gf, hgf⟩ : ∃ gf, gf = gF ⟨f, t, k, D2, E⟩ r := ⟨_, rfl⟩
                obtain ⟨gt, hgt⟩ : ∃ gt, gt = gT ⟨f, t, k, D2, E⟩ r := ⟨_, rfl⟩
                rw [← hgf, ← hgt] at HGr
                have HGF := hide hgf
                have HGT := hide hgt
                clear hgf hgt hlt
                go_wp2_with fail
                refine (HGr.out _).mono ?_
                rintro e1 w20 ⟨rfl, t20⟩
                have HX20 := hide (HX.out.turned0 t20)
                have HW20 := hide (HW.out.turned0 t20)
                have HP20 := hide (HPr.out.turned0 t20)
                clear t20 HGr HX HW HPr c0 c1 c2 c3 c4 c5 c6 c7 c8
                go_upto_if 176 with fail
                by_cases hgg : gf = gt
                · have HGn : Hid (gF ⟨f, t, k, D2, E⟩ r = gT ⟨f, t, k, D2, E⟩ r) := hide (by rw [← HGF.out, ← HGT.out]; exact hgg)
                  have HW21 : Hid (Ri w20 3 wq R (fun j => (wt0 ⟨f, t, k, D2, E⟩ (live S) j (r + 1) : Nat))) := hide (HW20.out.congr (fun j hj => by rw [wt0_step, tk_none HFit.out (by rw [HRR.out]; exact HRl.out) (by rw [HRR.out]; exact hj) HGn.out]; rfl))
                  have HP21 : Hid (Rp w20 tq R (fun j s => if j < r + 1 then tkR ⟨f, t, k, D2, E⟩ (live S) j s else 0)) := hide (HP20.out.congr (fun j s _ _ => by
                    by_cases h1 : j < r
                    · rw [if_pos h1, if_pos (by omega)]
                    · rw [if_neg h1]
                      by_cases h2 : j < r + 1
                      · rw [if_pos h2, show j = r by omega, tkR_none _ _ HGn.out]
                      · rw [if_neg h2]))
                  have hr6 : r ≤ 65536 := by have := HRl.out; omega
                  subst hgg
                  clear HW20 HP20 HGn
                  go_wp2_with fail
                  go_roundg (R - (r + 1))
                  case measure => have := HRl.out; omega
                  case rel => exact ⟨r + 1, hide HRl.out, rfl, by go_num, HX20, HW21, HP21⟩
                · have hggi : ¬ (gf : Int) = (gt : Int) := by omega
                  have HGl : Hid (gF ⟨f, t, k, D2, E⟩ r < gT ⟨f, t, k, D2, E⟩ r) := hide (by have := goal_two ⟨f, t, k, D2, E⟩ r; rw [← HGF.out, ← HGT.out] at this ⊢; omega)
                  have HGg := hide (HFit.out.goal HGl.out)
                  have HGb : Hid (D2 ≤ gf ∧ gf < gt ∧ gt ≤ E ∧ E ≤ 65536) := hide (by
                    have h1 := HGg.out
                    have h2 := HGl.out
                    have h3 := HNm.out.2.2.2.1
                    rw [← HGF.out, ← HGT.out] at h1 h2
                    exact ⟨h1.1, h2, h1.2.2.1, h3⟩)
                  obtain ⟨ta, hta⟩ : ∃ ta, ta = tkR ⟨f, t, k, D2, E⟩ (live S) r 0 := ⟨_, rfl⟩
                  obtain ⟨tb, htb⟩ : ∃ tb, tb = tkR ⟨f, t, k, D2, E⟩ (live S) r 1 - 1 := ⟨_, rfl⟩
                  obtain ⟨tc, htc⟩ : ∃ tc, tc = tkR ⟨f, t, k, D2, E⟩ (live S) r 1 := ⟨_, rfl⟩
                  have hbc : 0 ≤ tc ∧ tc ≤ 65536 := by
                    rw [htc]
                    unfold tkR
                    rw [if_neg (by have := HGl.out; omega), if_neg (by decide)]
                    have := orgN_le ⟨f, t, k, D2, E⟩ (live S) (gT ⟨f, t, k, D2, E⟩ r - 1)
                    rw [HRR.out] at this
                    omega
                  have hwt : IntKind.i64.wrap (tb + 1) = tc := by rw [IntKind.wrap_i64, htb, htc]; rw [htc] at hbc; omega
                  obtain ⟨gl, hgl⟩ : ∃ gl, gl = gt - 1 := ⟨_, rfl⟩
                  have hwg : IntKind.i64.wrap ((gt : Int) - 1) = (gl : Int) := by have := HGb.out; rw [IntKind.wrap_i64]; omega
                  have HTk := hide (And.intro hta htc)
                  have HSA : Hid (∀ w', Turned [] w20 w' → Calls Tryz.prog 82 #[.agg #[.int .i64 (f : Int), .int .i64 (t : Int), .int .i64 (k : Int), .int .i64 (D2 : Int), .int .i64 (E : Int), l, av, .slice (some ⟨wq, 0, none⟩) R R, .slice (some ⟨tq, 0, none⟩) R R], .pointer (some ⟨p, 0, none⟩), .int .i64 (gf : Int)] w' fun e w'' => ∃ s : Nat, e = .returned (.int .i64 (s : Int)) ∧ Hid (∀ w', Calls Tryz.prog 81 #[.agg #[.int .i64 (f : Int), .int .i64 (t : Int), .int .i64 (k : Int), .int .i64 (D2 : Int), .int .i64 (E : Int), l, av, .slice (some ⟨wq, 0, none⟩) R R, .slice (some ⟨tq, 0, none⟩) R R], .int .i64 (s : Int)] w' fun e w'' => e = .returned (.int .i64 ta) ∧ Turned [] w' w'') ∧ Turned [] w' w'') := hide (fun w' tt => (HSo.out gf HGb.out.1 (by have := HGb.out; omega) w' (HX20.out.m.t.trans tt)).mono (by
                    rintro e w'' ⟨s, rfl, hs, t2⟩
                    refine ⟨s, rfl, hide (fun w' => ?_), t2⟩
                    have h1 := (HRe.out gf s hs).2 w'
                    rw [hta, tkR_first HFit.out HGl.out (by rw [← HGF.out]; exact hs)]
                    exact h1))
                  have HSB : Hid (∀ w', Turned [] w20 w' → Calls Tryz.prog 82 #[.agg #[.int .i64 (f : Int), .int .i64 (t : Int), .int .i64 (k : Int), .int .i64 (D2 : Int), .int .i64 (E : Int), l, av, .slice (some ⟨wq, 0, none⟩) R R, .slice (some ⟨tq, 0, none⟩) R R], .pointer (some ⟨p, 0, none⟩), .int .i64 (gl : Int)] w' fun e w'' => ∃ s : Nat, e = .returned (.int .i64 (s : Int)) ∧ Hid (∀ w', Calls Tryz.prog 81 #[.agg #[.int .i64 (f : Int), .int .i64 (t : Int), .int .i64 (k : Int), .int .i64 (D2 : Int), .int .i64 (E : Int), l, av, .slice (some ⟨wq, 0, none⟩) R R, .slice (some ⟨tq, 0, none⟩) R R], .int .i64 (s : Int)] w' fun e w'' => e = .returned (.int .i64 tb) ∧ Turned [] w' w'') ∧ Turned [] w' w'') := hide (fun w' tt => (HSo.out gl (by have := HGb.out; omega) (by have := HGb.out; omega) w' (HX20.out.m.t.trans tt)).mono (by
                    rintro e w'' ⟨s, rfl, hs, t2⟩
                    refine ⟨s, rfl, hide (fun w' => ?_), t2⟩
                    have h1 := (HRe.out gl s hs).2 w'
                    rw [htb, tkR_last HFit.out HGl.out (by rw [← HGT.out, ← hgl]; exact hs), Int.add_sub_cancel]
                    exact h1))
                  clear hta htb htc hbc hgg hgl
                  have hri : (r : Int) < (R : Int) := by have := HRl.out; omega
                  have HCS : Hid (∀ w', Turned [] w20 w' → (w'.cell? ⟨pb, 0, none⟩ = some (.int .i64 (f : Int)) ∧ w'.cell? ⟨pb, 1, none⟩ = some (.int .i64 (t : Int)) ∧ w'.cell? ⟨pb, 2, none⟩ = some (.int .i64 (k : Int)) ∧ w'.cell? ⟨pb, 3, none⟩ = some (.int .i64 (D2 : Int)) ∧ w'.cell? ⟨pb, 4, none⟩ = some (.int .i64 (E : Int)) ∧ w'.cell? ⟨pb, 5, none⟩ = some l ∧ w'.cell? ⟨pb, 6, none⟩ = some av ∧ w'.cell? ⟨pb, 7, none⟩ = some (.slice (some ⟨wq, 0, none⟩) R R) ∧ w'.cell? ⟨pb, 8, none⟩ = some (.slice (some ⟨tq, 0, none⟩) R R)) ∧ w'.cell? ⟨tq, r * 2, none⟩ = some (.int .i64 0) ∧ w'.cell? ⟨tq, r * 2 + 1, none⟩ = some (.int .i64 0) ∧ (∀ i, w'.frozen? ⟨tq, i, none⟩ = false) ∧ tq ≠ pb) := hide (fun w' tt => by
                    have h1 := (HX20.out.turned0 tt).m.p.cs
                    have h2 := HP20.out.turned0 tt
                    have e0 := h2.cell (i := r) (s := 0) HRl.out (by decide)
                    have e1 := h2.cell (i := r) (s := 1) HRl.out (by decide)
                    rw [if_neg (by omega)] at e0 e1
                    refine ⟨h1, e0, e1, h2.fz, ?_⟩
                    obtain ⟨c, hc, _⟩ := h2
                    exact ne_of_type hc (HX20.out.turned0 tt).m.p (by decide))
                  have HFI : Hid (∀ w', Turned [] w20 w' → D3 w ((w'.setCell ⟨tq, r * 2, none⟩ (.int .i64 ta)).setCell ⟨tq, r * 2 + 1, none⟩ (.int .i64 tc)) pb rb wq tq R ⟨f, t, k, D2, E⟩ l av (pb + 1) b2 (rowOf (lvR P0 (live S)) R) (rowOf (ahR ⟨f, t, k, D2, E⟩ (live S)) R) ∧ Ri ((w'.setCell ⟨tq, r * 2, none⟩ (.int .i64 ta)).setCell ⟨tq, r * 2 + 1, none⟩ (.int .i64 tc)) 3 wq R (fun j => (wt0 ⟨f, t, k, D2, E⟩ (live S) j r : Nat)) ∧ Rp ((w'.setCell ⟨tq, r * 2, none⟩ (.int .i64 ta)).setCell ⟨tq, r * 2 + 1, none⟩ (.int .i64 tc)) tq R (fun j s => if j < r + 1 then tkR ⟨f, t, k, D2, E⟩ (live S) j s else 0)) := hide (fun w' tt => by
                    have h2 := HP20.out.turned0 tt
                    have h3 := HW20.out.turned0 tt
                    have t3 : Turned [tq] w' ((w'.setCell ⟨tq, r * 2, none⟩ (.int .i64 ta)).setCell ⟨tq, r * 2 + 1, none⟩ (.int .i64 tc)) := ((Turned.refl [tq] w').setCell (p := ⟨tq, r * 2, none⟩) (.inl (by simp)) _).setCell (p := ⟨tq, r * 2 + 1, none⟩) (.inl (by simp)) _
                    refine ⟨(HX20.out.turned0 tt).sett h2 t3, h3.turned t3 (by simp; obtain ⟨c, hc, _⟩ := h3; obtain ⟨c2, hc2, _⟩ := h2; exact ne_of_type hc hc2 (by decide)), ?_⟩
                    refine ((h2.set r 0 (by decide) ta).set r 1 (by decide) tc).congr (fun j s hj hs => ?_)
                    by_cases h1 : j = r
                    · subst h1
                      rw [if_pos (show j < j + 1 by omega)]
                      rcases (show s = 0 ∨ s = 1 by omega) with rfl | rfl
                      · rw [if_neg (by omega), if_pos ⟨rfl, rfl⟩]; exact HTk.out.1
                      · rw [if_pos ⟨rfl, rfl⟩]; exact HTk.out.2
                    · rw [if_neg (by omega), if_neg (by omega)]
                      by_cases h4 : j < r
                      · rw [if_pos h4, if_pos (by omega)]
                      · rw [if_neg h4, if_neg (by omega)])
                  go_upto_region 36 with fail
                  go_cut [] (fun wc => Aside (D3 w wc pb rb wq tq R ⟨f, t, k, D2, E⟩ l av (pb + 1) b2 (rowOf (lvR P0 (live S)) R) (rowOf (ahR ⟨f, t, k, D2, E⟩ (live S)) R)) ∧ Aside (Ri wc 3 wq R (fun j => (wt0 ⟨f, t, k, D2, E⟩ (live S) j r : Nat))) ∧ Aside (Rp wc tq R (fun j s => if j < r + 1 then tkR ⟨f, t, k, D2, E⟩ (live S) j s else 0)))
                  case first =>
                    have ht0 : Turned [] w20 w20.drew := (Turned.refl [] w20).drew
                    have S0 := (HCS.out _ ht0).1
                    clear HNm HGF HGT HGl HGg HRe HSo HGo HFit HTk HCn HOK HRR HP0 HPk HPD HDD HCC HEE HB2 HSp2 HAh HEd HCT HBr
                    refine wp_region_held_drew (S := (fun w' => w'.cell? ⟨pb, 0, none⟩ = some (.int .i64 (f : Int)) ∧ w'.cell? ⟨pb, 1, none⟩ = some (.int .i64 (t : Int)) ∧ w'.cell? ⟨pb, 2, none⟩ = some (.int .i64 (k : Int)) ∧ w'.cell? ⟨pb, 3, none⟩ = some (.int .i64 (D2 : Int)) ∧ w'.cell? ⟨pb, 4, none⟩ = some (.int .i64 (E : Int)) ∧ w'.cell? ⟨pb, 5, none⟩ = some l ∧ w'.cell? ⟨pb, 6, none⟩ = some av ∧ w'.cell? ⟨pb, 7, none⟩ = some (.slice (some ⟨wq, 0, none⟩) R R) ∧ w'.cell? ⟨pb, 8, none⟩ = some (.slice (some ⟨tq, 0, none⟩) R R))) (by kernel_rfl) S0 (fun hHeld => ?_)
                    refine wpAnyH_take (i := 0) (v := ?_) rfl (by kernel_rfl) (by kernel_rfl) (by kernel_rfl) (fun _ _ _ h => h) (Or.inl ⟨by rfl, ?_⟩) (by assumption) ?_
                    rotate_left
                    · (intro w hSw; (try dsimp only at hSw); go_simp; all_goals with_reducible rfl)
                    (try simp only [List.getElem_toArray, List.getElem_cons_succ, List.getElem_cons_zero, Act.put, List.setIfInBounds_toArray, List.set_cons_zero, List.set_cons_succ])
                    refine wpAnyH_take (i := 1) (v := ?_) rfl (by kernel_rfl) (by kernel_rfl) (by kernel_rfl) (fun _ _ _ h => h) (Or.inl ⟨by rfl, ?_⟩) (by assumption) ?_
                    rotate_left
                    · (intro w hSw; (try dsimp only at hSw); go_simp; all_goals with_reducible rfl)
                    (try simp only [List.getElem_toArray, List.getElem_cons_succ, List.getElem_cons_zero, Act.put, List.setIfInBounds_toArray, List.set_cons_zero, List.set_cons_succ])
                    refine wpAnyH_take (i := 2) (v := ?_) rfl (by kernel_rfl) (by kernel_rfl) (by kernel_rfl) (fun _ _ _ h => h) (Or.inl ⟨by rfl, ?_⟩) (by assumption) ?_
                    rotate_left
                    · (intro w hSw; (try dsimp only at hSw); go_simp; all_goals with_reducible rfl)
                    (try simp only [List.getElem_toArray, List.getElem_cons_succ, List.getElem_cons_zero, Act.put, List.setIfInBounds_toArray, List.set_cons_zero, List.set_cons_succ])
                    refine wpAnyH_take (i := 3) (v := ?_) rfl (by kernel_rfl) (by kernel_rfl) (by kernel_rfl) (fun _ _ _ h => h) (Or.inl ⟨by rfl, ?_⟩) (by assumption) ?_
                    rotate_left
                    · (intro w hSw; (try dsimp only at hSw); go_simp; all_goals with_reducible rfl)
                    (try simp only [List.getElem_toArray, List.getElem_cons_succ, List.getElem_cons_zero, Act.put, List.setIfInBounds_toArray, List.set_cons_zero, List.set_cons_succ])
                    refine wpAnyH_take (i := 4) (v := ?_) rfl (by kernel_rfl) (by kernel_rfl) (by kernel_rfl) (fun _ _ _ h => h) (Or.inl ⟨by rfl, ?_⟩) (by assumption) ?_
                    rotate_left
                    · (intro w hSw; (try dsimp only at hSw); go_simp; all_goals with_reducible rfl)
                    (try simp only [List.getElem_toArray, List.getElem_cons_succ, List.getElem_cons_zero, Act.put, List.setIfInBounds_toArray, List.set_cons_zero, List.set_cons_succ])
                    refine wpAnyH_take (i := 5) (v := ?_) rfl (by kernel_rfl) (by kernel_rfl) (by kernel_rfl) (fun _ _ _ h => h) (Or.inl ⟨by rfl, ?_⟩) (by assumption) ?_
                    rotate_left
                    · (intro w hSw; (try dsimp only at hSw); go_simp; all_goals with_reducible rfl)
                    (try simp only [List.getElem_toArray, List.getElem_cons_succ, List.getElem_cons_zero, Act.put, List.setIfInBounds_toArray, List.set_cons_zero, List.set_cons_succ])
                    refine wpAnyH_take (i := 6) (v := ?_) rfl (by kernel_rfl) (by kernel_rfl) (by kernel_rfl) (fun _ _ _ h => h) (Or.inl ⟨by rfl, ?_⟩) (by assumption) ?_
                    rotate_left
                    · (intro w hSw; (try dsimp only at hSw); go_simp; all_goals with_reducible rfl)
                    (try simp only [List.getElem_toArray, List.getElem_cons_succ, List.getElem_cons_zero, Act.put, List.setIfInBounds_toArray, List.set_cons_zero, List.set_cons_succ])
                    refine wpAnyH_take (i := 9) (v := ?_) rfl (by kernel_rfl) (by kernel_rfl) (by kernel_rfl) (fun _ _ _ h => h) (Or.inl ⟨by rfl, ?_⟩) (by assumption) ?_
                    rotate_left
                    · (intro w hSw; (try dsimp only at hSw); go_simp; all_goals with_reducible rfl)
                    (try simp only [List.getElem_toArray, List.getElem_cons_succ, List.getElem_cons_zero, Act.put, List.setIfInBounds_toArray, List.set_cons_zero, List.set_cons_succ])
                    refine wpAnyH_take (i := 10) (v := ?_) rfl (by kernel_rfl) (by kernel_rfl) (by kernel_rfl) (fun _ _ _ h => h) (Or.inl ⟨by rfl, ?_⟩) (by assumption) ?_
                    rotate_left
                    · (intro w hSw; (try dsimp only at hSw); go_simp; all_goals with_reducible rfl)
                    (try simp only [List.getElem_toArray, List.getElem_cons_succ, List.getElem_cons_zero, Act.put, List.setIfInBounds_toArray, List.set_cons_zero, List.set_cons_succ])
                    refine wpAnyH_take (i := 11) (v := ?_) rfl (by kernel_rfl) (by kernel_rfl) (by kernel_rfl) (fun _ _ _ h => h) (Or.inl ⟨by rfl, ?_⟩) (by assumption) ?_
                    rotate_left
                    · (intro w hSw; (try dsimp only at hSw); go_simp; all_goals with_reducible rfl)
                    (try simp only [List.getElem_toArray, List.getElem_cons_succ, List.getElem_cons_zero, Act.put, List.setIfInBounds_toArray, List.set_cons_zero, List.set_cons_succ])
                    refine wpAnyH_take (i := 12) (v := ?_) rfl (by kernel_rfl) (by kernel_rfl) (by kernel_rfl) (fun _ _ _ h => h) (Or.inl ⟨by rfl, ?_⟩) (by assumption) ?_
                    rotate_left
                    · (intro w hSw; (try dsimp only at hSw); go_simp; all_goals with_reducible rfl)
                    (try simp only [List.getElem_toArray, List.getElem_cons_succ, List.getElem_cons_zero, Act.put, List.setIfInBounds_toArray, List.set_cons_zero, List.set_cons_succ])
                    refine wpAnyH_take (i := 13) (v := ?_) rfl (by kernel_rfl) (by kernel_rfl) (by kernel_rfl) (fun _ _ _ h => h) (Or.inl ⟨by rfl, ?_⟩) (by assumption) ?_
                    rotate_left
                    · (intro w hSw; (try dsimp only at hSw); go_simp; all_goals with_reducible rfl)
                    (try simp only [List.getElem_toArray, List.getElem_cons_succ, List.getElem_cons_zero, Act.put, List.setIfInBounds_toArray, List.set_cons_zero, List.set_cons_succ])
                    refine wpAnyH_ready (rs := [7]) (by kernel_rfl) (by simp) ?_
                    refine AllReadyH.cons rfl (fun K hK => ?_) AllReadyH.nil
                    (try simp only [List.getElem_toArray, List.getElem_cons_succ, List.getElem_cons_zero])
                    go_simp
                    refine (HSA.out _ (by assumption)).mono ?_
                    rintro e1 wA ⟨sA, rfl, HQA, tA⟩
                    have uA : Turned [] w20 wA := Turned.trans (by assumption) tA
                    have SA := (HCS.out _ uA).1
                    clear tA
                    refine hK.out _ _ ?_ (fun hHeld => ?_)
                    · ((try dsimp only); exact SA)
                    clear hK K
                    (try simp only [List.getElem_toArray, List.getElem_cons_succ, List.getElem_cons_zero, Act.put, List.setIfInBounds_toArray, List.set_cons_zero, List.set_cons_succ])
                    refine wpAnyH_ready (rs := [8]) (by kernel_rfl) (by simp) ?_
                    refine AllReadyH.cons rfl (fun K hK => ?_) AllReadyH.nil
                    (try simp only [List.getElem_toArray, List.getElem_cons_succ, List.getElem_cons_zero])
                    go_simp
                    refine (HQA.out _).mono ?_
                    rintro e1 wC ⟨rfl, tC⟩
                    have uC : Turned [] w20 wC := Turned.trans (by assumption) tC
                    have SC := (HCS.out _ uC).1
                    clear tC
                    refine hK.out _ _ ?_ (fun hHeld => ?_)
                    · ((try dsimp only); exact SC)
                    clear hK K
                    (try simp only [List.getElem_toArray, List.getElem_cons_succ, List.getElem_cons_zero, Act.put, List.setIfInBounds_toArray, List.set_cons_zero, List.set_cons_succ])
                    refine wpAnyH_ready (rs := [14]) (by kernel_rfl) (by simp) ?_
                    refine AllReadyH.cons rfl (fun K hK => ?_) AllReadyH.nil
                    (try simp only [List.getElem_toArray, List.getElem_cons_succ, List.getElem_cons_zero])
                    go_simp
                    refine (HSB.out _ (by assumption)).mono ?_
                    rintro e1 wB ⟨sB, rfl, HQB, tB⟩
                    have uB : Turned [] w20 wB := Turned.trans (by assumption) tB
                    have SB := (HCS.out _ uB).1
                    clear tB
                    refine hK.out _ _ ?_ (fun hHeld => ?_)
                    · ((try dsimp only); exact SB)
                    clear hK K
                    (try simp only [List.getElem_toArray, List.getElem_cons_succ, List.getElem_cons_zero, Act.put, List.setIfInBounds_toArray, List.set_cons_zero, List.set_cons_succ])
                    refine wpAnyH_ready (rs := [15]) (by kernel_rfl) (by simp) ?_
                    refine AllReadyH.cons rfl (fun K hK => ?_) AllReadyH.nil
                    (try simp only [List.getElem_toArray, List.getElem_cons_succ, List.getElem_cons_zero])
                    go_simp
                    refine (HQB.out _).mono ?_
                    rintro e1 wD ⟨rfl, tD⟩
                    have uD : Turned [] w20 wD := Turned.trans (by assumption) tD
                    have SD := (HCS.out _ uD).1
                    clear tD
                    refine hK.out _ _ ?_ (fun hHeld => ?_)
                    · ((try dsimp only); exact SD)
                    clear hK K
                    (try simp only [List.getElem_toArray, List.getElem_cons_succ, List.getElem_cons_zero, Act.put, List.setIfInBounds_toArray, List.set_cons_zero, List.set_cons_succ])
                    refine wpAnyH_take (i := 16) (v := ?_) rfl (by kernel_rfl) (by kernel_rfl) (by kernel_rfl) (fun _ _ _ h => h) (Or.inl ⟨by rfl, ?_⟩) (by assumption) ?_
                    rotate_left
                    · (intro w hSw; (try dsimp only at hSw); go_simp; all_goals with_reducible rfl)
                    (try simp only [List.getElem_toArray, List.getElem_cons_succ, List.getElem_cons_zero, Act.put, List.setIfInBounds_toArray, List.set_cons_zero, List.set_cons_succ])
                    refine wpAnyH_take (i := 17) (v := ?_) rfl (by kernel_rfl) (by kernel_rfl) (by kernel_rfl) (fun _ _ _ h => h) (Or.inl ⟨by rfl, ?_⟩) (by assumption) ?_
                    rotate_left
                    · (intro w hSw; (try dsimp only at hSw); go_simp; all_goals with_reducible rfl)
                    (try simp only [List.getElem_toArray, List.getElem_cons_succ, List.getElem_cons_zero, Act.put, List.setIfInBounds_toArray, List.set_cons_zero, List.set_cons_succ])
                    refine wpAnyH_take (i := 18) (v := ?_) rfl (by kernel_rfl) (by kernel_rfl) (by kernel_rfl) (fun _ _ _ h => h) (Or.inl ⟨by rfl, ?_⟩) (by assumption) ?_
                    rotate_left
                    · (intro w hSw; (try dsimp only at hSw); go_simp; all_goals with_reducible rfl)
                    (try simp only [List.getElem_toArray, List.getElem_cons_succ, List.getElem_cons_zero, Act.put, List.setIfInBounds_toArray, List.set_cons_zero, List.set_cons_succ])
                    obtain ⟨-, q0, q1, q2, q3⟩ := HCS.out _ uD
                    have q20 := q2 (r * 2)
                    have q21 := q2 (r * 2 + 1)
                    have hq3 : ¬ tq = pb := q3
                    have HF := HFI.out _ uD
                    refine wpAnyH_ready (rs := [19]) (by kernel_rfl) (by simp) ?_
                    refine AllReadyH.cons rfl (fun K hK => ?_) AllReadyH.nil
                    (try simp only [List.getElem_toArray, List.getElem_cons_succ, List.getElem_cons_zero])
                    go_simp
                    refine hK.out _ _ ?_ (fun hHeld => ?_)
                    · ((try dsimp only); exact HF.1.m.p.cs)
                    clear hK K
                    (try simp only [List.getElem_toArray, List.getElem_cons_succ, List.getElem_cons_zero, Act.put, List.setIfInBounds_toArray, List.set_cons_zero, List.set_cons_succ])
                    refine wpAnyH_done (by kernel_rfl) ?_ _
                    clear q0 q1 q20 q21 q2
                    go_wp2_with fail
                    go_meet
                    case rel => exact HF
                  case rest =>
                    obtain ⟨hX, hW, hP⟩ := hcut
                    have HX := hide hX.out
                    have HW := hide hW.out
                    have HP := hide hP.out
                    clear hX hW hP HX20 HW20 HP20 HSA HSB HCS HFI hwt hwg HTk hggi
                    obtain ⟨w21, hw21⟩ : ∃ w21, w21 = wc := ⟨_, rfl⟩
                    subst hw21
                    have hmk := make_bools R hR6
                    have HB21 := hide (new_bools w21 R)
                    have HT21 := hide ((Turned.refl [] w21).alloc (.cells (madeCells #[Value.bool false] R) 4))
                    have HX22 := hide (HX.out.turned0 HT21.out)
                    have HW22 := hide (HW.out.turned0 HT21.out)
                    have HP22 := hide (HP.out.turned0 HT21.out)
                    go_upto_region 38 with fail
                    obtain ⟨bq, hbq⟩ : ∃ bq, bq = w21.heap.size := ⟨_, rfl⟩
                    rw [← hbq] at HB21 ⊢
                    have HNb : Hid (w.heap.size ≤ bq) := hide (by rw [hbq]; exact HX.out.m.t.size)
                    generalize w21.alloc (.cells (madeCells #[Value.bool false] R) 4) = w22 at *
                    clear HX HW HP HT21 hmk hbq
                    have HB22 : Hid (Rb w22 bq R (tkX ⟨f, t, k, D2, E⟩ (live S) gf gf)) := hide (HB21.out.congr (fun i _ => (tkX_none _ _ _).symm))
                    clear HB21
                    go_wp2_with fail
                    go_loopg [32] (gt - gf) (fun gg s32 wr => ∃ (y : Nat), Hid (gf ≤ y ∧ y ≤ gt) ∧ gg = gt - y ∧ s32 = .int .i64 (y : Int) ∧ Hid (D3 w wr pb rb wq tq R ⟨f, t, k, D2, E⟩ l av (pb + 1) b2 (rowOf (lvR P0 (live S)) R) (rowOf (ahR ⟨f, t, k, D2, E⟩ (live S)) R)) ∧ Hid (Ri wr 3 wq R (fun j => (wt0 ⟨f, t, k, D2, E⟩ (live S) j r : Nat))) ∧ Hid (Rp wr tq R (fun j s => if j < r + 1 then tkR ⟨f, t, k, D2, E⟩ (live S) j s else 0)) ∧ Hid (Rb wr bq R (tkX ⟨f, t, k, D2, E⟩ (live S) gf y)))
                    case atStart => exact ⟨gf, hide ⟨Nat.le_refl _, by have := HGb.out; omega⟩, rfl, rfl, HX22, HW22, HP22, HB22⟩
                    case round =>
                      clear HX22 HW22 HP22 HB22
                      obtain ⟨y, HY, rfl, rfl, HX, HW, HP, HB⟩ := hrel
                      by_cases hlt : y < gt
                      · have hlti : (y : Int) < (gt : Int) := by omega
                        have HYl := hide hlt
                        have HYb : Hid (D2 ≤ y ∧ y < E) := hide (by have := HGb.out; have := HY.out; omega)
                        clear hlt
                        obtain ⟨w23, hw23⟩ : ∃ w23, w23 = wr := ⟨_, rfl⟩
                        subst hw23
                        have HCS : Hid (∀ w', Turned [] w23 w' → (w'.cell? ⟨pb, 0, none⟩ = some (.int .i64 (f : Int)) ∧ w'.cell? ⟨pb, 1, none⟩ = some (.int .i64 (t : Int)) ∧ w'.cell? ⟨pb, 2, none⟩ = some (.int .i64 (k : Int)) ∧ w'.cell? ⟨pb, 3, none⟩ = some (.int .i64 (D2 : Int)) ∧ w'.cell? ⟨pb, 4, none⟩ = some (.int .i64 (E : Int)) ∧ w'.cell? ⟨pb, 5, none⟩ = some l ∧ w'.cell? ⟨pb, 6, none⟩ = some av ∧ w'.cell? ⟨pb, 7, none⟩ = some (.slice (some ⟨wq, 0, none⟩) R R) ∧ w'.cell? ⟨pb, 8, none⟩ = some (.slice (some ⟨tq, 0, none⟩) R R)) ∧ True) := hide (fun w' tt => ⟨(HX.out.turned0 tt).m.p.cs, trivial⟩)
                        have HFB : Hid (∀ w', Turned [] w23 w' → ∀ qy, D3 w (w'.setCell ⟨bq, qy, none⟩ (.bool true)) pb rb wq tq R ⟨f, t, k, D2, E⟩ l av (pb + 1) b2 (rowOf (lvR P0 (live S)) R) (rowOf (ahR ⟨f, t, k, D2, E⟩ (live S)) R) ∧ Ri (w'.setCell ⟨bq, qy, none⟩ (.bool true)) 3 wq R (fun j => (wt0 ⟨f, t, k, D2, E⟩ (live S) j r : Nat)) ∧ Rp (w'.setCell ⟨bq, qy, none⟩ (.bool true)) tq R (fun j s => if j < r + 1 then tkR ⟨f, t, k, D2, E⟩ (live S) j s else 0) ∧ Rb (w'.setCell ⟨bq, qy, none⟩ (.bool true)) bq R (fun j => if j = qy then true else tkX ⟨f, t, k, D2, E⟩ (live S) gf y j)) := hide (fun w' tt qy => by
                          have h2 := HP.out.turned0 tt
                          have h3 := HW.out.turned0 tt
                          have h4 := HB.out.turned0 tt
                          have t3 : Turned [bq] w' (w'.setCell ⟨bq, qy, none⟩ (.bool true)) := (Turned.refl [bq] w').setCell (p := ⟨bq, qy, none⟩) (.inl (by simp)) _
                          refine ⟨(HX.out.turned0 tt).setb h4 HNb.out t3, h3.turned t3 (by simp; obtain ⟨c, hc, _⟩ := h3; obtain ⟨c2, hc2, _⟩ := h4; exact ne_of_type hc hc2 (by decide)), h2.turned t3 (by simp; obtain ⟨c, hc, _⟩ := h2; obtain ⟨c2, hc2, _⟩ := h4; exact ne_of_type hc hc2 (by decide)), h4.set qy true⟩)
                        have ht0 : Turned [] w23 w23.drew := (Turned.refl [] w23).drew
                        have S0 := (HCS.out _ ht0).1
                        go_upto_region 41 with fail
                        refine wp_region_held_drew (S := (fun w' => w'.cell? ⟨pb, 0, none⟩ = some (.int .i64 (f : Int)) ∧ w'.cell? ⟨pb, 1, none⟩ = some (.int .i64 (t : Int)) ∧ w'.cell? ⟨pb, 2, none⟩ = some (.int .i64 (k : Int)) ∧ w'.cell? ⟨pb, 3, none⟩ = some (.int .i64 (D2 : Int)) ∧ w'.cell? ⟨pb, 4, none⟩ = some (.int .i64 (E : Int)) ∧ w'.cell? ⟨pb, 5, none⟩ = some l ∧ w'.cell? ⟨pb, 6, none⟩ = some av ∧ w'.cell? ⟨pb, 7, none⟩ = some (.slice (some ⟨wq, 0, none⟩) R R) ∧ w'.cell? ⟨pb, 8, none⟩ = some (.slice (some ⟨tq, 0, none⟩) R R))) (by kernel_rfl) S0 (fun hHeld => ?_)
                        refine wpAnyH_take (i := 0) (v := ?_) rfl (by kernel_rfl) (by kernel_rfl) (by kernel_rfl) (fun _ _ _ h => h) (Or.inl ⟨by rfl, ?_⟩) (by assumption) ?_
                        rotate_left
                        · (intro w hSw; (try dsimp only at hSw); go_simp; all_goals with_reducible rfl)
                        (try simp only [List.getElem_toArray, List.getElem_cons_succ, List.getElem_cons_zero, Act.put, List.setIfInBounds_toArray, List.set_cons_zero, List.set_cons_succ])
                        refine wpAnyH_take (i := 1) (v := ?_) rfl (by kernel_rfl) (by kernel_rfl) (by kernel_rfl) (fun _ _ _ h => h) (Or.inl ⟨by rfl, ?_⟩) (by assumption) ?_
                        rotate_left
                        · (intro w hSw; (try dsimp only at hSw); go_simp; all_goals with_reducible rfl)
                        (try simp only [List.getElem_toArray, List.getElem_cons_succ, List.getElem_cons_zero, Act.put, List.setIfInBounds_toArray, List.set_cons_zero, List.set_cons_succ])
                        refine wpAnyH_take (i := 2) (v := ?_) rfl (by kernel_rfl) (by kernel_rfl) (by kernel_rfl) (fun _ _ _ h => h) (Or.inl ⟨by rfl, ?_⟩) (by assumption) ?_
                        rotate_left
                        · (intro w hSw; (try dsimp only at hSw); go_simp; all_goals with_reducible rfl)
                        (try simp only [List.getElem_toArray, List.getElem_cons_succ, List.getElem_cons_zero, Act.put, List.setIfInBounds_toArray, List.set_cons_zero, List.set_cons_succ])
                        refine wpAnyH_take (i := 3) (v := ?_) rfl (by kernel_rfl) (by kernel_rfl) (by kernel_rfl) (fun _ _ _ h => h) (Or.inl ⟨by rfl, ?_⟩) (by assumption) ?_
                        rotate_left
                        · (intro w hSw; (try dsimp only at hSw); go_simp; all_goals with_reducible rfl)
                        (try simp only [List.getElem_toArray, List.getElem_cons_succ, List.getElem_cons_zero, Act.put, List.setIfInBounds_toArray, List.set_cons_zero, List.set_cons_succ])
                        refine wpAnyH_take (i := 4) (v := ?_) rfl (by kernel_rfl) (by kernel_rfl) (by kernel_rfl) (fun _ _ _ h => h) (Or.inl ⟨by rfl, ?_⟩) (by assumption) ?_
                        rotate_left
                        · (intro w hSw; (try dsimp only at hSw); go_simp; all_goals with_reducible rfl)
                        (try simp only [List.getElem_toArray, List.getElem_cons_succ, List.getElem_cons_zero, Act.put, List.setIfInBounds_toArray, List.set_cons_zero, List.set_cons_succ])
                        refine wpAnyH_ready (rs := [5]) (by kernel_rfl) (by simp) ?_
                        refine AllReadyH.cons rfl (fun K hK => ?_) AllReadyH.nil
                        (try simp only [List.getElem_toArray, List.getElem_cons_succ, List.getElem_cons_zero])
                        go_simp
                        refine (HSo.out y HYb.out.1 HYb.out.2 _ (HX.out.m.t.trans ht0)).mono ?_
                        rintro e1 wA ⟨sA, rfl, hsA, tA⟩
                        have uA : Turned [] w23 wA := ht0.trans tA
                        have HSs := hide hsA
                        have SA := (HCS.out _ uA).1
                        clear tA hsA
                        refine hK.out _ _ ?_ (fun hHeld => ?_)
                        · ((try dsimp only); exact SA)
                        clear hK K
                        (try simp only [List.getElem_toArray, List.getElem_cons_succ, List.getElem_cons_zero, Act.put, List.setIfInBounds_toArray, List.set_cons_zero, List.set_cons_succ])
                        refine wpAnyH_ready (rs := [6]) (by kernel_rfl) (by simp) ?_
                        refine AllReadyH.cons rfl (fun K hK => ?_) AllReadyH.nil
                        (try simp only [List.getElem_toArray, List.getElem_cons_succ, List.getElem_cons_zero])
                        go_simp
                        refine ((HRe.out y sA HSs.out).2 _).mono ?_
                        rintro e1 wC ⟨rfl, tC⟩
                        have uC : Turned [] w23 wC := uA.trans tC
                        have SC := (HCS.out _ uC).1
                        have HqR := (HRe.out y sA HSs.out).1
                        obtain ⟨qy, hqy⟩ : ∃ qy, qy = PN.reg ⟨f, t, k, D2, E⟩ sA := ⟨_, rfl⟩
                        have HQY := hide hqy
                        rw [← hqy] at HqR ⊢
                        clear hqy tC
                        have hqi : (qy : Int) < (R : Int) := by omega
                        have hqn : qy < R := HqR
                        have HqR2 := hide HqR
                        clear HqR
                        refine hK.out _ _ ?_ (fun hHeld => ?_)
                        · ((try dsimp only); exact SC)
                        clear hK K
                        (try simp only [List.getElem_toArray, List.getElem_cons_succ, List.getElem_cons_zero, Act.put, List.setIfInBounds_toArray, List.set_cons_zero, List.set_cons_succ])
                        refine wpAnyH_take (i := 7) (v := ?_) rfl (by kernel_rfl) (by kernel_rfl) (by kernel_rfl) (fun _ _ _ h => h) (Or.inl ⟨by rfl, ?_⟩) (by assumption) ?_
                        rotate_left
                        · (intro w hSw; (try dsimp only at hSw); go_simp; all_goals with_reducible rfl)
                        (try simp only [List.getElem_toArray, List.getElem_cons_succ, List.getElem_cons_zero, Act.put, List.setIfInBounds_toArray, List.set_cons_zero, List.set_cons_succ])
                        have q0 := (HB.out.turned0 uC).cell HqR2.out
                        have q1 := (HB.out.turned0 uC).fz qy
                        have HF := HFB.out _ uC qy
                        refine wpAnyH_ready (rs := [8]) (by kernel_rfl) (by simp) ?_
                        refine AllReadyH.cons rfl (fun K hK => ?_) AllReadyH.nil
                        (try simp only [List.getElem_toArray, List.getElem_cons_succ, List.getElem_cons_zero])
                        go_simp
                        refine hK.out _ _ ?_ (fun hHeld => ?_)
                        · ((try dsimp only); exact HF.1.m.p.cs)
                        clear hK K
                        (try simp only [List.getElem_toArray, List.getElem_cons_succ, List.getElem_cons_zero, Act.put, List.setIfInBounds_toArray, List.set_cons_zero, List.set_cons_succ])
                        refine wpAnyH_done (by kernel_rfl) ?_ _
                        have HX24 := hide HF.1
                        have HW24 := hide HF.2.1
                        have HP24 := hide HF.2.2.1
                        have HB24 : Hid (Rb (wC.setCell ⟨bq, qy, none⟩ (.bool true)) bq R (tkX ⟨f, t, k, D2, E⟩ (live S) gf (y + 1))) := hide (HF.2.2.2.congr (fun j hj => by rw [HGF.out, tkX_step HFit.out (by rw [HRR.out]; exact HRl.out) (by rw [HRR.out]; exact hj) (by rw [← HGF.out]; exact HY.out.1) (by rw [← HGT.out]; exact HYl.out) HSs.out, ← HQY.out]))
                        clear HF q0 q1 uA uC SA SC hHeld S0
                        generalize wC.setCell ⟨bq, qy, none⟩ (.bool true) = w24 at *
                        have hy6 : y ≤ 65536 := by have := HGb.out; have := HYl.out; omega
                        go_wp2_with fail
                        go_roundg (gt - (y + 1))
                        case measure => have := HYl.out; omega
                        case rel => exact ⟨y + 1, hide (by have := HY.out; have := HYl.out; omega), rfl, by go_num, HX24, HW24, HP24, HB24⟩
                      · have hlti : ¬ (y : Int) < (gt : Int) := by omega
                        have hygt : y = gt := by have := HY.out; omega
                        have HB2' : Hid (Rb wr bq R (tkB ⟨f, t, k, D2, E⟩ (live S) r)) := hide (HB.out.congr (fun j hj => by rw [hygt, HGF.out, HGT.out]; exact tkX_all HFit.out (by rw [HRR.out]; exact HRl.out) (by rw [HRR.out]; exact hj) HGl.out))
                        clear HB hygt
                        obtain ⟨w25, hw25⟩ : ∃ w25, w25 = wr := ⟨_, rfl⟩
                        subst hw25
                        go_wp2_with fail
                        go_loopg [33] R (fun gg s33 wr => ∃ (z : Nat), Hid (z ≤ R) ∧ gg = R - z ∧ s33 = .int .i64 (z : Int) ∧ Hid (D3 w wr pb rb wq tq R ⟨f, t, k, D2, E⟩ l av (pb + 1) b2 (rowOf (lvR P0 (live S)) R) (rowOf (ahR ⟨f, t, k, D2, E⟩ (live S)) R)) ∧ Hid (Ri wr 3 wq R (fun j => ((if j < z then wt0 ⟨f, t, k, D2, E⟩ (live S) j (r + 1) else wt0 ⟨f, t, k, D2, E⟩ (live S) j r : Nat) : Int))) ∧ Hid (Rp wr tq R (fun j s => if j < r + 1 then tkR ⟨f, t, k, D2, E⟩ (live S) j s else 0)) ∧ Hid (Rb wr bq R (tkB ⟨f, t, k, D2, E⟩ (live S) r)))
                        case atStart => exact ⟨0, hide (Nat.zero_le _), rfl, rfl, HX, hide (HW.out.congr (fun j _ => by rw [if_neg (by omega)])), HP, HB2'⟩
                        case round =>
                          clear HX HW HP HB2'
                          obtain ⟨z, HZ, rfl, rfl, HX, HW, HP, HB⟩ := hrel
                          have hr6 : r ≤ 65536 := by have := HRl.out; omega
                          by_cases hlt : z < R
                          · have hlti : (z : Int) < (R : Int) := by omega
                            have HZl := hide hlt
                            have cb := HB.out.cell hlt
                            have cw := HW.out.cell hlt
                            rw [if_neg (show ¬ z < z by omega)] at cw
                            have c7 := HX.out.m.p.cs.2.2.2.2.2.2.2.1
                            unfold slc at c7
                            have hw0 := wt0_le (P := ⟨f, t, k, D2, E⟩) (live S) z r
                            have fw := HW.out.fz z
                            have hne : wq ≠ pb := by obtain ⟨c, hc, _⟩ := HW.out; exact ne_of_type hc HX.out.m.p (by decide)
                            have hz6 : z ≤ 65536 := by omega
                            have HSt := hide (wt0_step (P := ⟨f, t, k, D2, E⟩) (live S) z r)
                            obtain ⟨bb, hbb⟩ : ∃ bb, bb = tkB ⟨f, t, k, D2, E⟩ (live S) r z := ⟨_, rfl⟩
                            rw [← hbb] at cb HSt
                            clear hbb
                            obtain ⟨vv, hvv⟩ : ∃ vv, vv = wt0 ⟨f, t, k, D2, E⟩ (live S) z r := ⟨_, rfl⟩
                            rw [← hvv] at cw hw0 HSt
                            have HVV := hide hvv
                            clear hvv hlt
                            by_cases hyes : bb = true ∧ z ≠ r
                            · obtain ⟨rfl, hzr⟩ := hyes
                              have hzri : ¬ (z : Int) = (r : Int) := by omega
                              have HW2 : Hid (Ri (wr.setCell ⟨wq, z, none⟩ (.int .i64 ((vv : Int) + 1))) 3 wq R (fun j => ((if j < z + 1 then wt0 ⟨f, t, k, D2, E⟩ (live S) j (r + 1) else wt0 ⟨f, t, k, D2, E⟩ (live S) j r : Nat) : Int))) := hide ((HW.out.set z ((vv : Int) + 1)).congr (fun j hj => by
                                by_cases h1 : j = z
                                · subst h1
                                  rw [if_pos rfl, if_pos (by omega), HSt.out, decide_eq_true (by omega)]
                                  simp
                                · rw [if_neg h1]
                                  by_cases h2 : j < z
                                  · rw [if_pos h2, if_pos (by omega)]
                                  · rw [if_neg h2, if_neg (by omega)]))
                              have t3 : Turned [wq] wr (wr.setCell ⟨wq, z, none⟩ (.int .i64 ((vv : Int) + 1))) := (Turned.refl [wq] wr).setCell (p := ⟨wq, z, none⟩) (.inl (by simp)) _
                              have HX2 := hide (HX.out.setw HW.out t3)
                              have HP2 := hide (HP.out.turned t3 (by simp; obtain ⟨c, hc, _⟩ := HP.out; obtain ⟨c2, hc2, _⟩ := HW.out; exact ne_of_type hc hc2 (by decide)))
                              have HB2 := hide (HB.out.turned t3 (by simp; obtain ⟨c, hc, _⟩ := HB.out; obtain ⟨c2, hc2, _⟩ := HW.out; exact ne_of_type hc hc2 (by decide)))
                              clear t3
                              go_wp2_with fail
                              go_roundg (R - (z + 1))
                              case measure => have := HZl.out; omega
                              case rel => exact ⟨z + 1, hide HZl.out, rfl, by go_num, HX2, HW2, HP2, HB2⟩
                            · have HW2 : Hid (Ri wr 3 wq R (fun j => ((if j < z + 1 then wt0 ⟨f, t, k, D2, E⟩ (live S) j (r + 1) else wt0 ⟨f, t, k, D2, E⟩ (live S) j r : Nat) : Int))) := hide (HW.out.congr (fun j hj => by
                                by_cases h1 : j = z
                                · subst h1
                                  rw [if_neg (by omega), if_pos (by omega), HSt.out, HVV.out]
                                  have : (bb && decide (r ≠ j)) = false := by
                                    cases bb
                                    · rfl
                                    · by_cases h2 : j = r
                                      · simp [h2]
                                      · exact absurd ⟨rfl, h2⟩ hyes
                                  rw [this]; rfl
                                · by_cases h2 : j < z
                                  · rw [if_pos h2, if_pos (by omega)]
                                  · rw [if_neg h2, if_neg (by omega)]))
                              cases bb
                              · clear hyes
                                go_wp2_with fail
                                go_roundg (R - (z + 1))
                                case measure => have := HZl.out; omega
                                case rel => exact ⟨z + 1, hide HZl.out, rfl, by go_num, HX, HW2, HP, HB⟩
                              · have hzr : z = r := by
                                  by_cases h2 : z = r
                                  · exact h2
                                  · exact absurd ⟨rfl, h2⟩ hyes
                                clear hyes
                                subst hzr
                                go_wp2_with fail
                                go_roundg (R - (z + 1))
                                case measure => have := HZl.out; omega
                                case rel => exact ⟨z + 1, hide HZl.out, rfl, by go_num, HX, HW2, HP, HB⟩
                          · have hlti : ¬ (z : Int) < (R : Int) := by omega
                            have hzR : z = R := by have := HZ.out; omega
                            have HW2 : Hid (Ri wr 3 wq R (fun j => (wt0 ⟨f, t, k, D2, E⟩ (live S) j (r + 1) : Nat))) := hide (HW.out.congr (fun j hj => by rw [if_pos (by omega)]))
                            clear hzR HW
                            go_wp2_with fail
                            go_roundg (R - (r + 1))
                            case measure => have := HRl.out; omega
                            case rel => exact ⟨r + 1, hide HRl.out, rfl, by go_num, HX, HW2, HP⟩
              · have hlti : ¬ (r : Int) < (R : Int) := by omega
                have hrR2 : r = R := by have := HRr.out; omega
                subst hrR2
                obtain ⟨R, hRe⟩ : ∃ R, R = r := ⟨_, rfl⟩
                subst hRe
                go_upto_region 47 with fail
                obtain ⟨-, lo, lc, hlv, -⟩ := ownsRow_any HX.out.ol
                obtain ⟨-, ao, ac, hav, -⟩ := ownsRow_any HX.out.oa
                subst hlv hav
                obtain ⟨c0, c1, c2, c3, c4, c5, c6, c7, c8⟩ := HX.out.m.p.cs
                unfold slc at c7 c8
                obtain ⟨r0, r1, r2, r3, r4, r5, r6, r7, r8⟩ := HX.out.m.r.cs
                simp only [Int.cast_ofNat_Int] at r0 r1 r2 r3 r4
                have z0 := HX.out.m.r.fz 0
                have z1 := HX.out.m.r.fz 1
                have z2 := HX.out.m.r.fz 2
                have z3 := HX.out.m.r.fz 3
                have z4 := HX.out.m.r.fz 4
                have z5 := HX.out.m.r.fz 5
                have z6 := HX.out.m.r.fz 6
                have z7 := HX.out.m.r.fz 7
                have z8 := HX.out.m.r.fz 8
                have rl := HX.out.m.r.lt
                have hnr := HX.out.m.nr
                obtain ⟨w30, hw30⟩ : ∃ w30, w30 = wr := ⟨_, rfl⟩
                subst hw30
                go_wp2_with fail
                have h9 := nine_set HX.out.m.r ⟨f, t, k, D2, E⟩ (.slice lo R lc) (.slice ao R ac) (slc wq R) (slc tq R)
                have t9 := nine_turned w30 rb ⟨f, t, k, D2, E⟩ (.slice lo R lc) (.slice ao R ac) (slc wq R) (slc tq R)
                have HT9 := hide (nine_new HX.out.m.t HX.out.m.nq ⟨f, t, k, D2, E⟩ (.slice lo R lc) (.slice ao R ac) (slc wq R) (slc tq R))
                have HO9 := hide (own_at HX.out.ol t9 (fun hh => by obtain ⟨_, _, c2, hc2⟩ := ownsRow_lt HX.out.ol _ hh; exact ne_of_type hc2 HX.out.m.r (by decide) rfl))
                have HA9 := hide (own_at HX.out.oa t9 (fun hh => by obtain ⟨_, _, c2, hc2⟩ := ownsRow_lt HX.out.oa _ hh; exact ne_of_type hc2 HX.out.m.r (by decide) rfl))
                have HW9 := hide (HW.out.turned t9 (by simp; obtain ⟨c, hc, _⟩ := HW.out; exact ne_of_type hc HX.out.m.r (by decide)))
                have HP9 := hide (HPr.out.turned t9 (by simp; obtain ⟨c, hc, _⟩ := HPr.out; exact ne_of_type hc HX.out.m.r (by decide)))
                have H9 := hide h9
                unfold nine slc at H9 HT9 HO9 HA9 HW9 HP9
                simp only at H9 HT9 HO9 HA9 HW9 HP9
                clear h9 t9 HX HW HPr z0 z1 z2 z3 z4 z5 z6 z7 z8 r0 r1 r2 r3 r4 r5 r6 r7 r8 rl hnr c0 c1 c2 c3 c4 c5 c6 c7 c8
                generalize ((((((((w30.setCell ⟨rb, 0, none⟩ (.int .i64 (f : Int))).setCell ⟨rb, 1, none⟩ (.int .i64 (t : Int))).setCell ⟨rb, 2, none⟩ (.int .i64 (k : Int))).setCell ⟨rb, 3, none⟩ (.int .i64 (D2 : Int))).setCell ⟨rb, 4, none⟩ (.int .i64 (E : Int))).setCell ⟨rb, 5, none⟩ (.slice lo R lc)).setCell ⟨rb, 6, none⟩ (.slice ao R ac)).setCell ⟨rb, 7, none⟩ (.slice (some ⟨wq, 0, none⟩) R R)).setCell ⟨rb, 8, none⟩ (.slice (some ⟨tq, 0, none⟩) R R) = w31 at *
                obtain ⟨c0, c1, c2, c3, c4, c5, c6, c7, c8⟩ := H9.out.cs
                simp only at c0 c1 c2 c3 c4
                refine bodyPost_ret (v := .tuple #[.agg (plC ⟨f, t, k, D2, E⟩ (.slice lo R lc) (.slice ao R ac) (.slice (some ⟨wq, 0, none⟩) R R) (.slice (some ⟨tq, 0, none⟩) R R)), .int .i64 0]) (by unfold plC; simp [results, Tryz.results31, go_sem, c0, c1, c2, c3, c4, c5, c6, c7, c8]) rfl ⟨⟨f, t, k, D2, E⟩, .slice lo R lc, .slice ao R ac, wq, tq, ?_, ⟨rfl, rfl, rfl, ?_, ⟨K, ⟨?_, ?_, ?_⟩, ?_⟩⟩, ⟨⟨pb + 1, ?_⟩, ⟨b2, ?_⟩, ?_, ?_⟩, HT9.out⟩
                · rw [HRR.out]; rfl
                · show E = D2 + (cnt (live S) t - cnt (live S) D2)
                  rw [← HCC.out]; exact HEE.out
                · rw [HRR.out]; exact HPk.out.1
                · have := HPk.out.2.1; rw [HP0.out] at this; exact this
                · have := HPk.out.2.2; rw [HP0.out] at this; rw [HRR.out]; exact this
                · have := HPD.out; rw [HDD.out, HP0.out] at this; exact this
                · rw [HRR.out]; have := HO9.out; rw [HP0.out] at this; exact this
                · rw [HRR.out]; exact HA9.out
                · have h0 : Ri w31 3 wq R (fun r => (wtR ⟨f, t, k, D2, E⟩ (live S) r : Nat)) := HW9.out.congr (fun r hr => by rw [HFit.out.wait0 (by rw [HRR.out]; exact hr), HRR.out]; rfl)
                  rw [HRR.out]; exact h0
                · have h0 : Rp w31 tq R (fun r s => tkR ⟨f, t, k, D2, E⟩ (live S) r s) := HP9.out.congr (fun r s hr hs => by rw [if_pos hr])
                  rw [HRR.out]; exact h0
end Go.Proofs.YtpeglndlhjnaaaaGreatDoor
