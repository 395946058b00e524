/-
  PlanSlides: where words go is one-to-one and rising, to no greater place, and fills all from Dense to Top; ahead of Dense there are at most so many dead words as may be wasted. For every list of blocks, any region and any waste.
-/
import Derived.Test.YtcckflcjjgckoaaDoorPlanSlidesP
import Derived.Test.YtcckflcjjgckoaaDoorMarkLaid
import Derived.Test.YtcckflcjjgckoaaDoorCards
import Derived.Test.YtcckflcjjgckoaaDoorTie
import Derived.SevenTiedAt
namespace Go.Proofs.YtcckflcjjgckoaaDoor
open Go.ChangeShapes Go.WideShapes Go.ChangeAt Go.RowKit Bt
set_option linter.unusedVariables false
set_option linter.unusedSimpArgs false

theorem tmod_bounds (a : Int) (k : Int) (h : 0 < k) : -k < a.tmod k ∧ a.tmod k < k := ⟨Int.lt_tmod_of_pos a h, Int.tmod_lt_of_pos a h⟩
/-- A plan that lies in a variable: its block, its numbers. -/
theorem plan_var (w : World) (P : PN) (lq aq wq tq : Nat) : Pb (w.alloc (.cells (plC P (slc lq P.R) (slc aq P.R) (slc wq P.R) (slc tq P.R)) 30)) w.heap.size P (slc lq P.R) (slc aq P.R) (slc wq P.R) (slc tq P.R) := pb_new _ _ _ _ _ _

set_option maxHeartbeats 4000000 in
set_option maxRecDepth 100000 in
theorem planSlides_walk (ao : Option Addr) (len cap : Nat) (cs : List (Int × Int)) (x y : Int) (w : World) (h : TwRd w ao len cs) (hx : (Lit.int .i64 x).wf = true) (hy : (Lit.int .i64 y).wf = true) (hT : Tab w) :
    Calls Tryd.prog 3 #[.slice ao len cap, .int .i64 x, .int .i64 y] w fun e w' => e = .returned (.bool true) ∧ Turned [] w w' := by
  have hxr := wf_range hx
  have hyr := wf_range hy
  clear hx hy
  have HTb := hide hT
  have HO := hide h
  have HAw := hide (awake13 w hT)
  clear h hT
  go_enter Tryd.func3, Tryd.ntmps3
  go_wp2_with fail
  refine (HAw.out).mono ?_
  rintro e w1 ⟨rfl, ht1⟩
  have HT1 := hide ht1
  have HM := hide (marks_any 150 ao len cap cs w1 (by omega) (HO.out.turned HT1.out) (HTb.out.turned HT1.out (by simp)))
  clear ht1 HAw
  go_wp2_with fail
  refine (HM.out).mono ?_
  rintro e w2 ⟨p, q, p2, rfl, hb2, hp0, hq0, ht2⟩
  have HB2 := hide hb2
  have HBl := hide (mkS_bl 150 cs (min len 60))
  have HT2 := hide (HT1.out.trans ht2)
  clear hb2 hp0 hq0 ht2 HT1 HM
  generalize mkS 150 cs (min len 60) = S at *
  go_upto_if 31 with fail
  go_cut [10] (fun s wc => ∃ n : Nat, s = .int .i64 (n : Int) ∧ n ≤ 39 ∧ Aside (wc = w2))
  case first =>
    have ta : -40 < x.tmod 40 ∧ x.tmod 40 < 40 := tmod_bounds x 40 (by omega)
    by_cases hneg : x.tmod 40 < 0
    · go_wp2_with fail
      go_meet
      case rel => exact ⟨(-(x.tmod 40)).toNat, by congr 1; omega, by omega, rfl⟩
    · go_wp2_with fail
      go_meet
      case rel => exact ⟨(x.tmod 40).toNat, by congr 1; omega, by omega, rfl⟩
  case rest =>
    obtain ⟨k, rfl, hk, hwc⟩ := hcut
    have hwc' := hwc.out
    subst hwc'
    clear hwc hxr
    obtain ⟨w2, hw2⟩ : ∃ w2, w2 = wc := ⟨_, rfl⟩
    subst hw2
    go_upto_if 37 with fail
    go_cut [11] (fun s wc => ∃ n : Nat, s = .int .i64 (n : Int) ∧ n ≤ 60 ∧ Aside (wc = w2))
    case first =>
      have ta : -61 < y.tmod 61 ∧ y.tmod 61 < 61 := tmod_bounds y 61 (by omega)
      by_cases hneg : y.tmod 61 < 0
      · go_wp2_with fail
        go_meet
        case rel => exact ⟨(-(y.tmod 61)).toNat, by congr 1; omega, by omega, rfl⟩
      · go_wp2_with fail
        go_meet
        case rel => exact ⟨(y.tmod 61).toNat, by congr 1; omega, by omega, rfl⟩
    case rest =>
      obtain ⟨v, rfl, hv, hwc⟩ := hcut
      have hwc' := hwc.out
      subst hwc'
      clear hwc hyr
      obtain ⟨w2, hw2⟩ : ∃ w2, w2 = wc := ⟨_, rfl⟩
      subst hw2
      have HMk := hide (fun (w' : World) (t : Turned [] w2 w') => make_ok p 150 S 0 150 (k + 1) v w' (HB2.out.turned0 t).brd HBl.out (by omega) (by omega) (by omega) (by omega) (by omega) (noCut0 S) (noCutN HBl.out))
      rw [show ((0 : Nat) : Int) = 0 from rfl, show ((150 : Nat) : Int) = 150 from rfl, show ((k + 1 : Nat) : Int) = (k : Int) + 1 from by omega] at HMk
      go_wp2_with fail
      refine (HMk.out _ (Turned.refl _ _)).mono ?_
      rintro e w3 ⟨P, lq, aq, wq, tq, rfl, hmP, hpl, ht3⟩
      have hOk := hmP.ok (by omega) (by omega) (by omega) (by omega)
      have hPd := hmP.dle HBl.out (noCutN HBl.out)
      have HDd := hide (dense_dead HBl.out hmP)
      have HPe := hide hmP.e_
      have hPf := hmP.f_
      have hPt := hmP.t_
      have HV4 := hide (plan_var w3 P lq aq wq tq)
      have hU4 := (Turned.refl [] w3).alloc (.cells (plC P (slc lq P.R) (slc aq P.R) (slc wq P.R) (slc tq P.R)) 30)
      have HL4 := hide (hpl.turned0 hU4)
      have HB4 := hide ((HB2.out.turned0 ht3).turned0 hU4)
      have HT4 := hide ((HT2.out.trans ht3).trans hU4)
      have HOk := hide hOk
      have HTop : Hid (P.e = P.d + (cnt (live S) 150 - cnt (live S) P.d)) := HPe
      have HFw := hide (fun (w' : World) (i : Nat) (hb : Bts w' p q 150 (sidesOf S)) (hl : Pln w' P S lq aq wq tq) (hi : i < 150) (hli : live S i = true) => forward_live (some ⟨p, 0, none⟩) 150 P hOk S (slc lq P.R) (slc wq P.R) (slc tq P.R) aq P.R i w' hb.brd HBl.out hl.ah (by omega) (by omega) (by omega) (by omega) (by omega) hli)
      have HSo := hide (fun (w' : World) (i : Nat) (hb : Bts w' p q 150 (sidesOf S)) (hl : Pln w' P S lq aq wq tq) (hi : i < 150) => source_in (some ⟨p, 0, none⟩) 150 P hOk S (slc lq P.R) (slc wq P.R) (slc tq P.R) aq P.R i w' hb.brd HBl.out hl.ah (by omega) (by omega) (by omega) (by omega) (by omega))
      have HSf := hide (fun i r (hi : live S i = true) (hit : i < 150) hh => src_fwd (P := P) (S := S) (i := i) (r := r) hi (by omega) (by omega) hh)
      have HOv := hide (fun (w' : World) (i : Nat) (hb : Bts w' p q 150 (sidesOf S)) => over_any (some ⟨p, 0, none⟩) 150 S (i : Int) w' hb.brd HBl.out)
      have HPt := hide (And.intro hPf hPt)
      clear hmP hpl ht3 hU4 HMk hOk HT2 HB2 HPe hPf hPt
      unfold plC slc at HV4 HFw HSo HL4 HB4 HT4 ⊢
      go_wp2_with fail
      generalize hRR : P.R = R at *
      generalize w3.alloc (.cells #[Value.int .i64 P.f, Value.int .i64 P.t, Value.int .i64 P.k, Value.int .i64 P.d, Value.int .i64 P.e, .slice (some ⟨lq, 0, none⟩) R R, .slice (some ⟨aq, 0, none⟩) R R, .slice (some ⟨wq, 0, none⟩) R R, .slice (some ⟨tq, 0, none⟩) R R] 30) = w4 at *
      generalize w3.heap.size = pb at *
      clear hRR
      have hPe : P.e = P.d + (cnt (live S) 150 - cnt (live S) P.d) := HTop.out
      have HC150 := hide (cnt_gap (live S) hPd)
      generalize hL : live S = L at *
      have HTop2 : Hid (P.e = P.d + (cnt L 150 - cnt L P.d)) := hide hPe
      clear hPe HTop
      obtain ⟨d, hd⟩ : ∃ d, d = P.d := ⟨_, rfl⟩
      have HF0 : Hid (∀ i, fwd P L i = if i < d then i else d + (cnt L i - cnt L d)) := hide (fun i => by rw [hd]; rfl)
      have HFl := hide (fun i => fwd_le P L i)
      have HFs := hide (fun i (h : L i = true) => fwd_live P h)
      have HFd := hide (fun i => fwd_dead P (L := L) (i := i))
      generalize hfw : fwd P L = F at *
      rw [← hd] at HDd hPd HTop2 HC150 HFw HSo
      have HD := hide hd
      clear hd
      go_loopw [14, 15, 16, 17] (fun la mo de ii wr => ∃ (i m z : Nat) (a : Int), i ≤ 150 ∧ m ≤ 150 ∧ z ≤ 150 ∧ -1 ≤ a ∧ a ≤ 150 ∧ ii = .int .i64 i ∧ mo = .int .i64 m ∧ de = .int .i64 z ∧ la = .int .i64 a ∧ Hid (m = cnt L i - cnt L d) ∧ Hid (z = min i d - cnt L (min i d)) ∧ Hid (a < (F i : Int)) ∧ Hid (Bts wr p q 150 (sidesOf S)) ∧ Hid (Pb wr pb P (.slice (some ⟨lq, 0, none⟩) R R) (.slice (some ⟨aq, 0, none⟩) R R) (.slice (some ⟨wq, 0, none⟩) R R) (.slice (some ⟨tq, 0, none⟩) R R)) ∧ Hid (Pln wr P S lq aq wq tq) ∧ Hid (Turned [] w wr)) (fun _ _ _ i _ => 150 - (intOf i).toNat)
      case atStart => exact ⟨0, 0, 0, -1, by omega, by omega, by omega, by omega, by omega, rfl, rfl, rfl, rfl, (show 0 = cnt L 0 - cnt L d by simp [cnt]), (show 0 = min 0 d - cnt L (min 0 d) by simp), (show (-1 : Int) < (F 0 : Int) by omega), HB4, HV4, HL4, HT4⟩
      case round =>
        obtain ⟨i, m, z, a, hi, hm, hz, ha1, ha2, rfl, rfl, rfl, rfl, HMo, HDe, HLa, HB, HV, HL, HTr⟩ := hrel
        clear HB4 HV4 HL4 HT4
        obtain ⟨c0, c1, c2, c3, c4, c5, c6, c7, c8⟩ := HV.out.cs
        by_cases hlt : i < 150
        · have HOc := hide (HOv.out wr i HB.out)
          have hlti : (i : Int) < 150 := by omega
          go_wp2_with fail
          refine (HOc.out).mono ?_
          rintro e w5 ⟨oa, oz, ot, rfl, hov, m5, rfl⟩
          have hot := over_lv hov
          rw [lvI_nat, hL] at hot
          have HB5 := hide (HB.out.drewN m5)
          have HT5 := hide (HTr.out.drewN m5)
          have hU5 : Turned [] wr (wr.drewN m5) := (Turned.refl [] wr).drewN m5
          have HV5 := hide (HV.out.turned0 hU5)
          have HL5 := hide (HL.out.turned0 hU5)
          clear hov HOc HB HTr HV HL hU5 c0 c1 c2 c3 c4 c5 c6 c7 c8
          generalize wr.drewN m5 = w6 at *
          obtain ⟨c0, c1, c2, c3, c4, c5, c6, c7, c8⟩ := HV5.out.cs
          have hdP := HD.out
          rw [← hdP] at c3
          clear hdP
          cases ot
          · have HLi : Hid (L i = false) := hide hot.symm
            have HMo2 : Hid (m = cnt L (i + 1) - cnt L d) := hide (by rw [cnt_off HLi.out]; exact HMo.out)
            have HLa2 : Hid (a < (F (i + 1) : Int)) := hide (by have := HFd.out i; have := HLa.out; omega)
            clear hot
            by_cases hid : i < d
            · have hidi : (i : Int) < d := by omega
              have HDe2 : Hid (z + 1 = min (i + 1) d - cnt L (min (i + 1) d)) := hide (by rw [show min (i + 1) d = i + 1 by omega, cnt_off HLi.out]; have h1 := HDe.out; rw [show min i d = i by omega] at h1; have := cnt_le L i; omega)
              have hz2 : z + 1 ≤ 150 := by have := HDe2.out; omega
              clear HMo HLa HDe HLi
              go_wp2_with fail
              go_roundw
              case rel => exact ⟨i + 1, m, z + 1, a, by omega, hm, hz2, ha1, ha2, by go_num, rfl, by go_num, rfl, HMo2, HDe2, HLa2, HB5, HV5, HL5, HT5⟩
              case measure => simp [intOf]; omega
            · have hidi : ¬ (i : Int) < d := by omega
              have HDe2 : Hid (z = min (i + 1) d - cnt L (min (i + 1) d)) := hide (by rw [show min (i + 1) d = min i d by omega]; exact HDe.out)
              clear HMo HLa HDe HLi
              go_wp2_with fail
              go_roundw
              case rel => exact ⟨i + 1, m, z, a, by omega, hm, hz, ha1, ha2, by go_num, rfl, rfl, rfl, HMo2, HDe2, HLa2, HB5, HV5, HL5, HT5⟩
              case measure => simp [intOf]; omega
          · have HLi : Hid (L i = true) := hide hot.symm
            have HC := hide (HFw.out w6 i HB5.out HL5.out hlt HLi.out)
            rw [← HF0.out i] at HC
            have hle := HFl.out i
            have hla := HLa.out
            have HS1 := hide (fun w' hb hl => HSo.out w' (F i) hb hl (by omega))
            have HSq := hide (fun r hh => HSf.out i r HLi.out hlt hh)
            have HFn := hide (HFs.out i HLi.out)
            clear hot HFw HSo HSf HFs HFd HFl HOv
            by_cases hid : i < d
            · have hidi : (i : Int) < d := by omega
              have hFi : F i = i := by rw [HF0.out i, if_pos hid]
              rw [hFi] at HC HS1 HSq hla HFn
              have HMo2 : Hid (m = cnt L (i + 1) - cnt L d) := hide (by have h1 := HMo.out; have h2 := cnt_mono L (show i + 1 ≤ d by omega); have h3 := cnt_mono L (show i ≤ d by omega); omega)
              have HDe2 : Hid (z = min (i + 1) d - cnt L (min (i + 1) d)) := hide (by rw [show min (i + 1) d = i + 1 by omega, cnt_at HLi.out]; have h1 := HDe.out; rw [show min i d = i by omega] at h1; omega)
              have HLa2 : Hid ((i : Int) < (F (i + 1) : Int)) := hide (by have h1 := HFn.out; omega)
              clear HMo HDe HLa HLi hFi hle HFn HF0
              go_wp2_with fail
              refine (HC.out).mono ?_
              rintro e w7 ⟨rfl, ht7⟩
              have HB7 := hide (HB5.out.turned0 ht7)
              have HV7 := hide (HV5.out.turned0 ht7)
              have HL7 := hide (HL5.out.turned0 ht7)
              have HT7 := hide (HT5.out.trans ht7)
              clear ht7 HB5 HV5 HL5 HT5 HC c0 c1 c2 c3 c4 c5 c6 c7 c8
              obtain ⟨c0, c1, c2, c3, c4, c5, c6, c7, c8⟩ := HV7.out.cs
              have hdP := HD.out
              rw [← hdP] at c3
              clear hdP
              go_wp2_with fail
              refine (HS1.out _ HB7.out HL7.out).mono ?_
              rintro e w8 ⟨r, rfl, hr, ht8⟩
              obtain rfl := HSq.out r hr
              have HU8 := hide (ht8)
              have HB8 := hide (HB7.out.turned0 HU8.out)
              have HV8 := hide (HV7.out.turned0 HU8.out)
              have HL8 := hide (HL7.out.turned0 HU8.out)
              have HT8 := hide (HT7.out.trans HU8.out)
              clear ht8 hr HU8
              obtain ⟨g0, g1, g2, g3, g4, g5, g6, g7, g8⟩ := HV8.out.cs
              have hdP := HD.out
              rw [← hdP] at g3
              clear hdP
              clear HB7 HV7 HL7 HT7 c0 c1 c2 c3 c4 c5 c6 c7 c8
              go_wp2_with fail
              go_roundw
              case rel => exact ⟨i + 1, m, z, (i : Int), by omega, hm, hz, by omega, by omega, by go_num, rfl, rfl, rfl, HMo2, HDe2, HLa2, HB8, HV8, HL8, HT8⟩
              case measure => simp [intOf]; omega
            · have hidi : ¬ (i : Int) < d := by omega
              have hFi : F i = d + m := by rw [HF0.out i, if_neg hid]; have := HMo.out; omega
              rw [hFi] at HC HS1 HSq hla HFn hle
              have HMo2 : Hid (m + 1 = cnt L (i + 1) - cnt L d) := hide (by rw [cnt_at HLi.out]; have h1 := HMo.out; have h2 := cnt_mono L (show d ≤ i by omega); omega)
              have HDe2 : Hid (z = min (i + 1) d - cnt L (min (i + 1) d)) := hide (by rw [show min (i + 1) d = min i d by omega]; exact HDe.out)
              have HLa2 : Hid (((d + m : Nat) : Int) < (F (i + 1) : Int)) := hide (by have h1 := HFn.out; omega)
              have hm2 : m + 1 ≤ 150 := by omega
              have hla2 : ¬ (d : Int) + m ≤ a := by omega
              have hle2 : ¬ (i : Int) < (d : Int) + m := by omega
              have hw1 : IntKind.i64.wrap ((d : Int) + m) = (d : Int) + m := by rw [IntKind.wrap_i64]; omega
              rw [show ((d + m : Nat) : Int) = (d : Int) + m from by omega] at HC HS1
              clear HMo HDe HLa HLi hFi HFn HF0 hla hle
              go_wp2_with fail
              refine (HC.out).mono ?_
              rintro e w7 ⟨rfl, ht7⟩
              have HB7 := hide (HB5.out.turned0 ht7)
              have HV7 := hide (HV5.out.turned0 ht7)
              have HL7 := hide (HL5.out.turned0 ht7)
              have HT7 := hide (HT5.out.trans ht7)
              clear ht7 HB5 HV5 HL5 HT5 HC c0 c1 c2 c3 c4 c5 c6 c7 c8
              obtain ⟨c0, c1, c2, c3, c4, c5, c6, c7, c8⟩ := HV7.out.cs
              have hdP := HD.out
              rw [← hdP] at c3
              clear hdP
              go_wp2_with fail
              refine (HS1.out _ HB7.out HL7.out).mono ?_
              rintro e w8 ⟨r, rfl, hr, ht8⟩
              obtain rfl := HSq.out r hr
              have HU8 := hide (ht8)
              have HB8 := hide (HB7.out.turned0 HU8.out)
              have HV8 := hide (HV7.out.turned0 HU8.out)
              have HL8 := hide (HL7.out.turned0 HU8.out)
              have HT8 := hide (HT7.out.trans HU8.out)
              clear ht8 hr HU8
              obtain ⟨g0, g1, g2, g3, g4, g5, g6, g7, g8⟩ := HV8.out.cs
              have hdP := HD.out
              rw [← hdP] at g3
              clear hdP
              clear HB7 HV7 HL7 HT7 c0 c1 c2 c3 c4 c5 c6 c7 c8
              go_wp2_with fail
              go_roundw
              case rel => exact ⟨i + 1, m + 1, z, ((d + m : Nat) : Int), by omega, hm2, hz, by omega, by omega, by go_num, by go_num, rfl, rfl, HMo2, HDe2, HLa2, HB8, HV8, HL8, HT8⟩
              case measure => simp [intOf]; omega
        · have hi150 : i = 150 := by omega
          subst hi150
          have hTp := HTop2.out
          have hmv : P.e = d + m := by have h1 := HMo.out; omega
          have hzv : z ≤ v := by have h1 := HDe.out; rw [show min 150 d = d by omega] at h1; have h2 := HDd.out; omega
          have hev : d + m ≤ 150 := by have h1 := HC150.out; have h2 := cnt_mono L hPd; have h3 := HMo.out; omega
          have hdP := HD.out
          rw [← hdP] at c3
          rw [hmv] at c4
          have hzi : (z : Int) ≤ v := by omega
          have hei : (d : Int) + m ≤ 150 := by omega
          rw [show ((d + m : Nat) : Int) = (d : Int) + m from by omega] at c4
          have hw1 : IntKind.i64.wrap ((d : Int) + m) = (d : Int) + m := by rw [IntKind.wrap_i64]; omega
          have HTe := HTr
          clear hdP hTp hmv HMo HDe HLa HB HV HL HTr HFw HSo HSf HFs HFd HFl HOv c0 c1 c2 c5 c6 c7 c8
          go_wp2_with fail
          go_ret
          exact ⟨by simp, HTe.out⟩

set_option maxRecDepth 100000 in
theorem planSlides_lifted (os : Os) (started : os.Started) (H : Type) (enc : TypeId × Value → H) :
    ReturnsInHanded {} Tryd.checked os 3 .any (fun w args => (Rows.planSlidesSpec.pre enc Tryd.prog Tryd.f3 [] false w args ∧ laidMetH Tryd.prog laidTab w) ∧ sizedMet enc Tryd.prog Tryd.f3 (OpenSpec.ofChange Rows.planSlidesSpec) false w args)
      (Rows.planSlidesSpec.post enc Tryd.prog Tryd.f3 false true false false) := by
  refine returnsInHanded_of_change_and (C := Tryd.checked) (X := fun w _ => laidMetH Tryd.prog laidTab w) (fun _ _ _ hh h => h.of_heap hh) own started (by kernel_rfl) Tryd.func3
    (ChangeSpec.witness_shaped (enc := enc) (C := Tryd.checked) (os := os) (X := fun w _ => laidMetH Tryd.prog laidTab w) false (World.doorLaid Tryd.prog 400 os) #[.slice none 0 0, .int .i64 0, .int .i64 0] 8 rfl (World.shaped_of_RefB (by kernel_rfl) (by kernel_rfl)) (by kernel_rfl) (by kernel_rfl) (by kernel_rfl) (door_met os _)) ?_
  intro W base args ds gs before hval0 hW _ _ hL _
  have hTab := tab_of hL
  have hval : ∀ (j : Nat) t v, Tryd.f3.params[j]? = some t → args[j]? = some v → Value.okWide Tryd.prog W .any base t v := hval0
  have hW' := hW
  obtain ⟨p, q, hA0, hV, rfl, hfz, hnd⟩ := hW
  have hA : DataW.TrodAll enc Tryd.prog W 0 (fun _ => true) true Tryd.f3.params.toList args.toList ds p := hA0
  rw [Tryd.params3] at hA hval
  obtain ⟨v0, vs0, d0, ds0, p0, q0, hargs, rfl, rfl, h0, r0⟩ := trodAll_cons hA
  obtain ⟨v1, vs1, d1, ds1, p1, q1, rfl, rfl, rfl, h1, r1⟩ := trodAll_cons r0
  obtain ⟨v2, vs2, d2, ds2, p2, q2, rfl, rfl, rfl, h2, r2⟩ := trodAll_cons r1
  obtain ⟨rfl, rfl, rfl⟩ := trodAll_nil r2
  obtain rfl : args = #[v0, v1, v2] := by cases args; simp_all
  obtain ⟨rfl, rfl⟩ := trodVars_none hV
  obtain ⟨a0, len0, cap0, rfl⟩ := okWide_slice Tryd.underlying22 (hval 0 22 v0 rfl rfl)
  have k0 := h0
  have lt0 : ∀ x ∈ p0, x.block < W.heap.size := by obtain ⟨m, hm⟩ := k0; exact DataW.trod_lt m _ _ _ hm
  obtain ⟨z0, w0⟩ := open_pairs h0
  obtain ⟨a1, rfl, rfl, rfl, w1⟩ := open_int Tryd.underlying3 (hval 1 3 v1 rfl rfl) h1
  obtain ⟨a2, rfl, rfl, rfl, w2⟩ := open_int Tryd.underlying3 (hval 2 3 v2 rfl rfl) h2
  simp only [List.append_nil] at hW'
  clear hA0 hval0
  refine (planSlides_walk a0 len0 cap0 z0 a1 a2 W w0 w1 w2 hTab).mono fun e W' ⟨he, ht⟩ => ?_
  subst he
  have bel : Below W.heap.size W W' := ht.below0
  exact ⟨_, rfl, _, _, _, [], _, [], hW', trodAll_mk1 (shut_bool Tryd.underlying4 _), (trodAll_cons_mk (Below.trod laidOut (by kernel_rfl) (of_decide_eq_true (by kernel_rfl)) k0 bel lt0) (trodAll_cons_mk (shut_int Tryd.underlying3 w1) (trodAll_cons_mk (shut_int Tryd.underlying3 w2) trodAll_mk0))), rfl, bel.frame _, fun h => by cases h⟩

theorem planSlides_over : Rows.planSlidesRow.holds Tryd.pinned (OpenSpec.ofChange Rows.planSlidesSpec) :=
  OpenClaim.holds_of_wide 3 Tryd.f3 rfl rfl rfl rfl rfl rfl rfl ⟨rfl, rfl, rfl, rfl, rfl⟩ rfl rfl rfl rfl rfl (by kernel_rfl) Tryd.func3 (by kernel_rfl)
    (of_decide_eq_true (by kernel_rfl)) (by unfold Func.isWrapper; first | (rw [if_pos (by decide +kernel)]; kernel_rfl) | (rw [if_neg (by decide +kernel)]; exact ⟨rfl, rfl⟩))
    (fun os started H enc _ => planSlides_lifted os started H enc)

theorem planSlides_holds : Rows.PlanSlidesSaid := planSlides_over

theorem planSlides_card : Rows.PlanSlidesCardSaid :=
  Claim7.holds_tied_plain_at .later [] [.data] true _ false
    planSlides_holds (fun _ h => by cases h) (by kernel_rfl) (fun _ h => by cases h) planSlides_row_tie rfl ⟨rfl, rfl⟩ (by kernel_rfl) rfl
    (fun f fn hf hfn => by
      obtain rfl : f = 3 := Option.some.inj ((show Tryd.prog.funcNamed "ballast/ballastlaw13.PlanSlides" = some 3 by kernel_rfl).symm.trans hf) |>.symm
      obtain rfl : fn = Tryd.f3 := (Option.some.inj (Tryd.func3.symm.trans hfn)).symm
      exact ⟨by kernel_rfl, fun j t ht => by
        rw [Tryd.params3] at ht
        have h3 : t ∈ [22, 3, 3] := by
          have h4 := Array.mem_of_getElem? ht
          simpa using h4
        have h5 : ∀ u, u ∈ [22, 3, 3] → Tryd.prog.wantsStandIn u = false := by
          intro u hu
          simp only [List.mem_cons, List.not_mem_nil, or_false] at hu
          rcases hu with rfl | rfl | rfl <;> kernel_rfl
        exact h5 t h3⟩)
    (by kernel_rfl)

end Go.Proofs.YtcckflcjjgckoaaDoor
