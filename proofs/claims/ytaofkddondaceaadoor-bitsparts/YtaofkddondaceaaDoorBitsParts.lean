/-
  BitsParts: live words of ranges side by side are together those of the range that both make, and the sizes of all marked blocks. For every list of blocks, and any two places.
-/
import Derived.Test.YtaofkddondaceaaDoorBitsTot
import Derived.Test.YtaofkddondaceaaDoorOpsOpen
import Derived.Test.YtaofkddondaceaaDoorLawLaid
import Derived.Test.YtaofkddondaceaaDoorCards
import Derived.Test.YtaofkddondaceaaDoorTie
import Derived.SevenTiedAt
namespace Go.Proofs.YtaofkddondaceaaDoor
open Go.ChangeShapes Go.WideShapes Go.ChangeAt Go.RowKit
set_option linter.unusedVariables false

theorem over_live {n : Nat} {S : Nat → Nat} (h : Bl n S) {k : Nat} {a z : Int} {t : Bool} (ho : IsOver S k a z t) : t = live S k := by
  rcases ho with ⟨b, j, h1, h2, _, _, h5⟩ | ⟨h1, _, _, h4⟩
  · have h6 : j = k := by omega
    subst h6
    have : live S j = true := by unfold live; rw [bo_true]; exact ⟨b, h2⟩
    rw [h5, this]
  · have : live S k = false := by unfold live; rw [bo_false]; rintro ⟨b, hb⟩; exact h1 b k rfl hb
    rw [h4, this]
theorem mark_tot {n : Nat} {S : Nat → Nat} (x z : Int) : ((markT n S x z).1 = true → 1 ≤ z ∧ (tot (markT n S x z).2.2 n : Int) = tot S n + z) ∧ ((markT n S x z).1 = false → tot (markT n S x z).2.2 n = tot S n) := by
  rcases mark_sum (n := n) (S := S) x z with ⟨h1, h2, h3, h4, h5, h6, h7, h8, h9⟩ | ⟨h1, h2⟩
  · rw [h1, h9]
    refine ⟨fun _ => ⟨h4, ?_⟩, fun h => (by cases h)⟩
    have := tot_upd S x.toNat z.toNat n (by omega)
    omega
  · rw [h1, h2]
    exact ⟨fun h => (by cases h), fun _ => rfl⟩
theorem tot_mono (S : Nat → Nat) {a b : Nat} (h : a ≤ b) : tot S a ≤ tot S b := by
  obtain ⟨d, rfl⟩ := Nat.exists_eq_add_of_le h
  induction d with
  | zero => exact Nat.le_refl _
  | succ d ih =>
    have := ih (by omega)
    show tot S a ≤ tot S (a + d) + S (a + d)
    omega
theorem tot_le {n : Nat} {S : Nat → Nat} (h : Bl n S) : tot S n ≤ n := by rw [tot_live h]; exact cnt_le _ _

set_option maxHeartbeats 4000000 in
set_option maxRecDepth 100000 in
theorem bitsParts_walk (ao : Option Addr) (len cap : Nat) (cs : List Op3) (a c : Int) (w : World) (h : ORd w ao len cs) (ha : (Lit.int .i64 a).wf = true) (hc : (Lit.int .i64 c).wf = true) (hT : Tab w) :
    Calls Tryd.prog 4 #[.slice ao len cap, .int .i64 a, .int .i64 c] w fun e w' => e = .returned (.bool true) ∧ Turned [] w w' := by
  have HT := hide hT
  have HO := hide h
  have HL := hide h.size
  have hroom := h.room
  have ea := and1023 a
  have ec := and1023 c
  obtain ⟨A, hA⟩ : ∃ A : Nat, (A : Int) = a % 1024 := ⟨(a % 1024).toNat, by omega⟩
  obtain ⟨C, hC⟩ : ∃ C : Nat, (C : Int) = c % 1024 := ⟨(c % 1024).toNat, by omega⟩
  have hA1 : A ≤ 1023 := by omega
  have hC1 : C ≤ 1023 := by omega
  rw [← hA] at ea
  rw [← hC] at ec
  clear hA hC
  have HAw := hide (awake_any w hT)
  clear h hT ha hc
  go_enter Tryd.func4, Tryd.ntmps4
  go_wp2_with fail
  refine (HAw.out).mono ?_
  rintro e w1 ⟨rfl, ht1⟩
  have HN := hide (new_any 1000 w1 (by unfold In64; omega) (HT.out.turned ht1 (by simp)))
  rw [show kp 65536 1000 = 1000 by decide] at HN
  have HT1 := hide ht1
  clear ht1 HAw
  go_wp2_with fail
  refine (HN.out).mono ?_
  rintro e w2 ⟨p, q, rfl, hb2, hp2, hq2, ht2⟩
  have HB2 := hide hb2
  have HPQ := hide (And.intro (Nat.le_trans HT1.out.size hp2) (Nat.le_trans HT1.out.size hq2))
  have HT2 := hide (HT1.out.trans ht2)
  clear hb2 hp2 hq2 ht2 HN HT1
  go_upto_block 0 with fail
  go_cut [9, 10, 11, 12] (fun s _ _ _ wc => ∃ (z : Nat) (S : Nat → Nat), s = .int .i64 z ∧ z ≤ 1000 ∧ Aside (Bts wc p q 1000 (sidesOf S) ∧ Bl 1000 S ∧ z = tot S 1000 ∧ Turned [] w wc))
  case first =>
   go_wp2_with fail
   go_loopw [9, 10, 11, 12] (fun s i _ _ wr => ∃ (j z : Nat) (S : Nat → Nat), j ≤ len ∧ j ≤ 60 ∧ z ≤ 1000 ∧ i = .int .i64 j ∧ s = .int .i64 z ∧ Hid (Bts wr p q 1000 (sidesOf S)) ∧ Hid (Bl 1000 S) ∧ Hid (z = tot S 1000) ∧ Hid (Turned [] w wr)) (fun _ i _ _ _ => 60 - (intOf i).toNat)
   case atStart => exact ⟨0, 0, S0, Nat.zero_le _, by omega, by omega, rfl, rfl, HB2.out, Bl.none _, (tot_none _).symm, HT2.out⟩
   case round =>
    obtain ⟨j, z, S, hj, hj6, hz, rfl, rfl, HB, HS, HZ, HTr⟩ := hrel
    by_cases hlt : j < len ∧ j < 60
    · obtain ⟨o, ho⟩ : ∃ o, cs[j]? = some o := ⟨_, List.getElem?_eq_getElem (by have := HL.out; omega)⟩
      obtain ⟨b, off, rfl, c0, c1, c2⟩ := (HO.out.turned HTr.out).cell j o ho
      have hin := HO.out.inn o (List.mem_of_getElem? ho)
      obtain ⟨K, At, Z⟩ := o
      simp only at c0 c1 c2
      have hbq : b ≠ q := by
        obtain ⟨b2, off2, e1, c3, _⟩ := HO.out.cell j ⟨K, At, Z⟩ ho
        cases e1
        have := block_lt c3
        have := HPQ.out.2
        simp only at *
        omega
      have hMin : In64 Z := hin.2.2
      have HM := hide (mark_any p q 1000 S At Z wr.drew (HB.out.turned0 (Turned.refl [] wr).drew) HS.out hMin)
      have HMS := hide (mark_tot (n := 1000) (S := S) At Z)
      have HMB := hide (markT_bl HS.out At Z)
      have hzr : -9223372036854775808 ≤ Z ∧ Z ≤ 9223372036854775807 := hMin
      clear ho hin c0 hMin
      generalize markT 1000 S At Z = M at *
      obtain ⟨t, er, S'⟩ := M
      simp only at HM HMS HMB
      have HTL := hide (tot_le HMB.out)
      go_wp2_with fail
      go_region_held3 (fun w' => w'.cell? ⟨b, off + j * 3 + 1, none⟩ = some (.int .i64 At) ∧ w'.cell? ⟨b, off + j * 3 + 2, none⟩ = some (.int .i64 Z)) (go_keep)
        (first
          | (go_at_call 13; refine (HM.out).mono ?_; rintro e w3 ⟨rfl, hb3, ht3⟩; have d1 : w3.cell? ⟨b, off + j * 3 + 1, none⟩ = some (.int .i64 At) := (by rw [ht3.cell (block_lt c1) (by simpa using hbq)]; exact c1); have d2 : w3.cell? ⟨b, off + j * 3 + 2, none⟩ = some (.int .i64 Z) := (by rw [ht3.cell (block_lt c2) (by simpa using hbq)]; exact c2); have HB3 := hide hb3; have HT3 := hide ((HTr.out.drew).trans_new ht3 (fun i hi => by simp at hi; subst hi; exact .inr HPQ.out.2)); clear hb3 ht3))
      cases t
      · have HZ3 : Hid (z = tot S' 1000) := hide (by rw [HMS.out.2 rfl]; exact HZ.out)
        go_wp2_with fail
        go_roundw
        case rel => exact ⟨j + 1, z, S', by omega, by omega, hz, by go_num, rfl, HB3, HMB, HZ3, HT3⟩
        case measure => simp [intOf]; omega
      · obtain ⟨hZ1, hZ2⟩ := HMS.out.1 rfl
        have hz0 := HZ.out
        have hz1 := HTL.out
        obtain ⟨Zn, rfl⟩ := Int.eq_ofNat_of_zero_le (show 0 ≤ Z by omega)
        have hz2 : z + Zn = tot S' 1000 := by omega
        have HZ3 := hide hz2
        have hz3 : z + Zn ≤ 1000 := by omega
        clear hZ1 hZ2 hz0 hz1 hz2
        go_wp2_with fail
        go_roundw
        case rel => exact ⟨j + 1, z + Zn, S', by omega, by omega, hz3, by go_num, by go_num, HB3, HMB, HZ3, HT3⟩
        case measure => simp [intOf]; omega
    · have HX := hide (And.intro HB.out (And.intro HS.out (And.intro HZ.out HTr.out)))
      by_cases h1 : j < len
      · have h2 : ¬ j < 60 := by omega
        go_wp2_with fail
        go_meet
        exact ⟨z, S, rfl, hz, HX.out⟩
      · have hd : decide ((j : Int) < (len : Int)) = false := decide_eq_false (by omega)
        go_wp2_with fail
        go_meet
        exact ⟨z, S, rfl, hz, HX.out⟩
  case rest =>
    obtain ⟨z, S, rfl, hz, HX⟩ := hcut
    have HS := hide HX.out.2.1
    have HZ := hide HX.out.2.2.1
    go_upto_if 66 with fail
    go_cut [13, 14] (fun s13 s14 wd => ∃ (X Y : Nat), X ≤ Y ∧ Y ≤ 1023 ∧ s13 = .int .i64 X ∧ s14 = .int .i64 Y ∧ Aside (wd = wc))
    case first =>
      by_cases hac : C < A
      · go_wp2_with fail
        go_meet
        exact ⟨C, A, by omega, by omega, rfl, rfl, rfl⟩
      · go_wp2_with fail
        go_meet
        exact ⟨A, C, by omega, by omega, rfl, rfl, rfl⟩
    case rest =>
      obtain ⟨X, Y, hXY, hY, rfl, rfl, HWd⟩ := hcut
      have hWd := HWd.out
      subst hWd
      clear HWd ea ec
      go_wp2_with fail
      go_loopw [15, 16] (fun v i wr => ∃ (j o : Nat), j ≤ 1000 ∧ o ≤ 1000 ∧ i = .int .i64 j ∧ v = .int .i64 o ∧ Hid (o = cnt (live S) j) ∧ Hid (Bts wr p q 1000 (sidesOf S)) ∧ Hid (Turned [] w wr)) (fun _ i _ => 1000 - (intOf i).toNat)
      case atStart => exact ⟨0, 0, by omega, by omega, rfl, rfl, rfl, HX.out.1, HX.out.2.2.2⟩
      case round =>
        obtain ⟨j, o, hj, ho, rfl, rfl, HOv, HB, HTr⟩ := hrel
        by_cases hlt : j < 1000
        · have HOc := hide (over_any (some ⟨p, 0, none⟩) 1000 S j wr HB.out.brd HS.out)
          go_wp2_with fail
          refine (HOc.out).mono ?_
          rintro e w4 ⟨a4, z4, t4, rfl, ho4, m4, rfl⟩
          have ht4 := over_live HS.out ho4
          have HB4 := hide (HB.out.drewN m4)
          have HT4 := hide (HTr.out.drewN m4)
          have HO2 : Hid (o + (live S j).toNat = cnt (live S) (j + 1)) := hide (by rw [cnt, ← HOv.out])
          rw [← ht4] at HO2
          have hle : o + t4.toNat ≤ 1000 := by rw [HO2.out]; exact Nat.le_trans (cnt_le _ _) (by omega)
          clear ho4 ht4 HOc HB HTr HOv
          generalize wr.drewN m4 = w5 at *
          cases t4
          · go_wp2_with fail
            go_roundw
            case rel => exact ⟨j + 1, o, by omega, ho, by go_num, rfl, HO2, HB4, HT4⟩
            case measure => simp [intOf]; omega
          · have hle1 : o + 1 ≤ 1000 := hle
            go_wp2_with fail
            go_roundw
            case rel => exact ⟨j + 1, o + 1, by omega, hle1, by go_num, by go_num, HO2, HB4, HT4⟩
            case measure => simp [intOf]; omega
        · have hj1 : j = 1000 := by omega
          subst hj1
          have hoz : o = z := by rw [HOv.out, HZ.out, tot_live HS.out]
          subst hoz
          have HN3 := hide (next_any (some ⟨p, 0, none⟩) 1000 _ 0 1000 wr HB.out.brd)
          rw [show kp 1000 0 = 0 by decide, show kp 1000 1000 = 1000 by decide, sidesOf0] at HN3
          clear HX
          go_wp2_with fail
          refine (HN3.out).mono ?_
          rintro e w4 ⟨r, rfl, hr, m4, rfl⟩
          have HI4 := hide hr
          have hrr := hr.range (by omega)
          have HB4 := hide (HB.out.drewN m4)
          have HT4 := hide (HTr.out.drewN m4)
          clear hr HB HTr HN3 HOv
          generalize wr.drewN m4 = w5 at *
          go_wp2_with fail
          go_loopw [20, 21, 22] (fun v at_ n_ wz => ∃ (k u cc : Nat) (r : Int), k ≤ cc ∧ cc ≤ 1000 ∧ u ≤ 1000 ∧ -1 ≤ r ∧ r < 65536 ∧ n_ = .int .i64 k ∧ v = .int .i64 u ∧ at_ = .int .i64 r ∧ Hid (u = tot S cc) ∧ Hid (IsNext (begs S) cc 1000 r) ∧ Hid (Bts wz p q 1000 (sidesOf S)) ∧ Hid (Turned [] w wz)) (fun _ at_ _ _ => msr 1000 at_)
          case atStart => exact ⟨0, 0, 0, r, by omega, by omega, by omega, hrr.1, hrr.2, rfl, rfl, rfl, rfl, HI4, HB4, HT4⟩
          case round =>
            obtain ⟨k, u, cc, r1, hk, hcc, hu, hr1, hr2, rfl, rfl, rfl, HU, HI, HB, HTr⟩ := hrel
            by_cases hneg : 0 ≤ r1
            · rcases HI.out with ⟨h1, _⟩ | ⟨i, rfl, h2, h3, h4, h5⟩
              · omega
              · have HZc := hide (size_any (some ⟨p, 0, none⟩) 1000 S i wr HB.out.brd HS.out)
                rw [szI_nat] at HZc
                have hi1 : tot S (i + 1) ≤ 1000 := by
                  have h6 : tot S (i + 1) ≤ tot S 1000 := tot_mono S (by omega)
                  have := tot_le HS.out
                  omega
                have hu2 : u + S i = tot S (i + 1) := by
                  rw [tot, HU.out, tot_skip h2 h5]
                have HU2 := hide hu2
                have hu3 : u + S i ≤ 1000 := by omega
                have HN5 := hide (fun m => next_any (some ⟨p, 0, none⟩) 1000 _ ((i : Int) + 1) 1000 (wr.drewN m) (HB.out.drewN m).brd)
                rw [show kp 1000 ((i : Int) + 1) = i + 1 by (unfold kp; omega), show kp 1000 1000 = 1000 by decide, sidesOf0] at HN5
                clear h4 h5 HI hu2 hi1
                generalize S i = si at *
                have hk1 : (k : Int) < 1001 := by omega
                go_wp2_with fail
                refine (HZc.out).mono ?_
                rintro e w6 ⟨rfl, m6, rfl⟩
                go_wp2_with fail
                refine (HN5.out m6).mono ?_
                rintro e w7 ⟨r7, rfl, hr7, m7, rfl⟩
                have HI7 := hide hr7
                have hrr7 := hr7.range (by omega)
                have hq7 : r7 = -1 ∨ (i : Int) < r7 := by
                  rcases hr7 with ⟨h8, _⟩ | ⟨y, rfl, h8, _⟩
                  · exact .inl h8
                  · exact .inr (by omega)
                have HB7 := hide ((HB.out.drewN m6).drewN m7)
                have HT7 := hide ((HTr.out.drewN m6).drewN m7)
                clear hr7 HZc HN5
                generalize (wr.drewN m6).drewN m7 = w8 at *
                go_wp2_with fail
                go_roundw
                case rel => exact ⟨k + 1, u + si, i + 1, r7, by omega, by omega, hu3, hrr7.1, hrr7.2, by go_num, by go_num, rfl, HU2, HI7, HB7, HT7⟩
                case measure => exact msr_down (by omega) hq7
            · have hn1 : r1 = -1 := by omega
              subst hn1
              have huz : u = o := by
                rw [HU.out, HZ.out]
                rcases HI.out with ⟨_, h2⟩ | ⟨i, h1, _⟩
                · exact (tot_skip hcc h2).symm
                · omega
              subst huz
              have hzl := tot_live HS.out
              rw [← HZ.out] at hzl
              have hX1 : kp 1000 (X : Int) ≤ kp 1000 (Y : Int) := by unfold kp; omega
              have hY1 := kp_le 1000 (Y : Int)
              have k1 := cntIn_add (live S) hX1
              have k2 := cntIn_add (live S) hY1
              have L1 := hide (fun w h => live_any (some ⟨p, 0, none⟩) 1000 S 0 X w h HS.out)
              have L2 := hide (fun w h => live_any (some ⟨p, 0, none⟩) 1000 S X Y w h HS.out)
              have L3 := hide (fun w h => live_any (some ⟨p, 0, none⟩) 1000 S Y 1000 w h HS.out)
              have L4 := hide (fun w h => live_any (some ⟨p, 0, none⟩) 1000 S 0 1000 w h HS.out)
              rw [show kp 1000 0 = 0 by decide, cntIn_zero] at L1
              rw [show kp 1000 1000 = 1000 by decide] at L3
              rw [show kp 1000 0 = 0 by decide, show kp 1000 1000 = 1000 by decide, cntIn_zero, ← hzl] at L4
              have lx := cnt_le (live S) (kp 1000 (X : Int))
              generalize kp 1000 (X : Int) = x1 at *
              generalize kp 1000 (Y : Int) = y1 at *
              rw [← hzl] at k2
              generalize cntIn (live S) x1 y1 = n2 at *
              generalize cntIn (live S) y1 1000 = n3 at *
              generalize cnt (live S) x1 = n1 at *
              have ksum : n1 + n2 + n3 = u := by omega
              clear k1 k2 hzl HU HI
              have hn2 : n2 ≤ 1000 := by omega
              have hn3 : n3 ≤ 1000 := by omega
              go_wp2_with fail
              refine (L1.out wr HB.out.brd).mono ?_
              rintro e w11 ⟨rfl, ht11⟩
              have HB11 := hide (HB.out.turned0 ht11)
              have HT11 := hide (HTr.out.trans ht11)
              clear ht11 HB HTr
              go_wp2_with fail
              refine (L2.out w11 HB11.out.brd).mono ?_
              rintro e w12 ⟨rfl, ht12⟩
              have HB12 := hide (HB11.out.turned0 ht12)
              have HT12 := hide (HT11.out.trans ht12)
              clear ht12 HB11 HT11
              go_wp2_with fail
              refine (L3.out w12 HB12.out.brd).mono ?_
              rintro e w13 ⟨rfl, ht13⟩
              have HB13 := hide (HB12.out.turned0 ht13)
              have HT13 := hide (HT12.out.trans ht13)
              clear ht13 HB12 HT12
              go_wp2_with fail
              refine (L4.out w13 HB13.out.brd).mono ?_
              rintro e w14 ⟨rfl, ht14⟩
              have HB14 := hide (HB13.out.turned0 ht14)
              have HT14 := hide (HT13.out.trans ht14)
              clear ht14 HB13 HT13
              have keq : ((n1 : Int) + n2 + n3 == (u : Int)) = true := by simp; omega
              go_wp2_with fail
              refine (L4.out w14 HB14.out.brd).mono ?_
              rintro e w15 ⟨rfl, ht15⟩
              have HT15 := hide (HT14.out.trans ht15)
              clear ht15 HB14 HT14
              go_wp2_with fail
              go_ret
              exact ⟨rfl, HT15.out⟩

set_option maxRecDepth 100000 in
theorem bitsParts_lifted (os : Os) (started : os.Started) (H : Type) (enc : TypeId × Value → H) :
    ReturnsInHanded {} Tryd.checked os 4 .any (fun w args => (Rows.bitsPartsSpec.pre enc Tryd.prog Tryd.f4 [] false w args ∧ laidMetH Tryd.prog laidTab w) ∧ sizedMet enc Tryd.prog Tryd.f4 (OpenSpec.ofChange Rows.bitsPartsSpec) false w args)
      (Rows.bitsPartsSpec.post enc Tryd.prog Tryd.f4 false true false false) := by
  refine returnsInHanded_of_change_and (C := Tryd.checked) (X := fun w _ => laidMetH Tryd.prog laidTab w) (fun _ _ _ hh h => h.of_heap hh) own started (by kernel_rfl) Tryd.func4
    (ChangeSpec.witness_shaped (enc := enc) (C := Tryd.checked) (os := os) (X := fun w _ => laidMetH Tryd.prog laidTab w) false (World.doorLaid Tryd.prog 400 os) #[.slice none 0 0, .int .i64 0, .int .i64 0] 8 rfl (World.shaped_of_RefB (by kernel_rfl) (by kernel_rfl)) (by kernel_rfl) (by kernel_rfl) (by kernel_rfl) (door_met os _)) ?_
  intro W base args ds gs before hval0 hW _ _ hL _
  have hTab := tab_of hL
  have hval : ∀ (j : Nat) t v, Tryd.f4.params[j]? = some t → args[j]? = some v → Value.okWide Tryd.prog W .any base t v := hval0
  have hW' := hW
  obtain ⟨p, q, hA0, hV, rfl, hfz, hnd⟩ := hW
  have hA : DataW.TrodAll enc Tryd.prog W 0 (fun _ => true) true Tryd.f4.params.toList args.toList ds p := hA0
  rw [Tryd.params4] at hA hval
  obtain ⟨v0, vs0, d0, ds0, p0, q0, hargs, rfl, rfl, h0, r0⟩ := trodAll_cons hA
  obtain ⟨v1, vs1, d1, ds1, p1, q1, rfl, rfl, rfl, h1, r1⟩ := trodAll_cons r0
  obtain ⟨v2, vs2, d2, ds2, p2, q2, rfl, rfl, rfl, h2, r2⟩ := trodAll_cons r1
  obtain ⟨rfl, rfl, rfl⟩ := trodAll_nil r2
  obtain rfl : args = #[v0, v1, v2] := by cases args; simp_all
  obtain ⟨rfl, rfl⟩ := trodVars_none hV
  obtain ⟨a0, len0, cap0, rfl⟩ := okWide_slice Tryd.underlying22 (hval 0 22 v0 rfl rfl)
  have k0 := h0
  have lt0 : ∀ x ∈ p0, x.block < W.heap.size := by obtain ⟨m, hm⟩ := k0; exact DataW.trod_lt m _ _ _ hm
  obtain ⟨z0, w0⟩ := open_ops h0
  obtain ⟨a1, rfl, rfl, rfl, w1⟩ := open_int Tryd.underlying3 (hval 1 3 v1 rfl rfl) h1
  obtain ⟨a2, rfl, rfl, rfl, w2⟩ := open_int Tryd.underlying3 (hval 2 3 v2 rfl rfl) h2
  simp only [List.append_nil] at hW'
  clear hA0 hval0
  refine (bitsParts_walk a0 len0 cap0 z0 a1 a2 W w0 w1 w2 hTab).mono fun e W' ⟨he, ht⟩ => ?_
  subst he
  have bel : Below W.heap.size W W' := ht.below0
  exact ⟨_, rfl, _, _, _, [], _, [], hW', trodAll_mk1 (shut_bool Tryd.underlying4 _), (trodAll_cons_mk (Below.trod laidOut (by kernel_rfl) (of_decide_eq_true (by kernel_rfl)) k0 bel lt0) (trodAll_cons_mk (shut_int Tryd.underlying3 w1) (trodAll_cons_mk (shut_int Tryd.underlying3 w2) trodAll_mk0))), rfl, bel.frame _, fun h => by cases h⟩

theorem bitsParts_over : Rows.bitsPartsRow.holds Tryd.pinned (OpenSpec.ofChange Rows.bitsPartsSpec) :=
  OpenClaim.holds_of_wide 4 Tryd.f4 rfl rfl rfl rfl rfl rfl rfl ⟨rfl, rfl, rfl, rfl, rfl⟩ rfl rfl rfl rfl rfl (by kernel_rfl) Tryd.func4 (by kernel_rfl)
    (of_decide_eq_true (by kernel_rfl)) (by unfold Func.isWrapper; first | (rw [if_pos (by decide +kernel)]; kernel_rfl) | (rw [if_neg (by decide +kernel)]; exact ⟨rfl, rfl⟩))
    (fun os started H enc _ => bitsParts_lifted os started H enc)

theorem bitsParts_holds : Rows.BitsPartsSaid := bitsParts_over

theorem bitsParts_card : Rows.BitsPartsCardSaid :=
  Claim7.holds_tied_plain_at .later [] [.data] true _ false
    bitsParts_holds (fun _ h => by cases h) (by kernel_rfl) (fun _ h => by cases h) bitsParts_row_tie rfl ⟨rfl, rfl⟩ (by kernel_rfl) rfl
    (fun f fn hf hfn => by
      obtain rfl : f = 4 := Option.some.inj ((show Tryd.prog.funcNamed "ballast/ballastlaw05.BitsParts" = some 4 by kernel_rfl).symm.trans hf) |>.symm
      obtain rfl : fn = Tryd.f4 := (Option.some.inj (Tryd.func4.symm.trans hfn)).symm
      exact ⟨by kernel_rfl, fun j t ht => by
        rw [Tryd.params4] at ht
        have h3 : t ∈ [22, 3, 3] := by
          have h4 := Array.mem_of_getElem? ht
          simpa using h4
        have h5 : ∀ u, u ∈ [22, 3, 3] → Tryd.prog.wantsStandIn u = false := by
          intro u hu
          simp only [List.mem_cons, List.not_mem_nil, or_false] at hu
          rcases hu with rfl | rfl | rfl <;> kernel_rfl
        exact h5 t h3⟩)
    (by kernel_rfl)
#print axioms bitsParts_card
end Go.Proofs.YtaofkddondaceaaDoor
