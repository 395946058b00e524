/-
  asked: both objects tell the same.
-/
import Derived.Test.YtaofkddondaceaaDoorBitsRefD
namespace Go.Proofs.YtaofkddondaceaaDoor
open Go.RowKit
set_option linter.unusedVariables false

theorem IsOver.uniq {n : Nat} {S : Nat → Nat} (h : Bl n S) {x a z a' z' : Int} {t t' : Bool} (h1 : IsOver S x a z t) (h2 : IsOver S x a' z' t') : a = a' ∧ z = z' ∧ t = t' := by
  rcases h1 with ⟨k, j, e1, c1, rfl, rfl, rfl⟩ | ⟨n1, rfl, rfl, rfl⟩ <;> rcases h2 with ⟨k', j', e2, c2, rfl, rfl, rfl⟩ | ⟨n2, rfl, rfl, rfl⟩
  · have e3 : j' = j := by omega
    subst e3
    have e4 := h.one c1 c2
    subst e4
    exact ⟨rfl, rfl, rfl⟩
  · exact absurd c1 (n2 k j e1)
  · exact absurd c2 (n1 k' j' e2)
  · exact ⟨rfl, rfl, rfl⟩

set_option maxHeartbeats 1000000 in
set_option maxRecDepth 100000 in
theorem asked_any (p q p2 q2 n : Nat) (S : Nat → Nat) (x y : Int) (w : World) (hx : In64 x) (h : Bts w p q n (sidesOf S)) (hr : RB w p2 q2 n S) :
    Calls Tryd.prog 17 #[.pointer (some ⟨p, 0, none⟩), .pointer (some ⟨p2, 0, none⟩), .int .i64 x, .int .i64 y] w fun e w' => e = .returned (.bool true) ∧ Turned [] w w' := by
  have HB := hide h
  have HR := hide hr
  have HS := hide hr.bl
  have HX := hide hx
  have hsm : szI S x ≤ 65536 := by
    unfold szI
    split
    · exact hr.small _
    · omega
  have O1 := hide (over_any (some ⟨p, 0, none⟩) n S x w h.brd hr.bl)
  clear h hr hx
  go_enter Tryd.func17, Tryd.ntmps17
  go_wp2_with fail
  refine (O1.out).mono ?_
  rintro e w1 ⟨a1, z1, t1, rfl, ho1, m1, rfl⟩
  have ht := (Turned.refl [] w).drewN m1
  have HB1 := hide (HB.out.turned0 ht)
  have HR1 := hide (HR.out.turned0 ht)
  have HT1 := hide ht
  have HO1 := hide ho1
  clear ht ho1 O1 HB HR
  generalize w.drewN m1 = w2 at *
  have O2 := hide (rover_any p2 q2 n S x w2 HR1.out)
  go_wp2_with fail
  refine (O2.out).mono ?_
  rintro e w3 ⟨a2, z2, t2, rfl, ho2, m2, rfl⟩
  obtain ⟨rfl, rfl, rfl⟩ := IsOver.uniq HS.out HO1.out ho2
  have ht := (Turned.refl [] w2).drewN m2
  have HB2 := hide (HB1.out.turned0 ht)
  have HR2 := hide (HR1.out.turned0 ht)
  have HT2 := hide (HT1.out.trans ht)
  clear ht ho2 O2 HB1 HR1 HT1 HO1
  generalize w2.drewN m2 = w4 at *
  have H1 := hide (bhas_any (some ⟨p, 0, none⟩) n S x w4 HB2.out.brd HS.out)
  obtain ⟨sx, hsx⟩ : ∃ sx, sx = szI S x := ⟨_, rfl⟩
  rw [← hsx] at H1 hsm
  have HSX := hide hsx
  clear hsx
  have hbe : (t1 == t1) = true := by simp
  go_wp2_with fail
  refine (H1.out).mono ?_
  rintro e w5 ⟨rfl, m5, rfl⟩
  have ht := (Turned.refl [] w4).drewN m5
  have HB5 := hide (HB2.out.turned0 ht)
  have HR5 := hide (HR2.out.turned0 ht)
  have HT5 := hide (HT2.out.trans ht)
  clear ht H1 HB2 HR2 HT2
  generalize w4.drewN m5 = w6 at *
  have Z1 := hide (rsize_any p2 q2 n S x w6 HR5.out)
  rw [← HSX.out] at Z1
  go_wp2_with fail
  refine (Z1.out).mono ?_
  rintro e w7 ⟨rfl, rfl⟩
  have Z2 := hide (size_any (some ⟨p, 0, none⟩) n S x w7 HB5.out.brd HS.out)
  rw [← HSX.out] at Z2
  have hbe2 : (decide (0 < sx) == decide ((0 : Int) < (sx : Int))) = true := by simp
  go_wp2_with fail
  refine (Z2.out).mono ?_
  rintro e w8 ⟨rfl, m8, rfl⟩
  have ht := (Turned.refl [] w7).drewN m8
  have HB8 := hide (HB5.out.turned0 ht)
  have HR8 := hide (HR5.out.turned0 ht)
  have HT8 := hide (HT5.out.trans ht)
  clear ht Z1 Z2 HB5 HR5 HT5 hbe2
  generalize w7.drewN m8 = w9 at *
  have Z3 := hide (rsize_any p2 q2 n S x w9 HR8.out)
  rw [← HSX.out] at Z3
  go_wp2_with fail
  refine (Z3.out).mono ?_
  rintro e w10 ⟨rfl, rfl⟩
  have L1 := hide (live_any (some ⟨p, 0, none⟩) n S x y w10 HB8.out.brd HS.out)
  have hl1 := cntIn_le (live S) (kp n x) (kp n y)
  have hl2 := kp_le n y
  have hn := HR8.out.few
  have L2 := hide (fun w h => rlive_any p2 q2 n S x y w HX.out h)
  generalize cntIn (live S) (kp n x) (kp n y) = lv at *
  go_wp2_with fail
  refine (L1.out).mono ?_
  rintro e w11 ⟨rfl, ht11⟩
  have HB11 := hide (HB8.out.turned0 ht11)
  have HR11 := hide (HR8.out.turned0 ht11)
  have HT11 := hide (HT8.out.trans ht11)
  clear ht11 L1 Z3 HB8 HR8 HT8
  go_wp2_with fail
  refine (L2.out w11 HR11.out).mono ?_
  rintro e w12 ⟨rfl, rfl⟩
  have N1 := hide (next_any (some ⟨p, 0, none⟩) n _ x y w12 HB11.out.brd)
  rw [sidesOf0] at N1
  go_wp2_with fail
  refine (N1.out).mono ?_
  rintro e w13 ⟨r, rfl, hr, m13, rfl⟩
  have HI := hide hr
  have ht := (Turned.refl [] w12).drewN m13
  have HB13 := hide (HB11.out.turned0 ht)
  have HR13 := hide (HR11.out.turned0 ht)
  have HT13 := hide (HT11.out.trans ht)
  clear ht hr N1 HB11 HR11 HT11
  generalize w12.drewN m13 = w14 at *
  have N2 := hide (rnext_any p2 q2 n S x y w14 HX.out HR13.out)
  go_wp2_with fail
  refine (N2.out).mono ?_
  rintro e w15 ⟨r2, rfl, hr2, rfl⟩
  have er := IsNext.uniq HI.out hr2
  subst er
  clear hr2 N2
  have C1 := hide (count_any (some ⟨p, 0, none⟩) n _ x y w15 HB13.out.brd)
  rw [sidesOf0] at C1
  have hc1 := cntIn_le (begs S) (kp n x) (kp n y)
  have C2 := hide (fun w h => rcount_any p2 q2 n S x y w HX.out h)
  generalize cntIn (begs S) (kp n x) (kp n y) = cv at *
  go_wp2_with fail
  refine (C1.out).mono ?_
  rintro e w16 ⟨rfl, m16, rfl⟩
  have ht := (Turned.refl [] w15).drewN m16
  have HR16 := hide (HR13.out.turned0 ht)
  have HT16 := hide (HT13.out.trans ht)
  clear ht C1 HB13 HR13 HT13
  generalize w15.drewN m16 = w17 at *
  go_wp2_with fail
  refine (C2.out w17 HR16.out).mono ?_
  rintro e w18 ⟨rfl, rfl⟩
  go_wp2_with fail
  go_ret
  exact ⟨rfl, HT16.out⟩
end Go.Proofs.YtaofkddondaceaaDoor
