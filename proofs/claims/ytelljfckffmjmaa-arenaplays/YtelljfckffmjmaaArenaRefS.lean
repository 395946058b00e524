/-
  Step of the document's ask, where the top is read.
-/
import Derived.Test.YtelljfckffmjmaaArenaRef
namespace Go.Proofs.Ytelljfckffmjmaa
open Go.RowKit
set_option linter.unusedVariables false

section
variable (w w0 : World) (m p q D b o : Nat) (T : TypeId) (A : AC) (l bl : List Int) (s : Int)

set_option maxHeartbeats 4000000 in
set_option maxRecDepth 100000 in
theorem rstep_read (sz t want ps er : Int) (hs : 1 ≤ sz ∧ sz ≤ 65536) (h : Rs w0 w m p q D b T A l bl s (rkCells m D o ⟨sz, 1, lg A sz, t, want, false, ps, er⟩)) :
    Calls Try.prog 19 #[.pointer (some ⟨b, 0, none⟩)] w fun e w' => ∃ r', e = .returned (.bool r'.ended) ∧ Rs w0 w' m p q D b T A l bl (wrap64 (s + 1)) (rkCells m D o r') ∧
      (if aboveOf A (topOf A l) < sz then r'.ended = true ∧ r'.pos = 0 ∧ r'.err = 14 else r' = ⟨sz, 2, lg A sz, topOf A l, (if lg A sz then sz else min (A.buf : Int) (aboveOf A (topOf A l))), false, ps, er⟩) := by
  have HL := hide (fun w' (h' : Rn w' m p q A l s) => rload_in p q l s w' A.top (topOf A l) h'.at h'.mem)
  have H0 := hide h
  have c0 := h.ar.c0
  have c1 := h.ar.c1
  have hbuf := h.ar.buf
  have hto : A.to ≤ 65536 := Nat.le_trans h.ar.til h.ar.most
  have f0 := h.ak.f 0
  have f3 := h.ak.f 3
  have f7 := h.ak.f 7
  simp only [rkCells] at f0 f3 f7
  clear h
  have hab : aboveOf A (topOf A l) = if topOf A l < 0 ∨ (A.to : Int) < topOf A l then 0 else A.to - topOf A l := rfl
  have hlg : lg A sz = decide ((A.buf : Int) < 2 * sz) := rfl
  generalize aboveOf A (topOf A l) = z at *
  generalize topOf A l = y at *
  generalize lg A sz = g at *
  have HAB := hide hab
  have HLG := hide hlg
  clear hab hlg
  generalize hP : (fun r' : RkS => if z < sz then r'.ended = true ∧ r'.pos = 0 ∧ r'.err = 14 else r' = ⟨sz, 2, g, y, (if g then sz else min (A.buf : Int) z), false, ps, er⟩) = P
  have HP := hide hP
  have e0 : ∀ r' : RkS, (if z < sz then r'.ended = true ∧ r'.pos = 0 ∧ r'.err = 14 else r' = ⟨sz, 2, g, y, (if g then sz else min (A.buf : Int) z), false, ps, er⟩) = P r' := fun r' => by rw [← hP]
  simp only [e0]
  clear e0 hP
  go_enter Try.func19, Try.ntmps19
  go_wp2_with fail
  go_region_held3 (fun w' => w'.cell? ⟨m, 0, none⟩ = some (.pointer (some ⟨p, 0, none⟩)) ∧ w'.cell? ⟨m, 1, none⟩ = some (.int .i64 A.top) ∧ w'.cell? ⟨b, 0, none⟩ = some (.pointer (some ⟨m, 0, none⟩))) (go_keep)
    (first
      | (go_at_call 40; refine (HL.out _ H0.out.ar.drew).mono ?_; rintro e w1 ⟨rfl, m1, t1⟩; have g1 := H0.out.drew.acc m1 rfl t1; have g2 := g1.ar.c0; have g3 := g1.ar.c1; have g4 := g1.ak.f 0; simp only [rkCells] at g4; have H1 := hide g1; clear HL m1 t1 g1))
  clear H0 c0 c1 f0 f3 f7 g2 g3
  have k5 := H1.out.ak.f 5
  have z5 := H1.out.ak.fz 5
  simp only [rkCells] at k5
  go_upto_region 19 with fail
  have H2 := hide (show Rs w0 (w1.setCell ⟨b, 5, none⟩ (.int .i64 y)) m p q D b T A l bl (wrap64 (s + 1)) (rkCells m D o ⟨sz, 1, g, y, want, false, ps, er⟩) from H1.out.set 5 _)
  generalize w1.setCell ⟨b, 5, none⟩ (.int .i64 y) = w2 at *
  clear H1 k5 z5 g4
  have j0 := H2.out.ak.f 0
  have j2 := H2.out.ak.f 2
  have j6 := H2.out.ak.f 6
  have j6z := H2.out.ak.fz 6
  have i2 := H2.out.ar.c2
  simp only [rkCells] at j0 j2 j6
  go_upto_region 21 with fail
  have HLf := hide (show 0 ≤ y → y ≤ (A.to : Int) → wrap64 ((A.to : Int) - y) = A.to - y from fun h1 h2 => w64 _ (by omega))
  have H3 := hide (show Rs w0 (w2.setCell ⟨b, 6, none⟩ (.int .i64 sz)) m p q D b T A l bl (wrap64 (s + 1)) (rkCells m D o ⟨sz, 1, g, y, sz, false, ps, er⟩) from H2.out.set 6 _)
  generalize w2.setCell ⟨b, 6, none⟩ (.int .i64 sz) = w3 at *
  generalize wrap64 ((A.to : Int) - y) = L at *
  clear H2 j0 j2 j6 j6z i2
  have j0 := H3.out.ak.f 0
  have j4 := H3.out.ak.f 4
  have j6 := H3.out.ak.f 6
  have j6z := H3.out.ak.fz 6
  have i3 := H3.out.ar.c3
  simp only [rkCells] at j0 j4 j6
  cases g
  · go_upto_region 23 with fail
    have H4 := hide (show Rs w0 (w3.setCell ⟨b, 6, none⟩ (.int .i64 A.buf)) m p q D b T A l bl (wrap64 (s + 1)) (rkCells m D o ⟨sz, 1, false, y, A.buf, false, ps, er⟩) from H3.out.set 6 _)
    generalize w3.setCell ⟨b, 6, none⟩ (.int .i64 A.buf) = w4 at *
    clear H3 j0 j4 j6 j6z i3
    have j6 := H4.out.ak.f 6
    have j6z := H4.out.ak.fz 6
    simp only [rkCells] at j6
    by_cases hlf : L < (A.buf : Int)
    · go_upto_region 25 with fail
      have H5 := hide (show Rs w0 (w4.setCell ⟨b, 6, none⟩ (.int .i64 L)) m p q D b T A l bl (wrap64 (s + 1)) (rkCells m D o ⟨sz, 1, false, y, L, false, ps, er⟩) from H4.out.set 6 _)
      generalize w4.setCell ⟨b, 6, none⟩ (.int .i64 L) = w5 at *
      clear H4 j6 j6z
      have j0 := H5.out.ak.f 0
      have j2 := H5.out.ak.f 2
      have j6 := H5.out.ak.f 6
      have i2 := H5.out.ar.c2
      simp only [rkCells] at j0 j2 j6
      by_cases a1 : y < 0
      · have d1 : decide (y < 0) = true := decide_eq_true a1
        go_quiet (fail)
        have H6 := hide (H5.out.drewN nq)
        generalize w5.drewN nq = w6 at *
        have n3 := H6.out.ak.f 3
        have n3z := H6.out.ak.fz 3
        simp only [rkCells] at n3
        clear H5 j0 j2 j6 i2
        have HE := hide (rends_any w6 m D b o ⟨sz, 1, false, y, L, false, ps, er⟩ _ 0 14 rfl H6.out.ak)
        go_wp2_with fail
        refine HE.out.mono ?_
        rintro e w7 ⟨rfl, g7, t7⟩
        have H7 := hide (H6.out.askd t7 g7)
        clear g7 t7 HE H6
        go_wp2_with fail
        go_ret
        have hz : z < sz := by have hab := HAB.out; have hlg := HLG.out; have hLf := HLf.out; rw [if_pos (Or.inl a1)] at hab; omega
        exact ⟨_, rfl, H7.out, by rw [← HP.out]; show (if z < sz then _ else _); rw [if_pos hz]; exact ⟨rfl, rfl, rfl⟩⟩
      · have d1 : decide (y < 0) = false := decide_eq_false a1
        by_cases a2 : (A.to : Int) < y
        · have d2 : decide ((A.to : Int) < y) = true := decide_eq_true a2
          go_quiet (fail)
          have H6 := hide (H5.out.drewN nq)
          generalize w5.drewN nq = w6 at *
          have n3 := H6.out.ak.f 3
          have n3z := H6.out.ak.fz 3
          simp only [rkCells] at n3
          clear H5 j0 j2 j6 i2
          have HE := hide (rends_any w6 m D b o ⟨sz, 1, false, y, L, false, ps, er⟩ _ 0 14 rfl H6.out.ak)
          go_wp2_with fail
          refine HE.out.mono ?_
          rintro e w7 ⟨rfl, g7, t7⟩
          have H7 := hide (H6.out.askd t7 g7)
          clear g7 t7 HE H6
          go_wp2_with fail
          go_ret
          have hz : z < sz := by have hab := HAB.out; have hlg := HLG.out; have hLf := HLf.out; rw [if_pos (Or.inr a2)] at hab; omega
          exact ⟨_, rfl, H7.out, by rw [← HP.out]; show (if z < sz then _ else _); rw [if_pos hz]; exact ⟨rfl, rfl, rfl⟩⟩
        · have d2 : decide ((A.to : Int) < y) = false := decide_eq_false a2
          by_cases a3 : L < sz
          · have d3 : decide (L < sz) = true := decide_eq_true a3
            go_quiet (fail)
            have H6 := hide (H5.out.drewN nq)
            generalize w5.drewN nq = w6 at *
            have n3 := H6.out.ak.f 3
            have n3z := H6.out.ak.fz 3
            simp only [rkCells] at n3
            clear H5 j0 j2 j6 i2
            have HE := hide (rends_any w6 m D b o ⟨sz, 1, false, y, L, false, ps, er⟩ _ 0 14 rfl H6.out.ak)
            go_wp2_with fail
            refine HE.out.mono ?_
            rintro e w7 ⟨rfl, g7, t7⟩
            have H7 := hide (H6.out.askd t7 g7)
            clear g7 t7 HE H6
            go_wp2_with fail
            go_ret
            have hz : z < sz := by have hab := HAB.out; have hlg := HLG.out; have hLf := HLf.out; rw [if_neg (by omega)] at hab; have hL := hLf (by omega) (by omega); simp at hlg; omega
            exact ⟨_, rfl, H7.out, by rw [← HP.out]; show (if z < sz then _ else _); rw [if_pos hz]; exact ⟨rfl, rfl, rfl⟩⟩
          · have d3 : decide (L < sz) = false := decide_eq_false a3
            have a4 : ¬ (L < L) := by omega
            have d4 : decide (L < L) = false := decide_eq_false a4
            go_quiet (fail)
            have H6 := hide (H5.out.drewN nq)
            generalize w5.drewN nq = w6 at *
            have n3 := H6.out.ak.f 3
            have n3z := H6.out.ak.fz 3
            simp only [rkCells] at n3
            clear H5 j0 j2 j6 i2
            go_wp2_with fail
            go_ret
            have hz : ¬ z < sz := by have hab := HAB.out; have hlg := HLG.out; have hLf := HLf.out; rw [if_neg (by omega)] at hab; have hL := hLf (by omega) (by omega); simp at hlg; omega
            have hE : L = min (A.buf : Int) z := by have hab := HAB.out; have hlg := HLG.out; have hLf := HLf.out; rw [if_neg (by omega)] at hab; have hL := hLf (by omega) (by omega); simp at hlg; omega
            refine ⟨⟨sz, 2, false, y, L, false, ps, er⟩, rfl, H6.out.set 3 _, ?_⟩
            rw [← HP.out]
            show (if z < sz then _ else _)
            rw [if_neg hz]
            simp
            exact hE
    · go_upto_region 25 with fail
      obtain ⟨w5, hw5⟩ : ∃ w5, w5 = w4 := ⟨_, rfl⟩
      subst hw5
      have H5 := hide H4.out
      clear H4 j6 j6z
      have j0 := H5.out.ak.f 0
      have j2 := H5.out.ak.f 2
      have j6 := H5.out.ak.f 6
      have i2 := H5.out.ar.c2
      simp only [rkCells] at j0 j2 j6
      by_cases a1 : y < 0
      · have d1 : decide (y < 0) = true := decide_eq_true a1
        go_quiet (fail)
        have H6 := hide (H5.out.drewN nq)
        generalize w5.drewN nq = w6 at *
        have n3 := H6.out.ak.f 3
        have n3z := H6.out.ak.fz 3
        simp only [rkCells] at n3
        clear H5 j0 j2 j6 i2
        have HE := hide (rends_any w6 m D b o ⟨sz, 1, false, y, (A.buf : Int), false, ps, er⟩ _ 0 14 rfl H6.out.ak)
        go_wp2_with fail
        refine HE.out.mono ?_
        rintro e w7 ⟨rfl, g7, t7⟩
        have H7 := hide (H6.out.askd t7 g7)
        clear g7 t7 HE H6
        go_wp2_with fail
        go_ret
        have hz : z < sz := by have hab := HAB.out; have hlg := HLG.out; have hLf := HLf.out; rw [if_pos (Or.inl a1)] at hab; omega
        exact ⟨_, rfl, H7.out, by rw [← HP.out]; show (if z < sz then _ else _); rw [if_pos hz]; exact ⟨rfl, rfl, rfl⟩⟩
      · have d1 : decide (y < 0) = false := decide_eq_false a1
        by_cases a2 : (A.to : Int) < y
        · have d2 : decide ((A.to : Int) < y) = true := decide_eq_true a2
          go_quiet (fail)
          have H6 := hide (H5.out.drewN nq)
          generalize w5.drewN nq = w6 at *
          have n3 := H6.out.ak.f 3
          have n3z := H6.out.ak.fz 3
          simp only [rkCells] at n3
          clear H5 j0 j2 j6 i2
          have HE := hide (rends_any w6 m D b o ⟨sz, 1, false, y, (A.buf : Int), false, ps, er⟩ _ 0 14 rfl H6.out.ak)
          go_wp2_with fail
          refine HE.out.mono ?_
          rintro e w7 ⟨rfl, g7, t7⟩
          have H7 := hide (H6.out.askd t7 g7)
          clear g7 t7 HE H6
          go_wp2_with fail
          go_ret
          have hz : z < sz := by have hab := HAB.out; have hlg := HLG.out; have hLf := HLf.out; rw [if_pos (Or.inr a2)] at hab; omega
          exact ⟨_, rfl, H7.out, by rw [← HP.out]; show (if z < sz then _ else _); rw [if_pos hz]; exact ⟨rfl, rfl, rfl⟩⟩
        · have d2 : decide ((A.to : Int) < y) = false := decide_eq_false a2
          by_cases a3 : (A.buf : Int) < sz
          · have d3 : decide ((A.buf : Int) < sz) = true := decide_eq_true a3
            go_quiet (fail)
            have H6 := hide (H5.out.drewN nq)
            generalize w5.drewN nq = w6 at *
            have n3 := H6.out.ak.f 3
            have n3z := H6.out.ak.fz 3
            simp only [rkCells] at n3
            clear H5 j0 j2 j6 i2
            have HE := hide (rends_any w6 m D b o ⟨sz, 1, false, y, (A.buf : Int), false, ps, er⟩ _ 0 14 rfl H6.out.ak)
            go_wp2_with fail
            refine HE.out.mono ?_
            rintro e w7 ⟨rfl, g7, t7⟩
            have H7 := hide (H6.out.askd t7 g7)
            clear g7 t7 HE H6
            go_wp2_with fail
            go_ret
            have hz : z < sz := by have hab := HAB.out; have hlg := HLG.out; have hLf := HLf.out; rw [if_neg (by omega)] at hab; have hL := hLf (by omega) (by omega); simp at hlg; omega
            exact ⟨_, rfl, H7.out, by rw [← HP.out]; show (if z < sz then _ else _); rw [if_pos hz]; exact ⟨rfl, rfl, rfl⟩⟩
          · have d3 : decide ((A.buf : Int) < sz) = false := decide_eq_false a3
            have a4 : ¬ (L < (A.buf : Int)) := by omega
            have d4 : decide (L < (A.buf : Int)) = false := decide_eq_false a4
            go_quiet (fail)
            have H6 := hide (H5.out.drewN nq)
            generalize w5.drewN nq = w6 at *
            have n3 := H6.out.ak.f 3
            have n3z := H6.out.ak.fz 3
            simp only [rkCells] at n3
            clear H5 j0 j2 j6 i2
            go_wp2_with fail
            go_ret
            have hz : ¬ z < sz := by have hab := HAB.out; have hlg := HLG.out; have hLf := HLf.out; rw [if_neg (by omega)] at hab; have hL := hLf (by omega) (by omega); simp at hlg; omega
            have hE : (A.buf : Int) = min (A.buf : Int) z := by have hab := HAB.out; have hlg := HLG.out; have hLf := HLf.out; rw [if_neg (by omega)] at hab; have hL := hLf (by omega) (by omega); simp at hlg; omega
            refine ⟨⟨sz, 2, false, y, (A.buf : Int), false, ps, er⟩, rfl, H6.out.set 3 _, ?_⟩
            rw [← HP.out]
            show (if z < sz then _ else _)
            rw [if_neg hz]
            simp
            exact hE
  · go_upto_region 25 with fail
    obtain ⟨w5, hw5⟩ : ∃ w5, w5 = w3 := ⟨_, rfl⟩
    subst hw5
    have H5 := hide H3.out
    clear H3 j0 j4 j6 j6z i3
    have j0 := H5.out.ak.f 0
    have j2 := H5.out.ak.f 2
    have j6 := H5.out.ak.f 6
    have i2 := H5.out.ar.c2
    simp only [rkCells] at j0 j2 j6
    by_cases a1 : y < 0
    · have d1 : decide (y < 0) = true := decide_eq_true a1
      go_quiet (fail)
      have H6 := hide (H5.out.drewN nq)
      generalize w5.drewN nq = w6 at *
      have n3 := H6.out.ak.f 3
      have n3z := H6.out.ak.fz 3
      simp only [rkCells] at n3
      clear H5 j0 j2 j6 i2
      have HE := hide (rends_any w6 m D b o ⟨sz, 1, true, y, sz, false, ps, er⟩ _ 0 14 rfl H6.out.ak)
      go_wp2_with fail
      refine HE.out.mono ?_
      rintro e w7 ⟨rfl, g7, t7⟩
      have H7 := hide (H6.out.askd t7 g7)
      clear g7 t7 HE H6
      go_wp2_with fail
      go_ret
      have hz : z < sz := by have hab := HAB.out; have hlg := HLG.out; have hLf := HLf.out; rw [if_pos (Or.inl a1)] at hab; omega
      exact ⟨_, rfl, H7.out, by rw [← HP.out]; show (if z < sz then _ else _); rw [if_pos hz]; exact ⟨rfl, rfl, rfl⟩⟩
    · have d1 : decide (y < 0) = false := decide_eq_false a1
      by_cases a2 : (A.to : Int) < y
      · have d2 : decide ((A.to : Int) < y) = true := decide_eq_true a2
        go_quiet (fail)
        have H6 := hide (H5.out.drewN nq)
        generalize w5.drewN nq = w6 at *
        have n3 := H6.out.ak.f 3
        have n3z := H6.out.ak.fz 3
        simp only [rkCells] at n3
        clear H5 j0 j2 j6 i2
        have HE := hide (rends_any w6 m D b o ⟨sz, 1, true, y, sz, false, ps, er⟩ _ 0 14 rfl H6.out.ak)
        go_wp2_with fail
        refine HE.out.mono ?_
        rintro e w7 ⟨rfl, g7, t7⟩
        have H7 := hide (H6.out.askd t7 g7)
        clear g7 t7 HE H6
        go_wp2_with fail
        go_ret
        have hz : z < sz := by have hab := HAB.out; have hlg := HLG.out; have hLf := HLf.out; rw [if_pos (Or.inr a2)] at hab; omega
        exact ⟨_, rfl, H7.out, by rw [← HP.out]; show (if z < sz then _ else _); rw [if_pos hz]; exact ⟨rfl, rfl, rfl⟩⟩
      · have d2 : decide ((A.to : Int) < y) = false := decide_eq_false a2
        have a3 : ¬ (sz < sz) := by omega
        have d3 : decide (sz < sz) = false := decide_eq_false a3
        by_cases a4 : L < sz
        · have d4 : decide (L < sz) = true := decide_eq_true a4
          go_quiet (fail)
          have H6 := hide (H5.out.drewN nq)
          generalize w5.drewN nq = w6 at *
          have n3 := H6.out.ak.f 3
          have n3z := H6.out.ak.fz 3
          simp only [rkCells] at n3
          clear H5 j0 j2 j6 i2
          have HE := hide (rends_any w6 m D b o ⟨sz, 1, true, y, sz, false, ps, er⟩ _ 0 14 rfl H6.out.ak)
          go_wp2_with fail
          refine HE.out.mono ?_
          rintro e w7 ⟨rfl, g7, t7⟩
          have H7 := hide (H6.out.askd t7 g7)
          clear g7 t7 HE H6
          go_wp2_with fail
          go_ret
          have hz : z < sz := by have hab := HAB.out; have hlg := HLG.out; have hLf := HLf.out; rw [if_neg (by omega)] at hab; have hL := hLf (by omega) (by omega); simp at hlg; omega
          exact ⟨_, rfl, H7.out, by rw [← HP.out]; show (if z < sz then _ else _); rw [if_pos hz]; exact ⟨rfl, rfl, rfl⟩⟩
        · have d4 : decide (L < sz) = false := decide_eq_false a4
          go_quiet (fail)
          have H6 := hide (H5.out.drewN nq)
          generalize w5.drewN nq = w6 at *
          have n3 := H6.out.ak.f 3
          have n3z := H6.out.ak.fz 3
          simp only [rkCells] at n3
          clear H5 j0 j2 j6 i2
          go_wp2_with fail
          go_ret
          have hz : ¬ z < sz := by have hab := HAB.out; have hlg := HLG.out; have hLf := HLf.out; rw [if_neg (by omega)] at hab; have hL := hLf (by omega) (by omega); simp at hlg; omega
          refine ⟨⟨sz, 2, true, y, sz, false, ps, er⟩, rfl, H6.out.set 3 _, ?_⟩
          rw [← HP.out]
          show (if z < sz then _ else _)
          rw [if_neg hz]
          simp
end
end Go.Proofs.Ytelljfckffmjmaa
