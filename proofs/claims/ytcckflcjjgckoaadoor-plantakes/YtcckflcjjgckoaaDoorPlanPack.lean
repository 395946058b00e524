/-
  packed of package plan: the end of as many regions as may stay.
-/
import Derived.Test.YtcckflcjjgckoaaDoorPlanClos
import Derived.Deep.Cut
import Derived.Deep.CutBlock
import Derived.Deep.CutRange
import Derived.Deep.DeepCutAuto
import Derived.Deep.LoopGhost
namespace Go.Proofs.YtcckflcjjgckoaaDoor
open Go.RowKit Bt
set_option linter.unusedVariables false
set_option linter.unusedSimpArgs false

theorem lvR_le (P : PN) (L : Nat → Bool) (r : Nat) : lvR P L r ≤ P.ed (r + 1) - P.ed r := by
  unfold lvR
  have := cnt_gap L (PN.ed_mono P (show r ≤ r + 1 by omega))
  omega
set_option maxRecDepth 100000 in
theorem packed1_any (P : PN) (h : P.Ok) (L : Nat → Bool) (a wt tk : Value) (lq c pb r : Nat) (w : World) (hr : r < P.R) (hl : Ri w 3 lq P.R (fun r => (lvR P L r : Nat))) (hp : Pb w pb P (.slice (some ⟨lq, 0, none⟩) P.R c) a wt tk) :
    Calls Tryd.prog 54 #[.int .i64 (r : Int), .pointer (some ⟨pb, 0, none⟩)] w fun e w' => e = .returned (.int .i64 (ddR P L r : Nat)) ∧ Turned [] w w' := by
  have HSp := hide (fun w => span_in P h (.slice (some ⟨lq, 0, none⟩) P.R c) a wt tk r hr w)
  have hle := lvR_le P L r
  have hed := PN.ed_mono P (show r ≤ r + 1 by omega)
  have he2 := PN.ed_le P (r + 1)
  have hfew := h.few
  have hcell : w.cell? ⟨lq, r, none⟩ = some (.int .i64 ((lvR P L r : Nat) : Int)) := hl.cell hr
  unfold ddR
  have HP := hide hp
  have HC := hide hcell
  generalize lvR P L r = u at *
  generalize P.ed r = E1 at *
  generalize P.ed (r + 1) = E2 at *
  generalize P.R = R at *
  have hri : (r : Int) < R := by omega
  obtain ⟨f, t, k, d, e⟩ := P
  obtain ⟨c0, c1, c2, c3, c4, c5, c6, c7, c8⟩ := hp.cs
  unfold plC at HSp
  simp only at *
  have hw1 : wrap64 ((E2 : Int) - E1) = (E2 : Int) - E1 := by unfold wrap64; omega
  have hw2 : wrap64 ((E2 : Int) - E1 - u) = ((E2 - E1 - u : Nat) : Int) := by unfold wrap64; omega
  clear h hl hp hr hcell
  go_enter Tryd.func54, Tryd.ntmps54
  go_wp2_with fail
  refine (HSp.out _).mono ?_
  rintro e' w2 ⟨rfl, ht2⟩
  clear c0 c1 c2 c3 c4 c5 c6 c7 c8
  obtain ⟨c0, c1, c2, c3, c4, c5, c6, c7, c8⟩ := (HP.out.turned0 ht2).cs
  have cl : w2.cell? ⟨lq, r, none⟩ = some (.int .i64 (u : Int)) := by rw [ht2.cell (block_lt HC.out) (by simp)]; exact HC.out
  have HT2 := hide ht2
  clear ht2
  go_wp2_with fail
  go_ret
  refine ⟨?_, HT2.out⟩
  clear hw1 hw2
  rw [show ((E2 - E1 - u : Nat) : Int) = (E2 : Int) - E1 - u by omega]
  rfl

set_option maxRecDepth 100000 in
theorem packed_any (P : PN) (h : P.Ok) (L : Nat → Bool) (a wt tk : Value) (lq c waste : Nat) (w : World) (hl : Ri w 3 lq P.R (fun r => (lvR P L r : Nat))) (hw : waste ≤ 1000000) :
    Calls Tryd.prog 27 #[.agg (plC P (.slice (some ⟨lq, 0, none⟩) P.R c) a wt tk), .int .i64 (waste : Int)] w fun e w' => ∃ K, e = .returned (.int .i64 (P.ed K : Nat)) ∧ Packs P L waste K ∧ Turned [] w w' := by
  have hF := PN.R_few h
  have hB := pb_new w P (.slice (some ⟨lq, 0, none⟩) P.R c) a wt tk
  have hT := (Turned.refl [] w).alloc (.cells (plC P (.slice (some ⟨lq, 0, none⟩) P.R c) a wt tk) 30)
  have HE := hide (each_dead w.heap.size P h (.slice (some ⟨lq, 0, none⟩) P.R c) a wt tk (fun r => (ddR P L r : Nat)) _ (fun w' t r hr => packed1_any P h L a wt tk lq c w.heap.size r w' hr (hl.turned0 (hT.trans t)) (hB.turned0 t)))
  have hds : ∀ r, deadTo P L (P.ed r) ≤ 65536 := fun r => by
    unfold deadTo
    have := PN.ed_le P r
    have := h.few
    omega
  have HPl := hide (fun (w' : World) q (hq : Ri w' 2 q P.R (fun i => ((ddR P L i : Nat) : Int))) => plain13 w' q P.R P.R (ddR P L) hq hF (by rw [sum_dead h]; exact hds _))
  have HD := hide (fun r => sum_dead h L r)
  have HDs := hide hds
  have HSp := hide (fun r hr w => span_in P h (.slice (some ⟨lq, 0, none⟩) P.R c) a wt tk r hr w)
  have HR := hide (fun w => regions_any P h (.slice (some ⟨lq, 0, none⟩) P.R c) a wt tk w)
  have HPk : Hid (∀ K, K ≤ P.R → deadTo P L (P.ed K) ≤ waste → (K = P.R ∨ waste < deadTo P L (P.ed K) + ddR P L K) → Packs P L waste K) := hide (fun K h1 h2 h3 => ⟨h1, h2, h3.imp id (fun h4 => by rw [← dd_succ h]; exact h4)⟩)
  have HEz := hide (PN.ed_zero h)
  have HDz : Hid (deadTo P L (P.ed 0) ≤ waste) := hide (by rw [PN.ed_zero h]; simp [deadTo])
  have HDn : Hid (∀ r, deadTo P L (P.ed r) + ddR P L r = deadTo P L (P.ed (r + 1))) := hide (fun r => dd_succ h L r)
  have HB := hide hB
  have HT := hide hT
  generalize hRR : P.R = R at *
  generalize hDD : ddR P L = DD at *
  generalize hPk : Packs P L waste = PK at *
  generalize hdt : (fun r => deadTo P L (P.ed r)) = DT at *
  have hdt' : ∀ r, deadTo P L (P.ed r) = DT r := fun r => by rw [← hdt]
  simp only [hdt'] at HPk HD HDs HDz HDn
  obtain ⟨f, t, k, d, e⟩ := P
  generalize hED : PN.ed ⟨f, t, k, d, e⟩ = ED at *
  unfold plC at HE HR HB HT HSp ⊢
  simp only at HE HR HB HT HSp HEz ⊢
  clear h hl hds hB hT hRR hDD hPk hdt hdt' hED
  go_enter Tryd.func27, Tryd.ntmps27
  go_wp2_with fail
  generalize w.alloc (.cells #[Value.int .i64 f, Value.int .i64 t, Value.int .i64 k, Value.int .i64 d, Value.int .i64 e, .slice (some ⟨lq, 0, none⟩) R c, a, wt, tk] 30) = w0 at *
  generalize w.heap.size = pb at *
  refine (HE.out).mono ?_
  rintro e1 w1 ⟨dq, rfl, hdq, hd1, ht1⟩
  have HDq := hide hdq
  have HB1 := hide (HB.out.turned0 ht1)
  have HT1 := hide (HT.out.trans ht1)
  clear hdq hd1 ht1 HE HB HT
  go_wp2_with fail
  refine (HPl.out _ _ HDq.out).mono ?_
  rintro e1 w2 ⟨sq, rfl, hsq, hs1, ht2⟩
  have HDq2 := hide (HDq.out.turned0 ht2)
  have HSq := hide hsq
  have HB2 := hide (HB1.out.turned0 ht2)
  have HT2 := hide (HT1.out.trans ht2)
  obtain ⟨c0, c1, c2, c3, c4, c5, c6, c7, c8⟩ := HB2.out.cs
  clear hsq hs1 ht2 HDq HB1 HT1 HPl
  go_wp2_with fail
  refine (HR.out _).mono ?_
  rintro e1 w3 ⟨rfl, ht3⟩
  have HDq3 := hide (HDq2.out.turned0 ht3)
  have HSq3 := hide (HSq.out.turned0 ht3)
  have HB3 := hide (HB2.out.turned0 ht3)
  have HT3 := hide (HT2.out.trans ht3)
  clear c0 c1 c2 c3 c4 c5 c6 c7 c8 ht3 HDq2 HSq HB2 HT2 HR
  go_wp2_with fail
  rw [← HEz.out]
  go_loopw [8, 22] (fun en i wr => ∃ (j : Nat), j ≤ R ∧ i = .int .i64 j ∧ en = .int .i64 (ED j : Nat) ∧ Hid (DT j ≤ waste) ∧ Hid (Ri wr 2 dq R (fun i => ((DD i : Nat) : Int))) ∧ Hid (Ri wr 2 sq R (fun i => ((sumN DD i : Nat) : Int))) ∧ Hid (Pb wr pb ⟨f, t, k, d, e⟩ (.slice (some ⟨lq, 0, none⟩) R c) a wt tk) ∧ Hid (Turned [] w wr)) (fun _ i _ => R - (intOf i).toNat)
  case atStart => exact ⟨0, Nat.zero_le _, rfl, rfl, HDz, HDq3, HSq3, HB3, HT3⟩
  case round =>
    obtain ⟨j, hj, rfl, rfl, HM, HD1, HS1, HB4, HT4⟩ := hrel
    clear HDq3 HSq3 HB3 HT3
    by_cases hlt : j < R
    · have k1 := HD1.out.cell hlt
      have k2 := HS1.out.cell hlt
      simp only [HD.out] at k2
      have hji : (j : Int) < R := by omega
      have hs1 := HDs.out j
      have hs2 := HDs.out (j + 1)
      have HN := hide (HDn.out j)
      rw [← HN.out] at hs2
      have hw1 : IntKind.i64.wrap ((DT j : Int) + (DD j : Int)) = (DT j : Int) + (DD j : Int) := by rw [IntKind.wrap_i64]; omega
      have HP1 := hide (HPk.out j hj HM.out)
      have HSj := hide (fun w => HSp.out j hlt w)
      generalize DT j = dt at *
      generalize DD j = dd at *
      by_cases hgt : waste < dt + dd
      · have hgi : (waste : Int) < (dt : Int) + dd := by omega
        have HK := hide (HP1.out (.inr hgt))
        clear hs1 hs2 HP1
        go_wp2_with fail
        go_quiet (fail)
        go_wp2_with fail
        go_ret
        exact ⟨j, rfl, HK.out, HT4.out.drewN _⟩
      · have hgi : ¬ (waste : Int) < (dt : Int) + dd := by omega
        have HM2 := hide (show dt + dd ≤ waste by omega)
        obtain ⟨c0, c1, c2, c3, c4, c5, c6, c7, c8⟩ := HB4.out.cs
        simp only at c0 c1 c2 c3 c4
        clear hs1 hs2 HP1
        go_wp2_with fail
        go_quiet (fail)
        go_wp2_with fail
        refine (HSj.out _).mono ?_
        rintro e1 w5 ⟨rfl, ht5⟩
        have ht6 : Turned [] wr w5 := ((Turned.refl [] wr).drewN _).trans ht5
        have HD5 := hide (HD1.out.turned0 ht6)
        have HS5 := hide (HS1.out.turned0 ht6)
        have HB5 := hide (HB4.out.turned0 ht6)
        have HT5 := hide (HT4.out.trans ht6)
        clear ht5 ht6 c0 c1 c2 c3 c4 c5 c6 c7 c8 k1 k2
        go_wp2_with fail
        go_roundw
        case rel => exact ⟨j + 1, by omega, by go_num, rfl, by rw [← HN.out]; exact HM2, HD5, HS5, HB5, HT5⟩
        case measure => simp [intOf]; omega
    · have hjn : j = R := by omega
      subst hjn
      have HK := hide (HPk.out j hj HM.out (.inl rfl))
      go_wp2_with fail
      go_ret
      exact ⟨j, rfl, HK.out, HT4.out⟩
end Go.Proofs.YtcckflcjjgckoaaDoor
