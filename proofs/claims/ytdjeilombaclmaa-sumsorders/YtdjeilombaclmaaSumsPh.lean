/-
  (Text by SumsPh.gen.py.) A worker's step in each phase.
-/
import Derived.Test.YtdjeilombaclmaaSumsWork
namespace Go.Proofs.Ytdjeilombaclmaa
open Go.RowKit
set_option linter.unusedVariables false

set_option maxRecDepth 100000 in
theorem swork0 (w : World) (I : SIds) (P : SP) (S : SS) (h : Sm w I P S) (hP : P.ok) (hI : Inv P S) (k b : Nat) (W : SW) (hb : I.wk[k]? = some b) (hW : S.wk[k]? = some W) (hk : k < P.n) (hg : (k : Int) ∉ S.ws.take S.came) (ha : S.acc < 100000000) (hph : S.ph = 0) :
    Calls Try.prog 28 #[ptr I.s, ptr b] w fun e w' => e = .returned (.tuple #[]) ∧ Sm w' I P (S.work P k W) ∧ Turned I.hot w w' := by
  have HF := hide (fun w => phases_any w)
  have HG := hide (fun w' (t : Turned [] w w') => gphase_any w' I.gp I.gq _ _ _ (h.next t).gang)
  rw [hph] at HG
  have HD := hide (fun w' (t : Turned [] w w') => act0 w' I P S (h.next t) hP hI k b W hb hW ha hph)
  have HC := hide (fun w' (t : Turned [] w w') => (h.next t).c0)
  have c0 := h.c0
  have HE := hide (show S.work P k W = if (S.act P k W).2 then (S.act P k W).1 else (S.act P k W).1.arrive k from rfl)
  have HK := hide (act_keeps P S k W)
  have HFA := hide (arrive_facts hI.gi hk hg)
  have HL := hide (show S.wk.length = P.n from hI.wl)
  have HB := hide hb
  have hkl : k < 64 := by have := hP.n; omega
  clear h hI hb hW hg
  generalize S.work P k W = S' at *
  generalize (S.act P k W).2 = fl at *
  generalize (S.act P k W).1 = S1 at *
  have hix : ∀ w : World, (Instr.index 70 phasesV (.int .i64 0)).run Try.prog w = .ok (.func (.func 37) #[] #[]) w := fun _ => by kernel_rfl
  unfold ptr phasesV at *
  go_enter Try.func28, Try.ntmps28
  go_wp2_with fail
  go_region_held3 (fun w' => w'.cell? ⟨I.s, 0, none⟩ = some (.pointer (some ⟨I.gp, 0, none⟩))) (go_keep)
    (first
      | (go_at_call 31; refine (HF.out _).mono ?_; rintro e w2 ⟨rfl, t2⟩; have T2 := hide ((Turned.refl [] w).drew.trans t2); have i0 := HC.out _ T2.out; clear t2)
      | (go_at_call 30; refine (HG.out _ T2.out).mono ?_; rintro e w3 ⟨rfl, rfl⟩)
      | (go_at_call 37; refine (HD.out _ T2.out).mono ?_; rintro e w4 ⟨rfl, h4, t4⟩; have H4 := hide h4; have T4 := hide (T2.out.mono (T := I.hot) (fun _ hm => by simp at hm) |>.trans t4); have i0 := H4.out.c0; clear h4 t4))
  clear HF HG HD HC c0 hix T2 i0
  cases fl with
  | true =>
    have HE2 := hide (show S' = S1 by rw [HE.out]; rfl)
    go_wp2_with fail
    first | refine bodyPost_end (results_none rfl _ _ _) rfl ?_ | refine bodyPost_ret (results_none rfl _ _ _) rfl ?_
    exact ⟨rfl, by rw [HE2.out]; exact H4.out, T4.out⟩
  | false =>
    have HE2 := hide (show S' = S1.arrive k by rw [HE.out]; rfl)
    have i0 := H4.out.c0
    have HWX := hide (show S1.wk[k]? = some (S1.wk.getD k ⟨0, 0, 0⟩) by
      have h1 := HK.out.2.2.2
      have h2 := HL.out
      rw [List.getD_eq_getElem?_getD, List.getElem?_eq_getElem (by omega)]; rfl)
    have n0 := H4.out.w0 HB.out HWX.out
    have HA := hide (fun w' (t : Turned [] w4 w') => sarrive_any w' I P S1 (H4.out.next t) k (by rw [HK.out.1, HK.out.2.1]; obtain ⟨a, h1, h2, -⟩ := HFA.out; exact ⟨a, h1, h2⟩) (by rw [HK.out.2.2.1, hph]; omega))
    unfold ptr at HA
    go_wp2_with fail
    go_region_held3 (fun w' => w'.cell? ⟨I.s, 0, none⟩ = some (.pointer (some ⟨I.gp, 0, none⟩)) ∧ w'.cell? ⟨b, 0, none⟩ = some (.int .i64 (k : Int))) (go_keep)
      (first
        | (go_at_call 36; refine (HA.out _ (Turned.refl [] w4).drew).mono ?_; rintro e w5 ⟨rfl, h5, t5⟩; have H5 := hide h5; have T5 := hide (T4.out.drew.trans t5); have j0 := H5.out.c0; have j1 := H5.out.w0 HB.out HWX.out; clear h5 t5))
    clear HA i0 n0 j0 j1 T4
    have HE3 := hide (show S1.arrive k = if S1.came + 1 = S1.ws.length then { S1 with ws := swp S1.ws (idxI S1.ws k).toNat S1.came k, came := 0, ph := S1.ph + 1, cnt := 0 } else { S1 with ws := swp S1.ws (idxI S1.ws k).toNat S1.came k, came := S1.came + 1 } from rfl)
    by_cases hl : S1.came + 1 = S1.ws.length
    · rw [if_pos hl, if_pos hl] at H5
      rw [if_pos hl] at HE3
      rw [decide_eq_true hl]
      have c1 := H5.out.c1
      have HR := hide (sreset_sums w5 I P _ H5.out)
      unfold ptr at HR
      go_wp2_with fail
      refine HR.out.mono ?_
      rintro e w6 ⟨rfl, h6, t6⟩
      have H6 := hide h6
      have T6 := hide (T5.out.trans t6)
      clear h6 t6 HR H5
      go_wp2_with fail
      first | refine bodyPost_end (results_none rfl _ _ _) rfl ?_ | refine bodyPost_ret (results_none rfl _ _ _) rfl ?_
      exact ⟨rfl, by rw [HE2.out, HE3.out]; exact H6.out, T6.out⟩
    · rw [if_neg hl, if_neg hl] at H5
      rw [if_neg hl] at HE3
      rw [decide_eq_false hl]
      go_wp2_with fail
      first | refine bodyPost_end (results_none rfl _ _ _) rfl ?_ | refine bodyPost_ret (results_none rfl _ _ _) rfl ?_
      exact ⟨rfl, by rw [HE2.out, HE3.out]; exact H5.out, T5.out⟩


set_option maxRecDepth 100000 in
theorem swork1 (w : World) (I : SIds) (P : SP) (S : SS) (h : Sm w I P S) (hP : P.ok) (hI : Inv P S) (k b : Nat) (W : SW) (hb : I.wk[k]? = some b) (hW : S.wk[k]? = some W) (hk : k < P.n) (hg : (k : Int) ∉ S.ws.take S.came) (ha : S.acc < 100000000) (hph : S.ph = 1) :
    Calls Try.prog 28 #[ptr I.s, ptr b] w fun e w' => e = .returned (.tuple #[]) ∧ Sm w' I P (S.work P k W) ∧ Turned I.hot w w' := by
  have HF := hide (fun w => phases_any w)
  have HG := hide (fun w' (t : Turned [] w w') => gphase_any w' I.gp I.gq _ _ _ (h.next t).gang)
  rw [hph] at HG
  have HD := hide (fun w' (t : Turned [] w w') => act1 w' I P S (h.next t) hP hI k b W hb hW ha hph)
  have HC := hide (fun w' (t : Turned [] w w') => (h.next t).c0)
  have c0 := h.c0
  have HE := hide (show S.work P k W = if (S.act P k W).2 then (S.act P k W).1 else (S.act P k W).1.arrive k from rfl)
  have HK := hide (act_keeps P S k W)
  have HFA := hide (arrive_facts hI.gi hk hg)
  have HL := hide (show S.wk.length = P.n from hI.wl)
  have HB := hide hb
  have hkl : k < 64 := by have := hP.n; omega
  clear h hI hb hW hg
  generalize S.work P k W = S' at *
  generalize (S.act P k W).2 = fl at *
  generalize (S.act P k W).1 = S1 at *
  have hix : ∀ w : World, (Instr.index 70 phasesV (.int .i64 1)).run Try.prog w = .ok (.func (.func 38) #[] #[]) w := fun _ => by kernel_rfl
  unfold ptr phasesV at *
  go_enter Try.func28, Try.ntmps28
  go_wp2_with fail
  go_region_held3 (fun w' => w'.cell? ⟨I.s, 0, none⟩ = some (.pointer (some ⟨I.gp, 0, none⟩))) (go_keep)
    (first
      | (go_at_call 31; refine (HF.out _).mono ?_; rintro e w2 ⟨rfl, t2⟩; have T2 := hide ((Turned.refl [] w).drew.trans t2); have i0 := HC.out _ T2.out; clear t2)
      | (go_at_call 30; refine (HG.out _ T2.out).mono ?_; rintro e w3 ⟨rfl, rfl⟩)
      | (go_at_call 38; refine (HD.out _ T2.out).mono ?_; rintro e w4 ⟨rfl, h4, t4⟩; have H4 := hide h4; have T4 := hide (T2.out.mono (T := I.hot) (fun _ hm => by simp at hm) |>.trans t4); have i0 := H4.out.c0; clear h4 t4))
  clear HF HG HD HC c0 hix T2 i0
  cases fl with
  | true =>
    have HE2 := hide (show S' = S1 by rw [HE.out]; rfl)
    go_wp2_with fail
    first | refine bodyPost_end (results_none rfl _ _ _) rfl ?_ | refine bodyPost_ret (results_none rfl _ _ _) rfl ?_
    exact ⟨rfl, by rw [HE2.out]; exact H4.out, T4.out⟩
  | false =>
    have HE2 := hide (show S' = S1.arrive k by rw [HE.out]; rfl)
    have i0 := H4.out.c0
    have HWX := hide (show S1.wk[k]? = some (S1.wk.getD k ⟨0, 0, 0⟩) by
      have h1 := HK.out.2.2.2
      have h2 := HL.out
      rw [List.getD_eq_getElem?_getD, List.getElem?_eq_getElem (by omega)]; rfl)
    have n0 := H4.out.w0 HB.out HWX.out
    have HA := hide (fun w' (t : Turned [] w4 w') => sarrive_any w' I P S1 (H4.out.next t) k (by rw [HK.out.1, HK.out.2.1]; obtain ⟨a, h1, h2, -⟩ := HFA.out; exact ⟨a, h1, h2⟩) (by rw [HK.out.2.2.1, hph]; omega))
    unfold ptr at HA
    go_wp2_with fail
    go_region_held3 (fun w' => w'.cell? ⟨I.s, 0, none⟩ = some (.pointer (some ⟨I.gp, 0, none⟩)) ∧ w'.cell? ⟨b, 0, none⟩ = some (.int .i64 (k : Int))) (go_keep)
      (first
        | (go_at_call 36; refine (HA.out _ (Turned.refl [] w4).drew).mono ?_; rintro e w5 ⟨rfl, h5, t5⟩; have H5 := hide h5; have T5 := hide (T4.out.drew.trans t5); have j0 := H5.out.c0; have j1 := H5.out.w0 HB.out HWX.out; clear h5 t5))
    clear HA i0 n0 j0 j1 T4
    have HE3 := hide (show S1.arrive k = if S1.came + 1 = S1.ws.length then { S1 with ws := swp S1.ws (idxI S1.ws k).toNat S1.came k, came := 0, ph := S1.ph + 1, cnt := 0 } else { S1 with ws := swp S1.ws (idxI S1.ws k).toNat S1.came k, came := S1.came + 1 } from rfl)
    by_cases hl : S1.came + 1 = S1.ws.length
    · rw [if_pos hl, if_pos hl] at H5
      rw [if_pos hl] at HE3
      rw [decide_eq_true hl]
      have c1 := H5.out.c1
      have HR := hide (sreset_sums w5 I P _ H5.out)
      unfold ptr at HR
      go_wp2_with fail
      refine HR.out.mono ?_
      rintro e w6 ⟨rfl, h6, t6⟩
      have H6 := hide h6
      have T6 := hide (T5.out.trans t6)
      clear h6 t6 HR H5
      go_wp2_with fail
      first | refine bodyPost_end (results_none rfl _ _ _) rfl ?_ | refine bodyPost_ret (results_none rfl _ _ _) rfl ?_
      exact ⟨rfl, by rw [HE2.out, HE3.out]; exact H6.out, T6.out⟩
    · rw [if_neg hl, if_neg hl] at H5
      rw [if_neg hl] at HE3
      rw [decide_eq_false hl]
      go_wp2_with fail
      first | refine bodyPost_end (results_none rfl _ _ _) rfl ?_ | refine bodyPost_ret (results_none rfl _ _ _) rfl ?_
      exact ⟨rfl, by rw [HE2.out, HE3.out]; exact H5.out, T5.out⟩


set_option maxRecDepth 100000 in
theorem swork2 (w : World) (I : SIds) (P : SP) (S : SS) (h : Sm w I P S) (hP : P.ok) (hI : Inv P S) (k b : Nat) (W : SW) (hb : I.wk[k]? = some b) (hW : S.wk[k]? = some W) (hk : k < P.n) (hg : (k : Int) ∉ S.ws.take S.came) (ha : S.acc < 100000000) (hph : S.ph = 2) :
    Calls Try.prog 28 #[ptr I.s, ptr b] w fun e w' => e = .returned (.tuple #[]) ∧ Sm w' I P (S.work P k W) ∧ Turned I.hot w w' := by
  have HF := hide (fun w => phases_any w)
  have HG := hide (fun w' (t : Turned [] w w') => gphase_any w' I.gp I.gq _ _ _ (h.next t).gang)
  rw [hph] at HG
  have HD := hide (fun w' (t : Turned [] w w') => act2 w' I P S (h.next t) hP hI k b W hb hW ha hph)
  have HC := hide (fun w' (t : Turned [] w w') => (h.next t).c0)
  have c0 := h.c0
  have HE := hide (show S.work P k W = if (S.act P k W).2 then (S.act P k W).1 else (S.act P k W).1.arrive k from rfl)
  have HK := hide (act_keeps P S k W)
  have HFA := hide (arrive_facts hI.gi hk hg)
  have HL := hide (show S.wk.length = P.n from hI.wl)
  have HB := hide hb
  have hkl : k < 64 := by have := hP.n; omega
  clear h hI hb hW hg
  generalize S.work P k W = S' at *
  generalize (S.act P k W).2 = fl at *
  generalize (S.act P k W).1 = S1 at *
  have hix : ∀ w : World, (Instr.index 70 phasesV (.int .i64 2)).run Try.prog w = .ok (.func (.func 39) #[] #[]) w := fun _ => by kernel_rfl
  unfold ptr phasesV at *
  go_enter Try.func28, Try.ntmps28
  go_wp2_with fail
  go_region_held3 (fun w' => w'.cell? ⟨I.s, 0, none⟩ = some (.pointer (some ⟨I.gp, 0, none⟩))) (go_keep)
    (first
      | (go_at_call 31; refine (HF.out _).mono ?_; rintro e w2 ⟨rfl, t2⟩; have T2 := hide ((Turned.refl [] w).drew.trans t2); have i0 := HC.out _ T2.out; clear t2)
      | (go_at_call 30; refine (HG.out _ T2.out).mono ?_; rintro e w3 ⟨rfl, rfl⟩)
      | (go_at_call 39; refine (HD.out _ T2.out).mono ?_; rintro e w4 ⟨rfl, h4, t4⟩; have H4 := hide h4; have T4 := hide (T2.out.mono (T := I.hot) (fun _ hm => by simp at hm) |>.trans t4); have i0 := H4.out.c0; clear h4 t4))
  clear HF HG HD HC c0 hix T2 i0
  cases fl with
  | true =>
    have HE2 := hide (show S' = S1 by rw [HE.out]; rfl)
    go_wp2_with fail
    first | refine bodyPost_end (results_none rfl _ _ _) rfl ?_ | refine bodyPost_ret (results_none rfl _ _ _) rfl ?_
    exact ⟨rfl, by rw [HE2.out]; exact H4.out, T4.out⟩
  | false =>
    have HE2 := hide (show S' = S1.arrive k by rw [HE.out]; rfl)
    have i0 := H4.out.c0
    have HWX := hide (show S1.wk[k]? = some (S1.wk.getD k ⟨0, 0, 0⟩) by
      have h1 := HK.out.2.2.2
      have h2 := HL.out
      rw [List.getD_eq_getElem?_getD, List.getElem?_eq_getElem (by omega)]; rfl)
    have n0 := H4.out.w0 HB.out HWX.out
    have HA := hide (fun w' (t : Turned [] w4 w') => sarrive_any w' I P S1 (H4.out.next t) k (by rw [HK.out.1, HK.out.2.1]; obtain ⟨a, h1, h2, -⟩ := HFA.out; exact ⟨a, h1, h2⟩) (by rw [HK.out.2.2.1, hph]; omega))
    unfold ptr at HA
    go_wp2_with fail
    go_region_held3 (fun w' => w'.cell? ⟨I.s, 0, none⟩ = some (.pointer (some ⟨I.gp, 0, none⟩)) ∧ w'.cell? ⟨b, 0, none⟩ = some (.int .i64 (k : Int))) (go_keep)
      (first
        | (go_at_call 36; refine (HA.out _ (Turned.refl [] w4).drew).mono ?_; rintro e w5 ⟨rfl, h5, t5⟩; have H5 := hide h5; have T5 := hide (T4.out.drew.trans t5); have j0 := H5.out.c0; have j1 := H5.out.w0 HB.out HWX.out; clear h5 t5))
    clear HA i0 n0 j0 j1 T4
    have HE3 := hide (show S1.arrive k = if S1.came + 1 = S1.ws.length then { S1 with ws := swp S1.ws (idxI S1.ws k).toNat S1.came k, came := 0, ph := S1.ph + 1, cnt := 0 } else { S1 with ws := swp S1.ws (idxI S1.ws k).toNat S1.came k, came := S1.came + 1 } from rfl)
    by_cases hl : S1.came + 1 = S1.ws.length
    · rw [if_pos hl, if_pos hl] at H5
      rw [if_pos hl] at HE3
      rw [decide_eq_true hl]
      have c1 := H5.out.c1
      have HR := hide (sreset_sums w5 I P _ H5.out)
      unfold ptr at HR
      go_wp2_with fail
      refine HR.out.mono ?_
      rintro e w6 ⟨rfl, h6, t6⟩
      have H6 := hide h6
      have T6 := hide (T5.out.trans t6)
      clear h6 t6 HR H5
      go_wp2_with fail
      first | refine bodyPost_end (results_none rfl _ _ _) rfl ?_ | refine bodyPost_ret (results_none rfl _ _ _) rfl ?_
      exact ⟨rfl, by rw [HE2.out, HE3.out]; exact H6.out, T6.out⟩
    · rw [if_neg hl, if_neg hl] at H5
      rw [if_neg hl] at HE3
      rw [decide_eq_false hl]
      go_wp2_with fail
      first | refine bodyPost_end (results_none rfl _ _ _) rfl ?_ | refine bodyPost_ret (results_none rfl _ _ _) rfl ?_
      exact ⟨rfl, by rw [HE2.out, HE3.out]; exact H5.out, T5.out⟩

end Go.Proofs.Ytdjeilombaclmaa
