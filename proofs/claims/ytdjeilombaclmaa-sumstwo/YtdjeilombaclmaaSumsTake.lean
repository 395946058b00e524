/-
  The phases' own steps: take, addValue, addBlock, tellValue.
-/
import Derived.Test.YtdjeilombaclmaaSumsWalks
namespace Go.Proofs.Ytdjeilombaclmaa
open Go.RowKit
set_option linter.unusedVariables false

theorem Sm.asked {w w1 : World} {I : SIds} {P : SP} {S : SS} (h : Sm w I P S) (t1 : Turned [I.sp, I.sq] w w1) (h1 : Sh w1 I.sa I.sp I.sq (((S.cnt : Int) :: I.tl).set 0 ((S.cnt : Int) + 1)) ((S.acc : Int) + 1) 0 P.nb) : Sm w1 I P { S with cnt := S.cnt + 1, acc := S.acc + 1 } :=
  h.shared (t1.mono (by simp)) h1
theorem hot_sub {I : SIds} {k b : Nat} (hb : I.wk[k]? = some b) : b ∈ I.hot := by simp [SIds.hot, mem_wk hb]

set_option maxRecDepth 100000 in
theorem stake_any (w : World) (I : SIds) (P : SP) (S : SS) (h : Sm w I P S) (hP : P.ok) (k b : Nat) (W : SW) (hb : I.wk[k]? = some b) (hW : S.wk[k]? = some W) (hc : S.cnt < 100000000) (ha : S.acc < 100000000) :
    Calls Try.prog 45 #[ptr I.s, ptr b] w fun e w' => e = .returned (.bool (S.took P)) ∧ Sm w' I P (S.take P k) ∧ Turned I.hot w w' := by
  have HN := hide (snext_any w I.sa I.sp I.sq _ _ 0 _ (S.cnt : Int) h.share rfl (by omega) (by omega))
  have H := hide h
  have c1 := h.c1
  have HB := hide hb
  have HW := hide hW
  have hnb := hP.nb
  have hsz := hP.sz2
  have hlen := hP.len
  clear h hb hW
  by_cases hlt : S.cnt < P.nb
  · rw [if_pos (by omega), decide_eq_true (by omega)] at HN
    have HE := hide (show S.take P k = { S with cnt := S.cnt + 1, acc := S.acc + 1, wk := S.wk.set k ⟨S.cnt, S.cnt * P.size, P.fin S.cnt⟩ } by simp [SS.take, hlt])
    have HT := hide (show S.took P = true by simp [SS.took, hlt])
    generalize S.take P k = S' at *
    generalize S.took P = bt at *
    obtain rfl : bt = true := HT.out
    unfold ptr at *
    go_enter Try.func45, Try.ntmps45
    go_wp2_with fail
    refine HN.out.mono ?_
    rintro e w1 ⟨rfl, h1, t1⟩
    have H1 := hide (H.out.asked t1 h1)
    have T1 := hide (show Turned I.hot w w1 from t1.mono (by simp [SIds.hot]))
    clear h1 t1 HN H c1
    have c4 := H1.out.c4
    have c3 := H1.out.c3
    have x1 := H1.out.w1 HB.out HW.out
    have x2 := H1.out.w2 HB.out HW.out
    have x3 := H1.out.w3 HB.out HW.out
    have f1 := H1.out.wf HB.out HW.out 1
    have f2 := H1.out.wf HB.out HW.out 2
    have f3 := H1.out.wf HB.out HW.out 3
    have hm : S.cnt * P.size ≤ 65536 * 65536 := Nat.mul_le_mul (by omega) hsz
    have H2 := hide ((H1.out.wput HB.out HW.out (V := ⟨S.cnt, W.pos, W.lim⟩) 1 (.int .i64 (S.cnt : Int)) rfl).wput HB.out (set_get HW.out) (V := ⟨S.cnt, S.cnt * P.size, W.lim⟩) 2 (.int .i64 ((S.cnt : Int) * (P.size : Int))) rfl)
    have T2 := hide ((T1.out.setCell (p := ⟨b, 1, none⟩) (.inl (hot_sub HB.out)) (.int .i64 (S.cnt : Int))).setCell (p := ⟨b, 2, none⟩) (.inl (hot_sub HB.out)) (.int .i64 ((S.cnt : Int) * (P.size : Int))))
    go_wp2_with fail
    generalize ((w1.setCell ⟨b, 1, none⟩ (.int .i64 (S.cnt : Int))).setCell ⟨b, 2, none⟩ (.int .i64 ((S.cnt : Int) * (P.size : Int)))) = w2 at *
    clear H1 T1 c4 c3 x1 x2 x3 f1 f2 f3
    have HW2 := hide (show ((S.wk.set k ⟨S.cnt, W.pos, W.lim⟩).set k ⟨S.cnt, S.cnt * P.size, W.lim⟩)[k]? = some ⟨S.cnt, S.cnt * P.size, W.lim⟩ from set_get (set_get HW.out))
    have c4 := H2.out.c4
    have c3 := H2.out.c3
    have x2 := H2.out.w2 HB.out HW2.out
    have x3 := H2.out.w3 HB.out HW2.out
    have f3 := H2.out.wf HB.out HW2.out 3
    have hmi : (P.fin S.cnt : Int) = min (((S.cnt * P.size : Nat) : Int) + (P.size : Int)) (P.len : Int) := by unfold SP.fin; omega
    have H3 := hide (fun v (hv : v = ((P.fin S.cnt : Nat) : Int)) => show Sm (w2.setCell ⟨b, 3, none⟩ (.int .i64 v)) I P S' from by
      have h3 := H2.out.wput HB.out HW2.out (V := ⟨S.cnt, S.cnt * P.size, P.fin S.cnt⟩) 3 (.int .i64 ((P.fin S.cnt : Nat) : Int)) rfl
      simp only [List.set_set] at h3
      rw [HE.out, hv]
      exact h3)
    have T3 := hide (fun v => T2.out.setCell (p := ⟨b, 3, none⟩) (.inl (hot_sub HB.out)) (.int .i64 v))
    simp only at c4 c3 x2 x3
    generalize S.cnt * P.size = m at *
    have HM := hide hmi
    clear H2 T2 hmi
    go_region
    all_goals go_wp2_with fail
    all_goals
      go_ret
      exact ⟨rfl, (H3.out _ (by have := HM.out; omega)).next (Turned.refl [] _).drew, (T3.out _).drew⟩
  · rw [if_neg (by omega), decide_eq_false (by omega)] at HN
    have HE := hide (show S.take P k = { S with cnt := S.cnt + 1, acc := S.acc + 1 } by simp [SS.take, hlt])
    have HT := hide (show S.took P = false by simp [SS.took, hlt])
    generalize S.take P k = S' at *
    generalize S.took P = bt at *
    obtain rfl : bt = false := HT.out
    unfold ptr at *
    go_enter Try.func45, Try.ntmps45
    go_wp2_with fail
    refine HN.out.mono ?_
    rintro e w1 ⟨rfl, h1, t1⟩
    have H1 := hide (H.out.asked t1 h1)
    have T1 := hide (show Turned I.hot w w1 from t1.mono (by simp [SIds.hot]))
    clear h1 t1 HN H c1
    go_wp2_with fail
    go_ret
    exact ⟨rfl, by rw [HE.out]; exact H1.out, T1.out⟩



set_option maxRecDepth 100000 in
theorem saddv_any (w : World) (I : SIds) (P : SP) (S : SS) (h : Sm w I P S) (hP : P.ok) (k b : Nat) (W : SW) (hb : I.wk[k]? = some b) (hW : S.wk[k]? = some W) (hc : S.cnt < 100000000) (ha : S.acc < 100000000) (hbu : W.pos = W.lim ∨ W.pos < W.lim ∧ W.blk < P.nb ∧ W.lim ≤ P.len) :
    Calls Try.prog 37 #[ptr I.s, ptr b] w fun e w' => e = .returned (.bool (if W.pos = W.lim then S.took P else true)) ∧ Sm w' I P (if W.pos = W.lim then S.take P k else S.addV P k W) ∧ Turned I.hot w w' := by
  have H := hide h
  have HB := hide hb
  have HW := hide hW
  have x1 := h.w1 hb hW
  have x2 := h.w2 hb hW
  have x3 := h.w3 hb hW
  have f2 := h.wf hb hW 2
  have c3 := h.c3
  have c5 := h.c5
  have hnb := hP.nb
  have hlen := hP.len
  by_cases he : W.pos = W.lim
  · rw [if_pos he, if_pos he]
    have HT := hide (fun m => stake_any (w.drewN m) I P S (h.next ((Turned.refl _ _).drewN m)) hP k b W hb hW hc ha)
    rw [he] at x2
    clear h hb hW
    unfold ptr at *
    go_enter Try.func37, Try.ntmps37
    go_wp2_with fail
    go_quiet (fail)
    go_wp2_with fail
    refine (HT.out _).mono ?_
    rintro e w1 ⟨rfl, h1, t1⟩
    have H1 := hide h1
    have T1 := hide ((Turned.refl I.hot w).drewN nq |>.trans t1)
    clear h1 t1 HT H
    go_wp2_with fail
    go_ret
    exact ⟨rfl, H1.out, T1.out⟩
  · rw [if_neg he, if_neg he]
    obtain ⟨hlt, hblk, hlim⟩ := hbu.resolve_left he
    have hbl := getD_some (show W.blk < S.bl.length by rw [h.bll]; exact hblk)
    have hvl := getD_some (show W.pos < P.vals.length by have : P.len = P.vals.length := rfl; omega)
    obtain ⟨g, off, hva, hv⟩ := h.vals.cell _ _ hvl
    have y1 := h.bc hbl
    have fb := h.bf W.blk
    have HG := hide (show g ∉ I.hot from h.vnew _ hva)
    rw [hva] at c3
    have HE := hide (show S.addV P k W = { S with bl := S.bl.set W.blk (wrap64 (S.bl.getD W.blk 0 + P.vals.getD W.pos 0)), wk := S.wk.set k ⟨W.blk, W.pos + 1, W.lim⟩ } from rfl)
    have HBP := hide (fun m => (h.next ((Turned.refl [] w).drewN m)).bput W.blk (wrap64 (S.bl.getD W.blk 0 + P.vals.getD W.pos 0)))
    clear h hb hW hbl hvl hbu hva H
    generalize S.addV P k W = S' at *
    generalize S.bl.getD W.blk 0 = u at *
    generalize P.vals.getD W.pos 0 = v at *
    unfold ptr at *
    go_enter Try.func37, Try.ntmps37
    go_wp2_with fail
    go_quiet (fail)
    go_wp2_with fail
    go_region
    have H1 := hide (HBP.out (nq + 1))
    have T1 := hide (((Turned.refl I.hot w).drewN (nq + 1)).setCell (p := ⟨I.bb, W.blk, none⟩) (.inl (by simp [SIds.hot])) (.int .i64 (wrap64 (u + v))))
    generalize (w.drewN (nq + 1)).setCell ⟨I.bb, W.blk, none⟩ (.int .i64 (wrap64 (u + v))) = w1 at *
    clear HBP x1 x2 x3 f2 c5 c3 fb y1 hv
    have x2 := H1.out.w2 HB.out HW.out
    have f2 := H1.out.wf HB.out HW.out 2
    have H2 := hide (H1.out.wput HB.out HW.out (V := ⟨W.blk, W.pos + 1, W.lim⟩) 2 (.int .i64 ((W.pos : Int) + 1)) rfl)
    have T2 := hide (T1.out.setCell (p := ⟨b, 2, none⟩) (.inl (hot_sub HB.out)) (.int .i64 ((W.pos : Int) + 1)))
    go_wp2_with fail
    go_ret
    exact ⟨rfl, by rw [HE.out]; exact H2.out, T2.out⟩

set_option maxRecDepth 100000 in
theorem stelv_any (w : World) (I : SIds) (P : SP) (S : SS) (h : Sm w I P S) (hP : P.ok) (k b : Nat) (W : SW) (hb : I.wk[k]? = some b) (hW : S.wk[k]? = some W) (hc : S.cnt < 100000000) (ha : S.acc < 100000000) (hbu : W.pos = W.lim ∨ W.pos < W.lim ∧ W.blk < P.nb ∧ W.lim ≤ P.len) :
    Calls Try.prog 39 #[ptr I.s, ptr b] w fun e w' => e = .returned (.bool (if W.pos = W.lim then S.took P else true)) ∧ Sm w' I P (if W.pos = W.lim then S.take P k else S.telV P k W) ∧ Turned I.hot w w' := by
  have H := hide h
  have HB := hide hb
  have HW := hide hW
  have x1 := h.w1 hb hW
  have x2 := h.w2 hb hW
  have x3 := h.w3 hb hW
  have f2 := h.wf hb hW 2
  have c8 := h.c8
  have c5 := h.c5
  have hnb := hP.nb
  have hlen := hP.len
  by_cases he : W.pos = W.lim
  · rw [if_pos he, if_pos he]
    have HT := hide (fun m => stake_any (w.drewN m) I P S (h.next ((Turned.refl _ _).drewN m)) hP k b W hb hW hc ha)
    rw [he] at x2
    clear h hb hW
    unfold ptr at *
    go_enter Try.func39, Try.ntmps39
    go_wp2_with fail
    go_quiet (fail)
    go_wp2_with fail
    refine (HT.out _).mono ?_
    rintro e w1 ⟨rfl, h1, t1⟩
    have H1 := hide h1
    have T1 := hide ((Turned.refl I.hot w).drewN nq |>.trans t1)
    clear h1 t1 HT H
    go_wp2_with fail
    go_ret
    exact ⟨rfl, H1.out, T1.out⟩
  · rw [if_neg he, if_neg he]
    obtain ⟨hlt, hblk, hlim⟩ := hbu.resolve_left he
    have hbl := getD_some (show W.blk < S.bl.length by rw [h.bll]; exact hblk)
    have hvl := getD_some (show W.pos < P.vals.length by have : P.len = P.vals.length := rfl; omega)
    have hal := getD_some (show W.pos < S.ah.length by rw [h.ahl]; omega)
    have y1 := h.bc hbl
    have y2 := h.ac hal
    have fa := h.af W.pos
    have HE := hide (show S.telV P k W = { S with ah := S.ah.set W.pos (S.bl.getD W.blk 0), bl := S.bl.set W.blk (wrap64 (S.bl.getD W.blk 0 + P.vals.getD W.pos 0)), wk := S.wk.set k ⟨W.blk, W.pos + 1, W.lim⟩ } from rfl)
    have HAP := hide (fun m => (h.next ((Turned.refl [] w).drewN m)).aput W.pos (S.bl.getD W.blk 0))
    have HBL := hide hbl
    have HVL := hide hvl
    clear h hb hW hbl hvl hal hbu H
    generalize S.telV P k W = S' at *
    generalize S.bl.getD W.blk 0 = u at *
    generalize P.vals.getD W.pos 0 = v at *
    unfold ptr at *
    go_enter Try.func39, Try.ntmps39
    go_wp2_with fail
    go_quiet (fail)
    go_wp2_with fail
    go_region
    have H1 := hide (HAP.out (nq + 1))
    have T1 := hide (((Turned.refl I.hot w).drewN (nq + 1)).setCell (p := ⟨I.ab, W.pos, none⟩) (.inl (by simp [SIds.hot])) (.int .i64 u))
    generalize (w.drewN (nq + 1)).setCell ⟨I.ab, W.pos, none⟩ (.int .i64 u) = w1 at *
    clear HAP x1 x2 x3 f2 c5 c8 fa y1 y2
    have x1 := H1.out.w1 HB.out HW.out
    have x2 := H1.out.w2 HB.out HW.out
    have c3 := H1.out.c3
    have c5 := H1.out.c5
    obtain ⟨g, off, hva, hv⟩ := H1.out.vals.cell _ _ HVL.out
    rw [hva] at c3
    clear hva
    have y1 := H1.out.bc HBL.out
    have fb := H1.out.bf W.blk
    have HBP := hide ((H1.out.bput W.blk (wrap64 (u + v))).next (Turned.refl [] _).drew)
    have TBP := hide (T1.out.setCell (p := ⟨I.bb, W.blk, none⟩) (.inl (by simp [SIds.hot])) (.int .i64 (wrap64 (u + v)))).drew
    clear H1 T1
    go_wp2_with fail
    go_region
    generalize (w1.setCell ⟨I.bb, W.blk, none⟩ (.int .i64 (wrap64 (u + v)))).drew = w2 at *
    clear x1 x2 c3 c5 hv y1 fb
    have x2 := HBP.out.w2 HB.out HW.out
    have f2 := HBP.out.wf HB.out HW.out 2
    have H2 := hide (HBP.out.wput HB.out HW.out (V := ⟨W.blk, W.pos + 1, W.lim⟩) 2 (.int .i64 ((W.pos : Int) + 1)) rfl)
    have T2 := hide (TBP.out.setCell (p := ⟨b, 2, none⟩) (.inl (hot_sub HB.out)) (.int .i64 ((W.pos : Int) + 1)))
    go_wp2_with fail
    go_ret
    exact ⟨rfl, by rw [HE.out]; exact H2.out, T2.out⟩

end Go.Proofs.Ytdjeilombaclmaa
