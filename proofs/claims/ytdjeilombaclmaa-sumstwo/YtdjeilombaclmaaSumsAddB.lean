/-
  The middle phase's own step: addBlock.
-/
import Derived.Test.YtdjeilombaclmaaSumsTake
namespace Go.Proofs.Ytdjeilombaclmaa
open Go.RowKit
set_option linter.unusedVariables false

set_option maxRecDepth 100000 in
theorem saddb_any (w : World) (I : SIds) (P : SP) (S : SS) (h : Sm w I P S) (hP : P.ok) (k b : Nat) (W : SW) (hb : I.wk[k]? = some b) (hW : S.wk[k]? = some W) (had : S.added ≤ P.nb) :
    Calls Try.prog 38 #[ptr I.s, ptr b] w fun e w' => e = .returned (.bool (decide (k = 0 ∧ S.added < P.nb))) ∧ Sm w' I P (if k = 0 ∧ S.added < P.nb then S.addB else S) ∧ Turned I.hot w w' := by
  have H := hide h
  have x0 := h.w0 hb hW
  have c5 := h.c5
  have c6 := h.c6
  have c7 := h.c7
  have hnb := hP.nb
  by_cases hk : k = 0
  · by_cases ha : S.added < P.nb
    · rw [if_pos ⟨hk, ha⟩, decide_eq_true ⟨hk, ha⟩]
      subst hk
      have hbl := getD_some (show S.added < S.bl.length by rw [h.bll]; exact ha)
      have y1 := h.bc hbl
      have HE := hide (show S.addB = { S with bl := S.bl.set S.added S.tot, tot := wrap64 (S.tot + S.bl.getD S.added 0), added := S.added + 1 } from rfl)
      have HBL := hide hbl
      clear h hb hW hbl
      generalize S.addB = S' at *
      generalize S.bl.getD S.added 0 = u at *
      have hne : ¬ (S.added : Int) = (P.nb : Int) := by omega
      unfold ptr at *
      go_enter Try.func38, Try.ntmps38
      go_wp2_with fail
      go_quiet (fail)
      have H0 := hide (H.out.next ((Turned.refl [] w).drewN nq))
      have T0 := hide ((Turned.refl I.hot w).drewN nq)
      generalize w.drewN nq = w0 at *
      clear x0 c5 c6 c7 y1 H
      have c5 := H0.out.c5
      have c6 := H0.out.c6
      have c7 := H0.out.c7
      have y1 := H0.out.bc HBL.out
      go_wp2_with fail
      go_quiet (fail)
      have H1 := hide (H0.out.next ((Turned.refl [] w0).drewN nq))
      have T1 := hide (T0.out.drewN nq)
      generalize w0.drewN nq = w1 at *
      clear H0 T0
      clear c5 c6 c7 y1
      have c5 := H1.out.c5
      have c6 := H1.out.c6
      have c7 := H1.out.c7
      have y1 := H1.out.bc HBL.out
      have fb := H1.out.bf S.added
      have H2 := hide ((H1.out.bput S.added S.tot).next (Turned.refl [] _).drew)
      have T2 := hide (T1.out.setCell (p := ⟨I.bb, S.added, none⟩) (.inl (by simp [SIds.hot])) (.int .i64 S.tot)).drew
      clear H1 T1
      go_wp2_with fail
      go_region
      generalize (w1.setCell ⟨I.bb, S.added, none⟩ (.int .i64 S.tot)).drew = w2 at *
      clear c5 c6 c7 y1 fb
      have c6 := H2.out.c6
      have c7 := H2.out.c7
      have f7 := H2.out.f 7
      have f6 := H2.out.f 6
      have H3 := hide ((H2.out.put 7 (.int .i64 (wrap64 (S.tot + u))) (added := S.added) (tot := wrap64 (S.tot + u)) rfl).put 6 (.int .i64 ((S.added : Int) + 1)) (added := S.added + 1) (tot := wrap64 (S.tot + u)) rfl)
      have T3 := hide ((T2.out.setCell (p := ⟨I.s, 7, none⟩) (.inl (by simp [SIds.hot])) (.int .i64 (wrap64 (S.tot + u)))).setCell (p := ⟨I.s, 6, none⟩) (.inl (by simp [SIds.hot])) (.int .i64 ((S.added : Int) + 1)))
      clear H2 T2
      simp only at c6 c7
      go_wp2_with fail
      go_ret
      exact ⟨rfl, by rw [HE.out]; exact H3.out, T3.out⟩
    · rw [if_neg (by omega), decide_eq_false (by omega)]
      subst hk
      have he : S.added = P.nb := by omega
      rw [he] at c6
      clear h hb hW
      unfold ptr at *
      go_enter Try.func38, Try.ntmps38
      go_wp2_with fail
      go_quiet (fail)
      go_wp2_with fail
      go_ret
      exact ⟨rfl, H.out.next ((Turned.refl _ _).drewN _), (Turned.refl _ _).drewN _⟩
  · rw [if_neg (by omega), decide_eq_false (by omega)]
    have hk2 : ¬ (k : Int) = 0 := by omega
    have hkl : k < 100000 := by
      have h1 := (List.getElem?_eq_some_iff.1 hb).1
      have h2 := h.wlen.1
      have h3 := hP.n
      omega
    clear h hb hW
    unfold ptr at *
    go_enter Try.func38, Try.ntmps38
    go_wp2_with fail
    go_quiet (fail)
    go_wp2_with fail
    go_ret
    exact ⟨rfl, H.out.next ((Turned.refl _ _).drewN _), (Turned.refl _ _).drewN _⟩
end Go.Proofs.Ytdjeilombaclmaa
