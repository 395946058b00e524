/-
  A worker's step.
-/
import Derived.Test.YtdjeilombaclmaaSumsAddB
namespace Go.Proofs.Ytdjeilombaclmaa
open Go.RowKit
set_option linter.unusedVariables false

/-- What is kept by a phase's step. -/
theorem act_keeps (P : SP) (S : SS) (k : Nat) (W : SW) : (S.act P k W).1.ws = S.ws ∧ (S.act P k W).1.came = S.came ∧ (S.act P k W).1.ph = S.ph ∧ (S.act P k W).1.wk.length = S.wk.length := by
  unfold SS.act SS.take SS.addB SS.addV SS.telV
  split
  · split <;> exact ⟨rfl, rfl, rfl, rfl⟩
  · split
    · split <;> exact ⟨rfl, rfl, rfl, by simp⟩
    · split <;> exact ⟨rfl, rfl, rfl, by simp⟩

theorem busy_of {P : SP} {S : SS} (hI : Inv P S) (hP : P.ok) (h3 : S.ph < 3) {k : Nat} {W : SW} (hW : S.wk[k]? = some W) : W.pos = W.lim ∨ W.pos < W.lim ∧ W.blk < P.nb ∧ W.lim ≤ P.len := by
  have hf : ∀ b, P.fin b ≤ P.len := fun b => by unfold SP.fin; omega
  cases hI.how with
  | first ph pr sh => rcases sh.busy k W hW with h | ⟨h1, h2, _, h4, _⟩; exact .inl h; exact .inr ⟨h1, h2, by rw [h4]; exact hf _⟩
  | mid ph id => exact .inl (id k W hW)
  | last ph pr sh => rcases sh.busy k W hW with h | ⟨h1, h2, _, h4, _⟩; exact .inl h; exact .inr ⟨h1, h2, by rw [h4]; exact hf _⟩
  | over ph => omega
theorem cnt_of {P : SP} {S : SS} (hI : Inv P S) (hP : P.ok) : S.cnt < 100000000 := by
  have h1 := hI.cb
  have h2 := hI.gi.lt
  have h3 := hP.nb
  have h4 := hP.n
  omega
theorem added_of {P : SP} {S : SS} (hI : Inv P S) (h1 : S.ph = 1) : S.added ≤ P.nb := by
  cases hI.how with
  | first ph => omega
  | mid ph id ct md => exact md.1
  | last ph => omega
  | over ph => omega

theorem act0 (w : World) (I : SIds) (P : SP) (S : SS) (h : Sm w I P S) (hP : P.ok) (hI : Inv P S) (k b : Nat) (W : SW) (hb : I.wk[k]? = some b) (hW : S.wk[k]? = some W) (ha : S.acc < 100000000) (hph : S.ph = 0) :
    Calls Try.prog 37 #[ptr I.s, ptr b] w fun e w' => e = .returned (.bool (S.act P k W).2) ∧ Sm w' I P (S.act P k W).1 ∧ Turned I.hot w w' := by
  have h1 := saddv_any w I P S h hP k b W hb hW (cnt_of hI hP) ha (busy_of hI hP (by omega) hW)
  have e : S.act P k W = ((if W.pos = W.lim then S.take P k else S.addV P k W), (if W.pos = W.lim then S.took P else true)) := by
    unfold SS.act; rw [if_neg (by omega)]; split
    · rfl
    · first | rfl | rw [if_pos hph]
  rw [e]
  exact h1
theorem act2 (w : World) (I : SIds) (P : SP) (S : SS) (h : Sm w I P S) (hP : P.ok) (hI : Inv P S) (k b : Nat) (W : SW) (hb : I.wk[k]? = some b) (hW : S.wk[k]? = some W) (ha : S.acc < 100000000) (hph : S.ph = 2) :
    Calls Try.prog 39 #[ptr I.s, ptr b] w fun e w' => e = .returned (.bool (S.act P k W).2) ∧ Sm w' I P (S.act P k W).1 ∧ Turned I.hot w w' := by
  have h1 := stelv_any w I P S h hP k b W hb hW (cnt_of hI hP) ha (busy_of hI hP (by omega) hW)
  have e : S.act P k W = ((if W.pos = W.lim then S.take P k else S.telV P k W), (if W.pos = W.lim then S.took P else true)) := by
    unfold SS.act; rw [if_neg (by omega)]; split
    · rfl
    · first | rfl | rw [if_neg (by omega)]
  rw [e]
  exact h1
theorem act1 (w : World) (I : SIds) (P : SP) (S : SS) (h : Sm w I P S) (hP : P.ok) (hI : Inv P S) (k b : Nat) (W : SW) (hb : I.wk[k]? = some b) (hW : S.wk[k]? = some W) (ha : S.acc < 100000000) (hph : S.ph = 1) :
    Calls Try.prog 38 #[ptr I.s, ptr b] w fun e w' => e = .returned (.bool (S.act P k W).2) ∧ Sm w' I P (S.act P k W).1 ∧ Turned I.hot w w' := by
  have h1 := saddb_any w I P S h hP k b W hb hW (added_of hI hph)
  have e : S.act P k W = ((if k = 0 ∧ S.added < P.nb then S.addB else S), decide (k = 0 ∧ S.added < P.nb)) := by
    unfold SS.act; rw [if_pos hph]; split
    · rename_i hc; rw [decide_eq_true hc]
    · rename_i hc; rw [decide_eq_false hc]
  rw [e]
  exact h1

/-- Arrive, as the sums call it. -/
theorem sarrive_any (w : World) (I : SIds) (P : SP) (S : SS) (h : Sm w I P S) (k : Nat) (hf : ∃ a : Nat, idxI S.ws k = a ∧ S.came ≤ a) (hph : S.ph < 3) :
    Calls Try.prog 36 #[ptr I.gp, .int .i64 (k : Int)] w fun e w' => e = .returned (.tuple #[.bool (decide (S.came + 1 = S.ws.length)), .int .i64 0]) ∧ Sm w' I P { S with ws := swp S.ws (idxI S.ws k).toNat S.came k, came := if S.came + 1 = S.ws.length then 0 else S.came + 1, ph := if S.came + 1 = S.ws.length then S.ph + 1 else S.ph } ∧ Turned I.hot w w' := by
  obtain ⟨a, ha, hca⟩ := hf
  refine (garrive_ok w I.gp I.gq S.ws S.came S.ph k h.gang a ha hca (by omega)).mono ?_
  rintro e w' ⟨rfl, h1, t1⟩
  refine ⟨rfl, h.ganged t1 ?_, t1.mono (by simp [SIds.hot])⟩
  rw [ha, Int.toNat_natCast]
  split
  · rename_i hc; rw [if_pos hc, if_pos hc] at h1; exact h1
  · rename_i hc; rw [if_neg hc, if_neg hc] at h1; exact h1
/-- Reset, as the sums call it. -/
theorem sreset_sums (w : World) (I : SIds) (P : SP) (S : SS) (h : Sm w I P S) :
    Calls Try.prog 33 #[ptr I.sa, .slice none 0 0] w fun e w' => e = .returned (.tuple #[]) ∧ Sm w' I P { S with cnt := 0 } ∧ Turned I.hot w w' := by
  refine (sreset_any w I.sa I.sp I.sq _ _ 0 _ h.share none 0 0 [] (IRd.nil _ _) (by omega) rfl).mono ?_
  rintro e w' ⟨rfl, h1, t1⟩
  exact ⟨rfl, h.shared t1 h1, t1.mono (by simp [SIds.hot])⟩
end Go.Proofs.Ytdjeilombaclmaa
