/-
  keep, as it is deferred.
-/
import Derived.Test.YtlbcbphkgaoliabMonKeep
import Derived.Defers
namespace Go.Proofs.Ytlbcbphkgaoliab
open Go.RowKit
set_option linter.unusedVariables false
set_option linter.unusedSimpArgs false
section
variable {B : Nat} {w w' : World} {b p n : Nat} {x : Int} {m m' : Mon} {g : Int → Option Mon} {S : Int → Bool}
set_option maxRecDepth 100000 in
/-- keep. -/
theorem keep_d (u : FrameMode) (hx : I64 x) (hn : n ≤ 1000000) (h : Foc B w p x b m n g S) : CallsD Try.prog 31 #[.pointer (some ⟨p, 0, none⟩), .int .i64 x, .pointer (some ⟨b, 0, none⟩)] u w fun e u' w' => u' = u ∧ (e = .returned (.tuple #[]) ∧ Tb B w' p (n + 1) (putM g x m) S ∧ Bel B w w') := by
  obtain ⟨mo, so, f, M, h1, h2, h3, h4, h5⟩ := h.ex
  have HFk := hide (forsaken_any h2)
  have c0 : w.cell? ⟨p, 0, none⟩ = some (.map mo) := by rw [cell_of_heap h1.row]; rfl
  have f0 : w.frozen? ⟨p, 0, none⟩ = false := by simp [World.frozen?, h1.row]
  have hlt := lt_of_heap h1.row
  have hnF : ∀ (k : Nat) es cl, w.heap[k]? = some (.map es cl) → k ≠ p := fun k es cl e1 e2 => by
    subst e2
    rw [h1.row] at e1; cases e1
  cases hg : m.gone
  · rw [hg] at HFk
    have hd0 : ∀ w1 : World, (∀ i, w1.cell? ⟨b, i, none⟩ = w.cell? ⟨b, i, none⟩) → w1.cell? ⟨b, 0, none⟩ = some (.int .i64 M.h) ∧ w1.cell? ⟨b, 1, none⟩ = some (.int .i64 M.t) ∧ w1.cell? ⟨b, 2, none⟩ = some M.q.val ∧ w1.cell? ⟨b, 3, none⟩ = some M.a.val := fun w1 hw => by
      refine ⟨?_, ?_, ?_, ?_⟩ <;> (rw [hw, h2.c]; rfl)
    cases hmo : mo with
    | some k =>
      subst hmo
      obtain ⟨w', hrun, k1, k2, k3⟩ := MM.update (w := w.drew) (MM.block (w' := w.drew) h1.mm rfl) (by unfold maxLen; omega) hx M
      have k2' : Turned [k] w w' := ⟨k2.os, k2.tape, k2.output, k2.size, k2.block⟩
      obtain ⟨es, cl, hk⟩ := MM.isMap h1.mm
      have hkp := hnF k es cl hk
      have hT : Tv w' p (some k) so (n + 1) (fun y => if y = x then (if m.gone then none else some M) else f y) S := by
        rw [hg]
        exact ⟨k2'.at h1.row (by simp; exact fun e => hkp e.symm), k1, (h1.nm.off k2' (fun b hb => by simp; exact fun e => h1.ne k rfl (by rw [hb, e]))).mono (by omega), h1.ne⟩
      have HF := hide (tb_put h1 h2 h3 h4 h5 hT k2' (fun j hj => by simp at hj; subst hj; exact .inl ⟨h4.2.1 j rfl, .inr ⟨es, cl, hk⟩⟩) h4.2.1)
      obtain ⟨d0, d1, d2, d3⟩ := hd0 w.drew (fun i => rfl)
      have hrun' : (Instr.mapUpdate 39 (.map (some k)) (.int .i64 x) (.agg #[.int .i64 M.h, .int .i64 M.t, M.q.val, M.a.val])).run Try.prog w.drew = .ok () w' := hrun
      have heq := eq_some17m k w
      have e0 : w.drew.cell? ⟨p, 0, none⟩ = some (.map (some k)) := c0
      clear h h1 h2 h3 h4 h5 k1 k2 k2' k3 hT hd0 hnF hk hkp hrun
      go_enter_d Try.func31, Try.ntmps31
      go_wp2_with fail
      refine (HFk.out).mono ?_
      rintro e w1 ⟨rfl, hw1⟩
      rw [hw1]
      clear hw1 w1 HFk
      go_wp2_with fail
      go_region
      all_goals (go_wp2_with fail; first | refine bodyPost_end (results_none rfl _ _ _) rfl ?_ | refine bodyPost_ret (results_none rfl _ _ _) rfl ?_)
      all_goals exact ⟨rfl, HF.out⟩
    | none =>
      subst hmo
      obtain ⟨q, hq⟩ : ∃ q, q = w.heap.size := ⟨_, rfl⟩
      obtain ⟨w1, hw1⟩ : ∃ w1, w1 = (w.alloc (.map #[] 0)).setCell ⟨p, 0, none⟩ (.map (some q)) := ⟨_, rfl⟩
      have ta : Turned [] w (w.alloc (.map #[] 0)) := (Turned.refl _ _).alloc _
      have t1 : Turned [p] w w1 := by rw [hw1]; exact (ta.mono (by simp)).setCell (p := ⟨p, 0, none⟩) (by simp) _
      have hN : MM w1 q 0 (fun _ => none) := by
        rw [hw1, hq]
        exact MM.block (mm_made w) (Below.heap_setCell _ _ _ _ (show w.heap.size ≠ p by omega))
      obtain ⟨w', hrun, k1, k2, k3⟩ := MM.update (w := w1.drew) (MM.block (w' := w1.drew) hN rfl) (by unfold maxLen; omega) hx M
      have k2' : Turned [q] w1 w' := ⟨k2.os, k2.tape, k2.output, k2.size, k2.block⟩
      have hr1 : w1.heap[p]? = some (.cells #[.map (some q), .map so] 42) := by rw [hw1]; exact heap_setCell_at _ _ 0 _ _ _ (ta.at h1.row (by simp)) _
      have tw : Turned [p, q] w w' := (t1.mono (fun k hk => by simp at hk; simp [hk])).trans (k2'.mono (fun k hk => by simp at hk; simp [hk]))
      have hsq : ∀ b, so = some b → b ∉ [p, q] := fun b hb => by
        have := ON.ne h1.nm h1.row b hb
        subst hb
        have := NM.lt h1.nm
        simp
        omega
      have hf : (fun y => if y = x then some M else (fun _ => none) y) = (fun y => if y = x then (if m.gone then none else some M) else f y) := by
        funext y
        rw [hg, show f y = none from h1.mm y]
        rfl
      rw [hf] at k1
      have hT : Tv w' p (some q) so (n + 1) (fun y => if y = x then (if m.gone then none else some M) else f y) S :=
        ⟨k2'.at hr1 (by simp; omega), OM.mono (mo := some q) k1 (by omega), (h1.nm.off tw hsq).mono (by omega), fun b hb hc => by cases hb; exact hsq q hc (by simp)⟩
      have HF := hide (tb_put h1 h2 h3 h4 h5 hT tw (fun j hj => by simp at hj; rcases hj with rfl | rfl; exact .inl ⟨h4.1, .inl rfl⟩; exact .inr (by omega)) (fun b hb => by cases hb; have := h4.1; omega))
      have hbp : b ≠ p := fun e => by
        have := h1.row
        rw [← e, h2.row] at this
        injection this with this
        injection this with _ z
        exact absurd z (by decide)
      obtain ⟨d0, d1, d2, d3⟩ := hd0 w1.drew (fun i => by
        show w1.cell? _ = _
        rw [t1.cell (p := ⟨b, i, none⟩) (lt_of_heap h2.row) (by simpa using hbp)])
      have hrun' : (Instr.mapUpdate 39 (.map (some q)) (.int .i64 x) (.agg #[.int .i64 M.h, .int .i64 M.t, M.q.val, M.a.val])).run Try.prog w1.drew = .ok () w' := hrun
      have heq := eq_nil17m w
      have hmk := run_make17m w
      have hra := ta.at h1.row (by simp)
      have ca : (w.alloc (.map #[] 0)).cell? ⟨p, 0, none⟩ = some (.map none) := by rw [cell_of_heap hra]; rfl
      have fa : (w.alloc (.map #[] 0)).frozen? ⟨p, 0, none⟩ = false := by simp only [World.frozen?, hra]; rfl
      have e0 : w1.drew.cell? ⟨p, 0, none⟩ = some (.map (some q)) := by show w1.cell? _ = _; rw [cell_of_heap hr1]; rfl
      clear h h1 h2 h3 h4 h5 k1 k2 k2' k3 hT hd0 hnF hrun hf hsq tw hr1 hN t1 ta hbp hra hlt
      go_enter_d Try.func31, Try.ntmps31
      go_wp2_with fail
      refine (HFk.out).mono ?_
      rintro e w2 ⟨rfl, hw2⟩
      rw [hw2]
      clear hw2 w2 HFk
      go_upto_region 4 with fail
      rw [← hq, ← hw1]
      clear hq hw1 ca fa hmk
      go_wp2_with fail
      go_region
      all_goals (go_wp2_with fail; first | refine bodyPost_end (results_none rfl _ _ _) rfl ?_ | refine bodyPost_ret (results_none rfl _ _ _) rfl ?_)
      all_goals exact ⟨rfl, HF.out⟩
  · rw [hg] at HFk
    cases hmo : mo with
    | some k =>
      subst hmo
      obtain ⟨w', hrun, k1, k2, k3⟩ := MM.drop h1.mm hx 0
      obtain ⟨es, cl, hk⟩ := MM.isMap h1.mm
      have hkp := hnF k es cl hk
      have hT : Tv w' p (some k) so (n + 1) (fun y => if y = x then (if m.gone then none else some M) else f y) S := by
        rw [hg]
        exact ⟨k2.at h1.row (by simp; exact fun e => hkp e.symm), OM.mono (mo := some k) k1 (by omega), (h1.nm.off k2 (fun b hb => by simp; exact fun e => h1.ne k rfl (by rw [hb, e]))).mono (by omega), h1.ne⟩
      have HF := hide (tb_put h1 h2 h3 h4 h5 hT k2 (fun j hj => by simp at hj; subst hj; exact .inl ⟨h4.2.1 j rfl, .inr ⟨es, cl, hk⟩⟩) h4.2.1)
      clear h h1 h2 h3 h4 h5 k1 k2 k3 hT hnF hk hkp hlt
      go_enter_d Try.func31, Try.ntmps31
      go_wp2_with fail
      refine (HFk.out).mono ?_
      rintro e w1 ⟨rfl, hw1⟩
      rw [hw1]
      clear hw1 w1 HFk
      all_goals (go_wp2_with fail; first | refine bodyPost_end (results_none rfl _ _ _) rfl ?_ | refine bodyPost_ret (results_none rfl _ _ _) rfl ?_)
      all_goals exact ⟨rfl, HF.out⟩
    | none =>
      subst hmo
      have hrun := mm_drop_nil w hx 0
      have hT : Tv w p none so (n + 1) (fun y => if y = x then (if m.gone then none else some M) else f y) S := by
        rw [hg]
        exact ⟨h1.row, fun y => by simp only [if_true]; split; rfl; exact h1.mm y, h1.nm.mono (by omega), h1.ne⟩
      have HF := hide (tb_put h1 h2 h3 h4 h5 hT (Turned.refl [] w) (fun j hj => by cases hj) h4.2.1)
      clear h h1 h2 h3 h4 h5 hT hnF hlt
      go_enter_d Try.func31, Try.ntmps31
      go_wp2_with fail
      refine (HFk.out).mono ?_
      rintro e w1 ⟨rfl, hw1⟩
      rw [hw1]
      clear hw1 w1 HFk
      all_goals (go_wp2_with fail; first | refine bodyPost_end (results_none rfl _ _ _) rfl ?_ | refine bodyPost_ret (results_none rfl _ _ _) rfl ?_)
      all_goals exact ⟨rfl, HF.out⟩
end
end Go.Proofs.Ytlbcbphkgaoliab
