/-
  Who is let in (letIn), and what is kept of a monitor (keep).
-/
import Derived.Test.YtlbcbphkgaoliabMonHeld
namespace Go.Proofs.Ytlbcbphkgaoliab
open Go.RowKit
set_option linter.unusedVariables false
set_option linter.unusedSimpArgs false

/-- A delete whose run is known. -/
theorem wpList_delete_ex {w : World} {ops : Array Oper} {rest : List Oper} {o : Oper} {a : Act} {Q : Exit → Act → World → Prop} (hg : o.guard = none) (m x : Operand) (t k : TypeId) (hop : o.op = Op.call { callee := Callee.builtin Builtin.delete, args := #[m, x], argTypes := #[t, k] }) (mv xv : Value) (hm : a.eval m = mv) (hx : a.eval x = xv) (R : World → Prop)
    (hrun : ∀ ty, ∃ w', (Builtin.delete_ #[t, k] ty #[mv, xv]).run Try.prog w = .ok (.tuple #[]) w' ∧ R w') (hK : ∀ w', R w' → wpList Try.prog ops Q rest (a.put o.dst (.tuple #[])) w') : wpList Try.prog ops Q (o :: rest) a w := by
  refine wpList_plain hg fun K hK' => ?_
  obtain ⟨w', hr, h1⟩ := hrun o.type
  unfold Oper.wp
  simp [execOp, hop, resolve, invoke, builtin, hm, hx, hr, Result.andThen]
  exact hK' _ _ (hK w' h1)
section
variable {B : Nat} {w w' : World} {b p n : Nat} {x : Int} {m m' : Mon} {g : Int → Option Mon} {S : Int → Bool}
theorem Mo.uniq {M N : MV} {m k : Mon} (h : Mo w b M m) (h' : Mo w b N k) : M = N := by
  have := h.row
  rw [h'.row] at this
  injection this with this
  injection this with this
  exact MV.val_inj (by unfold MV.val; rw [this])
theorem Foc.did1 (h : Foc B w p x b m n g S) {M : MV} (hM : Mo w b M m) (hd : Did w b M m' w') : Foc B w' p x b m' n g S ∧ Bel B w w' :=
  h.did (fun N hN => by rw [hN.uniq hM]; exact hd)
theorem Foc.mo (h : Foc B w p x b m n g S) : ∃ M, Mo w b M m := by
  obtain ⟨mo, so, f, M, h1, h2, h3, h4, h5⟩ := h.ex
  exact ⟨M, h2⟩
/-- One doesn't stand any more. -/
theorem foc_drop (y : Int) (hy : I64 y) (h : Foc B w p x b m n g S) : ∃ so : Option Nat, w.cell? ⟨p, 1, none⟩ = some (.map so) ∧ ∀ ty, ∃ w', (Builtin.delete_ #[40, 3] ty #[.map so, .int .i64 y]).run Try.prog w = .ok (.tuple #[]) w' ∧ Foc B w' p x b m n g (fun z => if z = y then false else S z) ∧ Bel B w w' := by
  obtain ⟨mo, so, f, M, h1, h2, h3, h4, h5⟩ := h.ex
  refine ⟨so, by rw [cell_of_heap h1.row]; rfl, fun ty => ?_⟩
  cases hso : so with
  | none =>
    subst hso
    have hS : (fun z => if z = y then false else S z) = S := by
      funext z
      rw [show S z = false from h1.nm z]
      simp
    rw [hS]
    exact ⟨w, nm_drop_nil w hy ty, h, Bel.refl _ _⟩
  | some k =>
    subst hso
    obtain ⟨w', hrun, k1, k2, k3⟩ := NM.drop h1.nm hy ty
    have hkp := ON.ne h1.nm h1.row k rfl
    have hft := foc_tab (S' := fun z => if z = y then false else S z) h1 h2 h3 h4 h5 (mo' := mo) (so' := some k) (F := [k]) (w' := w')
      ⟨k2.at h1.row (by simp; exact fun e => hkp e.symm), h1.mm.off k2 (fun b hb => by simp; exact fun e => h1.ne b hb (by rw [e])), k1, h1.ne⟩ k2 (fun j hj => by simp at hj; subst hj; exact .inl ⟨h4.2.2.1 j rfl, .inr (NM.isMap h1.nm)⟩) ⟨h4.2.1, h4.2.2.1⟩
    exact ⟨w', hrun, hft.1, hft.2.1⟩
set_option maxRecDepth 100000 in
/-- letIn. -/
theorem letIn_any (hI : I64 (nextM m).h) (h : Foc B w p x b m n g S) : Calls Try.prog 22 #[.pointer (some ⟨p, 0, none⟩), .pointer (some ⟨b, 0, none⟩)] w fun e w' => e = .returned (.int .i64 (nextM m).h) ∧ Foc B w' p x b (nextM m) n g (fun z => if z = (nextM m).h then false else S z) ∧ Bel B w w' := by
  obtain ⟨M, hM⟩ := h.mo
  have HN := hide (next_any hM)
  have HD := hide (fun w1 (hd : Did w b M (nextM m) w1) => h.did1 hM hd)
  have HI := hide hI
  generalize nextM m = k at *
  clear h hM hI
  go_enter Try.func22, Try.ntmps22
  go_wp2_with fail
  refine (HN.out).mono ?_
  rintro e w1 ⟨rfl, hd⟩
  obtain ⟨h1, h2⟩ := HD.out w1 hd
  obtain ⟨so, c1, hdr⟩ := foc_drop k.h HI.out h1
  have HR := hide hdr
  have HB := hide h2
  clear h1 h2 hd hdr HD HN HI
  obtain ⟨w2, hrun, hf⟩ := HR.out 0
  have HF := hide hf
  clear hf HR
  go_wp2_with fail
  go_ret
  exact ⟨rfl, HF.out.1, HB.out.trans HF.out.2⟩
/-- What the table is once x's monitor is put back. -/
def putM (g : Int → Option Mon) (x : Int) (m : Mon) : Int → Option Mon := fun y => if y = x then (if m.gone then none else some m) else g y
theorem tb_put {mo mo' so : Option Nat} {f : Int → Option MV} {M : MV} {F : List Nat} {n' : Nat} (h1 : Tv w p mo so n f S) (h2 : Mo w b M m) (h3 : Oth w x f g M) (h4 : Lo B p mo so x f) (h5 : B ≤ b ∧ ∀ k i, InM M k i → B ≤ k)
    (k1 : Tv w' p mo' so n' (fun y => if y = x then (if m.gone then none else some M) else f y) S) (k2 : Turned F w w') (k3 : ∀ k, k ∈ F → B ≤ k ∧ (k = p ∨ ∃ es cl, w.heap[k]? = some (.map es cl)) ∨ w.heap.size ≤ k) (k4 : ∀ b, mo' = some b → B ≤ b) : Tb B w' p n' (putM g x m) S ∧ Bel B w w' := by
  have hnp : ∀ k, k ∈ F → ∀ c fr, w.heap[k]? ≠ some (.cells c 52 fr) := fun k hk c fr e => by
    rcases k3 k hk with ⟨_, rfl | ⟨es, cl, g1⟩⟩ | g1
    · have := h1.row
      rw [e] at this
      injection this with this
      injection this with _ q
      exact absurd q (by decide)
    · rw [e] at g1; cases g1
    · have := lt_of_heap e; omega
  have st := St.ofT k2 hnp
  have nk : ∀ {N : MV} {k : Mon}, Rp w N k → Rp w' N k := fun hr => hr.keep st (fun a i g1 g2 => by
    obtain ⟨c, hc⟩ := InM.party hr g1
    exact hnp a g2 _ _ hc)
  refine ⟨⟨mo', so, _, k1, fun y => ?_, fun y N k e1 e2 => ?_, fun y z N K hyz e1 e2 => ?_, h4.1, k4, h4.2.2.1, fun y N k i e1 hi => ?_⟩, ⟨⟨k2.os, k2.tape, k2.output, k2.size, fun k hk => ?_⟩, kq_of h1.row k2 (fun k hk => (k3 k hk).imp And.right id)⟩⟩
  · unfold putM
    by_cases hy : y = x
    · simp only [hy, if_true]
      cases m.gone <;> rfl
    · simp only [if_neg hy]
      exact h3.is y hy
  · unfold putM at e2
    by_cases hy : y = x
    · simp only [hy, if_true] at e1 e2
      cases hg : m.gone
      · rw [hg] at e1 e2
        simp at e1 e2
        subst e1 e2
        exact nk h2.rp
      · rw [hg] at e1
        simp at e1
    · simp only [if_neg hy] at e1 e2
      exact nk (h3.rp y N k hy e1 e2)
  · have hme : ∀ {y N}, y = x → (if y = x then (if m.gone then none else some M) else f y) = some N → N = M := fun {y N} hy e => by
      simp only [hy, if_true] at e
      cases hg : m.gone
      · rw [hg] at e; simp at e; exact e.symm
      · rw [hg] at e; simp at e
    by_cases hy : y = x
    · have hz : z ≠ x := fun e => hyz (hy.trans e.symm)
      obtain rfl := hme hy e1
      simp only [if_neg hz] at e2
      exact h3.me z K hz e2
    · simp only [if_neg hy] at e1
      by_cases hz : z = x
      · obtain rfl := hme hz e2
        exact fun k i g1 g2 => h3.me y N hy e1 k i g2 g1
      · simp only [if_neg hz] at e2
        exact h3.ap y z N K hy hz hyz e1 e2
  · by_cases hy : y = x
    · simp only [hy, if_true] at e1
      cases hg : m.gone
      · rw [hg] at e1; simp at e1; subst e1; exact h5.2 k i hi
      · rw [hg] at e1; simp at e1
    · simp only [if_neg hy] at e1
      exact h4.2.2.2 y N k i hy e1 hi
  · have hlt := lt_of_heap h1.row
    have hB := h4.1
    exact k2.block k (by omega) (fun hm => by
      rcases k3 k hm with ⟨q, _⟩ | q <;> omega)
set_option maxRecDepth 100000 in
/-- keep. -/
theorem keep_any (hx : I64 x) (hn : n ≤ 1000000) (h : Foc B w p x b m n g S) : Calls Try.prog 31 #[.pointer (some ⟨p, 0, none⟩), .int .i64 x, .pointer (some ⟨b, 0, none⟩)] w fun e w' => e = .returned (.tuple #[]) ∧ Tb B w' p (n + 1) (putM g x m) S ∧ Bel B w w' := by
  obtain ⟨mo, so, f, M, h1, h2, h3, h4, h5⟩ := h.ex
  have HFk := hide (forsaken_any h2)
  have c0 : w.cell? ⟨p, 0, none⟩ = some (.map mo) := by rw [cell_of_heap h1.row]; rfl
  have f0 : w.frozen? ⟨p, 0, none⟩ = false := by simp [World.frozen?, h1.row]
  have hlt := lt_of_heap h1.row
  have hnF : ∀ (k : Nat) es cl, w.heap[k]? = some (.map es cl) → k ≠ p := fun k es cl e1 e2 => by
    subst e2
    rw [h1.row] at e1; cases e1
  cases hg : m.gone
  · rw [hg] at HFk
    have hd0 : ∀ w1 : World, (∀ i, w1.cell? ⟨b, i, none⟩ = w.cell? ⟨b, i, none⟩) → w1.cell? ⟨b, 0, none⟩ = some (.int .i64 M.h) ∧ w1.cell? ⟨b, 1, none⟩ = some (.int .i64 M.t) ∧ w1.cell? ⟨b, 2, none⟩ = some M.q.val ∧ w1.cell? ⟨b, 3, none⟩ = some M.a.val := fun w1 hw => by
      refine ⟨?_, ?_, ?_, ?_⟩ <;> (rw [hw, h2.c]; rfl)
    cases hmo : mo with
    | some k =>
      subst hmo
      obtain ⟨w', hrun, k1, k2, k3⟩ := MM.update (w := w.drew) (MM.block (w' := w.drew) h1.mm rfl) (by unfold maxLen; omega) hx M
      have k2' : Turned [k] w w' := ⟨k2.os, k2.tape, k2.output, k2.size, k2.block⟩
      obtain ⟨es, cl, hk⟩ := MM.isMap h1.mm
      have hkp := hnF k es cl hk
      have hT : Tv w' p (some k) so (n + 1) (fun y => if y = x then (if m.gone then none else some M) else f y) S := by
        rw [hg]
        exact ⟨k2'.at h1.row (by simp; exact fun e => hkp e.symm), k1, (h1.nm.off k2' (fun b hb => by simp; exact fun e => h1.ne k rfl (by rw [hb, e]))).mono (by omega), h1.ne⟩
      have HF := hide (tb_put h1 h2 h3 h4 h5 hT k2' (fun j hj => by simp at hj; subst hj; exact .inl ⟨h4.2.1 j rfl, .inr ⟨es, cl, hk⟩⟩) h4.2.1)
      obtain ⟨d0, d1, d2, d3⟩ := hd0 w.drew (fun i => rfl)
      have hrun' : (Instr.mapUpdate 39 (.map (some k)) (.int .i64 x) (.agg #[.int .i64 M.h, .int .i64 M.t, M.q.val, M.a.val])).run Try.prog w.drew = .ok () w' := hrun
      have heq := eq_some17m k w
      have e0 : w.drew.cell? ⟨p, 0, none⟩ = some (.map (some k)) := c0
      clear h h1 h2 h3 h4 h5 k1 k2 k2' k3 hT hd0 hnF hk hkp hrun
      go_enter Try.func31, Try.ntmps31
      go_wp2_with fail
      refine (HFk.out).mono ?_
      rintro e w1 ⟨rfl, hw1⟩
      rw [hw1]
      clear hw1 w1 HFk
      go_wp2_with fail
      go_region
      all_goals (go_wp2_with fail; first | refine bodyPost_end (results_none rfl _ _ _) rfl ?_ | refine bodyPost_ret (results_none rfl _ _ _) rfl ?_)
      all_goals exact ⟨rfl, HF.out⟩
    | none =>
      subst hmo
      obtain ⟨q, hq⟩ : ∃ q, q = w.heap.size := ⟨_, rfl⟩
      obtain ⟨w1, hw1⟩ : ∃ w1, w1 = (w.alloc (.map #[] 0)).setCell ⟨p, 0, none⟩ (.map (some q)) := ⟨_, rfl⟩
      have ta : Turned [] w (w.alloc (.map #[] 0)) := (Turned.refl _ _).alloc _
      have t1 : Turned [p] w w1 := by rw [hw1]; exact (ta.mono (by simp)).setCell (p := ⟨p, 0, none⟩) (by simp) _
      have hN : MM w1 q 0 (fun _ => none) := by
        rw [hw1, hq]
        exact MM.block (mm_made w) (Below.heap_setCell _ _ _ _ (show w.heap.size ≠ p by omega))
      obtain ⟨w', hrun, k1, k2, k3⟩ := MM.update (w := w1.drew) (MM.block (w' := w1.drew) hN rfl) (by unfold maxLen; omega) hx M
      have k2' : Turned [q] w1 w' := ⟨k2.os, k2.tape, k2.output, k2.size, k2.block⟩
      have hr1 : w1.heap[p]? = some (.cells #[.map (some q), .map so] 42) := by rw [hw1]; exact heap_setCell_at _ _ 0 _ _ _ (ta.at h1.row (by simp)) _
      have tw : Turned [p, q] w w' := (t1.mono (fun k hk => by simp at hk; simp [hk])).trans (k2'.mono (fun k hk => by simp at hk; simp [hk]))
      have hsq : ∀ b, so = some b → b ∉ [p, q] := fun b hb => by
        have := ON.ne h1.nm h1.row b hb
        subst hb
        have := NM.lt h1.nm
        simp
        omega
      have hf : (fun y => if y = x then some M else (fun _ => none) y) = (fun y => if y = x then (if m.gone then none else some M) else f y) := by
        funext y
        rw [hg, show f y = none from h1.mm y]
        rfl
      rw [hf] at k1
      have hT : Tv w' p (some q) so (n + 1) (fun y => if y = x then (if m.gone then none else some M) else f y) S :=
        ⟨k2'.at hr1 (by simp; omega), OM.mono (mo := some q) k1 (by omega), (h1.nm.off tw hsq).mono (by omega), fun b hb hc => by cases hb; exact hsq q hc (by simp)⟩
      have HF := hide (tb_put h1 h2 h3 h4 h5 hT tw (fun j hj => by simp at hj; rcases hj with rfl | rfl; exact .inl ⟨h4.1, .inl rfl⟩; exact .inr (by omega)) (fun b hb => by cases hb; have := h4.1; omega))
      have hbp : b ≠ p := fun e => by
        have := h1.row
        rw [← e, h2.row] at this
        injection this with this
        injection this with _ z
        exact absurd z (by decide)
      obtain ⟨d0, d1, d2, d3⟩ := hd0 w1.drew (fun i => by
        show w1.cell? _ = _
        rw [t1.cell (p := ⟨b, i, none⟩) (lt_of_heap h2.row) (by simpa using hbp)])
      have hrun' : (Instr.mapUpdate 39 (.map (some q)) (.int .i64 x) (.agg #[.int .i64 M.h, .int .i64 M.t, M.q.val, M.a.val])).run Try.prog w1.drew = .ok () w' := hrun
      have heq := eq_nil17m w
      have hmk := run_make17m w
      have hra := ta.at h1.row (by simp)
      have ca : (w.alloc (.map #[] 0)).cell? ⟨p, 0, none⟩ = some (.map none) := by rw [cell_of_heap hra]; rfl
      have fa : (w.alloc (.map #[] 0)).frozen? ⟨p, 0, none⟩ = false := by simp only [World.frozen?, hra]; rfl
      have e0 : w1.drew.cell? ⟨p, 0, none⟩ = some (.map (some q)) := by show w1.cell? _ = _; rw [cell_of_heap hr1]; rfl
      clear h h1 h2 h3 h4 h5 k1 k2 k2' k3 hT hd0 hnF hrun hf hsq tw hr1 hN t1 ta hbp hra hlt
      go_enter Try.func31, Try.ntmps31
      go_wp2_with fail
      refine (HFk.out).mono ?_
      rintro e w2 ⟨rfl, hw2⟩
      rw [hw2]
      clear hw2 w2 HFk
      go_upto_region 4 with fail
      rw [← hq, ← hw1]
      clear hq hw1 ca fa hmk
      go_wp2_with fail
      go_region
      all_goals (go_wp2_with fail; first | refine bodyPost_end (results_none rfl _ _ _) rfl ?_ | refine bodyPost_ret (results_none rfl _ _ _) rfl ?_)
      all_goals exact ⟨rfl, HF.out⟩
  · rw [hg] at HFk
    cases hmo : mo with
    | some k =>
      subst hmo
      obtain ⟨w', hrun, k1, k2, k3⟩ := MM.drop h1.mm hx 0
      obtain ⟨es, cl, hk⟩ := MM.isMap h1.mm
      have hkp := hnF k es cl hk
      have hT : Tv w' p (some k) so (n + 1) (fun y => if y = x then (if m.gone then none else some M) else f y) S := by
        rw [hg]
        exact ⟨k2.at h1.row (by simp; exact fun e => hkp e.symm), OM.mono (mo := some k) k1 (by omega), (h1.nm.off k2 (fun b hb => by simp; exact fun e => h1.ne k rfl (by rw [hb, e]))).mono (by omega), h1.ne⟩
      have HF := hide (tb_put h1 h2 h3 h4 h5 hT k2 (fun j hj => by simp at hj; subst hj; exact .inl ⟨h4.2.1 j rfl, .inr ⟨es, cl, hk⟩⟩) h4.2.1)
      clear h h1 h2 h3 h4 h5 k1 k2 k3 hT hnF hk hkp hlt
      go_enter Try.func31, Try.ntmps31
      go_wp2_with fail
      refine (HFk.out).mono ?_
      rintro e w1 ⟨rfl, hw1⟩
      rw [hw1]
      clear hw1 w1 HFk
      all_goals (go_wp2_with fail; first | refine bodyPost_end (results_none rfl _ _ _) rfl ?_ | refine bodyPost_ret (results_none rfl _ _ _) rfl ?_)
      all_goals exact ⟨rfl, HF.out⟩
    | none =>
      subst hmo
      have hrun := mm_drop_nil w hx 0
      have hT : Tv w p none so (n + 1) (fun y => if y = x then (if m.gone then none else some M) else f y) S := by
        rw [hg]
        exact ⟨h1.row, fun y => by simp only [if_true]; split; rfl; exact h1.mm y, h1.nm.mono (by omega), h1.ne⟩
      have HF := hide (tb_put h1 h2 h3 h4 h5 hT (Turned.refl [] w) (fun j hj => by cases hj) h4.2.1)
      clear h h1 h2 h3 h4 h5 hT hnF hlt
      go_enter Try.func31, Try.ntmps31
      go_wp2_with fail
      refine (HFk.out).mono ?_
      rintro e w1 ⟨rfl, hw1⟩
      rw [hw1]
      clear hw1 w1 HFk
      all_goals (go_wp2_with fail; first | refine bodyPost_end (results_none rfl _ _ _) rfl ?_ | refine bodyPost_ret (results_none rfl _ _ _) rfl ?_)
      all_goals exact ⟨rfl, HF.out⟩
end
end Go.Proofs.Ytlbcbphkgaoliab
