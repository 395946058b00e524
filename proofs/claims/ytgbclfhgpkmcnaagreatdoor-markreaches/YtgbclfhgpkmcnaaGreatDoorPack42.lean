/-
  Texts of the proof, several in one: MarkLm, MarkRchN, MarkLk, MarkLive.
-/
import Derived.Test.YtgbclfhgpkmcnaaGreatDoorPack40
import Derived.Test.YtgbclfhgpkmcnaaGreatDoorPack41
import Derived.Test.YtgbclfhgpkmcnaaGreatDoorPack36
import Derived.Test.YtgbclfhgpkmcnaaGreatDoorPack38
import Derived.Test.YtgbclfhgpkmcnaaGreatDoorPack34
import Derived.Test.YtgbclfhgpkmcnaaGreatDoorPack14
/-
  A marker through a law ('Lm'): in memory and without: its steps, whether it is done, its roots, its fault.
-/
namespace Go.Proofs.YtgbclfhgpkmcnaaGreatDoor
open Go.RowKit
set_option linter.unusedVariables false
set_option linter.unusedSimpArgs false

/-- The marker at w: w0 the world ahead of it, R its roots, M its steps so far. -/
structure Lm (P : MP) (I : Ids) (w0 : World) (ds ws : List Nat) (R : List Int) (H E : Nat) (M : Int) (S : MS) (w : World) : Prop where
  mem : ∃ Bs, Mk P I w0 w ds ws S Bs
  gg : Gg P R H E M S
section
variable {P : MP} {I : Ids} {w0 w w' : World} {ds ws : List Nat} {R : List Int} {H E : Nat} {M : Int} {S : MS} {k : Nat}
theorem Lm.keep0 (h : Lm P I w0 ds ws R H E M S w) (t : Turned [] w w') : Lm P I w0 ds ws R H E M S w' := by
  obtain ⟨⟨Bs, h1⟩, h2⟩ := h
  exact ⟨⟨Bs, h1.keep0 t⟩, h2⟩
theorem Lm.tu (h : Lm P I w0 ds ws R H E M S w) : Turned I.five w0 w := by
  obtain ⟨⟨Bs, h1⟩, _⟩ := h
  exact h1.tu
theorem lm_step (h : Lm P I w0 ds ws R H E M S w) (hP : BP P) (hR : RightM P R) (hk : k < P.n) (hM : M ≤ 900000) (hH : 1 ≤ H ∧ H ≤ 1000000) :
    Calls Tryz.prog 17 #[.pointer (some ⟨I.M, 0, none⟩), .int .i64 k] w fun e w' => e = .returned (.int .i64 (if ((stepM P S k).X k).ended then 2 else 0)) ∧ Lm P I w0 ds ws R H E (M + 1) (stepM P S k) w' := by
  obtain ⟨⟨Bs, h1⟩, h2⟩ := h
  refine (mstep_any P I w0 w ds ws S Bs k hk h1 (h2.may hP hM hH.2 hk)).mono ?_
  rintro e w' ⟨rfl, Bs', hk'⟩
  exact ⟨rfl, ⟨Bs', hk'⟩, h2.step hP hH.1 hR hk⟩
theorem lm_done (h : Lm P I w0 ds ws R H E M S w) : Calls Tryz.prog 24 #[.pointer (some ⟨I.M, 0, none⟩)] w fun e w' => e = .returned (.bool (allE S P.n)) ∧ w' = w := by
  obtain ⟨⟨Bs, h1⟩, h2⟩ := h
  have := mdone_any P I w0 w ds ws S Bs h1 0
  rw [drewN_zero] at this
  exact this
theorem lm_fault (h : Lm P I w0 ds ws R H E M S w) : Calls Tryz.prog 26 #[.pointer (some ⟨I.M, 0, none⟩)] w fun e w' => e = .returned (.int .i64 0) ∧ w' = w := by
  obtain ⟨⟨Bs, h1⟩, h2⟩ := h
  have := mfault_any P I w0 w ds ws S Bs h1 0
  rw [drewN_zero, h2.inv.fault] at this
  exact this
theorem allE_true (S : MS) : ∀ n : Nat, allE S n = true ↔ ∀ k, k < n → (S.X k).ended = true
  | 0 => ⟨fun _ k hk => by omega, fun _ => rfl⟩
  | n + 1 => by
    unfold allE
    rw [Bool.and_eq_true, allE_true S n]
    constructor
    · rintro ⟨h1, h2⟩ k hk
      by_cases e : k = n
      · subst e; exact h2
      · exact h1 k (by omega)
    · intro h
      exact ⟨fun k hk => h k (by omega), h n (by omega)⟩
/-- A new marker. -/
theorem lm_fresh {L : Nat} {Bs : Nat → List Nat} (h : Mk P I w0 w ds ws (MS.fresh (List.replicate L 0) (fun _ => 0) 0 0) Bs) (hP : BP P) (hc : 1 ≤ P.cap) (hL : 1 + P.n * P.need ≤ L) : Lm P I w0 ds ws [] 0 (3 * P.hw.length) 0 (MS.fresh (List.replicate L 0) (fun _ => 0) 0 0) w ∧ ChM (MS.fresh (List.replicate L 0) (fun _ => 0) 0 0) :=
  ⟨⟨⟨Bs, h⟩, (gg_fresh hP hc (fun _ => rfl) hL).1⟩, (gg_fresh hP hc (fun _ => rfl) hL).2⟩
/-- Roots are told. -/
theorem lm_root {r : Nat} {T : List Int} {ao : Option Addr} {cap : Nat} (h : Lm P { I with roots := (r : Int) } w0 ds ws R H E M S w) (hC : ChM S) (hr : r + T.length ≤ 1000000) (hH : H ≤ 1000000) (hT : ∀ Bs, Mk P { I with roots := (r : Int) } w0 w ds ws S Bs → RootRd w ao T P.n Bs) (hi : ∀ y, y ∈ T → In64 y) :
    Calls Tryz.prog 14 #[.pointer (some ⟨I.M, 0, none⟩), .slice ao T.length cap] w fun e w' => e = .returned (.tuple #[]) ∧ Lm P { I with roots := ((r + T.length : Nat) : Int) } w0 ds ws (R ++ T) (H + T.length) (E + 2 * T.length) M (rootsM P.n S r T) w' ∧ ChM (rootsM P.n S r T) := by
  obtain ⟨⟨Bs, h1⟩, h2⟩ := h
  refine (mroot_any r T ao cap h1 hr (fun k hk => (hC k).1) (fun k hk => Nat.le_trans (h2.bm.w k hk).hl hH) (hT Bs h1)).mono ?_
  rintro e w' ⟨rfl, Bs', hk'⟩
  obtain ⟨g1, g2⟩ := h2.roots hC r T hi
  exact ⟨rfl, ⟨⟨Bs', hk'⟩, g1⟩, g2⟩
/-- What is a worker's own is there. -/
theorem Mk.old {Bs : Nat → List Nat} (h : Mk P I w0 w ds ws S Bs) {j y : Nat} (hj : j < P.n) (hy : y ∈ Bs j) : y < w.heap.size := by
  have hn := h.n
  obtain ⟨b, hb⟩ : ∃ b, ws[j]? = some b := ⟨ws[j]'(by omega), by simp⟩
  obtain ⟨gd, cd, hv, kv, pv, gh, gp, O, nx, bl, asked, po, item, pf, hW⟩ := h.wk j b hb
  obtain ⟨c, e, fr, g, _⟩ := hW.types y hy
  exact lt_of_heap g
/-- A row that is newer than the marker's own can be read by Root. -/
theorem root_new {Bs : Nat → List Nat} (h : Mk P I w0 w ds ws S Bs) {w' : World} {ao : Option Addr} {T : List Int} {c : Array Value} {fr : Nat × Nat} {B : Nat} (hB : w.heap.size ≤ B) (hc : w'.heap[B]? = some (.cells c 2 fr)) (ha : ao = some ⟨B, 0, none⟩) (hT : ∀ (i : Nat) x, T[i]? = some x → c[i]? = some (.int .i64 x)) : RootRd w' ao T P.n Bs := fun i x hx => by
  refine ⟨B, 0, c, fr, ha, hc, by rw [Nat.zero_add]; exact hT i x hx, fun j hj hm => ?_⟩
  have := h.old hj hm
  omega
/-- Roots are told, and another row stays to be read. -/
theorem lm_root2 {r : Nat} {T : List Int} {ao : Option Addr} {cap : Nat} (bo : Option Addr) (U : List Int) (h : ∃ Bs, Mk P { I with roots := (r : Int) } w0 w ds ws S Bs ∧ RootRd w ao T P.n Bs ∧ RootRd w bo U P.n Bs) (hg : Gg P R H E M S) (hC : ChM S) (hr : r + T.length ≤ 1000000) (hH : H ≤ 1000000) (hi : ∀ y, y ∈ T → In64 y) :
    Calls Tryz.prog 14 #[.pointer (some ⟨I.M, 0, none⟩), .slice ao T.length cap] w fun e w' => e = .returned (.tuple #[]) ∧ (∃ Bs, Mk P { I with roots := ((r + T.length : Nat) : Int) } w0 w' ds ws (rootsM P.n S r T) Bs ∧ RootRd w' bo U P.n Bs) ∧ Gg P (R ++ T) (H + T.length) (E + 2 * T.length) M (rootsM P.n S r T) ∧ ChM (rootsM P.n S r T) := by
  obtain ⟨Bs, h1, h2, h3⟩ := h
  refine (mroot_two bo U r T ao cap h1 hr (fun k hk => (hC k).1) (fun k hk => Nat.le_trans (hg.bm.w k hk).hl hH) h2 h3).mono ?_
  rintro e w' ⟨rfl, Bs', hk', hu⟩
  obtain ⟨g1, g2⟩ := hg.roots hC r T hi
  exact ⟨rfl, ⟨Bs', hk', hu⟩, g1, g2⟩
/-- By turns: behind the laws' bound it is done. -/
theorem lm_over {S1 : MS} {t : Nat} (h : Gg P R H E M S1) (hP : BP P) (h4 : P.n ≤ 4) (ht : (28 * P.n + 1) * E + calmB P.n ≤ t) : allE (turnsM P S1 t) P.n = true :=
  (allE_true _ _).2 (h.ends hP h4 ht)
end
end Go.Proofs.YtgbclfhgpkmcnaaGreatDoor

/-
  How many are reached ('rchN'); a store into an array variable that was there ahead of the marker.
-/
namespace Go.Proofs.YtgbclfhgpkmcnaaGreatDoor
open Go.RowKit
set_option linter.unusedVariables false
set_option linter.unusedSimpArgs false

theorem rch_conv {P Q : MP} (hw : P.hw = Q.hw) (hc : P.cl = Q.cl) {R : List Int} {t : Int} (g : RchM P R t) : RchM Q R t := by
  have ho : ∀ t, P.obj t = Q.obj t := fun t => by unfold MP.obj; rw [hw, hc]
  have hp : ∀ b, P.places b = Q.places b := fun b => by unfold MP.places; rw [hc]
  have hv : ∀ p, P.word p = Q.word p := fun p => by unfold MP.word; rw [hw]
  induction g with
  | root h1 h2 => exact .root h1 h2
  | step _ h1 h2 h3 ih => rw [hv] at h3 ⊢; rw [ho] at h1; rw [hp] at h2; exact .step ih h1 h2 h3
open Classical in
/-- One where it is reached. -/
noncomputable def rchF (hw : List Int) (cl : List Cls) (R : List Int) (i : Nat) : Nat := if RchM ⟨hw, cl, 1, 1, 0⟩ R (i : Int) then 1 else 0
theorem rchF_pos (hw : List Int) (cl : List Cls) (R : List Int) (i : Nat) : 0 < rchF hw cl R i ↔ RchM ⟨hw, cl, 1, 1, 0⟩ R (i : Int) := by
  unfold rchF
  by_cases g : RchM ⟨hw, cl, 1, 1, 0⟩ R (i : Int)
  · rw [if_pos g]; exact ⟨fun _ => g, fun _ => by omega⟩
  · rw [if_neg g]; exact ⟨fun h => absurd h (by omega), fun h => absurd h g⟩
/-- How many are reached. -/
noncomputable def rchN (hw : List Int) (cl : List Cls) (R : List Int) : Nat := marksTo (rchF hw cl R) hw.length
theorem rchN_of {P : MP} {R R' : List Int} {S : MS} (h : ∀ t, isM P.hw.length S.sz t ↔ RchM P R t) (hR : ∀ r, r ≠ 0 → (r ∈ R ↔ r ∈ R')) : marksTo S.sz P.hw.length = rchN P.hw P.cl R' := by
  unfold rchN marksTo
  refine Bt.cnt_congr fun j hj => ?_
  have h1 : RchM P R (j : Int) ↔ RchM ⟨P.hw, P.cl, 1, 1, 0⟩ R' (j : Int) := (rch_same hR _).trans ⟨fun g => rch_conv (P := P) (Q := ⟨P.hw, P.cl, 1, 1, 0⟩) rfl rfl g, fun g => rch_conv (P := ⟨P.hw, P.cl, 1, 1, 0⟩) (Q := P) rfl rfl g⟩
  have h2 := h (j : Int)
  unfold isM at h2
  rw [Int.toNat_natCast] at h2
  unfold Bt.begs
  rw [decide_eq_decide, rchF_pos, ← h1, ← h2]
  exact ⟨fun g => ⟨by omega, by omega, g⟩, fun g => g.2.2⟩
theorem rch_none {P : MP} {R : List Int} (hR : ∀ r, r ≠ 0 → ¬ r ∈ R) (t : Int) : ¬ RchM P R t := fun g => by
  induction g with
  | root h1 h2 => exact hR _ h2 h1
  | step _ _ _ _ ih => exact ih
theorem rchN_none {P : MP} {R : List Int} {S : MS} (h : ∀ t, isM P.hw.length S.sz t ↔ RchM P R t) (hR : ∀ r, r ≠ 0 → ¬ r ∈ R) : marksTo S.sz P.hw.length = 0 := by
  unfold marksTo
  refine Bt.cnt_zero fun j hj => ?_
  have h2 := h (j : Int)
  unfold isM at h2
  rw [Int.toNat_natCast] at h2
  unfold Bt.begs
  have : ¬ 0 < S.sz j := fun q => rch_none hR _ (h2.1 ⟨by omega, by omega, q⟩)
  simp [this]
theorem Turned.setBoth {F : List Nat} {a w : World} (h : Turned F a w) {x : Nat} (hn : x ∉ F) (hx : x < a.heap.size) (i : Nat) (v : Value) : Turned F (a.setCell ⟨x, i, none⟩ v) (w.setCell ⟨x, i, none⟩ v) := by
  refine ⟨h.os, h.tape, h.output, by simpa [World.setCell] using h.size, fun k hk hkF => ?_⟩
  have hk' : k < a.heap.size := by simpa [World.setCell] using hk
  by_cases e : k = x
  · subst e
    have hb := h.block k hk' hn
    unfold World.setCell
    simp only [Array.getElem?_modify, if_true]
    rw [hb]
  · rw [Below.heap_setCell _ _ _ _ (by intro e2; exact e e2), Below.heap_setCell _ _ _ _ (by intro e2; exact e e2)]
    exact h.block k hk' hkF
/-- A store into an array of three numbers that was there ahead changes nothing of a marker. -/
theorem Mk.oldSet {P : MP} {I : Ids} {w0 w : World} {ds ws : List Nat} {S : MS} {Bs : Nat → List Nat} (h : Mk P I w0 w ds ws S Bs) {x : Nat} {c : Array Value} (hx : w.heap[x]? = some (.cells c 68)) (h00 : 0 < x) (hlo : x < w0.heap.size) (h5 : x ∉ I.five) (i : Nat) (v : Value) : Mk P I (w0.setCell ⟨x, i, none⟩ v) (w.setCell ⟨x, i, none⟩ v) ds ws S Bs := by
  have t : Turned [x] w (w.setCell ⟨x, i, none⟩ v) := (Turned.refl _ _).setCell (by simp) _
  have oM : ∀ e, 68 ≠ e → Off w [x] e := fun e he => Off.one hx he
  have hsz : (w0.setCell ⟨x, i, none⟩ v).heap.size = w0.heap.size := by simp [World.setCell]
  obtain ⟨cr, fr, hr⟩ := h.row
  have hM0 : 0 ∉ [x] := by simp; omega
  have hg := (oM 77 (by decide)).not hr
  refine ⟨h.tu.setBoth h5 hlo i v, h.n, ⟨cr, fr, t.at hr hg⟩, fun i b hb => by rw [t.cell (p := ⟨I.gw, i, none⟩) (lt_of_heap hr) hg]; exact h.rows i b hb, t.at h.mkr ((oM _ (by decide)).not h.mkr), h.hm.turned t ((oM _ (by decide)).not h.hm.head) ((oM _ (by decide)).not h.hm.row), h.hl, h.cl.off t (oM _ (by decide)), Bts.off h.bt t (oM _ (by decide)) (oM _ (by decide)) hM0, h.bl, h.sh.off t (oM _ (by decide)) (oM _ (by decide)) ((oM _ (by decide)).not h.sh.mem.head) ((oM _ (by decide)).not h.sh.mem.row), fun i b hb => ?_, h.nd, h.ap, h.nq, by rw [hsz]; exact h.lo⟩
  obtain ⟨cb, hcb⟩ : ∃ cc, WmR w b cc := by
    obtain ⟨gd, cd, hv, kv, pv, gh, gp, O, nx, bl, asked, po, item, pf, hW⟩ := h.wk i b hb
    exact ⟨_, hW.raw⟩
  refine (h.wk i b hb).keep t ((oM _ (by decide)).not hcb) (fun y hy => ?_) (oM _ (by decide))
  obtain ⟨c2, e2, fr2, g1, g2⟩ := (h.wk i b hb).types y hy
  refine (oM e2 ?_).not g1
  rcases g2 with rfl | rfl | rfl | rfl | rfl <;> decide
theorem Lm.oldSet {P : MP} {I : Ids} {w0 w : World} {ds ws : List Nat} {R : List Int} {H E : Nat} {M : Int} {S : MS} (h : Lm P I w0 ds ws R H E M S w) {x : Nat} {c : Array Value} (hx : w.heap[x]? = some (.cells c 68)) (h00 : 0 < x) (hlo : x < w0.heap.size) (h5 : x ∉ I.five) (i : Nat) (v : Value) : Lm P I (w0.setCell ⟨x, i, none⟩ v) ds ws R H E M S (w.setCell ⟨x, i, none⟩ v) := by
  obtain ⟨⟨Bs, h1⟩, h2⟩ := h
  exact ⟨⟨Bs, h1.oldSet hx h00 hlo h5 i v⟩, h2⟩
end Go.Proofs.YtgbclfhgpkmcnaaGreatDoor

/-
  A marker through a law, and what lies elsewhere, newer blocks too, stays ('Lk').
-/
namespace Go.Proofs.YtgbclfhgpkmcnaaGreatDoor
open Go.RowKit
set_option linter.unusedVariables false
set_option linter.unusedSimpArgs false

/-- The marker at w; what stood at v, but for the blocks F, is as it was. -/
structure Lk (P : MP) (I : Ids) (w0 : World) (ds ws : List Nat) (R : List Int) (H E : Nat) (F : List Nat) (v : World) (M : Int) (S : MS) (w : World) : Prop where
  mem : ∃ Bs, Mk P I w0 w ds ws S Bs ∧ ∀ i, i < P.n → ∀ y, y ∈ Bs i → y ∈ F ∨ v.heap.size ≤ y
  gg : Gg P R H E M S
  t : Turned F v w
  f : (∀ y, y ∈ I.five → y ∈ F) ∧ I.M ∈ F ∧ ∀ y, y ∈ ws → y ∈ F
section
variable {P : MP} {I : Ids} {w0 v w w' : World} {ds ws : List Nat} {R : List Int} {H E : Nat} {F : List Nat} {M : Int} {S : MS} {k : Nat}
theorem Lk.lm (h : Lk P I w0 ds ws R H E F v M S w) : Lm P I w0 ds ws R H E M S w := by
  obtain ⟨Bs, h1, _⟩ := h.mem
  exact ⟨⟨Bs, h1⟩, h.gg⟩
theorem Lk.keep0 (h : Lk P I w0 ds ws R H E F v M S w) (t : Turned [] w w') : Lk P I w0 ds ws R H E F v M S w' := by
  obtain ⟨Bs, h1, h2⟩ := h.mem
  exact ⟨⟨Bs, h1.keep0 t, h2⟩, h.gg, h.t.trans (t.mono (fun _ hk => by cases hk)), h.f⟩
theorem lk_step (h : Lk P I w0 ds ws R H E F v M S w) (hP : BP P) (hR : RightM P R) (hk : k < P.n) (hM : M ≤ 900000) (hH : 1 ≤ H ∧ H ≤ 1000000) :
    Calls Tryz.prog 17 #[.pointer (some ⟨I.M, 0, none⟩), .int .i64 k] w fun e w' => e = .returned (.int .i64 (if ((stepM P S k).X k).ended then 2 else 0)) ∧ Lk P I w0 ds ws R H E F v (M + 1) (stepM P S k) w' := by
  obtain ⟨Bs, h1, h2⟩ := h.mem
  refine (mstep_keep P I w0 w ds ws S Bs k hk h1 (h.gg.may hP hM hH.2 hk)).mono ?_
  rintro e w' ⟨rfl, Bs', hk', hB, b, hb, ht⟩
  have hsz := h.t.size
  refine ⟨rfl, ⟨Bs', hk', fun i hi y hy => ?_⟩, h.gg.step hP hH.1 hR hk, h.t.trans_new ht (fun y hy => ?_), h.f⟩
  · rcases hB i y hy with g | g
    · exact h2 i hi y g
    · right; omega
  · rcases Ids.all_mem.1 hy with g | g
    · exact .inl (h.f.1 y g)
    · simp only [List.mem_cons] at g
      rcases g with g | g | g
      · subst g; exact .inl h.f.2.1
      · subst g; exact .inl (h.f.2.2 y (List.mem_of_getElem? hb))
      · exact h2 k hk y g
/-- All blocks of a marker. -/
def blocksM (n : Nat) (I : Ids) (ws : List Nat) (Bs : Nat → List Nat) : List Nat := I.five ++ I.M :: ws ++ (List.range n).flatMap Bs
theorem blocksM_old {Bs : Nat → List Nat} (h : Mk P I w0 w ds ws S Bs) {y : Nat} (hy : y ∈ blocksM P.n I ws Bs) : y < w.heap.size := by
  have hn := h.n
  unfold blocksM at hy
  simp only [List.mem_append, List.mem_cons, List.mem_flatMap, List.mem_range] at hy
  rcases hy with (g | g | g) | ⟨i, hi, g⟩
  · unfold Ids.five at g
    simp only [List.mem_cons, List.not_mem_nil, or_false] at g
    obtain ⟨c, hc, _⟩ := h.bt.row
    rcases g with rfl | rfl | rfl | rfl | rfl
    · exact lt_of_heap h.hm.head
    · exact lt_of_heap h.hm.row
    · exact lt_of_heap hc
    · exact lt_of_heap h.sh.mem.head
    · exact lt_of_heap h.sh.mem.row
  · subst g; exact lt_of_heap h.mkr
  · obtain ⟨i, hi⟩ := List.getElem?_of_mem g
    obtain ⟨gd, cd, hv, kv, pv, gh, gp, O, nx, bl, asked, po, item, pf, hW⟩ := h.wk i y hi
    exact lt_of_heap hW.raw
  · exact h.old hi g
/-- What is newer than all that is the marker's stays. -/
theorem lk_of {Bs : Nat → List Nat} (h : Mk P I w0 w ds ws S Bs) (hg : Gg P R H E M S) (t : Turned [] w v) : Lk P I w0 ds ws R H E (blocksM P.n I ws Bs) v M S v := by
  refine ⟨⟨Bs, h.keep0 t, fun i hi y hy => .inl ?_⟩, hg, Turned.refl _ _, fun y hy => ?_, ?_, fun y hy => ?_⟩
  · unfold blocksM
    simp only [List.mem_append, List.mem_flatMap, List.mem_range]
    exact .inr ⟨i, hi, hy⟩
  · unfold blocksM; simp [hy]
  · unfold blocksM; simp
  · unfold blocksM; simp [hy]
end
end Go.Proofs.YtgbclfhgpkmcnaaGreatDoor

/-
  The document's blocks of what is reached, and what a marker marks ('live_rch', 'live_count', 'live_sub', 'live_size'); ballastlaw11.in.
-/
namespace Go.Proofs.YtgbclfhgpkmcnaaGreatDoor
open Go.RowKit
set_option linter.unusedVariables false
set_option linter.unusedSimpArgs false

theorem left_few11 {L : List Int} {N : Nat} {top : Int} {bs : List Blk} (h : bs.length ≤ 100) {n : Nat} (hn : n ≤ 100) : (n + leftOf (refWords L four) (bs ++ tail4 N top) (List.replicate (bs ++ tail4 N top).length false)) * 8 ≤ 140737488355328 := by
  have h1 := leftOf_new (refWords L four) (bs ++ tail4 N top) 65535 (fun b _ => by
    have h2 := refWords_length L four b
    have h3 := (refsOf_range four b.k b.n).2
    omega) (List.replicate (bs ++ tail4 N top).length false)
  have h4 : (bs ++ tail4 N top).length ≤ 101 := by
    rw [List.length_append]
    unfold tail4
    split <;> simp <;> omega
  omega
section
variable {P : MP} {N : Nat} {top : Int} {bs : List Blk} {rs R : List Int}
theorem live_rch (h : Hd N P.hw top bs) (hc : P.cl = four) (hrs : ∀ r, r ∈ rs → r = 0 ∨ ∃ b, b ∈ bs ∧ r = b.t) (hR : ∀ x, x ∈ R ↔ Rch (objOf (bs ++ tail4 N top)) (refWords P.hw four) rs x) (t : Int) : RchM P rs t ↔ t ∈ (liveBs bs R).map Blk.t := by
  rw [rch_link h hc hrs, ← hR, List.mem_map]
  unfold liveBs
  constructor
  · intro g
    obtain ⟨b, hb, e⟩ := h.closed hrs ((hR t).1 g)
    exact ⟨b, List.mem_filter.2 ⟨hb, by rw [decide_eq_true_eq, ← e]; exact g⟩, e.symm⟩
  · rintro ⟨b, hb, rfl⟩
    have := (List.mem_filter.1 hb).2
    rwa [decide_eq_true_eq] at this
theorem live_nodup (h : Hd N P.hw top bs) : ((liveBs bs R).map Blk.t).Nodup := by
  have hr := live_rowed h R
  rw [List.nodup_iff_pairwise_ne, List.pairwise_iff_getElem]
  intro i j hi hj hij e
  simp only [List.getElem_map] at e
  rw [List.length_map] at hi hj
  have h1 := hr.rise i j _ _ hij (List.getElem?_eq_getElem hi) (List.getElem?_eq_getElem hj)
  have h2 := hr.each i _ (List.getElem?_eq_getElem hi)
  omega
theorem live_count {S : MS} (h : Hd N P.hw top bs) (hc : P.cl = four) (hrs : ∀ r, r ∈ rs → r = 0 ∨ ∃ b, b ∈ bs ∧ r = b.t) (hR : ∀ x, x ∈ R ↔ Rch (objOf (bs ++ tail4 N top)) (refWords P.hw four) rs x) (ho : ∀ t, isM P.hw.length S.sz t ↔ RchM P rs t) : marksTo S.sz P.hw.length = (liveBs bs R).length := by
  rw [marks_len (live_nodup (R := R) h) (fun t => (ho t).trans (live_rch h hc hrs hR t)), List.length_map]
theorem cnt_sub {f g : Nat → Bool} : ∀ n : Nat, (∀ j, j < n → f j = true → g j = true) → Bt.cnt f n ≤ Bt.cnt g n
  | 0, _ => Nat.le_refl _
  | n + 1, h => by
    have h1 := cnt_sub n (fun j hj => h j (by omega))
    have h2 := h n (by omega)
    rw [Bt.cnt, Bt.cnt]
    cases e : f n
    · simp; omega
    · rw [h2 e]; simp; omega
theorem rchF_isM (hw : List Int) (cl : List Cls) (t : Int) : isM hw.length (rchF hw cl rs) t ↔ 0 ≤ t ∧ t < hw.length ∧ RchM ⟨hw, cl, 1, 1, 0⟩ rs t := by
  unfold isM
  constructor
  · rintro ⟨h1, h2, h3⟩
    rw [rchF_pos, Int.toNat_of_nonneg h1] at h3
    exact ⟨h1, h2, h3⟩
  · rintro ⟨h1, h2, h3⟩
    refine ⟨h1, h2, ?_⟩
    rw [rchF_pos, Int.toNat_of_nonneg h1]
    exact h3
theorem live_sub {S : MS} (h : Hd N P.hw top bs) (hc : P.cl = four) (hrs : ∀ r, r ∈ rs → r = 0 ∨ ∃ b, b ∈ bs ∧ r = b.t) (hR : ∀ x, x ∈ R ↔ Rch (objOf (bs ++ tail4 N top)) (refWords P.hw four) rs x) (ho : ∀ t, isM P.hw.length S.sz t → RchM P rs t) : marksTo S.sz P.hw.length ≤ (liveBs bs R).length := by
  have hlen := h.chain.len
  have hV := live_rowed h R
  have h1 : marksTo (rchF P.hw P.cl rs) P.hw.length = (liveBs bs R).length := by
    rw [marks_len (live_nodup (R := R) h) (fun t => ?_), List.length_map]
    rw [rchF_isM, ← live_rch h hc hrs hR t]
    constructor
    · intro g; exact rch_conv (P := ⟨P.hw, P.cl, 1, 1, 0⟩) (Q := P) rfl rfl g.2.2
    · intro g
      have g2 := (live_rch h hc hrs hR t).1 g
      obtain ⟨b, hb, rfl⟩ := List.mem_map.1 g2
      obtain ⟨i, hi⟩ := List.getElem?_of_mem hb
      have h2 := hV.each i b hi
      exact ⟨by omega, by omega, rch_conv (P := P) (Q := ⟨P.hw, P.cl, 1, 1, 0⟩) rfl rfl g⟩
  rw [← h1]
  unfold marksTo
  refine cnt_sub _ fun j hj hf => ?_
  unfold Bt.begs at *
  rw [decide_eq_true_eq] at *
  rw [rchF_pos]
  have := ho (j : Int) ⟨by omega, by omega, by rw [Int.toNat_natCast]; exact hf⟩
  exact rch_conv (P := P) (Q := ⟨P.hw, P.cl, 1, 1, 0⟩) rfl rfl this
theorem live_size {S : MS} (h : Hd N P.hw top bs) (hc : P.cl = four) (hrs : ∀ r, r ∈ rs → r = 0 ∨ ∃ b, b ∈ bs ∧ r = b.t) (hR : ∀ x, x ∈ R ↔ Rch (objOf (bs ++ tail4 N top)) (refWords P.hw four) rs x) (ho : ∀ t, isM P.hw.length S.sz t ↔ RchM P rs t) (hs : ∀ t, isM P.hw.length S.sz t → ∃ b, P.obj t = some b ∧ (S.sz t.toNat : Int) = b.s) {b : Blk} (hb : b ∈ liveBs bs R) : 1 ≤ b.t ∧ b.t < N ∧ (S.sz b.t.toNat : Int) = b.s := by
  obtain ⟨i, hi⟩ := List.getElem?_of_mem hb
  have h2 := (live_rowed h R).each i b hi
  have hm := (ho b.t).2 ((live_rch h hc hrs hR b.t).2 (List.mem_map.2 ⟨b, hb, rfl⟩))
  obtain ⟨c, h3, h4⟩ := hs _ hm
  rw [hd_obj h hc (List.mem_filter.1 hb).1] at h3
  cases h3
  exact ⟨h2.1, by omega, h4⟩
end
/-- ballastlaw11.in. -/
theorem in11 (ao : Option Addr) (len cap : Nat) (V : List Blk) (x : Nat) (w : World) (h : BlkRd w ao len V) (hl : len ≤ 65536) (hin : (x : Int) ∈ V.map Blk.t) :
    Calls Tryz.prog 21 #[.slice ao len cap, .int .i64 x] w fun e w' => e = .returned (.bool true) ∧ Turned [] w w' := by
  have HR := hide h
  obtain ⟨k, hk⟩ := List.getElem?_of_mem hin
  rw [List.getElem?_map] at hk
  have hkl : k < len := by
    have := h.size
    cases e : V[k]? with
    | none => rw [e] at hk; cases hk
    | some b => have := (List.getElem?_eq_some_iff.1 e).1; omega
  have HK := hide hk
  clear h hin hk
  go_enter Tryz.func21, Tryz.ntmps21
  go_wp2_with fail
  go_loopg [5] len (fun gg s5 wr => ∃ (i : Nat), s5 = .int .i64 (i : Int) ∧ i ≤ k ∧ len - i ≤ gg ∧ Aside (Turned [] w wr))
  case atStart => exact ⟨0, rfl, by omega, by omega, Turned.refl [] w⟩
  case round =>
    obtain ⟨i, rfl, hi, hg, ht⟩ := hrel
    have HT := hide ht.out
    clear ht
    have hil : i < len := by omega
    have hili : (i : Int) < (len : Int) := by omega
    obtain ⟨b, hb⟩ : ∃ b, V[i]? = some b := ⟨V[i]'(by have := HR.out.size; omega), by simp⟩
    obtain ⟨g, off, rfl, c0, -, -, -⟩ := (HR.out.turned HT.out).cell i b hb
    by_cases he : b.t = (x : Int)
    · rw [he] at c0
      go_wp2_with fail
      go_ret
      exact ⟨rfl, HT.out⟩
    · have hik : i ≠ k := fun e => by subst e; have := HK.out; rw [hb] at this; simp at this; exact he this
      generalize b.t = bt at *
      go_wp2_with fail
      go_roundg (len - (i + 1))
      case measure => omega
      case rel => exact ⟨i + 1, by go_num, by omega, Nat.le_refl _, HT.out⟩
end Go.Proofs.YtgbclfhgpkmcnaaGreatDoor
