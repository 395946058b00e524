/-
  Texts of the proof, several in one: MarkLm, MarkLu.
-/
import Derived.Test.YtgbclfhgpkmcnaaGreatDoorPack39
import Derived.Test.YtgbclfhgpkmcnaaGreatDoorPack40
import Derived.Test.YtgbclfhgpkmcnaaGreatDoorPack35
import Derived.Test.YtgbclfhgpkmcnaaGreatDoorPack37
/-
  A marker through a law ('Lm'): in memory and without: its steps, whether it is done, its roots, its fault.
-/
namespace Go.Proofs.YtgbclfhgpkmcnaaGreatDoor
open Go.RowKit
set_option linter.unusedVariables false
set_option linter.unusedSimpArgs false

/-- The marker at w: w0 the world ahead of it, R its roots, M its steps so far. -/
structure Lm (P : MP) (I : Ids) (w0 : World) (ds ws : List Nat) (R : List Int) (H E : Nat) (M : Int) (S : MS) (w : World) : Prop where
  mem : ∃ Bs, Mk P I w0 w ds ws S Bs
  gg : Gg P R H E M S
section
variable {P : MP} {I : Ids} {w0 w w' : World} {ds ws : List Nat} {R : List Int} {H E : Nat} {M : Int} {S : MS} {k : Nat}
theorem Lm.keep0 (h : Lm P I w0 ds ws R H E M S w) (t : Turned [] w w') : Lm P I w0 ds ws R H E M S w' := by
  obtain ⟨⟨Bs, h1⟩, h2⟩ := h
  exact ⟨⟨Bs, h1.keep0 t⟩, h2⟩
theorem Lm.tu (h : Lm P I w0 ds ws R H E M S w) : Turned I.five w0 w := by
  obtain ⟨⟨Bs, h1⟩, _⟩ := h
  exact h1.tu
theorem lm_step (h : Lm P I w0 ds ws R H E M S w) (hP : BP P) (hR : RightM P R) (hk : k < P.n) (hM : M ≤ 900000) (hH : 1 ≤ H ∧ H ≤ 1000000) :
    Calls Tryz.prog 17 #[.pointer (some ⟨I.M, 0, none⟩), .int .i64 k] w fun e w' => e = .returned (.int .i64 (if ((stepM P S k).X k).ended then 2 else 0)) ∧ Lm P I w0 ds ws R H E (M + 1) (stepM P S k) w' := by
  obtain ⟨⟨Bs, h1⟩, h2⟩ := h
  refine (mstep_any P I w0 w ds ws S Bs k hk h1 (h2.may hP hM hH.2 hk)).mono ?_
  rintro e w' ⟨rfl, Bs', hk'⟩
  exact ⟨rfl, ⟨Bs', hk'⟩, h2.step hP hH.1 hR hk⟩
theorem lm_done (h : Lm P I w0 ds ws R H E M S w) : Calls Tryz.prog 24 #[.pointer (some ⟨I.M, 0, none⟩)] w fun e w' => e = .returned (.bool (allE S P.n)) ∧ w' = w := by
  obtain ⟨⟨Bs, h1⟩, h2⟩ := h
  have := mdone_any P I w0 w ds ws S Bs h1 0
  rw [drewN_zero] at this
  exact this
theorem lm_fault (h : Lm P I w0 ds ws R H E M S w) : Calls Tryz.prog 26 #[.pointer (some ⟨I.M, 0, none⟩)] w fun e w' => e = .returned (.int .i64 0) ∧ w' = w := by
  obtain ⟨⟨Bs, h1⟩, h2⟩ := h
  have := mfault_any P I w0 w ds ws S Bs h1 0
  rw [drewN_zero, h2.inv.fault] at this
  exact this
theorem allE_true (S : MS) : ∀ n : Nat, allE S n = true ↔ ∀ k, k < n → (S.X k).ended = true
  | 0 => ⟨fun _ k hk => by omega, fun _ => rfl⟩
  | n + 1 => by
    unfold allE
    rw [Bool.and_eq_true, allE_true S n]
    constructor
    · rintro ⟨h1, h2⟩ k hk
      by_cases e : k = n
      · subst e; exact h2
      · exact h1 k (by omega)
    · intro h
      exact ⟨fun k hk => h k (by omega), h n (by omega)⟩
/-- A new marker. -/
theorem lm_fresh {L : Nat} {Bs : Nat → List Nat} (h : Mk P I w0 w ds ws (MS.fresh (List.replicate L 0) (fun _ => 0) 0 0) Bs) (hP : BP P) (hc : 1 ≤ P.cap) (hL : 1 + P.n * P.need ≤ L) : Lm P I w0 ds ws [] 0 (3 * P.hw.length) 0 (MS.fresh (List.replicate L 0) (fun _ => 0) 0 0) w ∧ ChM (MS.fresh (List.replicate L 0) (fun _ => 0) 0 0) :=
  ⟨⟨⟨Bs, h⟩, (gg_fresh hP hc (fun _ => rfl) hL).1⟩, (gg_fresh hP hc (fun _ => rfl) hL).2⟩
/-- Roots are told. -/
theorem lm_root {r : Nat} {T : List Int} {ao : Option Addr} {cap : Nat} (h : Lm P { I with roots := (r : Int) } w0 ds ws R H E M S w) (hC : ChM S) (hr : r + T.length ≤ 1000000) (hH : H ≤ 1000000) (hT : ∀ Bs, Mk P { I with roots := (r : Int) } w0 w ds ws S Bs → RootRd w ao T P.n Bs) (hi : ∀ y, y ∈ T → In64 y) :
    Calls Tryz.prog 14 #[.pointer (some ⟨I.M, 0, none⟩), .slice ao T.length cap] w fun e w' => e = .returned (.tuple #[]) ∧ Lm P { I with roots := ((r + T.length : Nat) : Int) } w0 ds ws (R ++ T) (H + T.length) (E + 2 * T.length) M (rootsM P.n S r T) w' ∧ ChM (rootsM P.n S r T) := by
  obtain ⟨⟨Bs, h1⟩, h2⟩ := h
  refine (mroot_any r T ao cap h1 hr (fun k hk => (hC k).1) (fun k hk => Nat.le_trans (h2.bm.w k hk).hl hH) (hT Bs h1)).mono ?_
  rintro e w' ⟨rfl, Bs', hk'⟩
  obtain ⟨g1, g2⟩ := h2.roots hC r T hi
  exact ⟨rfl, ⟨⟨Bs', hk'⟩, g1⟩, g2⟩
/-- What is a worker's own is there. -/
theorem Mk.old {Bs : Nat → List Nat} (h : Mk P I w0 w ds ws S Bs) {j y : Nat} (hj : j < P.n) (hy : y ∈ Bs j) : y < w.heap.size := by
  have hn := h.n
  obtain ⟨b, hb⟩ : ∃ b, ws[j]? = some b := ⟨ws[j]'(by omega), by simp⟩
  obtain ⟨gd, cd, hv, kv, pv, gh, gp, O, nx, bl, asked, po, item, pf, hW⟩ := h.wk j b hb
  obtain ⟨c, e, fr, g, _⟩ := hW.types y hy
  exact lt_of_heap g
/-- A row that is newer than the marker's own can be read by Root. -/
theorem root_new {Bs : Nat → List Nat} (h : Mk P I w0 w ds ws S Bs) {w' : World} {ao : Option Addr} {T : List Int} {c : Array Value} {fr : Nat × Nat} {B : Nat} (hB : w.heap.size ≤ B) (hc : w'.heap[B]? = some (.cells c 2 fr)) (ha : ao = some ⟨B, 0, none⟩) (hT : ∀ (i : Nat) x, T[i]? = some x → c[i]? = some (.int .i64 x)) : RootRd w' ao T P.n Bs := fun i x hx => by
  refine ⟨B, 0, c, fr, ha, hc, by rw [Nat.zero_add]; exact hT i x hx, fun j hj hm => ?_⟩
  have := h.old hj hm
  omega
/-- Roots are told, and another row stays to be read. -/
theorem lm_root2 {r : Nat} {T : List Int} {ao : Option Addr} {cap : Nat} (bo : Option Addr) (U : List Int) (h : ∃ Bs, Mk P { I with roots := (r : Int) } w0 w ds ws S Bs ∧ RootRd w ao T P.n Bs ∧ RootRd w bo U P.n Bs) (hg : Gg P R H E M S) (hC : ChM S) (hr : r + T.length ≤ 1000000) (hH : H ≤ 1000000) (hi : ∀ y, y ∈ T → In64 y) :
    Calls Tryz.prog 14 #[.pointer (some ⟨I.M, 0, none⟩), .slice ao T.length cap] w fun e w' => e = .returned (.tuple #[]) ∧ (∃ Bs, Mk P { I with roots := ((r + T.length : Nat) : Int) } w0 w' ds ws (rootsM P.n S r T) Bs ∧ RootRd w' bo U P.n Bs) ∧ Gg P (R ++ T) (H + T.length) (E + 2 * T.length) M (rootsM P.n S r T) ∧ ChM (rootsM P.n S r T) := by
  obtain ⟨Bs, h1, h2, h3⟩ := h
  refine (mroot_two bo U r T ao cap h1 hr (fun k hk => (hC k).1) (fun k hk => Nat.le_trans (hg.bm.w k hk).hl hH) h2 h3).mono ?_
  rintro e w' ⟨rfl, Bs', hk', hu⟩
  obtain ⟨g1, g2⟩ := hg.roots hC r T hi
  exact ⟨rfl, ⟨Bs', hk', hu⟩, g1, g2⟩
/-- By turns: behind the laws' bound it is done. -/
theorem lm_over {S1 : MS} {t : Nat} (h : Gg P R H E M S1) (hP : BP P) (h4 : P.n ≤ 4) (ht : (28 * P.n + 1) * E + calmB P.n ≤ t) : allE (turnsM P S1 t) P.n = true :=
  (allE_true _ _).2 (h.ends hP h4 ht)
end
end Go.Proofs.YtgbclfhgpkmcnaaGreatDoor

/-
  A marker over any words ('Lu'): what holds whether or not all that is reached is right: it steps, it ends by turns; where all is right no fault is told.
-/
namespace Go.Proofs.YtgbclfhgpkmcnaaGreatDoor
open Go.RowKit
set_option linter.unusedVariables false
set_option linter.unusedSimpArgs false

structure Gu (P : MP) (R : List Int) (H : Nat) (E : Nat) (M : Int) (S : MS) : Prop where
  all : AllM P S
  idle : IdleM P S
  bm : Bm P H M S
  left : eM P S ≤ E
  inv : RightM P R → InvM P R S
structure Lu (P : MP) (I : Ids) (w0 : World) (ds ws : List Nat) (R : List Int) (H E : Nat) (M : Int) (S : MS) (w : World) : Prop where
  mem : ∃ Bs, Mk P I w0 w ds ws S Bs
  gu : Gu P R H E M S
section
variable {P : MP} {I : Ids} {w0 w w' : World} {ds ws : List Nat} {R : List Int} {H E : Nat} {M : Int} {S : MS} {k : Nat}
theorem Lm.lu (h : Lm P I w0 ds ws R H E M S w) : Lu P I w0 ds ws R H E M S w := ⟨h.mem, h.gg.all, h.gg.idle, h.gg.bm, h.gg.left, fun _ => h.gg.inv⟩
theorem Lu.keep0 (h : Lu P I w0 ds ws R H E M S w) (t : Turned [] w w') : Lu P I w0 ds ws R H E M S w' := by
  obtain ⟨⟨Bs, h1⟩, h2⟩ := h
  exact ⟨⟨Bs, h1.keep0 t⟩, h2⟩
theorem Lu.tu (h : Lu P I w0 ds ws R H E M S w) : Turned I.five w0 w := by
  obtain ⟨⟨Bs, h1⟩, _⟩ := h
  exact h1.tu
theorem lu_step (h : Lu P I w0 ds ws R H E M S w) (hP : BP P) (hk : k < P.n) (hM : M ≤ 900000) (hH : 1 ≤ H ∧ H ≤ 1000000) :
    Calls Tryz.prog 17 #[.pointer (some ⟨I.M, 0, none⟩), .int .i64 k] w fun e w' => e = .returned (.int .i64 (if ((stepM P S k).X k).ended then 2 else 0)) ∧ Lu P I w0 ds ws R H E (M + 1) (stepM P S k) w' := by
  obtain ⟨⟨Bs, h1⟩, h2⟩ := h
  refine (mstep_any P I w0 w ds ws S Bs k hk h1 (h2.bm.may hP hM hH.2 hk)).mono ?_
  rintro e w' ⟨rfl, Bs', hk'⟩
  obtain ⟨e1, e2, e3⟩ := e_step h2.all h1.bl hk
  refine ⟨rfl, ⟨Bs', hk'⟩, h2.all.step hk, h2.idle.step hk, h2.bm.step hP hH.1 hk, ?_, fun hR => (h2.inv hR).step hR h2.all hk⟩
  have := h2.left
  by_cases q : QsM P S k
  · rw [e1 q]; exact this
  · have := e2 q; omega
theorem lu_done (h : Lu P I w0 ds ws R H E M S w) : Calls Tryz.prog 24 #[.pointer (some ⟨I.M, 0, none⟩)] w fun e w' => e = .returned (.bool (allE S P.n)) ∧ w' = w := by
  obtain ⟨⟨Bs, h1⟩, h2⟩ := h
  have := mdone_any P I w0 w ds ws S Bs h1 0
  rw [drewN_zero] at this
  exact this
theorem lu_fault (h : Lu P I w0 ds ws R H E M S w) : Calls Tryz.prog 26 #[.pointer (some ⟨I.M, 0, none⟩)] w fun e w' => e = .returned (.int .i64 S.fault) ∧ w' = w := by
  obtain ⟨⟨Bs, h1⟩, h2⟩ := h
  have := mfault_any P I w0 w ds ws S Bs h1 0
  rw [drewN_zero] at this
  exact this
theorem lu_right (h : Lu P I w0 ds ws R H E M S w) (hR : RightM P R) : S.fault = 0 := (h.gu.inv hR).fault
/-- By turns: behind the laws' bound it is done. -/
theorem lu_over {t : Nat} (h : Lu P I w0 ds ws R H E M S w) (hP : BP P) (h4 : P.n ≤ 4) (ht : (28 * P.n + 1) * E + calmB P.n ≤ t) : allE (turnsM P S t) P.n = true := by
  obtain ⟨⟨Bs, h1⟩, h2⟩ := h
  exact (allE_true _ _).2 (ends_soon (T := turnsM P S) (a := 0) (fun t => rfl) hP.n1 h4 h2.all h2.idle h1.bl h2.left t (by omega))
/-- Roots that stood there are told. -/
theorem lm_rootO {r : Nat} {T : List Int} {ao : Option Addr} {cap : Nat} (h : Lm P { I with roots := (r : Int) } w0 ds ws R H E M S w) (hC : ChM S) (hr : r + T.length ≤ 1000000) (hH : H ≤ 1000000) (hT : RootOld w0 I.five ao T) (hi : ∀ y, y ∈ T → In64 y) :
    Calls Tryz.prog 14 #[.pointer (some ⟨I.M, 0, none⟩), .slice ao T.length cap] w fun e w' => e = .returned (.tuple #[]) ∧ Lm P { I with roots := ((r + T.length : Nat) : Int) } w0 ds ws (R ++ T) (H + T.length) (E + 2 * T.length) M (rootsM P.n S r T) w' ∧ ChM (rootsM P.n S r T) := by
  obtain ⟨⟨Bs, h1⟩, h2⟩ := h
  refine (mroot_old r T ao cap h1 hr (fun k hk => (hC k).1) (fun k hk => Nat.le_trans (h2.bm.w k hk).hl hH) hT).mono ?_
  rintro e w' ⟨rfl, Bs', hk'⟩
  obtain ⟨g1, g2⟩ := h2.roots hC r T hi
  exact ⟨rfl, ⟨⟨Bs', hk'⟩, g1⟩, g2⟩
end
end Go.Proofs.YtgbclfhgpkmcnaaGreatDoor
