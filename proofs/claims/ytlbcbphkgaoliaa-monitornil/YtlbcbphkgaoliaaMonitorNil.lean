/-
  The statement MonitorNil is proved: for every o the law returns true.
-/
import Derived.Test.YtlbcbphkgaoliaaMonAwake
import Derived.Test.YtlbcbphkgaoliaaLawKit
namespace Go.Proofs.Ytlbcbphkgaoliaa
open Go.RowKit Go.ChangeShapes Go.WideShapes Go.ChangeAt
set_option linter.unusedVariables false
set_option linter.unusedSimpArgs false

/-- Enter, by no thread or at no object. -/
theorem enter_bad {B p n : Nat} {w : World} {x y z : Int} {m : Mon} {S : Int → Bool} (hx : I64 x) (hz : I64 z) (hb : x ≤ 0 ∨ z = 0) (hn : n ≤ 900000) (h : Solo B w p n y m S) (hf : Fine m) :
    Calls Try.prog 21 #[.pointer (some ⟨p, 0, none⟩), .int .i64 x, .int .i64 z] w fun e w' => e = .returned (.tuple #[.bool false, .int .i64 1]) ∧ Solo B w' p (n + 2) y m S ∧ Bel B w w' := by
  refine (enter_call hx hz hn h.tb ?_).mono ?_
  · by_cases e : z = y
    · subst e; rw [get_G1 h.neat]; exact hf
    · unfold G1; rw [if_neg e]; exact ⟨by decide, by decide⟩
  rintro e w' ⟨h1, h2, h3⟩
  have e1 : enterT (G1 y m) S x z = ((false, 1), G1 y m, S) := by
    unfold enterT
    rw [if_pos hb]
  rw [e1] at h1 h2
  exact ⟨h1, ⟨h2, h.neat⟩, h3⟩
theorem queue_nil (o : Int) (w : World) : Calls Try.prog 17 #[.pointer none, .int .i64 o] w fun e w' => ∃ g, e = .returned (.slice (some ⟨g, 0, none⟩) 0 0) ∧ Turned [] w w' :=
  (queue_of none (m := Mon.zero) (by decide) (of_nil o w)).mono (fun e w' ⟨g, h1, _, h2, _⟩ => ⟨g, h1, h2⟩)
theorem aside_nil (o : Int) (w : World) : Calls Try.prog 19 #[.pointer none, .int .i64 o] w fun e w' => ∃ g, e = .returned (.slice (some ⟨g, 0, none⟩) 0 0) ∧ Turned [] w w' :=
  (aside_of none (m := Mon.zero) (by decide) (of_nil o w)).mono (fun e w' ⟨g, h1, _, h2, _⟩ => ⟨g, h1, h2⟩)
set_option maxHeartbeats 4000000 in
set_option maxRecDepth 100000 in
theorem monitorNil_walk (o : Int) (w : World) (hwf : (Lit.int .i64 o).wf = true) :
    Calls Try.prog 6 #[.int .i64 o] w fun e w' => e = .returned (.bool true) ∧ Turned [] w w' := by
  have HO : Hid (I64 o) := hide (i64_wf hwf)
  clear hwf
  obtain ⟨p, hp⟩ : ∃ p, p = w.heap.size := ⟨_, rfl⟩
  obtain ⟨w2, hw2⟩ : ∃ w2, w2 = w.alloc (.cells #[.map none, .map none] 67) := ⟨_, rfl⟩
  have HT : Hid (Solo w.heap.size w2 p 0 5 Mon.zero (fun _ => false)) := hide ⟨by rw [G1_zero]; exact tb_empty _ _ _ (by omega) (by rw [hw2, hp]; exact heap_alloc_new _ _), fun _ => rfl⟩
  have B2 : Hid (Bel w.heap.size w w2) := hide (Turned.bel (by rw [hw2]; exact (Turned.refl _ _).alloc _) (Nat.le_refl _) (fun k hk => by cases hk))
  go_enter Try.func6, Try.ntmps6
  go_upto_region 3 with fail
  rw [← hp, ← hw2]
  clear hp hw2
  go_wp2_with fail
  refine (move_none none w2).mono ?_
  rintro e w3 ⟨rfl, rfl⟩
  go_wp2_with fail
  refine (move_none (some p) w3).mono ?_
  rintro e w4 ⟨rfl, rfl⟩
  go_wp2_with fail
  refine (enter_nil 1 o w4).mono ?_
  rintro e w5 ⟨rfl, t5⟩
  have H5 := hide (HT.out.turned t5)
  have B5 := hide (B2.out.trans (t5.bel B2.out.b.size (fun k hk => by cases hk)))
  clear t5 HT B2
  go_wp2_with fail
  refine (exit_nil 1 o w5).mono ?_
  rintro e w6 ⟨rfl, t6⟩
  have H6 := hide (H5.out.turned t6)
  have B6 := hide (B5.out.trans (t6.bel B5.out.b.size (fun k hk => by cases hk)))
  clear t6 H5 B5
  go_wp2_with fail
  refine (Calls.mono (enter_bad (x := 1) (z := 0) ⟨by decide, by decide⟩ ⟨by decide, by decide⟩ (.inr rfl) (by decide) H6.out ⟨⟨by decide, by decide⟩, by decide⟩) (fun e w' h => (show e = .returned (.tuple #[.bool false, .int .i64 1]) ∧ Solo w.heap.size w' p 2 5 Mon.zero (fun _ => false) ∧ Bel w.heap.size w6 w' from h))).mono ?_
  rintro e w7 ⟨rfl, h7, b7⟩
  have H7 := hide h7
  have B7 := hide (B6.out.trans b7)
  clear h7 b7 H6 B6
  go_wp2_with fail
  refine (Calls.mono (enter_bad (x := 0) (z := 5) ⟨by decide, by decide⟩ ⟨by decide, by decide⟩ (.inl (by decide)) (by decide) H7.out ⟨⟨by decide, by decide⟩, by decide⟩) (fun e w' h => (show e = .returned (.tuple #[.bool false, .int .i64 1]) ∧ Solo w.heap.size w' p 4 5 Mon.zero (fun _ => false) ∧ Bel w.heap.size w7 w' from h))).mono ?_
  rintro e w8 ⟨rfl, h8, b8⟩
  have H8 := hide h8
  have B8 := hide (B7.out.trans b8)
  clear h8 b8 H7 B7
  go_wp2_with fail
  refine (Calls.mono (enter_solo (x := 1) (y := 5) ⟨by decide, by decide⟩ (by decide) ⟨by decide, by decide⟩ (by decide) (by decide) H8.out ⟨⟨by decide, by decide⟩, by decide⟩ rfl) (fun e w' h => (show e = .returned (.tuple #[.bool true, .int .i64 0]) ∧ Solo w.heap.size w' p 6 5 ⟨1, 1, [], []⟩ (fun _ => false) ∧ Bel w.heap.size w8 w' from h))).mono ?_
  rintro e w9 ⟨rfl, h9, b9⟩
  have H9 := hide h9
  have B9 := hide (B8.out.trans b9)
  clear h9 b9 H8 B8
  go_wp2_with fail
  refine (awake_call w9).mono ?_
  rintro e w10 ⟨rfl, t10⟩
  have H10 := hide (H9.out.turned t10)
  have B10 := hide (B9.out.trans (t10.bel B9.out.b.size (fun k hk => by cases hk)))
  clear t10 H9 B9
  go_wp2_with fail
  refine (held_nil 1 w10).mono ?_
  rintro e w11 ⟨rfl, t11⟩
  have H11 := hide (H10.out.turned t11)
  have B11 := hide (B10.out.trans (t11.bel B10.out.b.size (fun k hk => by cases hk)))
  clear t11 H10 B10
  go_wp2_with fail
  refine (objects_nil w11).mono ?_
  rintro e w12 ⟨rfl, rfl⟩
  have H12 := H11
  have B12 := B11
  clear H11 B11
  go_wp2_with fail
  refine (queue_nil o w12).mono ?_
  rintro e w13 ⟨g13, rfl, t13⟩
  have H13 := hide (H12.out.turned t13)
  have B13 := hide (B12.out.trans (t13.bel B12.out.b.size (fun k hk => by cases hk)))
  clear t13 H12 B12
  go_wp2_with fail
  refine (aside_nil o w13).mono ?_
  rintro e w14 ⟨g14, rfl, t14⟩
  have H14 := hide (H13.out.turned t14)
  have B14 := hide (B13.out.trans (t14.bel B13.out.b.size (fun k hk => by cases hk)))
  clear t14 H13 B13
  go_wp2_with fail
  refine (objects_solo (by decide) H14.out).mono ?_
  rintro e w15 ⟨a, c, rfl, t15⟩
  have HE := hide (B14.out.trans (t15.bel (B14.out.b.size) (fun k hk => by cases hk)))
  clear t15 H14 B14
  go_wp2_with fail
  go_ret
  exact ⟨rfl, Turned.of_below HE.out.b⟩

set_option maxRecDepth 100000 in
theorem monitorNil_lifted (os : Os) (started : os.Started) (H : Type) (enc : TypeId × Value → H) :
    ReturnsInHanded {} Try.checked os 6 .any (Rows.monitorNilSpec.pre6 enc Try.prog Try.f6 Rows.monitorNilRow.domain false) (Rows.monitorNilSpec.post enc Try.prog Try.f6 false true false false) := by
  refine returnsInHanded_of_change (C := Try.checked) own started (by kernel_rfl) Try.func6
    (ChangeSpec.witness6 (enc := enc) (C := Try.checked) false ⟨#[], #[.int .i64 0], []⟩ 8 (by kernel_rfl) (by kernel_rfl) (by kernel_rfl) (by kernel_rfl)) ?_
  intro W base args ds gs before hval0 hW hcnd _
  have hval : ∀ (j : Nat) t v, Try.f6.params[j]? = some t → args[j]? = some v → Value.okWide Try.prog W .any base t v := hval0
  have hW' := hW
  obtain ⟨p, q, hA0, hV, rfl, hfz, hnd⟩ := hW
  have hA : DataW.TrodAll enc Try.prog W 0 (fun _ => true) true Try.f6.params.toList args.toList ds p := hA0
  rw [Try.params6] at hA hval
  obtain ⟨v0, vs0, d0, ds0, p0, q0, hargs, rfl, rfl, h0, r0⟩ := trodAll_cons hA
  obtain ⟨rfl, rfl, rfl⟩ := trodAll_nil r0
  obtain rfl : args = #[v0] := by cases args; simp_all
  obtain ⟨rfl, rfl⟩ := trodVars_none hV
  obtain ⟨a0, rfl, rfl, rfl, w0⟩ := open_int Try.underlying2 (hval 0 2 v0 rfl rfl) h0
  clear hA0 hval0
  refine (monitorNil_walk a0 W w0).mono fun e W' ⟨he, ht⟩ => ?_
  subst he
  have bel : Below W.heap.size W W' := ht.below0
  exact ⟨_, rfl, _, _, _, [], _, [], hW', trodAll_mk1 (shut_bool Try.underlying4 _), (trodAll_cons_mk (shut_int Try.underlying2 w0) trodAll_mk0), rfl, bel.frame _, fun h => by cases h⟩

theorem monitorNil_over : Rows.monitorNilRow.holds Try.pinned (OpenSpec.ofChange Rows.monitorNilSpec) :=
  OpenClaim.holds_of_wide 6 Try.f6 rfl rfl rfl rfl rfl rfl rfl ⟨rfl, rfl, rfl, rfl, rfl⟩ rfl rfl rfl rfl rfl (by kernel_rfl) Try.func6 (by kernel_rfl)
    (of_decide_eq_true (by kernel_rfl)) (by unfold Func.isWrapper; first | (rw [if_pos (by decide +kernel)]; kernel_rfl) | (rw [if_neg (by decide +kernel)]; exact ⟨rfl, rfl⟩))
    (fun os started H enc _ => monitorNil_lifted os started H enc)

theorem monitorNil_holds : Rows.MonitorNilSaid := monitorNil_over
end Go.Proofs.Ytlbcbphkgaoliaa
