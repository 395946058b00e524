/-
  The statement BlocksNil is proved: for every 'at' the law returns true and its argument reads as before; no condition.
-/
import Derived.Test.YtkidcbehjhlnkaaBlocksAwake
namespace Go.Proofs.Ytkidcbehjhlnkaa
open Go.RowKit Go.ChangeShapes Go.WideShapes Go.ChangeAt Go.Maps
set_option linter.unusedVariables false

theorem wordAt_nil (t : Int) : wordAt [] t = none := by
  unfold wordAt
  split <;> simp
theorem ird_nil (w : World) : IRd w none 0 [] := ⟨rfl, by omega, fun i x h => by simp at h, fun x h => by simp at h⟩
theorem rch_none {f : Int → Option Blk} {g : Blk → List Int} {x : Int} (h : Rch f g [] x) : False :=
  rch_closed (fun _ => False) (fun r hr => by simp at hr) (fun x b hx => hx.elim) h

set_option maxRecDepth 100000 in
theorem blocksNil_walk (t : Int) (w : World) (ht : (Lit.int .i64 t).wf = true) :
    Calls Try.prog 6 #[.int .i64 t] w fun e w' => e = .returned (.bool true) ∧ Turned [] w w' := by
  have ht64 : In64 t := wf_range ht
  clear ht
  go_enter Try.func6, Try.ntmps6
  go_wp2_with fail
  refine (three_any _).mono ?_
  rintro e w1 ⟨g1, rfl, hc, ht, -⟩
  have HC := hide hc
  have HT := hide ht
  clear hc ht
  go_wp2_with fail
  refine (blay_nil _ 3 3 threeCs t 1 0 w1 (in64_small (by omega)) HC.out (by decide)).mono ?_
  rintro e w2 ⟨rfl, ht⟩
  have HT2 := hide (HT.out.trans ht)
  clear ht HT HC
  go_wp2_with fail
  refine (three_any _).mono ?_
  rintro e w3 ⟨g2, rfl, hc, ht, -⟩
  have HT := hide (HT2.out.trans ht)
  clear hc ht HT2
  go_wp2_with fail
  refine (read_out (.pointer none) [] _ 3 3 t w3 (by simp) (anyMem_nil _) ht64 (wordAt_nil t)).mono ?_
  rintro e w4 ⟨rfl, ht⟩
  have HT2 := hide (fun o => (HT.out.trans ht).alloc o)
  clear ht HT
  go_wp2_with fail
  refine (three_any _).mono ?_
  rintro e w5 ⟨g3, rfl, hc, ht, -⟩
  have HC := hide hc
  have HT := hide ((HT2.out _).trans ht)
  clear hc ht HT2
  go_wp2_with fail
  refine (walk_in (.pointer none) [] _ 3 3 threeCs 0 0 w5 (by simp) (anyMem_nil _) HC.out (by simp)).mono ?_
  rw [show walkOf [] threeCs 0 0 = some [] from by decide]
  rintro e w6 ⟨v6, rfl, hown, ht⟩
  obtain ⟨ao6, cap6, rfl, -⟩ := ownsRow_blks hown
  simp only [Option.getD_some, Option.isNone_some]
  rw [show ([] : List Blk).length = 0 from rfl]
  have HT2 := hide (HT.out.trans ht)
  clear ht HT HC hown
  go_wp2_with fail
  refine (three_any _).mono ?_
  rintro e w7 ⟨g4, rfl, hc, ht, -⟩
  have HT := hide (HT2.out.trans ht)
  clear hc ht HT2
  go_wp2_with fail
  refine (walk_out (.pointer none) [] _ 3 3 0 1 w7 (anyMem_nil _) (by simp)).mono ?_
  rintro e w8 ⟨rfl, rfl⟩
  go_wp2_with fail
  refine (three_any _).mono ?_
  rintro e w9 ⟨g5, rfl, hc, ht, -⟩
  have HC := hide hc
  have HT2 := hide (HT.out.trans ht)
  clear hc ht HT
  go_wp2_with fail
  refine (reach_in (.pointer none) [] _ 3 3 threeCs 0 0 none 0 0 [] [] w9 (by simp) (fun x hx => by simp at hx) (anyMem_nil _) HC.out (ird_nil _) (by simp) (by decide)).mono ?_
  rintro e w10 ⟨ht, ⟨-, hlo⟩ | ⟨vr, R, rfl, hown, hR, -⟩⟩
  · obtain ⟨x, hx, -⟩ := hlo
    exact (rch_none hx).elim
  rw [show toldOf [] R = [] from rfl] at hown
  obtain ⟨-, ao10, cap10, rfl, -⟩ := ownsRow_any hown
  rw [show ([] : List Int).length = 0 from rfl]
  have HT := hide (HT2.out.trans ht)
  clear hown hR ht HT2 HC
  go_wp2_with fail
  refine (awake_true _).mono ?_
  rintro e w11 ⟨rfl, ht⟩
  have HT2 := hide (HT.out.trans ht)
  clear ht HT
  go_wp2_with (go_at_call 26; refine (fill_out (.pointer none) [] 0 1 _ (anyMem_nil _) (by simp)).mono ?_; rintro e w' ⟨rfl, rfl⟩)
  go_ret
  exact ⟨rfl, HT2.out⟩

set_option maxRecDepth 100000 in
theorem blocksNil_lifted (os : Os) (started : os.Started) (H : Type) (enc : TypeId × Value → H) :
    ReturnsInHanded {} Try.checked os 6 .any (Rows.blocksNilSpec.pre6 enc Try.prog Try.f6 Rows.blocksNilRow.domain false) (Rows.blocksNilSpec.post enc Try.prog Try.f6 false true false false) := by
  refine returnsInHanded_of_change (C := Try.checked) own started (by kernel_rfl) Try.func6
    (ChangeSpec.witness6 (enc := enc) (C := Try.checked) false ⟨#[], #[.int .i64 0], []⟩ 8 (by kernel_rfl) (by kernel_rfl) (by kernel_rfl) (by kernel_rfl)) ?_
  intro W base args ds gs before hval0 hW hcnd _
  have hval : ∀ (j : Nat) t v, Try.f6.params[j]? = some t → args[j]? = some v → Value.okWide Try.prog W .any base t v := hval0
  have hW' := hW
  obtain ⟨p, q, hA0, hV, rfl, hfz, hnd⟩ := hW
  have hA : DataW.TrodAll enc Try.prog W 0 (fun _ => true) true Try.f6.params.toList args.toList ds p := hA0
  rw [Try.params6] at hA hval
  obtain ⟨v0, vs0, d0, ds0, p0, q0, hargs, rfl, rfl, h0, r0⟩ := trodAll_cons hA
  obtain ⟨rfl, rfl, rfl⟩ := trodAll_nil r0
  obtain rfl : args = #[v0] := by cases args; simp_all
  obtain ⟨rfl, rfl⟩ := trodVars_none hV
  obtain ⟨a0, rfl, rfl, rfl, w0⟩ := open_int Try.underlying3 (hval 0 3 v0 rfl rfl) h0
  clear hA0 hval0
  refine (blocksNil_walk a0 W w0).mono fun e W' ⟨he, ht⟩ => ?_
  subst he
  have bel : Below W.heap.size W W' := ht.below0
  exact ⟨_, rfl, _, _, _, [], _, [], hW', trodAll_mk1 (shut_bool Try.underlying4 _), (trodAll_cons_mk (shut_int Try.underlying3 w0) trodAll_mk0), rfl, bel.frame _, fun h => by cases h⟩

theorem blocksNil_over : Rows.blocksNilRow.holds Try.pinned (OpenSpec.ofChange Rows.blocksNilSpec) :=
  OpenClaim.holds_of_wide 6 Try.f6 rfl rfl rfl rfl rfl rfl rfl ⟨rfl, rfl, rfl, rfl, rfl⟩ rfl rfl rfl rfl rfl (by kernel_rfl) Try.func6 (by kernel_rfl)
    (of_decide_eq_true (by kernel_rfl)) (by unfold Func.isWrapper; first | (rw [if_pos (by decide +kernel)]; kernel_rfl) | (rw [if_neg (by decide +kernel)]; exact ⟨rfl, rfl⟩))
    (fun os started H enc _ => blocksNil_lifted os started H enc)

theorem blocksNil_holds : Rows.BlocksNilSaid := blocksNil_over
end Go.Proofs.Ytkidcbehjhlnkaa
