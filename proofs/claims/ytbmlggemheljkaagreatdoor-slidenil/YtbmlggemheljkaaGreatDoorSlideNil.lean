/-
  SlideNil: of no slider nothing comes; one needs memory, and bits of as many words.
-/
import Derived.Test.YtbmlggemheljkaaGreatDoorPack21
import Derived.Test.YtbmlggemheljkaaGreatDoorPack11
import Derived.Test.YtbmlggemheljkaaGreatDoorCards
import Derived.Test.YtbmlggemheljkaaGreatDoorTie
import Derived.SevenTiedAt
namespace Go.Proofs.YtbmlggemheljkaaGreatDoor
open Go.ChangeShapes Go.WideShapes Go.ChangeAt Go.RowKit Bt
set_option linter.unusedVariables false
set_option linter.unusedSimpArgs false

set_option maxHeartbeats 2000000 in
set_option maxRecDepth 100000 in
theorem snew_none (w : World) (p : Array Value) (hp : ∃ a0 a1 a2 a3 a4 a5 a6 a7 a8, p = #[a0, a1, a2, a3, a4, a5, a6, a7, a8]) :
    Calls Tryz.prog 12 #[.pointer none, .pointer none, .agg p, .int .i64 1] w fun e w' => e = .returned (.tuple #[.pointer none, .int .i64 1]) ∧ Turned [] w w' := by
  obtain ⟨a0, a1, a2, a3, a4, a5, a6, a7, a8, rfl⟩ := hp
  have HT := hide ((Turned.refl [] w).alloc (.cells #[a0, a1, a2, a3, a4, a5, a6, a7, a8] 39))
  go_enter Tryz.func12, Tryz.ntmps12
  go_wp2_with fail
  go_ret2
  exact ⟨rfl, HT.out⟩
set_option maxHeartbeats 2000000 in
set_option maxRecDepth 100000 in
theorem snew_unlike (cp cq bp bq N M : Nat) (hw : List Int) (ac : Int) (F : Nat → Nat → Bool) (w : World) (hm : Mem w cp cq hw ac) (hl : hw.length = M) (hb : Bts w bp bq N F) (hne : (N : Int) ≠ (M : Int)) :
    Calls Tryz.prog 12 #[.pointer (some ⟨cp, 0, none⟩), .pointer (some ⟨bp, 0, none⟩), .agg #[.int .i64 0, .int .i64 0, .int .i64 0, .int .i64 0, .int .i64 0, .slice none 0 0, .slice none 0 0, .slice none 0 0, .slice none 0 0], .int .i64 1] w fun e w' => e = .returned (.tuple #[.pointer none, .int .i64 1]) ∧ Turned [] w w' := by
  have HT := hide ((Turned.refl [] w).alloc (.cells #[.int .i64 0, .int .i64 0, .int .i64 0, .int .i64 0, .int .i64 0, .slice none 0 0, .slice none 0 0, .slice none 0 0, .slice none 0 0] 39))
  have HWd := hide (fun (w' : World) (tt : Turned [] w w') => words_any (some ⟨bp, 0, none⟩) N F w' (hb.brd.turned tt))
  have HLn := hide (fun (w' : World) (tt : Turned [] w w') => len_mem cp cq hw ac w' (hm.turned tt (by simp) (by simp)))
  rw [hl] at HLn
  have heq : ((N : Int) == (M : Int)) = false := by simpa using hne
  clear hm hb hl
  go_enter Tryz.func12, Tryz.ntmps12
  go_upto_region 1 with fail
  generalize w.alloc (.cells #[.int .i64 0, .int .i64 0, .int .i64 0, .int .i64 0, .int .i64 0, .slice none 0 0, .slice none 0 0, .slice none 0 0, .slice none 0 0] 39) = w1 at *
  have HW1 := hide (HWd.out w1 HT.out)
  have HL1 := hide (HLn.out w1 HT.out)
  clear HWd HLn
  go_wp2_with fail
  refine (HW1.out).mono ?_
  rintro e w2 ⟨rfl, hw2⟩
  subst hw2
  go_wp2_with fail
  refine (HL1.out).mono ?_
  rintro e w3 ⟨rfl, hw3⟩
  subst hw3
  go_wp2_with fail
  go_ret2
  exact ⟨rfl, HT.out⟩

set_option maxHeartbeats 4000000 in
set_option maxRecDepth 100000 in
theorem slideNil_walk (k : Int) (w : World) (hk : (Lit.int .i64 k).wf = true) (hT : Tab w) :
    Calls Tryz.prog 6 #[.int .i64 k] w fun e w' => e = .returned (.bool true) ∧ Turned [] w w' := by
  have HTab := hide hT
  have HN1 := hide (snew_none w #[.int .i64 0, .int .i64 0, .int .i64 0, .int .i64 0, .int .i64 0, .slice none 0 0, .slice none 0 0, .slice none 0 0, .slice none 0 0] ⟨_, _, _, _, _, _, _, _, _, rfl⟩)
  have HCells := hide (fun (w' : World) => new_any 5 w')
  rw [show (min (max (5 : Int) 0) 65536).toNat = 5 by omega] at HCells
  have HBn := hide (fun (w' : World) (t : Turned [] w w') => Bt.new_any 4 w' (by unfold In64; omega) (HTab.out.turned t (by simp)))
  rw [show kp 65536 4 = 4 by unfold kp; omega] at HBn
  have HAw := hide (fun (w' : World) (t : Turned [] w w') => awake15 w' (HTab.out.turned t (by simp)))
  clear hT hk
  go_enter Tryz.func6, Tryz.ntmps6
  go_wp2_with fail
  refine (HN1.out).mono ?_
  rintro e w1 ⟨rfl, t1⟩
  have HT1 := hide t1
  clear t1 HN1
  go_wp2_with fail
  refine (HCells.out w1).mono ?_
  rintro e w2 ⟨rfl, hm2, t2, -⟩
  have HT2 := hide (HT1.out.trans t2)
  have HM2 := hide hm2
  have HB2 := hide (HBn.out w2 (HT1.out.trans t2))
  clear t2 hm2 HBn HCells HT1
  generalize w1.heap.size + 1 = cp at *
  generalize w1.heap.size = cq at *
  go_wp2_with fail
  refine (HB2.out).mono ?_
  rintro e w3 ⟨bp, bq, rfl, hb3, -, -, t3⟩
  have HT3 := hide (HT2.out.trans t3)
  have HN3 := hide (snew_unlike cp cq bp bq 4 5 _ 0 _ w3 (HM2.out.turned t3 (by simp) (by simp)) (by simp) hb3 (by omega))
  clear t3 hb3 HT2 HM2 HB2
  go_wp2_with fail
  refine (HN3.out).mono ?_
  rintro e w4 ⟨rfl, t4⟩
  have HT4 := hide (HT3.out.trans t4)
  have HA4 := hide (HAw.out w4 (HT3.out.trans t4))
  clear t4 HT3 HN3 HAw
  go_wp2_with fail
  refine (HA4.out).mono ?_
  rintro e w5 ⟨rfl, t5⟩
  have HT5 := hide (HT4.out.trans t5)
  have n1 := hide (sstep_nil k w5)
  have n2 := hide (sdone_nil w5)
  have n3 := hide (smoves_nil w5)
  have n4 := hide (sready_nil w5)
  have n5 := hide (swaits_nil w5)
  clear t5 HT4 HA4
  go_wp2_with fail
  refine (n1.out).mono ?_
  rintro e w6 ⟨rfl, hw6⟩
  rw [hw6]; clear hw6 w6
  go_wp2_with fail
  refine (n2.out).mono ?_
  rintro e w6 ⟨rfl, hw6⟩
  rw [hw6]; clear hw6 w6
  go_wp2_with fail
  refine (n3.out).mono ?_
  rintro e w6 ⟨rfl, hw6⟩
  rw [hw6]; clear hw6 w6
  go_wp2_with fail
  refine (n4.out).mono ?_
  rintro e w6 ⟨rfl, hw6⟩
  rw [hw6]; clear hw6 w6
  go_wp2_with fail
  refine (n5.out).mono ?_
  rintro e w6 ⟨rfl, hw6⟩
  rw [hw6]; clear hw6 w6
  go_wp2_with fail
  go_ret
  exact ⟨rfl, HT5.out⟩

set_option maxRecDepth 100000 in
theorem slideNil_lifted (os : Os) (started : os.Started) (H : Type) (enc : TypeId × Value → H) :
    ReturnsInHanded {} Tryz.checked os 6 .any (fun w args => (Rows.slideNilSpec.pre enc Tryz.prog Tryz.f6 [] false w args ∧ laidMetH Tryz.prog laidTab w) ∧ sizedMet enc Tryz.prog Tryz.f6 (OpenSpec.ofChange Rows.slideNilSpec) false w args)
      (Rows.slideNilSpec.post enc Tryz.prog Tryz.f6 false true false false) := by
  refine returnsInHanded_of_change_and (C := Tryz.checked) (X := fun w _ => laidMetH Tryz.prog laidTab w) (fun _ _ _ hh h => h.of_heap hh) own started (by kernel_rfl) Tryz.func6
    (ChangeSpec.witness_shaped (enc := enc) (C := Tryz.checked) (os := os) (X := fun w _ => laidMetH Tryz.prog laidTab w) false (World.doorLaid Tryz.prog 400 os) #[.int .i64 0] 8 rfl (World.shaped_of_RefB (by kernel_rfl) (by kernel_rfl)) (by kernel_rfl) (by kernel_rfl) (by kernel_rfl) (door_met os _)) ?_
  intro W base args ds gs before hval0 hW _ _ hL _
  have hTab := tab_of hL
  have hval : ∀ (j : Nat) t v, Tryz.f6.params[j]? = some t → args[j]? = some v → Value.okWide Tryz.prog W .any base t v := hval0
  have hW' := hW
  obtain ⟨p, q, hA0, hV, rfl, hfz, hnd⟩ := hW
  have hA : DataW.TrodAll enc Tryz.prog W 0 (fun _ => true) true Tryz.f6.params.toList args.toList ds p := hA0
  rw [Tryz.params6] at hA hval
  obtain ⟨v0, vs0, d0, ds0, p0, q0, hargs, rfl, rfl, h0, r0⟩ := trodAll_cons hA
  obtain ⟨rfl, rfl, rfl⟩ := trodAll_nil r0
  obtain rfl : args = #[v0] := by cases args; simp_all
  obtain ⟨rfl, rfl⟩ := trodVars_none hV
  obtain ⟨a0, rfl, rfl, rfl, w0⟩ := open_int Tryz.underlying3 (hval 0 3 v0 rfl rfl) h0
  simp only [List.append_nil] at hW'
  clear hA0 hval0
  refine (slideNil_walk a0 W w0 hTab).mono fun e W' ⟨he, ht⟩ => ?_
  subst he
  have bel : Below W.heap.size W W' := ht.below0
  exact ⟨_, rfl, _, _, _, [], _, [], hW', trodAll_mk1 (shut_bool Tryz.underlying4 _), (trodAll_cons_mk (shut_int Tryz.underlying3 w0) trodAll_mk0), rfl, bel.frame _, fun h => by cases h⟩

theorem slideNil_over : Rows.slideNilRow.holds Tryz.pinned (OpenSpec.ofChange Rows.slideNilSpec) :=
  OpenClaim.holds_of_wide 6 Tryz.f6 rfl rfl rfl rfl rfl rfl rfl ⟨rfl, rfl, rfl, rfl, rfl⟩ rfl rfl rfl rfl rfl (by kernel_rfl) Tryz.func6 (by kernel_rfl)
    (of_decide_eq_true (by kernel_rfl)) (by unfold Func.isWrapper; first | (rw [if_pos (by decide +kernel)]; kernel_rfl) | (rw [if_neg (by decide +kernel)]; exact ⟨rfl, rfl⟩))
    (fun os started H enc _ => slideNil_lifted os started H enc)

theorem slideNil_holds : Rows.SlideNilSaid := slideNil_over

theorem slideNil_card : Rows.SlideNilCardSaid :=
  Claim7.holds_tied_plain_at .later [] [.data] true _ true
    slideNil_holds (fun _ h => by cases h) (by kernel_rfl) (fun _ h => by cases h) slideNil_row_tie rfl ⟨rfl, rfl⟩ (by kernel_rfl) rfl
    (fun f fn hf hfn => by
      obtain rfl : f = 6 := Option.some.inj ((show Tryz.prog.funcNamed "ballast/ballastlaw15.SlideNil" = some 6 by kernel_rfl).symm.trans hf) |>.symm
      obtain rfl : fn = Tryz.f6 := (Option.some.inj (Tryz.func6.symm.trans hfn)).symm
      exact ⟨by kernel_rfl, fun j t ht => by
        rw [Tryz.params6] at ht
        have h3 : t ∈ [3] := by
          have h4 := Array.mem_of_getElem? ht
          simpa using h4
        have h5 : ∀ u, u ∈ [3] → Tryz.prog.wantsStandIn u = false := by
          intro u hu
          simp only [List.mem_cons, List.not_mem_nil, or_false] at hu
          rcases hu with rfl <;> kernel_rfl
        exact h5 t h3⟩)
    (by kernel_rfl)
