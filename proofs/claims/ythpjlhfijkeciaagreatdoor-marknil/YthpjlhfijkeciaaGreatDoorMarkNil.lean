/-
  MarkNil: of no marker nothing comes; a marker needs cells, and bits that measure them. Whatever the number of the worker.
-/
import Derived.Test.YthpjlhfijkeciaaGreatDoorPack32
import Derived.Test.YthpjlhfijkeciaaGreatDoorPack29
import Derived.Test.YthpjlhfijkeciaaGreatDoorPack19
import Derived.Test.YthpjlhfijkeciaaGreatDoorCards
import Derived.Test.YthpjlhfijkeciaaGreatDoorTie
import Derived.SevenTiedAt
namespace Go.Proofs.YthpjlhfijkeciaaGreatDoor
open Go.ChangeShapes Go.WideShapes Go.ChangeAt Go.RowKit
set_option linter.unusedVariables false

set_option maxRecDepth 100000 in
set_option maxHeartbeats 2000000 in
theorem markNil_walk (t : Int) (w : World) (ht : (Lit.int .i64 t).wf = true) (hT : Bt.Tab w) :
    Calls Tryz.prog 6 #[.int .i64 t] w fun e w' => e = .returned (.bool true) ∧ Turned [] w w' := by
  have HT := hide hT
  have HF := hide (nil_root (w.alloc (.cells #[.int .i64 1] 2)) (.slice (some ⟨w.heap.size, 0, none⟩) 1 1))
  have T0 := hide ((Turned.refl [] w).alloc (.cells #[.int .i64 1] 2))
  clear hT
  go_enter Tryz.func6, Tryz.ntmps6
  go_wp2_with fail
  refine HF.out.mono ?_
  rintro e w1 ⟨rfl, hw⟩
  have T1 := hide (show Turned [] w w1 by rw [hw]; exact T0.out)
  clear hw HF T0
  have HF := hide (mnew_nil 1 1 1 (by omega) (by omega) (by omega) (.slice none 0 0) none none w1)
  rw [show ((1 : Nat) : Int) = 1 from rfl] at HF
  go_wp2_with fail
  refine HF.out.mono ?_
  rintro e w2 ⟨rfl, hw⟩
  obtain rfl : w2 = w1 := hw
  clear HF
  have HC := hide (new_any 9 w2)
  rw [show (min (max (9 : Int) 0) 65536).toNat = 9 by decide] at HC
  go_wp2_with fail
  refine HC.out.mono ?_
  rintro e w3 ⟨rfl, hM, t3, -⟩
  have M3 := hide hM
  have T3 := hide (T1.out.trans t3)
  clear hM t3 HC T1
  generalize w2.heap.size + 1 = p1 at *
  generalize w2.heap.size = q1 at *
  have HB := hide (Bt.new_any 8 w3 (by unfold Bt.In64; omega) (HT.out.turned T3.out (by simp)))
  rw [show Bt.kp 65536 8 = 8 from rfl] at HB
  go_wp2_with fail
  refine HB.out.mono ?_
  rintro e w4 ⟨pb, qb, rfl, hb, -, -, t4⟩
  have B4 := hide hb
  have M4 := hide (M3.out.turned t4 (by simp) (by simp))
  have T4 := hide (T3.out.trans t4)
  clear hb t4 HB M3 T3
  have HC := hide (new_any 99 w4)
  rw [show (min (max (99 : Int) 0) 65536).toNat = 99 by decide] at HC
  go_wp2_with fail
  refine HC.out.mono ?_
  rintro e w5 ⟨rfl, -, t5, -⟩
  have T5 := hide (T4.out.trans t5)
  have HF := hide (mnew_words 1 1 1 (by omega) (by omega) (by omega) (.slice none 0 0) p1 q1 (List.replicate 9 0) 0 (some ⟨pb, 0, none⟩) (some ⟨w4.heap.size + 1, 0, none⟩) 8 (Bt.sidesOf (fun _ => 0)) w5 (M4.out.turned t5 (by simp) (by simp)) (B4.out.turned0 t5).brd (by decide))
  rw [show ((1 : Nat) : Int) = 1 from rfl] at HF
  clear t5 HC M4 B4 T4
  go_wp2_with fail
  refine HF.out.mono ?_
  rintro e w6 ⟨rfl, hw6⟩
  obtain rfl : w6 = w5 := hw6
  clear HF
  have HC := hide (new_any 9 w6)
  rw [show (min (max (9 : Int) 0) 65536).toNat = 9 by decide] at HC
  go_wp2_with fail
  refine HC.out.mono ?_
  rintro e w7 ⟨rfl, hM, t7, -⟩
  have M7 := hide hM
  have T7 := hide (T5.out.trans t7)
  clear hM t7 HC T5
  generalize w6.heap.size + 1 = p2 at *
  generalize w6.heap.size = q2 at *
  have HB := hide (Bt.new_any 9 w7 (by unfold Bt.In64; omega) (HT.out.turned T7.out (by simp)))
  rw [show Bt.kp 65536 9 = 9 from rfl] at HB
  go_wp2_with fail
  refine HB.out.mono ?_
  rintro e w8 ⟨pc, qc, rfl, hb, -, -, t8⟩
  have B8 := hide hb
  have M8 := hide (M7.out.turned t8 (by simp) (by simp))
  have T8 := hide (T7.out.trans t8)
  clear hb t8 HB M7 T7
  have HC := hide (new_any 5 w8)
  rw [show (min (max (5 : Int) 0) 65536).toNat = 5 by decide] at HC
  go_wp2_with fail
  refine HC.out.mono ?_
  rintro e w9 ⟨rfl, hM9, t9, -⟩
  have T9 := hide (T8.out.trans t9)
  have HF := hide (mnew_short 1 1 1 (by omega) (by omega) (by omega) (.slice none 0 0) p2 q2 (w8.heap.size + 1) w8.heap.size (List.replicate 9 0) (List.replicate 5 0) 0 0 (some ⟨pc, 0, none⟩) (Bt.sidesOf (fun _ => 0)) w9 (M8.out.turned t9 (by simp) (by simp)) (B8.out.turned0 t9).brd hM9 (by decide))
  rw [show ((1 : Nat) : Int) = 1 from rfl] at HF
  clear t9 HC M8 B8 T8 hM9
  go_wp2_with fail
  refine HF.out.mono ?_
  rintro e w10 ⟨rfl, hw10⟩
  obtain rfl : w10 = w9 := hw10
  clear HF
  have HF := hide (awake11 w10 (HT.out.turned T9.out (by simp)))
  go_wp2_with fail
  refine HF.out.mono ?_
  rintro e w11 ⟨rfl, t11⟩
  have T11 := hide (T9.out.trans t11)
  clear t11 HF T9
  have HF := hide (nil_step w11 t)
  go_wp2_with fail
  refine HF.out.mono ?_
  rintro e w12 ⟨rfl, hw⟩
  obtain rfl : w12 = w11 := hw
  clear HF
  have HF := hide (nil_done w12)
  go_wp2_with fail
  refine HF.out.mono ?_
  rintro e w13 ⟨rfl, hw⟩
  obtain rfl : w13 = w12 := hw
  clear HF
  have HF := hide (nil_seen w13)
  go_wp2_with fail
  refine HF.out.mono ?_
  rintro e w14 ⟨rfl, hw⟩
  obtain rfl : w14 = w13 := hw
  clear HF
  have HF := hide (nil_fault w14)
  go_wp2_with fail
  refine HF.out.mono ?_
  rintro e w15 ⟨rfl, hw⟩
  obtain rfl : w15 = w14 := hw
  clear HF
  have HF := hide (mneed_bad 0 1 1 (by omega) (by omega) (by omega) w15)
  rw [show ((1 : Nat) : Int) = 1 from rfl] at HF
  go_wp2_with fail
  refine HF.out.mono ?_
  rintro e w16 ⟨rfl, hw⟩
  obtain rfl : w16 = w15 := hw
  clear HF
  have HF := hide (mneed_bad 65 1 1 (by omega) (by omega) (by omega) w16)
  rw [show ((1 : Nat) : Int) = 1 from rfl] at HF
  go_wp2_with fail
  refine HF.out.mono ?_
  rintro e w17 ⟨rfl, hw⟩
  obtain rfl : w17 = w16 := hw
  clear HF
  have HF := hide (mneed_ok 2 1 1 (by omega) (by omega) (by omega) w17)
  rw [show ((2 : Nat) : Int) = 2 from rfl, show ((1 : Nat) : Int) = 1 from rfl, show ((1 + 2 * (4 + 1 + 1) : Nat) : Int) = 13 from rfl] at HF
  go_wp2_with fail
  refine HF.out.mono ?_
  rintro e w18 ⟨rfl, hw⟩
  obtain rfl : w18 = w17 := hw
  clear HF
  go_wp2_with fail
  go_ret
  exact ⟨rfl, T11.out⟩

set_option maxRecDepth 100000 in
theorem markNil_lifted (os : Os) (started : os.Started) (H : Type) (enc : TypeId × Value → H) :
    ReturnsInHanded {} Tryz.checked os 6 .any (fun w args => (Rows.markNilSpec.pre enc Tryz.prog Tryz.f6 [] false w args ∧ laidMetH Tryz.prog laidTab w) ∧ sizedMet enc Tryz.prog Tryz.f6 (OpenSpec.ofChange Rows.markNilSpec) false w args)
      (Rows.markNilSpec.post enc Tryz.prog Tryz.f6 false true false false) := by
  refine returnsInHanded_of_change_and (C := Tryz.checked) (X := fun w _ => laidMetH Tryz.prog laidTab w) (fun _ _ _ hh h => h.of_heap hh) own started (by kernel_rfl) Tryz.func6
    (ChangeSpec.witness_shaped (enc := enc) (C := Tryz.checked) (os := os) (X := fun w _ => laidMetH Tryz.prog laidTab w) false (World.doorLaid Tryz.prog 400 os) #[.int .i64 0] 8 rfl (World.shaped_of_RefB (by kernel_rfl) (by kernel_rfl)) (by kernel_rfl) (by kernel_rfl) (by kernel_rfl) (door_met os _)) ?_
  intro W base args ds gs before hval0 hW _ _ hL _
  have hTab := tab_of hL
  have hval : ∀ (j : Nat) t v, Tryz.f6.params[j]? = some t → args[j]? = some v → Value.okWide Tryz.prog W .any base t v := hval0
  have hW' := hW
  obtain ⟨p, q, hA0, hV, rfl, hfz, hnd⟩ := hW
  have hA : DataW.TrodAll enc Tryz.prog W 0 (fun _ => true) true Tryz.f6.params.toList args.toList ds p := hA0
  rw [Tryz.params6] at hA hval
  obtain ⟨v0, vs0, d0, ds0, p0, q0, hargs, rfl, rfl, h0, r0⟩ := trodAll_cons hA
  obtain ⟨rfl, rfl, rfl⟩ := trodAll_nil r0
  obtain rfl : args = #[v0] := by cases args; simp_all
  obtain ⟨rfl, rfl⟩ := trodVars_none hV
  obtain ⟨a0, rfl, rfl, rfl, w0⟩ := open_int Tryz.underlying3 (hval 0 3 v0 rfl rfl) h0
  simp only [List.append_nil] at hW'
  clear hA0 hval0
  refine (markNil_walk a0 W w0 hTab).mono fun e W' ⟨he, ht⟩ => ?_
  subst he
  have bel : Below W.heap.size W W' := ht.below0
  exact ⟨_, rfl, _, _, _, [], _, [], hW', trodAll_mk1 (shut_bool Tryz.underlying4 _), (trodAll_cons_mk (shut_int Tryz.underlying3 w0) trodAll_mk0), rfl, bel.frame _, fun h => by cases h⟩

theorem markNil_over : Rows.markNilRow.holds Tryz.pinned (OpenSpec.ofChange Rows.markNilSpec) :=
  OpenClaim.holds_of_wide 6 Tryz.f6 rfl rfl rfl rfl rfl rfl rfl ⟨rfl, rfl, rfl, rfl, rfl⟩ rfl rfl rfl rfl rfl (by kernel_rfl) Tryz.func6 (by kernel_rfl)
    (of_decide_eq_true (by kernel_rfl)) (by unfold Func.isWrapper; first | (rw [if_pos (by decide +kernel)]; kernel_rfl) | (rw [if_neg (by decide +kernel)]; exact ⟨rfl, rfl⟩))
    (fun os started H enc _ => markNil_lifted os started H enc)

theorem markNil_holds : Rows.MarkNilSaid := markNil_over

theorem markNil_card : Rows.MarkNilCardSaid :=
  Claim7.holds_tied_plain_at .later [] [.data] true _ false
    markNil_holds (fun _ h => by cases h) (by kernel_rfl) (fun _ h => by cases h) markNil_row_tie rfl ⟨rfl, rfl⟩ (by kernel_rfl) rfl
    (fun f fn hf hfn => by
      obtain rfl : f = 6 := Option.some.inj ((show Tryz.prog.funcNamed "ballast/ballastlaw11.MarkNil" = some 6 by kernel_rfl).symm.trans hf) |>.symm
      obtain rfl : fn = Tryz.f6 := (Option.some.inj (Tryz.func6.symm.trans hfn)).symm
      exact ⟨by kernel_rfl, fun j t ht => by
        rw [Tryz.params6] at ht
        have h3 : t ∈ [3] := by
          have h4 := Array.mem_of_getElem? ht
          simpa using h4
        have h5 : ∀ u, u ∈ [3] → Tryz.prog.wantsStandIn u = false := by
          intro u hu
          simp only [List.mem_cons, List.not_mem_nil, or_false] at hu
          rcases hu with rfl <;> kernel_rfl
        exact h5 t h3⟩)
    (by kernel_rfl)
end Go.Proofs.YthpjlhfijkeciaaGreatDoor
