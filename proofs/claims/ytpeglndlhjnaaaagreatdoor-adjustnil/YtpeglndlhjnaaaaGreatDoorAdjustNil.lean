/-
  AdjustNil: of no adjuster nothing comes; one needs memory, bits and a cell. For every number.
-/
import Derived.Test.YtpeglndlhjnaaaaGreatDoorPack36
import Derived.Test.YtpeglndlhjnaaaaGreatDoorPack34
import Derived.Test.YtpeglndlhjnaaaaGreatDoorPack18
import Derived.Test.YtpeglndlhjnaaaaGreatDoorCards
import Derived.Test.YtpeglndlhjnaaaaGreatDoorTie
import Derived.SevenTiedAt
namespace Go.Proofs.YtpeglndlhjnaaaaGreatDoor
open Go.ChangeShapes Go.WideShapes Go.ChangeAt Go.RowKit Bt
set_option linter.unusedVariables false
set_option linter.unusedSimpArgs false

def vN14 (t : Int) : Value := .agg #[.int .i64 0, .int .i64 t, .int .i64 1, .int .i64 0, .int .i64 0, .slice none 0 0, .slice none 0 0, .slice none 0 0, .slice none 0 0]
theorem anew_bad5 (w : World) (cp cq bp bq : Nat) (co : Option Addr) (t n : Nat) (hw : List Int) (F : Nat → Nat → Bool) (hm : Mem w cp cq hw 0) (hl : hw.length = 5) (hb : Bts w bp bq 5 F) (ko : Option Addr) (hbad : ¬ t ≤ 5 ∨ 64 < n) :
    Calls Tryz.prog 11 #[.pointer (some ⟨cp, 0, none⟩), .slice none 0 0, .pointer (some ⟨bp, 0, none⟩), vN14 t, .pointer ko, .int .i64 (n : Int)] w fun e w' => e = .returned (.tuple #[.pointer none, .int .i64 1]) ∧ Turned [] w w' :=
  anew_no w ⟨0, t, 1, 0, 0⟩ F cp cq bp bq 5 n hw 0 none 0 0 (.slice none 0 0) (.slice none 0 0) (.slice none 0 0) (.slice none 0 0) ko hm hl hb (Nat.zero_le _) (Nat.le_refl _) hbad
theorem anew_yes5 (w : World) (cp cq kp kq bp bq : Nat) (hw cl : List Int) (F : Nat → Nat → Bool) (hm : Mem w cp cq hw 0) (hl : hw.length = 5) (hb : Bts w bp bq 5 F) (hk : Mem w kp kq cl 0) (hcl : 0 < cl.length ∧ cl.length ≤ 65536) (hck : cp ≠ kp ∧ cp ≠ kq ∧ cq ≠ kp ∧ cq ≠ kq) :
    Calls Tryz.prog 11 #[.pointer (some ⟨cp, 0, none⟩), .slice none 0 0, .pointer (some ⟨bp, 0, none⟩), vN14 5, .pointer (some ⟨kp, 0, none⟩), .int .i64 64] w fun e w' => (∃ ab, e = .returned (.tuple #[.pointer (some ⟨ab, 0, none⟩), .int .i64 0])) ∧ Turned [kp, kq] w w' := by
  refine (anew_mem w ⟨0, 5, 1, 0, 0⟩ F cp cq kp kq bp bq 5 64 hw 0 cl 0 none none none none none 0 0 0 0 0 0 0 0 0 0 (fun _ _ _ _ => True) (fun _ _ _ _ => True) (fun _ _ _ _ _ _ _ _ _ => trivial) (fun _ _ _ _ _ _ _ _ _ => trivial) (fun _ _ _ _ _ _ _ _ _ => trivial) hm hk hl hck hcl hb ⟨by decide, by decide, by decide, by decide⟩ (by decide) (by decide) (by decide) (by decide) (fun w' _ => clA_cnil w') (fun w' _ => clA_nil w') (fun w' _ => clA_nil w') (fun w' _ => clA_nil w') (fun w' _ => clA_nil2 w')).mono ?_
  rintro e w' ⟨ab, shb, mb, co', cn', ck', l', ao', an', ac', wt', tk', he, -, -, -, -, -, -, -, -, -, t⟩
  exact ⟨⟨ab, he⟩, t⟩

set_option maxHeartbeats 4000000 in
set_option maxRecDepth 100000 in
theorem adjustNil_walk (k : Int) (w : World) (hk : (Lit.int .i64 k).wf = true) (hT : Tab w) :
    Calls Tryz.prog 4 #[.int .i64 k] w fun e w' => e = .returned (.bool true) ∧ Turned [] w w' := by
  have H0 := hide (block_lt (hT 0 (by omega)))
  have HTab := hide hT
  have HN1 := hide (anew_none w none 0 0 none none ⟨0, 0, 0, 0, 0⟩ (.slice none 0 0) (.slice none 0 0) (.slice none 0 0) (.slice none 0 0) 1)
  rw [show (Value.agg (plC ⟨0, 0, 0, 0, 0⟩ (.slice none 0 0) (.slice none 0 0) (.slice none 0 0) (.slice none 0 0))) = .agg #[.int .i64 0, .int .i64 0, .int .i64 0, .int .i64 0, .int .i64 0, .slice none 0 0, .slice none 0 0, .slice none 0 0, .slice none 0 0] from rfl] at HN1
  have HCells := hide (fun (w' : World) => new_any 5 w')
  rw [show (min (max (5 : Int) 0) 65536).toNat = 5 by omega] at HCells
  have HCell1 := hide (fun (w' : World) => new_any 1 w')
  rw [show (min (max (1 : Int) 0) 65536).toNat = 1 by omega] at HCell1
  have HBn := hide (fun (w' : World) (t : Turned [] w w') => Bt.new_any 5 w' (by unfold Bt.In64; omega) (HTab.out.turned t (by simp)))
  rw [show kp 65536 5 = 5 by unfold kp; omega] at HBn
  have HAw := hide (fun (w' : World) (t : Turned [] w w') => awake14 w' (HTab.out.turned t (by simp)))
  have HB6 := hide (fun (w' : World) cp cq bp bq hw F hm hl hb ko => anew_bad5 w' cp cq bp bq none 6 1 hw F hm hl hb ko (.inl (by omega)))
  have HB65 := hide (fun (w' : World) cp cq bp bq hw F hm hl hb ko => anew_bad5 w' cp cq bp bq none 5 65 hw F hm hl hb ko (.inr (by omega)))
  have HB64 := hide anew_yes5
  unfold vN14 at HB6 HB65 HB64
  rw [show ((6 : Nat) : Int) = 6 from rfl, show ((1 : Nat) : Int) = 1 from rfl] at HB6
  rw [show ((5 : Nat) : Int) = 5 from rfl, show ((65 : Nat) : Int) = 65 from rfl] at HB65
  clear hT hk
  go_enter Tryz.func4, Tryz.ntmps4
  go_wp2_with fail
  refine (HN1.out).mono ?_
  rintro e w1 ⟨rfl, t1⟩
  have HT1 := hide t1
  clear t1 HN1
  go_wp2_with fail
  refine (HCells.out w1).mono ?_
  rintro e w2 ⟨rfl, hm2, t2, -⟩
  have HT2 := hide (HT1.out.trans t2)
  have HM2 := hide hm2
  clear t2 hm2 HT1
  generalize w1.heap.size + 1 = cp at *
  generalize w1.heap.size = cq at *
  go_wp2_with fail
  refine (HBn.out w2 HT2.out).mono ?_
  rintro e w3 ⟨bp, bq, rfl, hb3, -, -, t3⟩
  have HT3 := hide (HT2.out.trans t3)
  have HM3 := hide (HM2.out.turned t3 (by simp) (by simp))
  have HBt3 := hide hb3
  clear t3 hb3 HT2 HM2
  go_wp2_with fail
  refine (HCell1.out w3).mono ?_
  rintro e w4 ⟨rfl, hm4, t4, -⟩
  have HT4 := hide (HT3.out.trans t4)
  have HX4 := hide (fun ko => HB6.out w4 cp cq bp bq _ _ (HM3.out.turned t4 (by simp) (by simp)) (by simp) (HBt3.out.turned0 t4) ko)
  clear t4 hm4 HT3 HM3 HBt3 HB6
  go_wp2_with fail
  refine (HX4.out _).mono ?_
  rintro e w5 ⟨rfl, t5⟩
  have HT5 := hide (HT4.out.trans t5)
  clear t5 HT4 HX4
  go_wp2_with fail
  refine (HCells.out w5).mono ?_
  rintro e w2 ⟨rfl, hm2, t2, -⟩
  have HT2 := hide (HT5.out.trans t2)
  have HM2 := hide hm2
  clear t2 hm2 HT5
  generalize w5.heap.size + 1 = cp at *
  generalize w5.heap.size = cq at *
  go_wp2_with fail
  refine (HBn.out w2 HT2.out).mono ?_
  rintro e w3 ⟨bp, bq, rfl, hb3, -, -, t3⟩
  have HT3 := hide (HT2.out.trans t3)
  have HM3 := hide (HM2.out.turned t3 (by simp) (by simp))
  have HBt3 := hide hb3
  clear t3 hb3 HT2 HM2
  go_wp2_with fail
  refine (HCell1.out w3).mono ?_
  rintro e w4 ⟨rfl, hm4, t4, -⟩
  have HT4 := hide (HT3.out.trans t4)
  have HX4 := hide (fun ko => HB65.out w4 cp cq bp bq _ _ (HM3.out.turned t4 (by simp) (by simp)) (by simp) (HBt3.out.turned0 t4) ko)
  clear t4 hm4 HT3 HM3 HBt3 HB65
  go_wp2_with fail
  refine (HX4.out _).mono ?_
  rintro e w6 ⟨rfl, t6⟩
  have HT6 := hide (HT4.out.trans t6)
  clear t6 HT4 HX4
  go_wp2_with fail
  refine (HCells.out w6).mono ?_
  rintro e w2 ⟨rfl, hm2, t2, -⟩
  have HT2 := hide (HT6.out.trans t2)
  have HM2 := hide hm2
  have HLo := hide (show w.heap.size ≤ w6.heap.size from HT6.out.size)
  clear t2 hm2 HT6
  obtain ⟨cp, hcp⟩ : ∃ cp, cp = w6.heap.size + 1 := ⟨_, rfl⟩
  obtain ⟨cq, hcq⟩ : ∃ cq, cq = w6.heap.size := ⟨_, rfl⟩
  rw [← hcp, ← hcq] at HM2
  rw [← hcp]
  clear hcp hcq HLo
  go_wp2_with fail
  refine (HBn.out w2 HT2.out).mono ?_
  rintro e w3 ⟨bp, bq, rfl, hb3, -, -, t3⟩
  have HT3 := hide (HT2.out.trans t3)
  have HM3 := hide (HM2.out.turned t3 (by simp) (by simp))
  have HBt3 := hide hb3
  clear t3 hb3 HT2 HM2 HBn
  go_wp2_with fail
  refine (HCell1.out w3).mono ?_
  rintro e w4 ⟨rfl, hm4, t4, -⟩
  have HT4 := hide (HT3.out.trans t4)
  have HLt := hide (And.intro HM3.out.ltp (And.intro HM3.out.ltq HT3.out.size))
  have HX4 := hide (HB64.out w4 cp cq (w3.heap.size + 1) w3.heap.size bp bq _ _ _ (HM3.out.turned t4 (by simp) (by simp)) (by simp) (HBt3.out.turned0 t4) hm4 (by simp) (by have := HM3.out.ltp; have := HM3.out.ltq; omega))
  clear t4 hm4 HT3 HM3 HBt3 HB64
  go_wp2_with fail
  refine (HX4.out).mono ?_
  rintro e w7 ⟨⟨ab, rfl⟩, t7⟩
  have HT7 : Hid (Turned [] w w7) := hide (HT4.out.trans_new t7 (fun i hi => .inr (by
    have h2 := HLt.out.2.2
    simp only [List.mem_cons, List.not_mem_nil, or_false] at hi
    rcases hi with rfl | rfl <;> omega)))
  clear t7 HT4 HX4 HLt
  go_wp2_with fail
  have HA4 := hide (HAw.out w7 HT7.out)
  refine (HA4.out).mono ?_
  rintro e w8 ⟨rfl, t8⟩
  have HT8 := hide (HT7.out.trans t8)
  have n1 := hide (astep_nil w8 k)
  have n2 := hide (adone_nil w8)
  have n3 := hide (afault_nil w8)
  clear t8 HT7 HA4
  go_wp2_with fail
  refine (n1.out).mono ?_
  rintro e w9 ⟨rfl, hw9⟩
  rw [hw9]; clear hw9 w9
  go_wp2_with fail
  refine (n2.out).mono ?_
  rintro e w9 ⟨rfl, hw9⟩
  rw [hw9]; clear hw9 w9
  go_wp2_with fail
  refine (n3.out).mono ?_
  rintro e w9 ⟨rfl, hw9⟩
  rw [hw9]; clear hw9 w9
  go_wp2_with fail
  go_ret
  exact ⟨rfl, HT8.out⟩

set_option maxRecDepth 100000 in
theorem adjustNil_lifted (os : Os) (started : os.Started) (H : Type) (enc : TypeId × Value → H) :
    ReturnsInHanded {} Tryz.checked os 4 .any (fun w args => (Rows.adjustNilSpec.pre enc Tryz.prog Tryz.f4 [] false w args ∧ laidMetH Tryz.prog laidTab w) ∧ sizedMet enc Tryz.prog Tryz.f4 (OpenSpec.ofChange Rows.adjustNilSpec) false w args)
      (Rows.adjustNilSpec.post enc Tryz.prog Tryz.f4 false true false false) := by
  refine returnsInHanded_of_change_and (C := Tryz.checked) (X := fun w _ => laidMetH Tryz.prog laidTab w) (fun _ _ _ hh h => h.of_heap hh) own started (by kernel_rfl) Tryz.func4
    (ChangeSpec.witness_shaped (enc := enc) (C := Tryz.checked) (os := os) (X := fun w _ => laidMetH Tryz.prog laidTab w) false (World.doorLaid Tryz.prog 400 os) #[.int .i64 0] 8 rfl (World.shaped_of_RefB (by kernel_rfl) (by kernel_rfl)) (by kernel_rfl) (by kernel_rfl) (by kernel_rfl) (door_met os _)) ?_
  intro W base args ds gs before hval0 hW _ _ hL _
  have hTab := tab_of hL
  have hval : ∀ (j : Nat) t v, Tryz.f4.params[j]? = some t → args[j]? = some v → Value.okWide Tryz.prog W .any base t v := hval0
  have hW' := hW
  obtain ⟨p, q, hA0, hV, rfl, hfz, hnd⟩ := hW
  have hA : DataW.TrodAll enc Tryz.prog W 0 (fun _ => true) true Tryz.f4.params.toList args.toList ds p := hA0
  rw [Tryz.params4] at hA hval
  obtain ⟨v0, vs0, d0, ds0, p0, q0, hargs, rfl, rfl, h0, r0⟩ := trodAll_cons hA
  obtain ⟨rfl, rfl, rfl⟩ := trodAll_nil r0
  obtain rfl : args = #[v0] := by cases args; simp_all
  obtain ⟨rfl, rfl⟩ := trodVars_none hV
  obtain ⟨a0, rfl, rfl, rfl, w0⟩ := open_int Tryz.underlying3 (hval 0 3 v0 rfl rfl) h0
  simp only [List.append_nil] at hW'
  clear hA0 hval0
  refine (adjustNil_walk a0 W w0 hTab).mono fun e W' ⟨he, ht⟩ => ?_
  subst he
  have bel : Below W.heap.size W W' := ht.below0
  exact ⟨_, rfl, _, _, _, [], _, [], hW', trodAll_mk1 (shut_bool Tryz.underlying4 _), (trodAll_cons_mk (shut_int Tryz.underlying3 w0) trodAll_mk0), rfl, bel.frame _, fun h => by cases h⟩

theorem adjustNil_over : Rows.adjustNilRow.holds Tryz.pinned (OpenSpec.ofChange Rows.adjustNilSpec) :=
  OpenClaim.holds_of_wide 4 Tryz.f4 rfl rfl rfl rfl rfl rfl rfl ⟨rfl, rfl, rfl, rfl, rfl⟩ rfl rfl rfl rfl rfl (by kernel_rfl) Tryz.func4 (by kernel_rfl)
    (of_decide_eq_true (by kernel_rfl)) (by unfold Func.isWrapper; first | (rw [if_pos (by decide +kernel)]; kernel_rfl) | (rw [if_neg (by decide +kernel)]; exact ⟨rfl, rfl⟩))
    (fun os started H enc _ => adjustNil_lifted os started H enc)

theorem adjustNil_holds : Rows.AdjustNilSaid := adjustNil_over

theorem adjustNil_card : Rows.AdjustNilCardSaid :=
  Claim7.holds_tied_plain_at .later [] [.data] true _ false
    adjustNil_holds (fun _ h => by cases h) (by kernel_rfl) (fun _ h => by cases h) adjustNil_row_tie rfl ⟨rfl, rfl⟩ (by kernel_rfl) rfl
    (fun f fn hf hfn => by
      obtain rfl : f = 4 := Option.some.inj ((show Tryz.prog.funcNamed "ballast/ballastlaw14.AdjustNil" = some 4 by kernel_rfl).symm.trans hf) |>.symm
      obtain rfl : fn = Tryz.f4 := (Option.some.inj (Tryz.func4.symm.trans hfn)).symm
      exact ⟨by kernel_rfl, fun j t ht => by
        rw [Tryz.params4] at ht
        have h3 : t ∈ [3] := by
          have h4 := Array.mem_of_getElem? ht
          simpa using h4
        have h5 : ∀ u, u ∈ [3] → Tryz.prog.wantsStandIn u = false := by
          intro u hu
          simp only [List.mem_cons, List.not_mem_nil, or_false] at hu
          rcases hu with rfl <;> kernel_rfl
        exact h5 t h3⟩)
    (by kernel_rfl)
end Go.Proofs.YtpeglndlhjnaaaaGreatDoor
