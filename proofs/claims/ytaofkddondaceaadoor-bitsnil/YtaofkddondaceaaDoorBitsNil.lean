/-
  BitsNil: of no object nothing comes; a zero one has no words. For every number.
-/
import Derived.Test.YtaofkddondaceaaDoorBitsAwake
import Derived.Test.YtaofkddondaceaaDoorLawLaid
import Derived.Test.YtaofkddondaceaaDoorCards
import Derived.Test.YtaofkddondaceaaDoorTie
import Derived.SevenTiedAt
namespace Go.Proofs.YtaofkddondaceaaDoor
open Go.ChangeShapes Go.WideShapes Go.ChangeAt Go.RowKit
set_option linter.unusedVariables false

theorem brd_nil {w : World} (hT : Tab w) : Brd w none 0 (sidesOf S0) := ⟨by omega, hT, fun a h => (by cases h), fun h => absurd h (by omega), fun _ => rfl⟩
theorem brd_zero {w : World} {g : Nat} (hT : Tab w) (hc : w.cell? ⟨g, 0, none⟩ = some (.int .i64 0)) : Brd w (some ⟨g, 0, none⟩) 0 (sidesOf S0) :=
  ⟨by omega, hT, fun a h => (by cases h; exact ⟨g, rfl, hc⟩), fun h => absurd h (by omega), fun h => (by cases h)⟩
theorem over_none {n : Nat} {x a z : Int} {t : Bool} (h : IsOver S0 x a z t) : t = false := by
  rcases h with ⟨k, j, _, h2, _⟩ | ⟨_, _, _, h⟩
  · exfalso
    have h3 := h2.1
    have h4 := h2.2
    unfold S0 at h4
    omega
  · exact h
theorem szI_none (x : Int) : szI S0 x = 0 := by unfold szI S0; split <;> rfl
theorem next_none {f : Nat → Bool} {r : Int} (h : IsNext f 0 0 r) : r = -1 := by
  rcases h with ⟨rfl, _⟩ | ⟨k, _, h1, h2, _⟩
  · rfl
  · omega

set_option maxHeartbeats 1000000 in
theorem bitsNil_walk (x : Int) (w : World) (hx : (Lit.int .i64 x).wf = true) (hT : Tab w) :
    Calls Tryd.prog 6 #[.int .i64 x] w fun e w' => e = .returned (.bool true) ∧ Turned [] w w' := by
  have h0 : 0 < w.heap.size := block_lt (hT 0 (by omega))
  have HT0 := hide hT
  clear hx hT
  go_enter Tryd.func6, Tryd.ntmps6
  go_wp2_with fail
  have ht1 : Turned [] w (w.alloc (.cells #[.int .i64 0, .slice none 0 0] 51)) := (Turned.refl [] w).alloc _
  have c1 : (w.alloc (.cells #[.int .i64 0, .slice none 0 0] 51)).cell? ⟨w.heap.size, 0, none⟩ = some (.int .i64 0) := by rw [cell_of_heap (heap_alloc_new _ _)]; rfl
  have hs1 : w.heap.size < (w.alloc (.cells #[.int .i64 0, .slice none 0 0] 51)).heap.size := by simp
  generalize w.alloc (.cells #[.int .i64 0, .slice none 0 0] 51) = w1 at *
  generalize w.heap.size = g at *
  have HT1 := hide (HT0.out.turned ht1 (by simp))
  have HZ1 := hide (brd_zero HT1.out c1)
  have HC1 := hide (clear_any none 0 0 0 S0 none 0 0 [(0, 0)] w1 ⟨brd_nil HT1.out, Bl.none 0, fun h => absurd h (by omega)⟩ (by omega) rfl (fun _ => rfl) (fun h => absurd h (by omega)) (by omega) [] (fun h => absurd h (by omega)))
  have HA1 := hide ht1
  clear ht1 c1
  refine (HC1.out).mono ?_
  rintro e w2 ⟨rfl, _, ht2⟩
  have HT2 := hide (HT1.out.turned ht2 (by simp))
  have HZ2 := hide (HZ1.out.turned ht2)
  have HA2 := hide (HA1.out.trans ht2)
  have h02 : 0 < w2.heap.size := block_lt (HT2.out 0 (by omega))
  clear HT1 HZ1 HC1 HA1 ht2 hs1
  go_wp2_with fail
  have ht3 : Turned [] w2 (w2.alloc (.cells #[.int .i64 0, .int .i64 9] 38)) := (Turned.refl [] w2).alloc _
  have hsp : SpRd (w2.alloc (.cells #[.int .i64 0, .int .i64 9] 38)) w2.heap.size [(0, 9)] := ⟨fun i r hr => by
    cases i with
    | zero =>
      simp at hr
      subst hr
      exact ⟨by rw [cell_of_heap (heap_alloc_new _ _)]; rfl, by rw [cell_of_heap (heap_alloc_new _ _)]; rfl⟩
    | succ i => simp at hr⟩
  have hs3 : 0 < (w2.alloc (.cells #[.int .i64 0, .int .i64 9] 38)).heap.size := by simp
  generalize w2.alloc (.cells #[.int .i64 0, .int .i64 9] 38) = w3 at *
  generalize w2.heap.size = g2 at *
  have HT3 := hide (HT2.out.turned ht3 (by simp))
  have HZ3 := hide (HZ2.out.turned ht3)
  have HA3 := hide (HA2.out.trans ht3)
  have HC3 := hide (clear_any (some ⟨g, 0, none⟩) g 0 0 S0 (some ⟨g2, 0, none⟩) 1 1 [(0, 9)] w3 ⟨HZ3.out, Bl.none 0, fun h => absurd h (by omega)⟩ (by omega) rfl (fun h => absurd h (by omega)) (fun _ => ⟨g2, rfl, hsp, by omega⟩) hs3 [] (fun h => absurd h (by omega)))
  clear HT2 HZ2 HA2 ht3 hsp
  refine (HC3.out).mono ?_
  rintro e w4 ⟨rfl, _, ht4⟩
  have HT4 := hide (HT3.out.turned ht4 (by simp))
  have HZ4 := hide (HZ3.out.turned ht4)
  have HA4 := hide (HA3.out.trans ht4)
  clear HT3 HZ3 HA3 HC3 ht4 hs3 h02
  have HM := hide (mark_nil none _ x 1 w4 (brd_nil HT4.out))
  go_wp2_with fail
  refine (HM.out).mono ?_
  rintro e w5 ⟨rfl, rfl⟩
  have HM2 := hide (mark_nil (some ⟨g, 0, none⟩) _ 0 1 w5 HZ4.out)
  go_wp2_with fail
  refine (HM2.out).mono ?_
  rintro e w6 ⟨rfl, rfl⟩
  have HO := hide (over_any none 0 S0 x w6 (brd_nil HT4.out) (Bl.none 0))
  clear HM HM2
  go_wp2_with fail
  refine (HO.out).mono ?_
  rintro e w7 ⟨a7, z7, t7, rfl, ho, m7, rfl⟩
  have ht7 := over_none (n := 0) ho
  subst ht7
  have htd := (Turned.refl [] w6).drewN m7
  have HT7 := hide (HT4.out.turned htd (by simp))
  have HZ7 := hide (HZ4.out.turned htd)
  have HA7 := hide (HA4.out.trans htd)
  clear HT4 HZ4 HA4 htd HO ho
  generalize w6.drewN m7 = w8 at *
  have HAw := hide (awake_any w8 HT7.out)
  go_wp2_with fail
  refine (HAw.out).mono ?_
  rintro e w9 ⟨rfl, ht9⟩
  have HT9 := hide (HT7.out.turned ht9 (by simp))
  have HZ9 := hide (HZ7.out.turned ht9)
  have HA9 := hide (HA7.out.trans ht9)
  clear HT7 HZ7 HA7 HAw ht9
  have HH := hide (bhas_any none 0 S0 x w9 (brd_nil HT9.out) (Bl.none 0))
  rw [szI_none] at HH
  go_wp2_with fail
  refine (HH.out).mono ?_
  rintro e w10 ⟨rfl, m10, rfl⟩
  have htd := (Turned.refl [] w9).drewN m10
  have HT10 := hide (HT9.out.turned htd (by simp))
  have HZ10 := hide (HZ9.out.turned htd)
  have HA10 := hide (HA9.out.trans htd)
  clear HT9 HZ9 HA9 htd HH
  generalize w9.drewN m10 = w11 at *
  have HS := hide (size_any none 0 S0 x w11 (brd_nil HT10.out) (Bl.none 0))
  rw [szI_none] at HS
  go_wp2_with fail
  refine (HS.out).mono ?_
  rintro e w12 ⟨rfl, m12, rfl⟩
  have htd := (Turned.refl [] w11).drewN m12
  have HT12 := hide (HT10.out.turned htd (by simp))
  have HZ12 := hide (HZ10.out.turned htd)
  have HA12 := hide (HA10.out.trans htd)
  clear HT10 HZ10 HA10 htd HS
  generalize w11.drewN m12 = w13 at *
  have HL := hide (live_any none 0 S0 0 9 w13 (brd_nil HT12.out) (Bl.none 0))
  rw [show kp 0 0 = 0 by decide, show kp 0 9 = 0 by decide, show cntIn (live S0) 0 0 = 0 from rfl] at HL
  go_wp2_with fail
  refine (HL.out).mono ?_
  rintro e w14 ⟨rfl, ht14⟩
  have HT14 := hide (HT12.out.turned ht14 (by simp))
  have HZ14 := hide (HZ12.out.turned ht14)
  have HA14 := hide (HA12.out.trans ht14)
  clear HT12 HZ12 HA12 ht14 HL
  have HC := hide (count_any none 0 _ 0 9 w14 (brd_nil HT14.out))
  rw [show kp 0 0 = 0 by decide, show kp 0 9 = 0 by decide, show cntIn (sidesOf S0 0) 0 0 = 0 from rfl] at HC
  go_wp2_with fail
  refine (HC.out).mono ?_
  rintro e w15 ⟨rfl, m15, rfl⟩
  have htd := (Turned.refl [] w14).drewN m15
  have HT15 := hide (HT14.out.turned htd (by simp))
  have HZ15 := hide (HZ14.out.turned htd)
  have HA15 := hide (HA14.out.trans htd)
  clear HT14 HZ14 HA14 htd HC
  generalize w14.drewN m15 = w16 at *
  have HW1 := hide (words_any none 0 _ w16 (brd_nil HT15.out))
  have HW2 := hide (words_any (some ⟨g, 0, none⟩) 0 _ w16 HZ15.out)
  go_wp2_with fail
  refine (HW1.out).mono ?_
  rintro e w17 ⟨rfl, rfl⟩
  go_wp2_with fail
  refine (HW2.out).mono ?_
  rintro e w18 ⟨rfl, rfl⟩
  have HN := hide (next_any none 0 _ 0 9 w18 (brd_nil HT15.out))
  rw [show kp 0 0 = 0 by decide, show kp 0 9 = 0 by decide] at HN
  go_wp2_with fail
  refine (HN.out).mono ?_
  rintro e w19 ⟨r, rfl, hr, m19, rfl⟩
  have hr1 := next_none hr
  subst hr1
  have HA19 := hide (HA15.out.drewN m19)
  clear hr HN
  go_wp2_with fail
  go_ret
  exact ⟨rfl, HA19.out⟩

set_option maxRecDepth 100000 in
theorem bitsNil_lifted (os : Os) (started : os.Started) (H : Type) (enc : TypeId × Value → H) :
    ReturnsInHanded {} Tryd.checked os 6 .any (fun w args => (Rows.bitsNilSpec.pre enc Tryd.prog Tryd.f6 [] false w args ∧ laidMetH Tryd.prog laidTab w) ∧ sizedMet enc Tryd.prog Tryd.f6 (OpenSpec.ofChange Rows.bitsNilSpec) false w args)
      (Rows.bitsNilSpec.post enc Tryd.prog Tryd.f6 false true false false) := by
  refine returnsInHanded_of_change_and (C := Tryd.checked) (X := fun w _ => laidMetH Tryd.prog laidTab w) (fun _ _ _ hh h => h.of_heap hh) own started (by kernel_rfl) Tryd.func6
    (ChangeSpec.witness_shaped (enc := enc) (C := Tryd.checked) (os := os) (X := fun w _ => laidMetH Tryd.prog laidTab w) false (World.doorLaid Tryd.prog 400 os) #[.int .i64 0] 8 rfl (World.shaped_of_RefB (by kernel_rfl) (by kernel_rfl)) (by kernel_rfl) (by kernel_rfl) (by kernel_rfl) (door_met os _)) ?_
  intro W base args ds gs before hval0 hW _ _ hL _
  have hTab := tab_of hL
  have hval : ∀ (j : Nat) t v, Tryd.f6.params[j]? = some t → args[j]? = some v → Value.okWide Tryd.prog W .any base t v := hval0
  have hW' := hW
  obtain ⟨p, q, hA0, hV, rfl, hfz, hnd⟩ := hW
  have hA : DataW.TrodAll enc Tryd.prog W 0 (fun _ => true) true Tryd.f6.params.toList args.toList ds p := hA0
  rw [Tryd.params6] at hA hval
  obtain ⟨v0, vs0, d0, ds0, p0, q0, hargs, rfl, rfl, h0, r0⟩ := trodAll_cons hA
  obtain ⟨rfl, rfl, rfl⟩ := trodAll_nil r0
  obtain rfl : args = #[v0] := by cases args; simp_all
  obtain ⟨rfl, rfl⟩ := trodVars_none hV
  obtain ⟨a0, rfl, rfl, rfl, w0⟩ := open_int Tryd.underlying3 (hval 0 3 v0 rfl rfl) h0
  simp only [List.append_nil] at hW'
  clear hA0 hval0
  refine (bitsNil_walk a0 W w0 hTab).mono fun e W' ⟨he, ht⟩ => ?_
  subst he
  have bel : Below W.heap.size W W' := ht.below0
  exact ⟨_, rfl, _, _, _, [], _, [], hW', trodAll_mk1 (shut_bool Tryd.underlying4 _), (trodAll_cons_mk (shut_int Tryd.underlying3 w0) trodAll_mk0), rfl, bel.frame _, fun h => by cases h⟩

theorem bitsNil_over : Rows.bitsNilRow.holds Tryd.pinned (OpenSpec.ofChange Rows.bitsNilSpec) :=
  OpenClaim.holds_of_wide 6 Tryd.f6 rfl rfl rfl rfl rfl rfl rfl ⟨rfl, rfl, rfl, rfl, rfl⟩ rfl rfl rfl rfl rfl (by kernel_rfl) Tryd.func6 (by kernel_rfl)
    (of_decide_eq_true (by kernel_rfl)) (by unfold Func.isWrapper; first | (rw [if_pos (by decide +kernel)]; kernel_rfl) | (rw [if_neg (by decide +kernel)]; exact ⟨rfl, rfl⟩))
    (fun os started H enc _ => bitsNil_lifted os started H enc)

theorem bitsNil_holds : Rows.BitsNilSaid := bitsNil_over

theorem bitsNil_card : Rows.BitsNilCardSaid :=
  Claim7.holds_tied_plain_at .later [] [.data] true _ false
    bitsNil_holds (fun _ h => by cases h) (by kernel_rfl) (fun _ h => by cases h) bitsNil_row_tie rfl ⟨rfl, rfl⟩ (by kernel_rfl) rfl
    (fun f fn hf hfn => by
      obtain rfl : f = 6 := Option.some.inj ((show Tryd.prog.funcNamed "ballast/ballastlaw05.BitsNil" = some 6 by kernel_rfl).symm.trans hf) |>.symm
      obtain rfl : fn = Tryd.f6 := (Option.some.inj (Tryd.func6.symm.trans hfn)).symm
      exact ⟨by kernel_rfl, fun j t ht => by
        rw [Tryd.params6] at ht
        have h3 : t ∈ [3] := by
          have h4 := Array.mem_of_getElem? ht
          simpa using h4
        have h5 : ∀ u, u ∈ [3] → Tryd.prog.wantsStandIn u = false := by
          intro u hu
          simp only [List.mem_cons, List.not_mem_nil, or_false] at hu
          rcases hu with rfl <;> kernel_rfl
        exact h5 t h3⟩)
    (by kernel_rfl)
#print axioms bitsNil_card
end Go.Proofs.YtaofkddondaceaaDoor
