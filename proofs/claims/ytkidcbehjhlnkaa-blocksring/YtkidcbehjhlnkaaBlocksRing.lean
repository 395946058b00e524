/-
  The statement BlocksRing is proved: for every two numbers the law returns true and its arguments read as before; no condition.
-/
import Derived.Test.YtkidcbehjhlnkaaBlocksAwake
import Derived.Test.YtkidcbehjhlnkaaBlocksRingP
import Derived.Deep.DeepCutAuto
import Derived.Deep.LoopGhost
import Derived.Deep.RegionHeld3
namespace Go.Proofs.Ytkidcbehjhlnkaa
open Go.RowKit Go.ChangeShapes Go.WideShapes Go.ChangeAt Go.Maps
set_option linter.unusedVariables false

theorem tmod_bounds (a : Int) (m : Int) (hm : 0 < m) : -m < a.tmod m ∧ a.tmod m < m :=
  ⟨by have := Int.lt_tmod_of_pos a hm; omega, Int.tmod_lt_of_pos a hm⟩

theorem ring_spell (m j : Nat) (hm : m < 40) : wrap64 (1 + wrap64 (4 * (((j : Int) + 1) % ((m : Int) + 1)))) = ringNext (m + 1) j := by
  have e : ((j : Int) + 1) % ((m : Int) + 1) = (((j + 1) % (m + 1) : Nat) : Int) := by rw [Int.natCast_emod]; rfl
  have h := Nat.mod_lt (j + 1) (show 0 < m + 1 by omega)
  rw [e]
  unfold ringNext
  generalize (j + 1) % (m + 1) = r at *
  unfold wrap64
  omega
theorem root_spell (m : Nat) (y : Nat) (hm : m < 40) : wrap64 (1 + wrap64 (4 * ((y : Int) % ((m : Int) + 1)))) = 1 + 4 * ((y % (m + 1) : Nat) : Int) := by
  have e : (y : Int) % ((m : Int) + 1) = ((y % (m + 1) : Nat) : Int) := by rw [Int.natCast_emod]; rfl
  have h := Nat.mod_lt y (show 0 < m + 1 by omega)
  rw [e]
  generalize y % (m + 1) = r at *
  unfold wrap64
  omega

theorem root_spell2 (m : Nat) (y : Nat) (hm : m < 40) : IntKind.i64.wrap (1 + IntKind.i64.wrap (4 * ((y : Int).tmod ((m : Int) + 1)))) = 1 + 4 * ((y % (m + 1) : Nat) : Int) := by
  have h : ∀ z, IntKind.i64.wrap z = wrap64 z := fun z => by unfold wrap64; exact IntKind.wrap_i64 _
  rw [h, h, Int.tmod_eq_emod_of_nonneg (by omega), root_spell m y hm]

theorem ring_reach (p q : Nat) (E : List Int) (k r g : Nat) (w : World) (hk : 0 < k ∧ k ≤ 40) (hr : r < k) (hE : Ring E k) (hM : Mem w p q E 0) (hc : CRd w (some ⟨g, 0, none⟩) 3 threeCs) (ro : Option Addr) (hi : IRd w ro 1 [1 + 4 * (r : Int)]) :
    Calls Try.prog 20 #[.pointer (some ⟨p, 0, none⟩), .slice (some ⟨g, 0, none⟩) 3 3, .int .i64 1, .int .i64 400, .slice ro 1 1] w fun e w' => ∃ ao cap, e = .returned (.tuple #[.slice ao k cap, .int .i64 0]) ∧ (∀ i : Nat, i < k → ∃ b, ao = some ⟨b, 0, none⟩ ∧ w'.cell? ⟨b, i, none⟩ = some (.int .i64 (1 + 4 * (i : Int)))) ∧ Turned [] w w' := by
  refine (reach_in _ E _ 3 3 threeCs 1 400 ro 1 1 [1 + 4 * (r : Int)] (ringBs k) w (by rw [hE.len]; omega) hE.inn hM.any hc hi (by rw [hE.len]; omega) (hE.walk hk)).mono ?_
  rintro e w' ⟨ht, ⟨-, hlo⟩ | ⟨v, R, rfl, hown, hR, -⟩⟩
  · exact absurd hlo (hE.found hk hr)
  · rw [filter_range k R (fun x => (hR x).trans (hE.all hk hr x))] at hown
    obtain ⟨hl, ao, cap, rfl, hcl⟩ := ownsRow_any hown
    simp only [List.length_map, List.length_range] at *
    refine ⟨ao, cap, rfl, fun i hi => ?_, ht⟩
    obtain ⟨b, hb, -, -, hc, -⟩ := hcl i (.int .i64 (1 + 4 * (i : Int))) (by simp [List.getElem?_range hi])
    exact ⟨b, hb, hc⟩

set_option maxRecDepth 100000 in
theorem blocksRing_walk (n x : Int) (w : World) (hn : (Lit.int .i64 n).wf = true) (hx : (Lit.int .i64 x).wf = true) :
    Calls Try.prog 8 #[.int .i64 n, .int .i64 x] w fun e w' => e = .returned (.bool true) ∧ Turned [] w w' := by
  have hx64 := wf_range hx
  have hN := new_any 400
  rw [show (min (max 400 0) 65536 : Int).toNat = 400 from rfl] at hN
  have HN := hide hN
  clear hN hn hx
  go_enter Try.func8, Try.ntmps8
  go_wp2_with fail
  refine (awake_true _).mono ?_
  rintro e w1 ⟨rfl, ht1⟩
  have HT1 := hide ht1
  clear ht1
  go_upto_if 17 with fail
  have htm : -40 < n.tmod 40 ∧ n.tmod 40 < 40 := tmod_bounds n 40 (by omega)
  go_cut [6] (fun k wc => ∃ m : Nat, m < 40 ∧ k = .int .i64 m ∧ wc = w1)
  case first =>
    by_cases hneg : n.tmod 40 < 0
    · go_wp2_with fail
      go_meet
      case rel =>
        obtain ⟨m, hm⟩ := Int.eq_ofNat_of_zero_le (show 0 ≤ -n.tmod 40 by omega)
        exact ⟨m, by omega, by first | rw [hm] | (show Value.int .i64 (wrap64 (-n.tmod 40)) = _; rw [hm]; unfold wrap64; congr 1; omega), rfl⟩
    · go_wp2_with fail
      go_meet
      case rel =>
        obtain ⟨m, hm⟩ := Int.eq_ofNat_of_zero_le (show 0 ≤ n.tmod 40 by omega)
        exact ⟨m, by omega, by rw [hm], rfl⟩
  case rest =>
    obtain ⟨m, hm, rfl, rfl⟩ := hcut
    clear htm
    go_wp2_with fail
    refine (HN.out _).mono ?_
    rintro e w2 ⟨rfl, hm2, ht2, -⟩
    have HM := hide hm2
    have HT2 := hide (HT1.out.trans ht2)
    have hs1 := HT1.out.size
    have hp : w.heap.size ≤ wc.heap.size + 1 := by omega
    clear hm2 ht2 HN HT1
    generalize wc.heap.size + 1 = p at *
    generalize wc.heap.size = q at *
    clear wc
    have HZ := hide (ring_zero (m + 1))
    generalize List.replicate 400 (0 : Int) = L0 at *
    go_wp2_with fail
    go_loopw [8] (fun i wr => ∃ (j : Nat) (L : List Int), j ≤ m + 1 ∧ i = .int .i64 j ∧ Hid (Mem wr p q L 0) ∧ Hid (RingTo L (m + 1) j) ∧ Hid (Turned [] w wr)) (fun i _ => m + 1 - (intOf i).toNat)
    case atStart => exact ⟨0, L0, Nat.zero_le _, rfl, HM, HZ, HT2⟩
    case round =>
      clear HM HZ HT2
      obtain ⟨j, L, hj, rfl, HM, HL, HT⟩ := hrel
      by_cases hlt : j < m + 1
      · have hli : (j : Int) < (m : Int) + 1 := by omega
        go_wp2_with fail
        refine (three_any _).mono ?_
        rintro e w3 ⟨g3, rfl, hc3, ht3, -⟩
        have HC3 := hide hc3
        have HM3 := hide (HM.out.turned ht3 (by simp) (by simp))
        have HT3 := hide (HT.out.trans ht3)
        clear hc3 ht3 HM HT
        go_wp2_with fail
        have HLy := hide (blay_mem p q L 0 _ 3 3 threeCs (1 + 4 * (j : Int)) 1 0 w3 (by rw [HL.out.len]; omega) (in64_small (by omega)) HM3.out HC3.out)
        refine HLy.out.mono ?_
        rintro e w4 ⟨rfl, hm4, ht4⟩
        have HM4 := hide hm4
        have HT4 := hide (HT3.out.trans_new ht4 (by simp; omega))
        clear hm4 ht4 HM3 HT3 HC3 HLy
        go_wp2_with fail
        rw [ring_spell m j hm]
        have HP := hide (put_any p q (layL L threeCs (1 + 4 * (j : Int)) 1 0) 0 (2 + 4 * (j : Int)) _ 1 1 [ringNext (m + 1) j] (w4.alloc (.cells #[.int .i64 (ringNext (m + 1) j)] 2)) (by rw [layL_length, HL.out.len]; omega) (HM4.out.alloc _) (isRow_one w4 _ (ringNext_in (by omega))))
        rw [show ([ringNext (m + 1) j] : List Int).take 1 = [ringNext (m + 1) j] from rfl] at HP
        have HL5 := hide (HL.out.next (by omega) hlt)
        have HTa := hide (HT4.out.alloc (.cells #[.int .i64 (ringNext (m + 1) j)] 2))
        clear HM4 HT4 HL
        generalize putL (layL L threeCs (1 + 4 * (j : Int)) 1 0) (2 + 4 * (j : Int)) [ringNext (m + 1) j] = L5 at *
        refine HP.out.mono ?_
        rintro e w5 ⟨rfl, hm5, ht5⟩
        have HM5 := hide hm5
        have HT5 := hide (HTa.out.trans_new ht5 (by simp; omega))
        clear hm5 ht5 HTa HP
        go_wp2_with fail
        go_roundw
        case rel => exact ⟨j + 1, L5, by omega, by go_num, HM5, HL5, HT5⟩
        case measure => simp [intOf]; omega
      · have hjm : j = m + 1 := by omega
        subst hjm
        have hli : ¬ ((m : Int) + 1 < (m : Int) + 1) := by omega
        go_wp2_with fail
        refine (three_any _).mono ?_
        rintro e w3 ⟨g3, rfl, hc3, ht3, -⟩
        have HC3 := hide hc3
        have HM3 := hide (HM.out.turned ht3 (by simp) (by simp))
        have HT3 := hide (HT.out.trans ht3)
        clear hc3 ht3 HM HT
        go_wp2_with fail
        have HLy := hide (blay_mem p q L 0 _ 3 3 threeCs (1 + 4 * ((m : Int) + 1)) 1 0 w3 (by rw [HL.out.len]; omega) (in64_small (by omega)) HM3.out HC3.out)
        refine HLy.out.mono ?_
        rintro e w4 ⟨rfl, hm4, ht4⟩
        have HM4 := hide hm4
        have HT4 := hide (HT3.out.trans_new ht4 (by simp; omega))
        clear hm4 ht4 HM3 HT3 HC3 HLy
        go_wp2_with fail
        have HFi := hide (bfill_mem p q _ 0 (5 + 4 * ((m : Int) + 1)) 400 w4 (by rw [layL_length, HL.out.len]; omega) HM4.out)
        refine HFi.out.mono ?_
        rintro e w5 ⟨rfl, hm5, ht5⟩
        have HRg := hide (HL.out.ring (by omega))
        have HM5 : Hid (Mem w5 p q (ringEnd L (m + 1)) 0) := hm5
        have HT5 := hide (HT4.out.trans_new ht5 (by simp; omega))
        generalize ringEnd L (m + 1) = E at *
        clear hm5 ht5 HM4 HT4 HFi HL
        go_upto_if 59 with fail
        go_cut [9] (fun k wc => ∃ y : Nat, y ≤ 9223372036854775807 ∧ k = .int .i64 y ∧ wc = w5)
        case first =>
          by_cases hneg : x < 0
          · go_wp2_with fail
            go_meet
            case rel =>
              obtain ⟨y, hy⟩ := Int.eq_ofNat_of_zero_le (show 0 ≤ -(x + 1) by omega)
              exact ⟨y, by omega, by rw [← hy], rfl⟩
          · go_wp2_with fail
            go_meet
            case rel =>
              obtain ⟨y, hy⟩ := Int.eq_ofNat_of_zero_le (show 0 ≤ x by omega)
              exact ⟨y, by omega, by rw [hy], rfl⟩
        case rest =>
          obtain ⟨y, hy, rfl, rfl⟩ := hcut
          have HRt := hide (root_spell2 m y hm)
          have hyr := Nat.mod_lt y (show 0 < m + 1 by omega)
          generalize y % (m + 1) = r at *
          have hnz : ((m : Int) + 1 == 0) = false := by simp; omega
          have hnz2 : ¬ ((m : Int) + 1 = 0) := by omega
          go_wp2_with fail
          go_region_held3 (fun w' => True) (trivial)
            (first
              | (go_at_call 23; refine (three_any _).mono ?_; rintro e w6 ⟨g6, rfl, hc6, ht6, -⟩; have HC6 := hide hc6; have HT6 := hide (HT5.out.drew.trans ht6); have HM6 := hide (HM5.out.drew.turned ht6 (by simp) (by simp)); clear hc6 ht6)
              | (go_at_call 23; rw [HRt.out]; refine (three_any _).mono ?_; rintro e w8 ⟨g8, rfl, hc8, ht8, -⟩; have HC8 := hide hc8; have HT8 := hide ((HT5.out.drew.alloc (.cells #[.int .i64 (1 + 4 * (r : Int))] 2)).trans ht8); have HM8 := hide ((HM5.out.drew.alloc (.cells #[.int .i64 (1 + 4 * (r : Int))] 2)).turned ht8 (by simp) (by simp)); have HI8 := hide ((ird_one wc.drew (1 + 4 * (r : Int)) (in64_small (by omega))).turned ht8); clear hc8 ht8)
              | (go_at_call 20; refine (ring_reach p q E (m + 1) r g8 _ (by omega) hyr HRg.out HM8.out HC8.out _ HI8.out).mono ?_; rintro e w7 ⟨ao7, cap7, rfl, hcl7, ht7⟩; have HC7 := hide hcl7; have HT7 := hide (HT8.out.trans ht7); clear hcl7 ht7)
              | (go_at_call 20; rw [HRt.out]; refine (ring_reach p q E (m + 1) r g6 _ (by omega) hyr HRg.out (HM6.out.alloc _) (HC6.out.turned ((Turned.refl [] w6).alloc _)) _ (ird_one w6 _ (in64_small (by omega)))).mono ?_; rintro e w7 ⟨ao7, cap7, rfl, hcl7, ht7⟩; have HC7 := hide hcl7; have HT7 := hide ((HT6.out.alloc (.cells #[.int .i64 (1 + 4 * (r : Int))] 2)).trans ht7); clear hcl7 ht7))
          all_goals
            clear HM5 HT5 HRg HRt
            go_wp2_with fail
            go_loop [12] (fun i => ∃ j : Nat, j ≤ m + 1 ∧ i = .int .i64 j) (fun i => m + 1 - (intOf i).toNat)
            case atStart => exact ⟨0, Nat.zero_le _, rfl⟩
            case round =>
              obtain ⟨j, hj, rfl⟩ := hrel
              by_cases hlt2 : j < m + 1
              · have hli2 : (j : Int) < (m : Int) + 1 := by omega
                obtain ⟨gg, rfl, hcj⟩ := HC7.out j hlt2
                go_wp2_with fail
                go_round
                case rel => exact ⟨j + 1, by omega, by go_num⟩
                case measure => simp [intOf]; omega
              · have hli2 : ¬ ((j : Int) < (m : Int) + 1) := by omega
                go_wp2_with fail
                go_ret
                exact ⟨rfl, HT7.out⟩

set_option maxRecDepth 100000 in
theorem blocksRing_lifted (os : Os) (started : os.Started) (H : Type) (enc : TypeId × Value → H) :
    ReturnsInHanded {} Try.checked os 8 .any (Rows.blocksRingSpec.pre6 enc Try.prog Try.f8 Rows.blocksRingRow.domain false) (Rows.blocksRingSpec.post enc Try.prog Try.f8 false true false false) := by
  refine returnsInHanded_of_change (C := Try.checked) own started (by kernel_rfl) Try.func8
    (ChangeSpec.witness6 (enc := enc) (C := Try.checked) false ⟨#[], #[.int .i64 0, .int .i64 0], []⟩ 8 (by kernel_rfl) (by kernel_rfl) (by kernel_rfl) (by kernel_rfl)) ?_
  intro W base args ds gs before hval0 hW hcnd _
  have hval : ∀ (j : Nat) t v, Try.f8.params[j]? = some t → args[j]? = some v → Value.okWide Try.prog W .any base t v := hval0
  have hW' := hW
  obtain ⟨p, q, hA0, hV, rfl, hfz, hnd⟩ := hW
  have hA : DataW.TrodAll enc Try.prog W 0 (fun _ => true) true Try.f8.params.toList args.toList ds p := hA0
  rw [Try.params8] at hA hval
  obtain ⟨v0, vs0, d0, ds0, p0, q0, hargs, rfl, rfl, h0, r0⟩ := trodAll_cons hA
  obtain ⟨v1, vs1, d1, ds1, p1, q1, rfl, rfl, rfl, h1, r1⟩ := trodAll_cons r0
  obtain ⟨rfl, rfl, rfl⟩ := trodAll_nil r1
  obtain rfl : args = #[v0, v1] := by cases args; simp_all
  obtain ⟨rfl, rfl⟩ := trodVars_none hV
  obtain ⟨a0, rfl, rfl, rfl, w0⟩ := open_int Try.underlying3 (hval 0 3 v0 rfl rfl) h0
  obtain ⟨a1, rfl, rfl, rfl, w1⟩ := open_int Try.underlying3 (hval 1 3 v1 rfl rfl) h1
  clear hA0 hval0
  refine (blocksRing_walk a0 a1 W w0 w1).mono fun e W' ⟨he, ht⟩ => ?_
  subst he
  have bel : Below W.heap.size W W' := ht.below0
  exact ⟨_, rfl, _, _, _, [], _, [], hW', trodAll_mk1 (shut_bool Try.underlying4 _), (trodAll_cons_mk (shut_int Try.underlying3 w0) (trodAll_cons_mk (shut_int Try.underlying3 w1) trodAll_mk0)), rfl, bel.frame _, fun h => by cases h⟩

theorem blocksRing_over : Rows.blocksRingRow.holds Try.pinned (OpenSpec.ofChange Rows.blocksRingSpec) :=
  OpenClaim.holds_of_wide 8 Try.f8 rfl rfl rfl rfl rfl rfl rfl ⟨rfl, rfl, rfl, rfl, rfl⟩ rfl rfl rfl rfl rfl (by kernel_rfl) Try.func8 (by kernel_rfl)
    (of_decide_eq_true (by kernel_rfl)) (by unfold Func.isWrapper; first | (rw [if_pos (by decide +kernel)]; kernel_rfl) | (rw [if_neg (by decide +kernel)]; exact ⟨rfl, rfl⟩))
    (fun os started H enc _ => blocksRing_lifted os started H enc)

theorem blocksRing_holds : Rows.BlocksRingSaid := blocksRing_over
end Go.Proofs.Ytkidcbehjhlnkaa
