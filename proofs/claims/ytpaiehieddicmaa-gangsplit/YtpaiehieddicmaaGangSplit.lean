/-
  GangSplit: parts that several workers take are all of them together, once each: true for every number of parts and every picks.
-/
import Derived.Test.YtpaiehieddicmaaGangKit
import Derived.Deep.Cut
import Derived.Deep.CutBlock
import Derived.Deep.CutRange
import Derived.Deep.DeepCutAuto
import Derived.Deep.LoopGhost
namespace Go.Proofs.Ytpaiehieddicmaa
open Go.ChangeShapes Go.WideShapes Go.ChangeAt Go.RowKit
set_option linter.unusedVariables false

theorem zero101 : Try.zeroCells52 = ((List.replicate 101 (0 : Int)).map (Value.int .i64)).toArray := by kernel_rfl

/-- Who has nothing yet. -/
def Rest (j : Nat) (l : List Int) : Prop := l.length = 101 ∧ ∀ i, j ≤ i → i < 101 → l[i]? = some 0
theorem Rest.set {j : Nat} {l : List Int} (h : Rest j l) (v : Int) : Rest (j + 1) (l.set j v) := by
  refine ⟨by simpa using h.1, fun i hi hl => ?_⟩
  rw [List.getElem?_set_ne (by omega)]
  exact h.2 i (by omega) hl
theorem Rest.mono {j k : Nat} {l : List Int} (h : Rest j l) (hk : j ≤ k) : Rest k l := ⟨h.1, fun i hi hl => h.2 i (by omega) hl⟩

/-- The share, one cell of j asks, and what was had. -/
structure Spl (w0 w : World) (a p q O : Nat) (n j : Nat) (l : List Int) : Prop where
  sn : Sn w0 w a p q [(j : Int)] j 0 n
  had : Har w O 52 l
  rest : Rest (min j n) l
  new : w0.heap.size ≤ O ∧ O ≠ a ∧ O ≠ p ∧ O ≠ q

theorem Spl.next {w0 w : World} {a p q O n j : Nat} {l : List Int} (h : Spl w0 w a p q O n j l) (hj : j < 1000000) :
    Calls Try.prog 20 #[ptr a] w fun e w' => e = .returned (.tuple #[.int .i64 (if j < n then (j : Int) else 0), .bool (decide (j < n))]) ∧ Sn w0 w' a p q [((j + 1 : Nat) : Int)] ((j + 1 : Nat) : Int) 0 n ∧ Har w' O 52 l := by
  refine (sn_next h.sn j rfl (by omega) (by omega)).mono ?_
  rintro e w' ⟨rfl, h1, h2⟩
  refine ⟨?_, h1, h.had.turned h2 (by simp [h.new.2.2.1, h.new.2.2.2])⟩
  by_cases hn : j < n
  · rw [if_pos (by omega), if_pos hn, decide_eq_true hn, decide_eq_true (by omega)]
  · rw [if_neg (by omega), if_neg hn, decide_eq_false hn, decide_eq_false (by omega)]

set_option maxHeartbeats 4000000 in
set_option maxRecDepth 100000 in
theorem gangSplit_walk (x : Int) (ao : Option Addr) (len cap : Nat) (zs : List Int) (w : World) (hx : (Lit.int .i64 x).wf = true) (hz : IsRow .i64 w ao len cap zs) :
    Calls Try.prog 7 #[.int .i64 x, .slice ao len cap] w fun e w' => e = .returned (.bool true) ∧ Turned [] w w' := by
  obtain ⟨hrd, hlen, -⟩ := isRow_ird hz
  have hxr := wf_range hx
  have HR := hide hrd
  have HAw := hide (awake_any w)
  generalize zs.take len = ps at *
  clear hrd hz hx
  go_enter Try.func7, Try.ntmps7
  go_wp2_with fail
  refine HAw.out.mono ?_
  rintro e w0 ⟨rfl, t0⟩
  have T0 := hide t0
  clear t0 HAw
  go_upto_if 21 with fail
  go_cut [6] (fun s6 wc => ∃ n : Nat, s6 = .int .i64 (n : Int) ∧ n ≤ 100 ∧ Aside (wc = w0))
  case first =>
    have ta : -101 < x.tmod 101 ∧ x.tmod 101 < 101 := tmod_bounds x 101 (by omega)
    by_cases hneg : x.tmod 101 < 0
    · go_wp2_with fail
      go_meet
      case rel => exact ⟨(-(x.tmod 101)).toNat, by congr 1; omega, by omega, rfl⟩
    · go_wp2_with fail
      go_meet
      case rel => exact ⟨(x.tmod 101).toNat, by congr 1; omega, by omega, rfl⟩
  case rest =>
    obtain ⟨n, rfl, hn, hwc⟩ := hcut
    have hwc' := hwc.out
    subst hwc'
    clear hwc hxr
    obtain ⟨w0, hw0⟩ : ∃ w0, w0 = wc := ⟨_, rfl⟩
    subst hw0
    have HNew := hide (new_any 1 w0)
    rw [show (min (max (1 : Int) 0) 65536).toNat = 1 by decide] at HNew
    go_wp2_with fail
    refine HNew.out.mono ?_
    rintro e w1 ⟨rfl, hM, t1, -⟩
    have HS := hide (sn_new w w0 T0.out 1 0 n (by omega) (by omega) (by omega) w1 hM t1)
    have HLt := hide (show w0.heap.size + 1 < w1.heap.size from hM.ltp)
    unfold ptr at HS
    clear hM t1 HNew
    go_wp2_with fail
    refine HS.out.mono ?_
    rintro e w2 ⟨rfl, h2⟩
    have H2 := hide h2
    have HL2 := hide (show w1.heap.size < w2.heap.size from h2.1.lta)
    clear h2 HS
    go_wp2_with fail
    have P0 := hide (show Spl w (w2.alloc (.cells Try.zeroCells52 52)) w1.heap.size (w0.heap.size + 1) w0.heap.size w2.heap.size n 0 (List.replicate 101 0) from
      ⟨H2.out.next ((Turned.refl _ _).alloc _), by unfold Har; rw [← zero101]; exact heap_alloc_new _ _, ⟨by simp, fun i _ hi => by rw [List.getElem?_replicate, if_pos hi]⟩, by have := T0.out.size; have := HLt.out; have := HL2.out; omega⟩)
    clear H2 HL2 HLt T0
    generalize w2.alloc (.cells Try.zeroCells52 52) = w3 at *
    generalize w2.heap.size = O at *
    generalize w1.heap.size = a at *
    generalize w0.heap.size + 1 = p at *
    generalize w0.heap.size = q at *
    go_loopg [10, 11] 201 (fun gg s10 s11 wr => ∃ (j : Nat) (l : List Int), s10 = .int .i64 ((min j n : Nat) : Int) ∧ s11 = .int .i64 (j : Int) ∧ j ≤ 200 ∧ 201 - j ≤ gg ∧ Aside (Spl w wr a p q O n j l)) 
    case atStart => exact ⟨0, _, by simp, rfl, by omega, by omega, P0.out⟩
    case round =>
      obtain ⟨j, l, rfl, rfl, hj, hgg, hsp⟩ := hrel
      have P1 := hide hsp.out
      clear hsp P0
      go_upto_region 11 with fail
      go_cut [43] (fun s43 wc => ∃ bb : Bool, s43 = .bool bb ∧ Aside (bb = true → j < len ∧ j < 200) ∧ Aside (wc = wr))
      case first =>
        by_cases hjl2 : j < len
        · have e1 : (j : Int) < (len : Int) := by omega
          by_cases hjl3 : j < 200
          · have e2 : (j : Int) < 200 := by omega
            go_wp2_with fail
            go_meet
            case rel => exact ⟨true, by go_num, fun _ => ⟨hjl2, hjl3⟩, rfl⟩
          · have e2 : ¬ ((j : Int) < 200) := by omega
            go_wp2_with fail
            go_meet
            case rel => exact ⟨false, by go_num, fun h => (by cases h), rfl⟩
        · have e1 : ¬ ((j : Int) < (len : Int)) := by omega
          go_wp2_with fail
          go_meet
          case rel => exact ⟨false, by go_num, fun h => (by cases h), rfl⟩
      case rest =>
        obtain ⟨bb, rfl, hbb, hwc⟩ := hcut
        have hwc' := hwc.out
        subst hwc'
        have HBB := hide hbb.out
        clear hwc hbb
        obtain ⟨wr, hwr⟩ : ∃ wr, wr = wc := ⟨_, rfl⟩
        subst hwr
        cases bb
        · clear HBB hgg HR hlen
          go_wp2_with fail
          go_loopg [10, 14] 102 (fun gg s10 s14 wr => ∃ (i : Nat) (l : List Int), s10 = .int .i64 ((min (j + i) n : Nat) : Int) ∧ s14 = .int .i64 (i : Int) ∧ i ≤ n + 1 ∧ n + 1 - i ≤ gg ∧ Aside (Spl w wr a p q O n (j + i) l))
          case atStart => exact ⟨0, _, rfl, rfl, by omega, by omega, P1.out⟩
          case round =>
            obtain ⟨i, l, rfl, rfl, hi, hgg, hsp⟩ := hrel
            have P1 := hide hsp.out
            clear hsp
            by_cases hin : i ≤ n
            · have e1 : (i : Int) ≤ (n : Int) := by omega
              have HX := hide (P1.out.next (by omega))
              unfold ptr at HX
              by_cases hjn : j + i < n
              · rw [if_pos hjn, decide_eq_true hjn] at HX
                go_wp2_with fail
                refine HX.out.mono ?_
                rintro e w5 ⟨rfl, h5, k5⟩
                have P5 := hide h5
                have K5 := hide k5
                clear h5 k5 HX
                have c5 := K5.out.at (P1.out.rest.2 (j + i) (by omega) (by omega))
                have f5 := K5.out.fz (j + i)
                have e2 : ¬ ((((j + i : Nat) : Int)) < 0) := by omega
                have e3 : ¬ ((n : Int) ≤ ((j + i : Nat) : Int)) := by omega
                have hm1 : min (j + i) n = j + i := by omega
                rw [hm1]
                generalize hji : j + i = k at *
                have HK := hide hji
                clear hji
                go_wp2_with fail
                go_roundg (n + 1 - (i + 1))
                case measure => omega
                case rel => exact ⟨i + 1, _, by have := HK.out; rw [show min (j + (i + 1)) n = k + 1 by omega]; go_num, by go_num, by omega, Nat.le_refl _, by
                  have h6 := HK.out
                  rw [show j + (i + 1) = k + 1 by omega]
                  exact ⟨⟨P5.out.1.turned ((Turned.refl [O] _).setCell (p := ⟨O, k, none⟩) (.inl (by simp)) (.int .i64 9)) (by simp [P1.out.new.2.1.symm]) (by simp [P1.out.new.2.2.1.symm]) (by simp [P1.out.new.2.2.2.symm]), P5.out.2.1.setCell (p := ⟨O, k, none⟩) (.inr P1.out.new.1) _, P5.out.2.2⟩, K5.out.put k 9, by
                    have h7 := P1.out.rest.set 9
                    rw [show min k n = k by omega] at h7
                    rw [show min (k + 1) n = k + 1 by omega]
                    exact h7, P1.out.new⟩⟩
              · rw [if_neg hjn, decide_eq_false hjn] at HX
                go_wp2_with fail
                refine HX.out.mono ?_
                rintro e w5 ⟨rfl, h5, k5⟩
                have P5 := hide h5
                have K5 := hide k5
                clear h5 k5 HX
                go_wp2_with fail
                go_roundg (n + 1 - (i + 1))
                case measure => omega
                case rel => exact ⟨i + 1, l, by rw [show min (j + (i + 1)) n = min (j + i) n by omega], by go_num, by omega, Nat.le_refl _, ⟨P5.out, K5.out, by rw [show min (j + (i + 1)) n = min (j + i) n by omega]; exact P1.out.rest, P1.out.new⟩⟩
            · have e1 : ¬ (i : Int) ≤ (n : Int) := by omega
              have HT := hide P1.out.sn.turn
              have hm : min (j + i) n = n := by omega
              rw [hm]
              clear P1
              go_wp2_with fail
              go_ret
              exact ⟨rfl, HT.out⟩
        · obtain ⟨hjl, hj2⟩ := HBB.out rfl
          clear HBB
          obtain ⟨z, hzz⟩ : ∃ z, ps[j]? = some z := ⟨_, List.getElem?_eq_getElem (by have := HR.out.size; omega)⟩
          have HX := hide (P1.out.next (by omega))
          unfold ptr at HX
          by_cases hjn : j < n
          · rw [if_pos hjn, decide_eq_true hjn] at HX
            go_wp2_with fail
            refine HX.out.mono ?_
            rintro e w5 ⟨rfl, h5, k5⟩
            have P5 := hide h5
            have K5 := hide k5
            clear h5 k5 HX
            obtain ⟨bg, bo, hao, cz⟩ := (HR.out.turned0 P5.out.turn).cell j z hzz
            subst hao
            have c5 := K5.out.at (P1.out.rest.2 j (by omega) (by omega))
            have f5 := K5.out.fz j
            have e2 : ¬ ((j : Int) < 0) := by omega
            have e3 : ¬ ((n : Int) ≤ (j : Int)) := by omega
            have hm1 : min j n = j := by omega
            rw [hm1]
            clear hzz
            go_wp2_with fail
            go_roundg (201 - (j + 1))
            case measure => omega
            case rel => exact ⟨j + 1, _, by rw [show min (j + 1) n = j + 1 by omega]; go_num, by go_num, by omega, Nat.le_refl _,
              ⟨⟨P5.out.1.turned ((Turned.refl [O] _).setCell (p := ⟨O, j, none⟩) (.inl (by simp)) _) (by simp [P1.out.new.2.1.symm]) (by simp [P1.out.new.2.2.1.symm]) (by simp [P1.out.new.2.2.2.symm]), P5.out.2.1.setCell (p := ⟨O, j, none⟩) (.inr P1.out.new.1) _, P5.out.2.2⟩, K5.out.put j _, by
                have h7 := P1.out.rest.set (j := min j n)
                rw [show min j n = j by omega] at h7
                rw [show min (j + 1) n = j + 1 by omega]
                exact h7 _, P1.out.new⟩⟩
          · rw [if_neg hjn, decide_eq_false hjn] at HX
            go_wp2_with fail
            refine HX.out.mono ?_
            rintro e w5 ⟨rfl, h5, k5⟩
            have P5 := hide h5
            have K5 := hide k5
            clear h5 k5 HX
            go_wp2_with fail
            go_roundg (201 - (j + 1))
            case measure => omega
            case rel => exact ⟨j + 1, l, by rw [show min (j + 1) n = min j n by omega], by go_num, by omega, Nat.le_refl _, ⟨P5.out, K5.out, by rw [show min (j + 1) n = min j n by omega]; exact P1.out.rest, P1.out.new⟩⟩

set_option maxRecDepth 100000 in
theorem gangSplit_lifted (os : Os) (started : os.Started) (H : Type) (enc : TypeId × Value → H) :
    ReturnsInHanded {} Try.checked os 7 .any (Rows.gangSplitSpec.pre6 enc Try.prog Try.f7 Rows.gangSplitRow.domain false) (Rows.gangSplitSpec.post enc Try.prog Try.f7 false true false false) := by
  refine returnsInHanded_of_change (C := Try.checked) own started (by kernel_rfl) Try.func7
    (ChangeSpec.witness6 (enc := enc) (C := Try.checked) false ⟨#[], #[.int .i64 0, .slice none 0 0], []⟩ 8 (by kernel_rfl) (by kernel_rfl) (by kernel_rfl) (by kernel_rfl)) ?_
  intro W base args ds gs before hval0 hW hcnd _
  have hval : ∀ (j : Nat) t v, Try.f7.params[j]? = some t → args[j]? = some v → Value.okWide Try.prog W .any base t v := hval0
  have hW' := hW
  obtain ⟨p, q, hA0, hV, rfl, hfz, hnd⟩ := hW
  have hA : DataW.TrodAll enc Try.prog W 0 (fun _ => true) true Try.f7.params.toList args.toList ds p := hA0
  rw [Try.params7] at hA hval
  obtain ⟨v0, vs0, d0, ds0, p0, q0, hargs, rfl, rfl, h0, r0⟩ := trodAll_cons hA
  obtain ⟨v1, vs1, d1, ds1, p1, q1, rfl, rfl, rfl, h1, r1⟩ := trodAll_cons r0
  obtain ⟨rfl, rfl, rfl⟩ := trodAll_nil r1
  obtain rfl : args = #[v0, v1] := by cases args; simp_all
  obtain ⟨rfl, rfl⟩ := trodVars_none hV
  obtain ⟨a0, rfl, rfl, rfl, w0⟩ := open_int Try.underlying3 (hval 0 3 v0 rfl rfl) h0
  obtain ⟨a1, len1, cap1, rfl⟩ := okWide_slice Try.underlying22 (hval 1 22 v1 rfl rfl)
  have k1 := h1
  have lt1 : ∀ x ∈ p1, x.block < W.heap.size := by obtain ⟨m, hm⟩ := k1; exact DataW.trod_lt m _ _ _ hm
  obtain ⟨z1, w1⟩ : ∃ zs, IsRow .i64 W a1 len1 cap1 zs := by
    obtain ⟨fuel, hf⟩ := h1
    rcases open_ints Try.underlying22 Try.underlying3 (by kernel_rfl) hf with ⟨hcs, _⟩ | ⟨x, l, c, zs, hcs, _, hl, hm, hz, _, hcell, hwz⟩
    · simp [Value.cells] at hcs
      obtain ⟨rfl, rfl, rfl⟩ := hcs
      exact ⟨[], .inl ⟨rfl, rfl, rfl, rfl⟩⟩
    · simp [Value.cells] at hcs
      obtain ⟨rfl, rfl, rfl⟩ := hcs
      exact ⟨zs, .inr ⟨_, rfl, hl, hm, by simpa using hz, hcell, hwz⟩⟩
  clear hA0 hval0
  refine (gangSplit_walk a0 a1 len1 cap1 z1 W w0 w1).mono fun e W' ⟨he, ht⟩ => ?_
  subst he
  have bel : Below W.heap.size W W' := ht.below0
  exact ⟨_, rfl, _, _, _, [], _, [], hW', trodAll_mk1 (shut_bool Try.underlying4 _), (trodAll_cons_mk (shut_int Try.underlying3 w0) (trodAll_cons_mk (Below.trod laidOut (by kernel_rfl) (of_decide_eq_true (by kernel_rfl)) k1 bel lt1) trodAll_mk0)), rfl, bel.frame _, fun h => by cases h⟩

theorem gangSplit_over : Rows.gangSplitRow.holds Try.pinned (OpenSpec.ofChange Rows.gangSplitSpec) :=
  OpenClaim.holds_of_wide 7 Try.f7 rfl rfl rfl rfl rfl rfl rfl ⟨rfl, rfl, rfl, rfl, rfl⟩ rfl rfl rfl rfl rfl (by kernel_rfl) Try.func7 (by kernel_rfl)
    (of_decide_eq_true (by kernel_rfl)) (by unfold Func.isWrapper; first | (rw [if_pos (by decide +kernel)]; kernel_rfl) | (rw [if_neg (by decide +kernel)]; exact ⟨rfl, rfl⟩))
    (fun os started H enc _ => gangSplit_lifted os started H enc)

theorem gangSplit_holds : Rows.GangSplitSaid := gangSplit_over
end Go.Proofs.Ytpaiehieddicmaa
