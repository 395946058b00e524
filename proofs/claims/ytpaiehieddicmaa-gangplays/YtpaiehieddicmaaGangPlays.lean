/-
  GangPlays: workers arrive, and phases pass, call by call, as the document says: true for every number of workers and every script.
-/
import Derived.Test.YtpaiehieddicmaaGangBoth
import Derived.Deep.Cut
import Derived.Deep.CutBlock
import Derived.Deep.CutRange
import Derived.Deep.DeepCutAuto
import Derived.Deep.LoopGhost
namespace Go.Proofs.Ytpaiehieddicmaa
open Go.ChangeShapes Go.WideShapes Go.ChangeAt Go.RowKit
set_option linter.unusedVariables false

theorem Try.infoB : (Try.prog.info? 4).map (fun i => (i.zero, i.size, i.bytes)) = some (some (.bool false), 1, 1) := by kernel_rfl
theorem madeCells_bools (m : Nat) : madeCells #[Value.bool false] m = ((List.replicate m false).map Value.bool).toArray := by
  apply Array.ext
  · simp [madeCells]
  · intro i h1 h2
    simp [madeCells, Nat.mod_one]

/-- Both gangs, each in blocks of its own. -/
structure Two (w0 w : World) (p q rp rq n : Nat) (ws : List Int) (came : Nat) (ph : Int) (bs : List Bool) : Prop where
  gn : Gn w0 w p q n ws came ph
  rg : Rg w rp rq bs ph
  syn : Syn n ws came bs
  new : w0.heap.size ≤ rp ∧ w0.heap.size ≤ rq ∧ p ≠ rp ∧ p ≠ rq ∧ q ≠ rp ∧ q ≠ rq
theorem Two.next {w0 w w' : World} {p q rp rq n : Nat} {ws : List Int} {came : Nat} {ph : Int} {bs : List Bool} (h : Two w0 w p q rp rq n ws came ph bs) (ht : Turned [] w w') : Two w0 w' p q rp rq n ws came ph bs :=
  ⟨h.gn.next ht, h.rg.turned0 ht, h.syn, h.new⟩

set_option maxHeartbeats 8000000 in
set_option maxRecDepth 100000 in
theorem gangPlays_walk (x : Int) (ao : Option Addr) (len cap : Nat) (zs : List Int) (w : World) (hx : (Lit.int .i64 x).wf = true) (hz : IsRow .i64 w ao len cap zs) :
    Calls Try.prog 3 #[.int .i64 x, .slice ao len cap] w fun e w' => e = .returned (.bool true) ∧ Turned [] w w' := by
  obtain ⟨hrd, hlen, -⟩ := isRow_ird hz
  have hxr := wf_range hx
  have HR := hide hrd
  have HAw := hide (awake_any w)
  generalize zs.take len = ps at *
  clear hrd hz hx
  go_enter Try.func3, Try.ntmps3
  go_wp2_with fail
  refine HAw.out.mono ?_
  rintro e w0 ⟨rfl, t0⟩
  have T0 := hide t0
  clear t0 HAw
  by_cases hbad : x < 1 ∨ 64 < x
  · have HN := hide (gnew_bad x hbad w0)
    go_wp2_with fail
    refine HN.out.mono ?_
    rintro e w1 ⟨rfl, hw1⟩
    rw [hw1]
    clear hw1 w1 HN
    rcases hbad with hb | hb
    · go_wp2_with fail
      go_ret
      exact ⟨rfl, T0.out⟩
    · have hb1 : ¬ x < 1 := by omega
      go_wp2_with fail
      go_ret
      exact ⟨rfl, T0.out⟩
  · obtain ⟨n, rfl⟩ := Int.eq_ofNat_of_zero_le (show 0 ≤ x by omega)
    have hn : 1 ≤ n ∧ n ≤ 64 := by omega
    have HN := hide (gn_new w w0 T0.out n (by omega) (by omega))
    unfold ptr at HN
    have e1 : ¬ (n : Int) < 1 := by omega
    have e2 : ¬ 64 < (n : Int) := by omega
    have hmk := run_make_row' (P := Try.prog) 29 4 (.bool false) 1 Try.underlying29 Try.infoB rfl .i64 .i64 n (by omega) (by omega)
    clear hbad hxr
    go_wp2_with fail
    refine HN.out.mono ?_
    rintro e w2 ⟨rfl, h2, -⟩
    have H2 := hide h2
    have HL := hide (show w0.heap.size + 1 < w2.heap.size ∧ w0.heap.size < w2.heap.size ∧ w.heap.size ≤ w2.heap.size from ⟨h2.1.ltp, h2.1.ltq, h2.turn.size⟩)
    clear h2 HN T0
    go_wp2_with fail
    have P0 := hide (show Two w ((w2.alloc (.cells (madeCells #[Value.bool false] n) 4)).alloc (.cells #[.slice (some ⟨w2.heap.size, 0, none⟩) n n, .int .i64 0] 31)) (w0.heap.size + 1) w0.heap.size (w2.heap.size + 1) w2.heap.size n (ids n) 0 0 (List.replicate n false) from
      ⟨H2.out.next (((Turned.refl _ _).alloc _).alloc _), ⟨by omega, by simp; omega, by simp; omega, by
        have h3 := heap_alloc_new (w2.alloc (.cells (madeCells #[Value.bool false] n) 4)) (.cells #[.slice (some ⟨w2.heap.size, 0, none⟩) n n, .int .i64 0] 31)
        simpa using h3, by rw [Below.heap_alloc _ _ _ (by simp), heap_alloc_new, madeCells_bools]⟩, Syn.start n, by have := HL.out; omega⟩)
    clear H2 HL hmk
    generalize (w2.alloc (.cells (madeCells #[Value.bool false] n) 4)).alloc (.cells #[.slice (some ⟨w2.heap.size, 0, none⟩) n n, .int .i64 0] 31) = w3 at *
    generalize w0.heap.size + 1 = p at *
    generalize w0.heap.size = q at *
    generalize w2.heap.size + 1 = rp at *
    generalize w2.heap.size = rq at *
    generalize (decide (64 < (n : Int))) = bz1 at *
    generalize (decide ((n : Int) < 1)) = bz2 at *
    clear e1 e2
    go_loopg [9] 301 (fun gg s9 wr => ∃ (j : Nat) (ws : List Int) (came : Nat) (ph : Int) (bs : List Bool), s9 = .int .i64 (j : Int) ∧ j ≤ 300 ∧ 301 - j ≤ gg ∧ 0 ≤ ph ∧ ph ≤ j ∧ Aside (Two w wr p q rp rq n ws came ph bs))
    case atStart => exact ⟨0, _, _, _, _, rfl, by omega, by omega, by omega, by omega, P0.out⟩
    case round =>
      obtain ⟨j, ws, came, ph, bs, rfl, hj, hgg, hp0, hp1, hsp⟩ := hrel
      have P1 := hide hsp.out
      clear hsp P0
      go_upto_region 9 with fail
      go_cut [56] (fun s56 wc => ∃ bb : Bool, s56 = .bool bb ∧ Aside (bb = true → j < len ∧ j < 300) ∧ Aside (wc = wr))
      case first =>
        by_cases hjl2 : j < len
        · have e1 : (j : Int) < (len : Int) := by omega
          by_cases hjl3 : j < 300
          · have e2 : (j : Int) < 300 := by omega
            go_wp2_with fail
            go_meet
            case rel => exact ⟨true, by go_num, fun _ => ⟨hjl2, hjl3⟩, rfl⟩
          · have e2 : ¬ ((j : Int) < 300) := by omega
            go_wp2_with fail
            go_meet
            case rel => exact ⟨false, by go_num, fun h => (by cases h), rfl⟩
        · have e1 : ¬ ((j : Int) < (len : Int)) := by omega
          go_wp2_with fail
          go_meet
          case rel => exact ⟨false, by go_num, fun h => (by cases h), rfl⟩
      case rest =>
        obtain ⟨bb, rfl, hbb, hwc⟩ := hcut
        have hwc' := hwc.out
        subst hwc'
        have HBB := hide hbb.out
        clear hwc hbb
        obtain ⟨wr, hwr⟩ : ∃ wr, wr = wc := ⟨_, rfl⟩
        subst hwr
        cases bb
        · have HT := hide P1.out.gn.turn
          clear P1 HBB
          go_wp2_with fail
          go_ret
          exact ⟨rfl, HT.out⟩
        · obtain ⟨hjl, hj2⟩ := HBB.out rfl
          clear HBB
          obtain ⟨z, hzz⟩ : ∃ z, ps[j]? = some z := ⟨_, List.getElem?_eq_getElem (by have := HR.out.size; omega)⟩
          obtain ⟨bg, bo, hao, cz⟩ := (HR.out.turned0 P1.out.gn.turn).cell j z hzz
          subst hao
          have HZ := hide hzz
          have HX := hide (gn_arrive P1.out.gn z (by omega))
          unfold ptr at HX
          clear hzz
          go_wp2_with fail
          refine HX.out.mono ?_
          rintro e w5 ⟨b, er, ws', came', ph', rfl, h5, t5, ha⟩
          have hph' : ph ≤ ph' ∧ ph' ≤ ph + 1 := by cases ha <;> omega
          have R5 := P1.out.rg.turned t5 (by simp [P1.out.new.2.2.1.symm, P1.out.new.2.2.2.2.1.symm]) (by simp [P1.out.new.2.2.2.1.symm, P1.out.new.2.2.2.2.2.symm])
          have HY := hide (both_arrive R5 P1.out.syn ha h5.2.1 (by omega))
          unfold ptr at HY
          have G5 := hide h5
          have HNw := hide P1.out.new
          obtain ⟨bg2, bo2, hao2, cz2⟩ := (HR.out.turned0 h5.turn).cell j z HZ.out
          cases hao2
          clear h5 t5 ha HX R5 P1 cz
          go_wp2_with fail
          refine HY.out.mono ?_
          rintro e w6 ⟨bs', rfl, h6, hsyn, t6⟩
          have P6 := hide (show Two w w6 p q rp rq n ws' came' ph' bs' from
            ⟨G5.out.other t6 (by simp [HNw.out.2.2.1, HNw.out.2.2.2.1]) (by simp [HNw.out.2.2.2.2.1, HNw.out.2.2.2.2.2]) (fun i hi => by simp at hi; rcases hi with rfl | rfl; exact HNw.out.1; exact HNw.out.2.1), h6, hsyn, HNw.out⟩)
          clear h6 hsyn t6 HY G5 cz2
          have HW1 := hide (gwaits_any w6 p q ws' came' ph' P6.out.gn.1)
          rw [P6.out.syn.waits P6.out.gn.2.1] at HW1
          unfold ptr at HW1
          go_wp2_with fail
          refine HW1.out.mono ?_
          rintro e w7 ⟨v1, rfl, r7, t7⟩
          have P7 := hide (P6.out.next t7)
          have R7 := hide r7
          have HW2 := hide (rwaits_any w7 rp rq bs' ph' P7.out.rg)
          rw [P7.out.syn.1] at HW2
          unfold ptr at HW2
          clear r7 t7 HW1 P6
          go_wp2_with fail
          refine HW2.out.mono ?_
          rintro e w8 ⟨v2, rfl, r8, t8⟩
          have P8 := hide (P7.out.next t8)
          obtain ⟨a1, k1, rfl, hi1⟩ := (R7.out.t0 t8).rd
          obtain ⟨a2, k2, rfl, hi2⟩ := r8.rd
          have I1 := hide hi1
          have I2 := hide hi2
          have hll := ins_length bs' n
          clear r8 t8 HW2 P7 R7 hi1 hi2
          generalize hll2 : (ins bs' n).length = ll at *
          have HLL := hide hll2
          clear hll2
          generalize ins bs' n = li at *
          have HPh := hide (fun m => gphase_any (w8.drewN m) p q ws' came' ph' (P8.out.gn.1.drewN m))
          unfold ptr at HPh
          have c1 := P8.out.rg.c1
          go_wp2_with fail
          go_quiet ((go_at_call 15; exact Calls.quiet_of_same (HPh.out _)))
          have P9 := hide (P8.out.next ((Turned.refl [] w8).drewN nq))
          have J1 := hide (I1.out.turned0 ((Turned.refl [] w8).drewN nq))
          have J2 := hide (I2.out.turned0 ((Turned.refl [] w8).drewN nq))
          generalize w8.drewN nq = w9 at *
          clear P8 I1 I2 HPh c1
          go_wp2_with fail
          go_loopg [16] 65 (fun gg s16 wr => ∃ (k : Nat), s16 = .int .i64 (k : Int) ∧ k ≤ ll ∧ ll - k ≤ gg ∧ Aside (Two w wr p q rp rq n ws' came' ph' bs') ∧ Aside (IRd wr a1 ll li) ∧ Aside (IRd wr a2 ll li))
          case atStart => exact ⟨0, rfl, by omega, by omega, P9.out, J1.out, J2.out⟩
          case round =>
            obtain ⟨k, rfl, hk, hgg2, hsp, hj1, hj2'⟩ := hrel
            have P10 := hide hsp.out
            have I1 := hide hj1.out
            have I2 := hide hj2'.out
            clear hsp hj1 hj2' P9 J1 J2
            by_cases hkl : k < ll
            · have e1 : (k : Int) < (ll : Int) := by omega
              obtain ⟨y, hy⟩ : ∃ y, li[k]? = some y := ⟨_, List.getElem?_eq_getElem (by have := HLL.out; omega)⟩
              obtain ⟨g1, o1, hg1, cy1⟩ := I1.out.cell k y hy
              obtain ⟨g2, o2, hg2, cy2⟩ := I2.out.cell k y hy
              subst hg1 hg2
              clear hy
              go_wp2_with fail
              go_quiet (fail)
              have P11 := hide (P10.out.next ((Turned.refl [] wr).drewN nq))
              have J1 := hide (I1.out.turned0 ((Turned.refl [] wr).drewN nq))
              have J2 := hide (I2.out.turned0 ((Turned.refl [] wr).drewN nq))
              generalize wr.drewN nq = w11 at *
              clear P10 I1 I2 cy1 cy2
              go_wp2_with fail
              go_roundg (ll - (k + 1))
              case measure => omega
              case rel => exact ⟨k + 1, by go_num, by omega, Nat.le_refl _, P11.out, J1.out, J2.out⟩
            · have e1 : ¬ (k : Int) < (ll : Int) := by omega
              clear I1 I2
              go_wp2_with fail
              go_loopg [17] 67 (fun gg s17 wr => ∃ (i : Nat), s17 = .int .i64 ((i : Int) - 1) ∧ i ≤ n + 2 ∧ n + 2 - i ≤ gg ∧ Aside (Two w wr p q rp rq n ws' came' ph' bs'))
              case atStart => exact ⟨0, rfl, by omega, by omega, P10.out⟩
              case round =>
                obtain ⟨i, rfl, hi, hgg3, hsp⟩ := hrel
                have P11 := hide hsp.out
                clear hsp P10
                obtain ⟨kv, hkv⟩ : ∃ kv : Int, (i : Int) - 1 = kv := ⟨_, rfl⟩
                rw [hkv]
                by_cases hin : i < n + 2
                · have e2 : kv ≤ (n : Int) := by omega
                  have e6 : -1 ≤ kv := by omega
                  have HKv := hide hkv
                  have HIn := hide (And.intro hi (And.intro hgg3 hin))
                  clear hkv hi hgg3 hin
                  have HG := hide (ggoes_any wr p q ws' came' ph' kv P11.out.gn.1)
                  unfold ptr at HG
                  have hd := @GI.drop n ws' came' P11.out.gn.2.1 kv
                  by_cases hi0 : kv < 0
                  · rw [decide_eq_false (by rw [hd]; omega)] at HG
                    clear hd
                    have e3 : ¬ 0 ≤ kv := by omega
                    go_wp2_with fail
                    refine HG.out.mono ?_
                    rintro e w12 ⟨rfl, n12, hw12⟩
                    have P12 := hide (show Two w w12 p q rp rq n ws' came' ph' bs' by rw [hw12]; exact P11.out.next ((Turned.refl [] wr).drewN n12))
                    clear hw12 HG P11
                    go_wp2_with fail
                    go_roundg (n + 2 - (i + 1))
                    case measure => have := HIn.out; omega
                    case rel => exact ⟨i + 1, by have := HKv.out; rw [show ((i + 1 : Nat) : Int) - 1 = kv + 1 by omega], by have := HIn.out; omega, Nat.le_refl _, P12.out⟩
                  · by_cases hin1 : (n : Int) ≤ kv
                    · rw [decide_eq_false (by rw [hd]; omega)] at HG
                      clear hd
                      have e3 : 0 ≤ kv := by omega
                      have e4 : ¬ kv < (n : Int) := by omega
                      go_wp2_with fail
                      refine HG.out.mono ?_
                      rintro e w12 ⟨rfl, n12, hw12⟩
                      have P12 := hide (show Two w w12 p q rp rq n ws' came' ph' bs' by rw [hw12]; exact P11.out.next ((Turned.refl [] wr).drewN n12))
                      clear hw12 HG P11
                      go_wp2_with fail
                      go_roundg (n + 2 - (i + 1))
                      case measure => have := HIn.out; omega
                      case rel => exact ⟨i + 1, by have := HKv.out; rw [show ((i + 1 : Nat) : Int) - 1 = kv + 1 by omega], by have := HIn.out; omega, Nat.le_refl _, P12.out⟩
                    · obtain ⟨m, rfl⟩ := Int.eq_ofNat_of_zero_le (show 0 ≤ kv by omega)
                      have hmn : m < n := by omega
                      have hbm := P11.out.syn.2 m hmn
                      have hdv : decide ((m : Int) ∈ ws'.drop came') = !decide ((m : Int) ∈ ws'.take came') := by
                        by_cases hmm : (m : Int) ∈ ws'.take came'
                        · rw [decide_eq_true hmm, decide_eq_false (by rw [hd]; exact fun h => h.2 hmm)]; rfl
                        · rw [decide_eq_false hmm, decide_eq_true (by rw [hd]; exact ⟨by omega, hmm⟩)]; rfl
                      rw [hdv] at HG
                      generalize decide ((m : Int) ∈ ws'.take came') = bm at *
                      have HBm := hide hbm
                      clear hd hdv hbm
                      have e3 : (0 : Int) ≤ (m : Int) := by omega
                      have e4 : (m : Int) < (n : Int) := by omega
                      go_wp2_with fail
                      refine HG.out.mono ?_
                      rintro e w12 ⟨rfl, n12, hw12⟩
                      have P12 := hide (show Two w w12 p q rp rq n ws' came' ph' bs' by rw [hw12]; exact P11.out.next ((Turned.refl [] wr).drewN n12))
                      clear hw12 HG P11
                      have c0 := P12.out.rg.c0
                      rw [P12.out.syn.1] at c0
                      have cm := P12.out.rg.at HBm.out
                      cases bm
                      · go_wp2_with fail
                        go_roundg (n + 2 - (i + 1))
                        case measure => have := HIn.out; omega
                        case rel => exact ⟨i + 1, by have := HKv.out; rw [show ((i + 1 : Nat) : Int) - 1 = (m : Int) + 1 by omega], by have := HIn.out; omega, Nat.le_refl _, P12.out⟩
                      · go_wp2_with fail
                        go_roundg (n + 2 - (i + 1))
                        case measure => have := HIn.out; omega
                        case rel => exact ⟨i + 1, by have := HKv.out; rw [show ((i + 1 : Nat) : Int) - 1 = (m : Int) + 1 by omega], by have := HIn.out; omega, Nat.le_refl _, P12.out⟩
                · have e2 : ¬ kv ≤ (n : Int) := by omega
                  go_wp2_with fail
                  go_roundg (301 - (j + 1))
                  case measure => omega
                  case rel => exact ⟨j + 1, _, _, _, _, by go_num, by omega, Nat.le_refl _, by omega, by omega, P11.out⟩

set_option maxRecDepth 100000 in
theorem gangPlays_lifted (os : Os) (started : os.Started) (H : Type) (enc : TypeId × Value → H) :
    ReturnsInHanded {} Try.checked os 3 .any (Rows.gangPlaysSpec.pre6 enc Try.prog Try.f3 Rows.gangPlaysRow.domain false) (Rows.gangPlaysSpec.post enc Try.prog Try.f3 false true false false) := by
  refine returnsInHanded_of_change (C := Try.checked) own started (by kernel_rfl) Try.func3
    (ChangeSpec.witness6 (enc := enc) (C := Try.checked) false ⟨#[], #[.int .i64 0, .slice none 0 0], []⟩ 8 (by kernel_rfl) (by kernel_rfl) (by kernel_rfl) (by kernel_rfl)) ?_
  intro W base args ds gs before hval0 hW hcnd _
  have hval : ∀ (j : Nat) t v, Try.f3.params[j]? = some t → args[j]? = some v → Value.okWide Try.prog W .any base t v := hval0
  have hW' := hW
  obtain ⟨p, q, hA0, hV, rfl, hfz, hnd⟩ := hW
  have hA : DataW.TrodAll enc Try.prog W 0 (fun _ => true) true Try.f3.params.toList args.toList ds p := hA0
  rw [Try.params3] at hA hval
  obtain ⟨v0, vs0, d0, ds0, p0, q0, hargs, rfl, rfl, h0, r0⟩ := trodAll_cons hA
  obtain ⟨v1, vs1, d1, ds1, p1, q1, rfl, rfl, rfl, h1, r1⟩ := trodAll_cons r0
  obtain ⟨rfl, rfl, rfl⟩ := trodAll_nil r1
  obtain rfl : args = #[v0, v1] := by cases args; simp_all
  obtain ⟨rfl, rfl⟩ := trodVars_none hV
  obtain ⟨a0, rfl, rfl, rfl, w0⟩ := open_int Try.underlying3 (hval 0 3 v0 rfl rfl) h0
  obtain ⟨a1, len1, cap1, rfl⟩ := okWide_slice Try.underlying22 (hval 1 22 v1 rfl rfl)
  have k1 := h1
  have lt1 : ∀ x ∈ p1, x.block < W.heap.size := by obtain ⟨m, hm⟩ := k1; exact DataW.trod_lt m _ _ _ hm
  obtain ⟨z1, w1⟩ : ∃ zs, IsRow .i64 W a1 len1 cap1 zs := by
    obtain ⟨fuel, hf⟩ := h1
    rcases open_ints Try.underlying22 Try.underlying3 (by kernel_rfl) hf with ⟨hcs, _⟩ | ⟨x, l, c, zs, hcs, _, hl, hm, hz, _, hcell, hwz⟩
    · simp [Value.cells] at hcs
      obtain ⟨rfl, rfl, rfl⟩ := hcs
      exact ⟨[], .inl ⟨rfl, rfl, rfl, rfl⟩⟩
    · simp [Value.cells] at hcs
      obtain ⟨rfl, rfl, rfl⟩ := hcs
      exact ⟨zs, .inr ⟨_, rfl, hl, hm, by simpa using hz, hcell, hwz⟩⟩
  clear hA0 hval0
  refine (gangPlays_walk a0 a1 len1 cap1 z1 W w0 w1).mono fun e W' ⟨he, ht⟩ => ?_
  subst he
  have bel : Below W.heap.size W W' := ht.below0
  exact ⟨_, rfl, _, _, _, [], _, [], hW', trodAll_mk1 (shut_bool Try.underlying4 _), (trodAll_cons_mk (shut_int Try.underlying3 w0) (trodAll_cons_mk (Below.trod laidOut (by kernel_rfl) (of_decide_eq_true (by kernel_rfl)) k1 bel lt1) trodAll_mk0)), rfl, bel.frame _, fun h => by cases h⟩

theorem gangPlays_over : Rows.gangPlaysRow.holds Try.pinned (OpenSpec.ofChange Rows.gangPlaysSpec) :=
  OpenClaim.holds_of_wide 3 Try.f3 rfl rfl rfl rfl rfl rfl rfl ⟨rfl, rfl, rfl, rfl, rfl⟩ rfl rfl rfl rfl rfl (by kernel_rfl) Try.func3 (by kernel_rfl)
    (of_decide_eq_true (by kernel_rfl)) (by unfold Func.isWrapper; first | (rw [if_pos (by decide +kernel)]; kernel_rfl) | (rw [if_neg (by decide +kernel)]; exact ⟨rfl, rfl⟩))
    (fun os started H enc _ => gangPlays_lifted os started H enc)

theorem gangPlays_holds : Rows.GangPlaysSaid := gangPlays_over
end Go.Proofs.Ytpaiehieddicmaa
