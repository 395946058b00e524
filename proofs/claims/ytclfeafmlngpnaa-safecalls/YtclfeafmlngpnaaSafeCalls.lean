/-
  SafeCalls: armed, it is reached just once each thread that runs has polled, is held, or has ended, in whatever order: true for every kinds and every order.
-/
import Derived.Test.YtclfeafmlngpnaaSafeCallsP
import Derived.Test.YtclfeafmlngpnaaSafePart
namespace Go.Proofs.Ytclfeafmlngpnaa
open Go.ChangeShapes Go.WideShapes Go.ChangeAt Go.RowKit Go.Maps
set_option linter.unusedVariables false

theorem tmod3 (x : Int) : x.tmod 3 = -2 ∨ x.tmod 3 = -1 ∨ x.tmod 3 = 0 ∨ x.tmod 3 = 1 ∨ x.tmod 3 = 2 := by
  have h1 := Int.tmod_lt_of_pos x (show (0 : Int) < 3 by omega)
  have h2 := Int.lt_tmod_of_pos x (show (0 : Int) < 3 by omega)
  omega

theorem wrap_small {x : Int} (h : 0 ≤ x ∧ x ≤ 1000) : wrap64 x = x := by unfold wrap64; omega
theorem turned_grown0 {w w' : World} (h : w.grownBy w' none) : Turned [] w w' := (Turned.refl [] w).grown h (fun k hk => by cases hk)

set_option maxHeartbeats 8000000 in
set_option maxRecDepth 100000 in
theorem safeCalls_walk (ao : Option Addr) (len cap : Nat) (zs : List Int) (bo : Option Addr) (len2 cap2 : Nat) (ys : List Int) (w : World) (hz : IsRow .i64 w ao len cap zs) (hy : IsRow .i64 w bo len2 cap2 ys) :
    Calls Try.prog 6 #[.slice ao len cap, .slice bo len2 cap2] w fun e w' => e = .returned (.bool true) ∧ Turned [] w w' := by
  obtain ⟨hz1, hl1⟩ := isRow_ird hz
  obtain ⟨hy1, hl2⟩ := isRow_ird hy
  have HZ := hide hz1
  have HY := hide hy1
  have HAw := hide (awake_any w)
  clear hz hy hz1 hy1
  generalize zs.take len = zl at *
  generalize ys.take len2 = yl at *
  go_enter Try.func6, Try.ntmps6
  go_wp2_with fail
  refine HAw.out.mono ?_
  rintro e w1 ⟨rfl, t1⟩
  have HN := hide (sn_new w w1 t1)
  unfold ptr at HN
  clear t1 HAw
  go_wp2_with fail
  refine HN.out.mono ?_
  rintro e w2 ⟨rfl, h2, -⟩
  have H2 : Hid (Sn w w2 w1.heap.size (all1 0) false) := h2
  clear h2 HN
  generalize w1.heap.size = a at *
  go_upto_if 21 with fail
  go_cut [7] (fun v wc => ∃ n : Nat, v = .int .i64 n ∧ n ≤ 20 ∧ n ≤ len ∧ Aside (wc = w2))
  case first =>
    by_cases hr : 20 < len
    · have e1 : (20 : Int) < (len : Int) := by omega
      go_wp2_with fail
      go_meet
      case rel => exact ⟨20, rfl, by omega, by omega, rfl⟩
    · have e1 : ¬ (20 : Int) < (len : Int) := by omega
      go_wp2_with fail
      go_meet
      case rel => exact ⟨len, rfl, by omega, by omega, rfl⟩
  case rest =>
    obtain ⟨n, rfl, hn, hnl, HWc⟩ := hcut
    have hWc := HWc.out
    subst hWc
    clear HWc
    obtain ⟨w3, hw3⟩ : ∃ w3, w3 = wc := ⟨_, rfl⟩
    subst hw3
    obtain ⟨i0, hi, hi0⟩ := Option.map_eq_some_iff.1 infoInt
    simp only [Prod.mk.injEq] at hi0
    obtain ⟨hz0, hz1, hz2⟩ := hi0
    go_wp2_with fail
    go_loopw [8, 9] (fun s8 s9 wr => ∃ (i : Nat), i ≤ n ∧ s9 = .int .i64 i ∧ Hid (Row wr w.heap.size s8 (upTo i)) ∧ Hid (Sn w wr a (all1 i) false)) (fun _ s9 _ => n - (intOf s9).toNat)
    case atStart => exact ⟨0, by omega, rfl, row_nil _ _, H2⟩
    case round =>
      obtain ⟨i, hin, rfl, HR, HI⟩ := hrel
      by_cases hlt : i < n
      · have e1 : wrap64 ((i : Int) + 1) = (i : Int) + 1 := by unfold wrap64; omega
        have e2 : (i : Int) < (n : Int) := by omega
        have HA := hide (sn_add (HI.out.next ((Turned.refl [] wr).alloc (.cells #[.int .i64 ((i : Int) + 1)] 3))) (some ⟨wr.heap.size, 0, none⟩) 1 1 [(i : Int) + 1] (one_new wr _ (in64_small (by omega))) (by rw [all1_length]; omega))
        rw [all1_add i (by omega)] at HA
        unfold ptr at HA
        have HR1 := hide (HR.out.keeps (Keeps.of_turned ((Turned.refl [] wr).alloc (.cells #[.int .i64 ((i : Int) + 1)] 3))))
        go_wp2_with fail
        refine HA.out.mono ?_
        rintro e w4 ⟨rfl, h4, k4⟩
        have H4 := hide (h4.next ((Turned.refl [] w4).alloc (.cells #[.int .i64 (i : Int)] 3)))
        have HR4 := hide ((HR1.out.keeps k4).keeps (Keeps.of_turned ((Turned.refl [] w4).alloc (.cells #[.int .i64 (i : Int)] 3))))
        have hsz := h4.turn.size
        have HIr := hide (one_new w4 (i : Int) (in64_small (by omega)))
        clear h4 k4 HA HI HR HR1
        go_wp2_with (at_builtin; refine wpList_append_part rfl _ _ rfl w.heap.size _ _ rfl HR4.out _ _ _ [(i : Int)] rfl HIr.out (by intro e; cases e) (by rw [upTo_length]; omega) (by simp; omega) ?_; intro v' w5 hr5 hg5)
        have HR5 : Hid (Row w5 w.heap.size v' (upTo (i + 1))) := by show Row _ _ _ _; rw [upTo_succ]; exact hr5
        have H5 := hide (sn_grown H4.out HR4.out hg5)
        clear hr5 hg5 H4 HR4 HIr
        go_wp2_with fail
        go_roundw
        case rel => exact ⟨i + 1, by omega, by go_num, HR5, H5⟩
        case measure => simp [intOf]; omega
      · have hie : i = n := by omega
        subst hie
        have HA := hide (sn_arm HI.out)
        unfold ptr at HA
        go_wp2_with fail
        refine HA.out.mono ?_
        rintro e w4 ⟨rfl, h4, k4⟩
        have H4 := hide h4
        have HR4 := hide (HR.out.keeps k4)
        have HL4 := hide (all1_left i (by omega))
        have HM4 := hide (show ∀ y, y ∈ upTo i → 0 ≤ y ∧ y < (i : Int) from fun y hy => mem_upTo.1 hy)
        have HE4 := hide (upTo_length i)
        clear h4 k4 HA HI HR
        generalize upTo i = l0 at *
        generalize all1 i = L0 at *
        obtain ⟨wb, hwb⟩ : ∃ wb, wb = wr := ⟨_, rfl⟩
        subst hwb
        go_wp2_with fail
        go_loopg [8, 10] 21 (fun gg s8 s10 wr => ∃ (j : Nat) (lst : List Int) (L : Th) (v : Value), v = s8 ∧ j ≤ i ∧ i - j ≤ gg ∧ s10 = .int .i64 (j : Int) ∧ Aside (lst.length = i - j) ∧ Aside (Row wr w.heap.size v lst) ∧ Aside (Left lst L) ∧ Aside (∀ y, y ∈ lst → 0 ≤ y ∧ y < (i : Int)) ∧ Aside (Sn w wr a L true))
        case atStart => exact ⟨0, l0, L0, _, rfl, by omega, by omega, rfl, HE4.out, HR4.out, HL4.out, HM4.out, H4.out⟩
        case round =>
          obtain ⟨j, lst, L, v, rfl, hj, hgg, rfl, HE, HR, HLf, HM, HS⟩ := hrel
          by_cases hjn : j < i
          · have e2 : (j : Int) < (i : Int) := by omega
            obtain ⟨m, hm⟩ : ∃ m, m = lst.length := ⟨_, rfl⟩
            have hm0 : 0 < m := by have := HE.out; omega
            have hm2 : m = i - j := by have := HE.out; omega
            have HRe := hide (sn_reached HS.out)
            rw [show reach L true = false by simp [reach, HLf.out.still HS.out.ok]; intro e; rw [e] at hm; simp at hm; omega] at HRe
            unfold ptr at HRe
            go_wp2_with fail
            refine HRe.out.mono ?_
            rintro e w5 ⟨rfl, h5, t5⟩
            have H5 := hide h5
            have HR5 := hide (HR.out.keeps (Keeps.of_turned t5))
            have HT5 := hide h5.turn
            clear h5 t5 HRe HS HR
            go_upto_if 49 with fail
            go_cut [11] (fun v wc => ∃ z : Int, v = .int .i64 z ∧ Aside (In64 z) ∧ Aside (wc = w5))
            case first =>
              by_cases hj2 : j < len2
              · have e3 : (j : Int) < (len2 : Int) := by omega
                obtain ⟨x, hx⟩ : ∃ x, yl[j]? = some x := ⟨_, List.getElem?_eq_getElem (by rw [HY.out.size]; exact hj2)⟩
                obtain ⟨g, off, rfl, hc⟩ := (HY.out.turned HT5.out (by simp)).cell j x hx
                have hx64 := HY.out.in64 x (List.mem_of_getElem? hx)
                clear hx
                go_wp2_with fail
                go_meet
                case rel => exact ⟨x, rfl, hx64, rfl⟩
              · have e3 : ¬ (j : Int) < (len2 : Int) := by omega
                go_wp2_with fail
                go_meet
                case rel => exact ⟨0, rfl, in64_small (by omega), rfl⟩
            case rest =>
              obtain ⟨z, rfl, hz64, HWc⟩ := hcut
              have hWc := HWc.out
              subst hWc
              clear HWc
              obtain ⟨wq, hwq⟩ : ∃ wq, wq = wc := ⟨_, rfl⟩
              subst hwq
              go_upto_if 55 with fail
              go_cut [11] (fun v wc => ∃ k : Nat, v = .int .i64 (k : Int) ∧ Aside (wc = wq))
              case first =>
                obtain ⟨q1, q2⟩ := hz64.out
                by_cases hz0 : z < 0
                · have e4 : wrap64 (z + 1) = z + 1 := by unfold wrap64; omega
                  have e5 : wrap64 (-(z + 1)) = -(z + 1) := by unfold wrap64; omega
                  go_wp2_with fail
                  go_meet
                  case rel => exact ⟨(-(z + 1)).toNat, by rw [Int.toNat_of_nonneg (by omega)], rfl⟩
                · go_wp2_with fail
                  go_meet
                  case rel => exact ⟨z.toNat, by rw [Int.toNat_of_nonneg (by omega)], rfl⟩
              case rest =>
                obtain ⟨zn, rfl, HWc⟩ := hcut
                have hWc := HWc.out
                subst hWc
                clear HWc hz64
                obtain ⟨g, cp, rfl, -, -, hcp, hcell, -⟩ := ownsRow_open HR5.out (by omega)
                rw [← hm]
                obtain ⟨k, hkm, HMod⟩ : ∃ k, k < m ∧ Hid (((zn : Int)).tmod (m : Int) = (k : Int)) := ⟨zn % m, Nat.mod_lt _ hm0, by show _ = _; exact (Int.ofNat_tmod zn m).symm⟩
                have hm1 : ¬ (m : Int) = 0 := by omega
                obtain ⟨t, ht⟩ : ∃ t, lst[k]? = some t := ⟨_, List.getElem?_eq_getElem (by omega)⟩
                obtain ⟨b1, b2⟩ := HM.out t (List.mem_of_getElem? ht)
                obtain ⟨tn, rfl⟩ : ∃ tn : Nat, t = tn := ⟨t.toNat, by omega⟩
                have hc1 := hcell k (.int .i64 (tn : Int)) (by simp [ht])
                have h64 : ∀ x, x ∈ lst → In64 x := fun x hx => in64_small (by have := HM.out x hx; omega)
                obtain ⟨ao1, c1, hs1, hi1, hn1⟩ := row_front HR5.out h64 (k := k) (by omega)
                obtain ⟨ao2, c2, hs2, hi2, hn2⟩ := row_back HR5.out h64 (k := k + 1) (by omega) (by omega)
                rw [← hm] at hs1 hs2 hi2
                rw [show ((k + 1 : Nat) : Int) = (k : Int) + 1 by omega] at hs2
                have e8 : (k : Int) < (m : Int) := by omega
                have hk20 : (k : Int) ≤ 20 := by omega
                have ht20' : 0 ≤ (tn : Int) ∧ (tn : Int) ≤ 20 := by omega
                have HI1 := hide hi1
                have HI2 := hide hi2
                have HN1 := hide hn1
                have HN2 := hide hn2
                have hwsz := HT5.out.size
                have HNew := hide (fun M (h1 : ∀ x, x ≠ (tn : Int) + 1 → st M x = st L x) (h2 : st M ((tn : Int) + 1) ≠ 1) => HLf.out.step ht h1 h2)
                have HSt1 := hide (show st L ((tn : Int) + 1) = 1 from (HLf.out.runs _).2 (by rw [show (tn : Int) + 1 - 1 = tn by omega]; exact List.mem_of_getElem? ht))
                have HLen := hide (show (lst.take k ++ lst.drop (k + 1)).length = i - (j + 1) by simp; omega)
                have HT := hide ht
                obtain ⟨kv, hkv⟩ : ∃ x, zl[tn]? = some x := ⟨_, List.getElem?_eq_getElem (by rw [HZ.out.size]; omega)⟩
                have HKv := hide hkv
                have hml : Hid (m = lst.length) := hm
                have HMem := hide (fun y (hy : y ∈ lst.take k ++ lst.drop (k + 1)) => HM.out y (by rcases List.mem_append.1 hy with h | h; exact List.mem_of_mem_take h; exact List.mem_of_mem_drop h))
                have htn : tn < i := by omega
                have HCv := hide (fun w' (hT : Turned [] w w') => (HZ.out.turned hT (by simp)).cell tn kv HKv.out)
                have HB1 := hide (show ([] : List Int).length + k ≤ 17592186044416 by simp; omega)
                have HB2 := hide (show (lst.take k).length + (m - (k + 1)) ≤ 17592186044416 by rw [List.length_take]; omega)
                have ht20 : tn ≤ 20 := by omega
                have hj1 : j + 1 ≤ i := hjn
                have HGG := hide (And.intro hgg hjn)
                clear hi1 hi2 hn1 hn2 hcell ht hkv hm hm2 hgg hjn b1 b2 hcp h64
                have HE6 := hide (show wrap64 ((k : Int) + 1) = (k : Int) + 1 from wrap_small (by omega))
                have HE7 := hide (show wrap64 ((tn : Int) + 1) = (tn : Int) + 1 from wrap_small (by omega))
                have hmod := HMod.out
                clear HMod
                go_upto_region 27 with fail
                clear hmod hm1
                go_upto_region 30 with (at_builtin; refine wpList_append_part rfl _ _ rfl w.heap.size _ _ rfl (row_nil _ _) _ _ _ (lst.take k) rfl HI1.out HN1.out HB1.out hwsz ?_; intro v6 w6 hr6 hg6; have HR6 := hide hr6; have HG6 := hide hg6; clear hr6 hg6)
                have e6 := HE6.out
                clear hc1 e8 hk20 hs1
                go_upto_region 31 with (at_builtin; refine wpList_append_part rfl _ _ rfl w.heap.size _ _ rfl HR6.out _ _ _ (lst.drop (k + 1)) rfl (HI2.out.turned (turned_grown0 HG6.out) (by simp)) HN2.out HB2.out (Nat.le_trans hwsz HG6.out.size) ?_; intro v7 w7 hr7 hg7; have HR7 := hide hr7; have HG7 := hide hg7; clear hr7 hg7)
                clear e6 hs2
                have H7 := hide (sn_grown (H5.out.next (turned_grown0 HG6.out)) HR6.out HG7.out)
                have HT7 := hide H7.out.turn
                have hx64 : In64 ((tn : Int) + 1) := in64_small (by omega)
                have HNe := hide (show st L ((tn : Int) + 1) ≠ 0 by rw [HSt1.out]; omega)
                clear H5 HR5 HT5 HG6 HG7 HR6 HI1 HI2 HN1 HN2 HB1 HB2
                obtain ⟨g2, off2, rfl, hcv⟩ := HCv.out w7 HT7.out
                have htl : (tn : Int) < (len : Int) := by omega
                go_upto_region 33 with fail
                have HAr := hide (show j + 1 ≤ i ∧ i ≤ 20 ∧ j ≤ i from ⟨hj1, hn, hj⟩)
                clear htl hcv hn hnl hin hlt hj e2 hm0 hkm htn ht20 ht20' hj1 hwsz hl1 hl2
                rcases tmod3 kv with hc | hc | hc | hc | hc
                · have HC := hide (sn_end (H7.out.next ((Turned.refl [] w7).alloc (.cells #[.int .i64 ((tn : Int) + 1)] 3))) (some ⟨w7.heap.size, 0, none⟩) 1 1 [(tn : Int) + 1] (one_new w7 _ hx64) (by omega))
                  rw [show (endR L [(tn : Int) + 1]).1 = del ((tn : Int) + 1) L from rfl] at HC
                  have HN8 := hide (HNew.out (del ((tn : Int) + 1) L) (fun x hx => by rw [st_del, if_neg hx]) (by rw [st_del, if_pos rfl]; omega))
                  have HR7' := hide (HR7.out.keeps (Keeps.of_turned ((Turned.refl [] w7).alloc (.cells #[.int .i64 ((tn : Int) + 1)] 3))))
                  unfold ptr at HC
                  have e7 := HE7.out
                  go_wp2_with fail
                  refine HC.out.mono ?_
                  rintro e w8 ⟨rfl, h8, k8⟩
                  have H8 := hide h8
                  have HR8 := hide (HR7'.out.keeps k8)
                  clear h8 k8 HC e7
                  go_wp2_with fail
                  obtain ⟨hj1, hn, hj⟩ := HAr.out
                  go_roundg (i - (j + 1))
                  case measure => have := HGG.out; omega
                  case rel => exact ⟨j + 1, _, _, _, rfl, hj1, Nat.le_refl _, by rw [wrap_small (by omega)]; rfl, HLen.out, HR8.out, HN8.out, HMem.out, H8.out⟩
                · have HC := hide (sn_hold H7.out ((tn : Int) + 1) hx64)
                  rw [HSt1.out, show holdL L ((tn : Int) + 1) = upd ((tn : Int) + 1) 3 L by unfold holdL; rw [if_pos HSt1.out]] at HC
                  have HN8 := hide (HNew.out (upd ((tn : Int) + 1) 3 L) (fun x hx => st_upd_other L hx) (by rw [st_upd_same HNe.out]; omega))
                  unfold ptr at HC
                  have e7 := HE7.out
                  go_wp2_with fail
                  refine HC.out.mono ?_
                  rintro e w8 ⟨rfl, h8, k8⟩
                  have H8 := hide h8
                  have HR8 := hide (HR7.out.keeps k8)
                  clear h8 k8 HC e7
                  go_wp2_with fail
                  obtain ⟨hj1, hn, hj⟩ := HAr.out
                  go_roundg (i - (j + 1))
                  case measure => have := HGG.out; omega
                  case rel => exact ⟨j + 1, _, _, _, rfl, hj1, Nat.le_refl _, by rw [wrap_small (by omega)]; rfl, HLen.out, HR8.out, HN8.out, HMem.out, H8.out⟩
                · have HC := hide (sn_poll H7.out ((tn : Int) + 1) hx64)
                  rw [show polls L true ((tn : Int) + 1) = true by simp [polls, HSt1.out], show pollL L true ((tn : Int) + 1) = upd ((tn : Int) + 1) 2 L by simp [pollL, polls, HSt1.out]] at HC
                  have HN8 := hide (HNew.out (upd ((tn : Int) + 1) 2 L) (fun x hx => st_upd_other L hx) (by rw [st_upd_same HNe.out]; omega))
                  unfold ptr at HC
                  have e7 := HE7.out
                  go_wp2_with fail
                  refine HC.out.mono ?_
                  rintro e w8 ⟨rfl, h8, k8⟩
                  have H8 := hide h8
                  have HR8 := hide (HR7.out.keeps k8)
                  clear h8 k8 HC e7
                  go_wp2_with fail
                  obtain ⟨hj1, hn, hj⟩ := HAr.out
                  go_roundg (i - (j + 1))
                  case measure => have := HGG.out; omega
                  case rel => exact ⟨j + 1, _, _, _, rfl, hj1, Nat.le_refl _, by rw [wrap_small (by omega)]; rfl, HLen.out, HR8.out, HN8.out, HMem.out, H8.out⟩
                · have HC := hide (sn_hold H7.out ((tn : Int) + 1) hx64)
                  rw [HSt1.out, show holdL L ((tn : Int) + 1) = upd ((tn : Int) + 1) 3 L by unfold holdL; rw [if_pos HSt1.out]] at HC
                  have HN8 := hide (HNew.out (upd ((tn : Int) + 1) 3 L) (fun x hx => st_upd_other L hx) (by rw [st_upd_same HNe.out]; omega))
                  unfold ptr at HC
                  have e7 := HE7.out
                  go_wp2_with fail
                  refine HC.out.mono ?_
                  rintro e w8 ⟨rfl, h8, k8⟩
                  have H8 := hide h8
                  have HR8 := hide (HR7.out.keeps k8)
                  clear h8 k8 HC e7
                  go_wp2_with fail
                  obtain ⟨hj1, hn, hj⟩ := HAr.out
                  go_roundg (i - (j + 1))
                  case measure => have := HGG.out; omega
                  case rel => exact ⟨j + 1, _, _, _, rfl, hj1, Nat.le_refl _, by rw [wrap_small (by omega)]; rfl, HLen.out, HR8.out, HN8.out, HMem.out, H8.out⟩
                · have HC := hide (sn_end (H7.out.next ((Turned.refl [] w7).alloc (.cells #[.int .i64 ((tn : Int) + 1)] 3))) (some ⟨w7.heap.size, 0, none⟩) 1 1 [(tn : Int) + 1] (one_new w7 _ hx64) (by omega))
                  rw [show (endR L [(tn : Int) + 1]).1 = del ((tn : Int) + 1) L from rfl] at HC
                  have HN8 := hide (HNew.out (del ((tn : Int) + 1) L) (fun x hx => by rw [st_del, if_neg hx]) (by rw [st_del, if_pos rfl]; omega))
                  have HR7' := hide (HR7.out.keeps (Keeps.of_turned ((Turned.refl [] w7).alloc (.cells #[.int .i64 ((tn : Int) + 1)] 3))))
                  unfold ptr at HC
                  have e7 := HE7.out
                  go_wp2_with fail
                  refine HC.out.mono ?_
                  rintro e w8 ⟨rfl, h8, k8⟩
                  have H8 := hide h8
                  have HR8 := hide (HR7'.out.keeps k8)
                  clear h8 k8 HC e7
                  go_wp2_with fail
                  obtain ⟨hj1, hn, hj⟩ := HAr.out
                  go_roundg (i - (j + 1))
                  case measure => have := HGG.out; omega
                  case rel => exact ⟨j + 1, _, _, _, rfl, hj1, Nat.le_refl _, by rw [wrap_small (by omega)]; rfl, HLen.out, HR8.out, HN8.out, HMem.out, H8.out⟩
          · have hje : j = i := by omega
            subst hje
            have HRe := hide (sn_reached HS.out)
            rw [show reach L true = true by
              have hnil : lst = [] := List.eq_nil_of_length_eq_zero (by have := HE.out; omega)
              simp [reach, HLf.out.still HS.out.ok, hnil]] at HRe
            unfold ptr at HRe
            go_wp2_with fail
            refine HRe.out.mono ?_
            rintro e w5 ⟨rfl, h5, t5⟩
            have HT5 := hide h5.turn
            clear h5 t5 HRe HS
            go_wp2_with fail
            go_ret
            exact ⟨rfl, HT5.out⟩

set_option maxRecDepth 100000 in
theorem safeCalls_lifted (os : Os) (started : os.Started) (H : Type) (enc : TypeId × Value → H) :
    ReturnsInHanded {} Try.checked os 6 .any (Rows.safeCallsSpec.pre6 enc Try.prog Try.f6 Rows.safeCallsRow.domain false) (Rows.safeCallsSpec.post enc Try.prog Try.f6 false true false false) := by
  refine returnsInHanded_of_change (C := Try.checked) own started (by kernel_rfl) Try.func6
    (ChangeSpec.witness6 (enc := enc) (C := Try.checked) false ⟨#[], #[.slice none 0 0, .slice none 0 0], []⟩ 8 (by kernel_rfl) (by kernel_rfl) (by kernel_rfl) (by kernel_rfl)) ?_
  intro W base args ds gs before hval0 hW hcnd _
  have hval : ∀ (j : Nat) t v, Try.f6.params[j]? = some t → args[j]? = some v → Value.okWide Try.prog W .any base t v := hval0
  have hW' := hW
  obtain ⟨p, q, hA0, hV, rfl, hfz, hnd⟩ := hW
  have hA : DataW.TrodAll enc Try.prog W 0 (fun _ => true) true Try.f6.params.toList args.toList ds p := hA0
  rw [Try.params6] at hA hval
  obtain ⟨v0, vs0, d0, ds0, p0, q0, hargs, rfl, rfl, h0, r0⟩ := trodAll_cons hA
  obtain ⟨v1, vs1, d1, ds1, p1, q1, rfl, rfl, rfl, h1, r1⟩ := trodAll_cons r0
  obtain ⟨rfl, rfl, rfl⟩ := trodAll_nil r1
  obtain rfl : args = #[v0, v1] := by cases args; simp_all
  obtain ⟨rfl, rfl⟩ := trodVars_none hV
  obtain ⟨a0, len0, cap0, rfl⟩ := okWide_slice Try.underlying27 (hval 0 27 v0 rfl rfl)
  have k0 := h0
  have lt0 : ∀ x ∈ p0, x.block < W.heap.size := by obtain ⟨m, hm⟩ := k0; exact DataW.trod_lt m _ _ _ hm
  obtain ⟨z0, w0⟩ : ∃ zs, IsRow .i64 W a0 len0 cap0 zs := by
    obtain ⟨fuel, hf⟩ := h0
    rcases open_ints Try.underlying27 Try.underlying3 (by kernel_rfl) hf with ⟨hcs, _⟩ | ⟨x, l, c, zs, hcs, _, hl, hm, hz, _, hcell, hwz⟩
    · simp [Value.cells] at hcs
      obtain ⟨rfl, rfl, rfl⟩ := hcs
      exact ⟨[], .inl ⟨rfl, rfl, rfl, rfl⟩⟩
    · simp [Value.cells] at hcs
      obtain ⟨rfl, rfl, rfl⟩ := hcs
      exact ⟨zs, .inr ⟨_, rfl, hl, hm, by simpa using hz, hcell, hwz⟩⟩
  obtain ⟨a1, len1, cap1, rfl⟩ := okWide_slice Try.underlying27 (hval 1 27 v1 rfl rfl)
  have k1 := h1
  have lt1 : ∀ x ∈ p1, x.block < W.heap.size := by obtain ⟨m, hm⟩ := k1; exact DataW.trod_lt m _ _ _ hm
  obtain ⟨z1, w1⟩ : ∃ zs, IsRow .i64 W a1 len1 cap1 zs := by
    obtain ⟨fuel, hf⟩ := h1
    rcases open_ints Try.underlying27 Try.underlying3 (by kernel_rfl) hf with ⟨hcs, _⟩ | ⟨x, l, c, zs, hcs, _, hl, hm, hz, _, hcell, hwz⟩
    · simp [Value.cells] at hcs
      obtain ⟨rfl, rfl, rfl⟩ := hcs
      exact ⟨[], .inl ⟨rfl, rfl, rfl, rfl⟩⟩
    · simp [Value.cells] at hcs
      obtain ⟨rfl, rfl, rfl⟩ := hcs
      exact ⟨zs, .inr ⟨_, rfl, hl, hm, by simpa using hz, hcell, hwz⟩⟩
  clear hA0 hval0
  refine (safeCalls_walk a0 len0 cap0 z0 a1 len1 cap1 z1 W w0 w1).mono fun e W' ⟨he, ht⟩ => ?_
  subst he
  have bel : Below W.heap.size W W' := ht.below0
  exact ⟨_, rfl, _, _, _, [], _, [], hW', trodAll_mk1 (shut_bool Try.underlying4 _), (trodAll_cons_mk (Below.trod laidOut (by kernel_rfl) (of_decide_eq_true (by kernel_rfl)) k0 bel lt0) (trodAll_cons_mk (Below.trod laidOut (by kernel_rfl) (of_decide_eq_true (by kernel_rfl)) k1 bel lt1) trodAll_mk0)), rfl, bel.frame _, fun h => by cases h⟩

theorem safeCalls_over : Rows.safeCallsRow.holds Try.pinned (OpenSpec.ofChange Rows.safeCallsSpec) :=
  OpenClaim.holds_of_wide 6 Try.f6 rfl rfl rfl rfl rfl rfl rfl ⟨rfl, rfl, rfl, rfl, rfl⟩ rfl rfl rfl rfl rfl (by kernel_rfl) Try.func6 (by kernel_rfl)
    (of_decide_eq_true (by kernel_rfl)) (by unfold Func.isWrapper; first | (rw [if_pos (by decide +kernel)]; kernel_rfl) | (rw [if_neg (by decide +kernel)]; exact ⟨rfl, rfl⟩))
    (fun os started H enc _ => safeCalls_lifted os started H enc)

theorem safeCalls_holds : Rows.SafeCallsSaid := safeCalls_over
end Go.Proofs.Ytclfeafmlngpnaa
