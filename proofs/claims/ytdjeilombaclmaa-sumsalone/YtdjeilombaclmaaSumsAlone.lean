/-
  (Text by SumsLaws.gen.py.) SumsAlone: one worker, whatever the blocks, ends within two steps for each value, three for each block, and a few; what it tells is what adding up one behind the other tells. Any values (of which the first 120 count), any number that picks the block.
-/
import Derived.Test.YtdjeilombaclmaaSumsKit
namespace Go.Proofs.Ytdjeilombaclmaa
open Go.ChangeShapes Go.WideShapes Go.ChangeAt Go.RowKit
set_option linter.unusedVariables false

theorem nb_law (vals : List Int) (m : Nat) (hm : vals.length = m) (k : Nat) (hk : 0 < k) (n : Nat) : ((m : Int) + ((k : Nat) : Int) - 1) / ((k : Nat) : Int) = ((⟨vals, szOf m (k : Int), n⟩ : SP).nb : Int) := by
  have h1 : (⟨vals, szOf m (k : Int), n⟩ : SP).nb = (m + k - 1) / k := by
    unfold SP.nb SP.len
    simp only [hm]
    by_cases h : k ≤ max m 1
    · rw [show szOf m (k : Int) = k by unfold szOf; omega]
    · rw [show szOf m (k : Int) = max m 1 by unfold szOf; omega]
      by_cases h0 : m = 0
      · subst h0
        rw [Nat.div_eq_of_lt (show 0 + k - 1 < k by omega)]
        rfl
      · rw [show max m 1 = m by omega]
        have e1 : (m + m - 1) / m = 1 := Nat.div_eq_of_lt_le (by omega) (by omega)
        have e2 : (m + k - 1) / k = 1 := Nat.div_eq_of_lt_le (by omega) (by omega)
        rw [e1, e2]
  rw [h1, show ((m : Int) + ((k : Nat) : Int) - 1) = ((m + k - 1 : Nat) : Int) by omega]
  rfl
theorem alone_goes {P : SP} {S : SS} (hI : Inv P S) (hn : P.n = 1) (h3 : S.ph ≠ 3) : (S.next P 0).left P + 1 ≤ S.left P := by
  have hph : S.ph ≤ 3 := by cases hI.how <;> omega
  obtain ⟨k, hk, hg⟩ := hI.gi.one
  have hk0 : k = 0 := by omega
  subst hk0
  have h1 := hI.step hk (by omega) ((goes_iff hI.gi hk).2 hg)
  have h2 : S.next P ((0 : Nat) : Int) = S.step P 0 := next_step hk
  rw [show ((0 : Nat) : Int) = 0 from rfl] at h2
  rw [h2]
  exact h1.2
theorem alone_ended {P : SP} {S : SS} (hI : Inv P S) (hn : P.n = 1) : S.ended P 0 = true ↔ S.ph = 3 := by
  obtain ⟨k, hk, hg⟩ := hI.gi.one
  have hk0 : k = 0 := by omega
  subst hk0
  have hgo := (goes_iff hI.gi hk).2 hg
  rw [show ((0 : Nat) : Int) = 0 from rfl] at hgo
  constructor
  · intro h
    unfold SS.ended at h
    rw [hgo, hn] at h
    simpa using h
  · intro h; exact ended_over h 0

set_option maxRecDepth 100000 in
theorem sumsAlone_walk (a : Option Addr) (len cap : Nat) (zs : List Int) (bk : Int) (w : World) (h : IsRow .i64 w a len cap zs) (hb0 : (Lit.int .i64 bk).wf = true) :
    Calls Try.prog 6 #[.slice a len cap, .int .i64 bk] w fun e w' => e = .returned (.bool true) ∧ Turned [] w w' := by
  obtain ⟨hr, hlen, hlc, hcc, hcn0⟩ := isRow_rd h
  have hbr := wf_range hb0
  have hcn := hide hcn0
  have HA := hide (awake12 w)
  clear h hb0 hcn0
  by_cases hl : 120 < len
  · have hsl := cut_first a len cap 120 hl hlc hcc
    have hlz : (120 : Int) < (len : Int) := by omega
    have V := hide (hr.first (m := 120) (by omega))
    generalize (zs.take len).take 120 = vals at *
    clear hr
    rw [show ((120 : Nat) : Int) = 120 from rfl] at hsl
    go_enter Try.func6, Try.ntmps6
    go_wp2_with fail
    refine HA.out.mono ?_
    rintro e w1 ⟨rfl, t1⟩
    have T1 := hide t1
    clear t1 HA
    have HPK := hide (pick12 bk 30 w1 hbr (by omega))
    rw [show ((30 : Nat) : Int) = 30 from rfl] at HPK
    go_wp2_with fail
    refine HPK.out.mono ?_
    rintro e w2 ⟨⟨r, rfl, hr⟩, rfl⟩
    clear HPK
    have HC := hide (new_any 1 w2)
    rw [show (min (max (1 : Int) 0) 65536).toNat = 1 by decide] at HC
    go_wp2_with fail
    refine HC.out.mono ?_
    rintro e w3 ⟨rfl, hM, t3, -⟩
    have T3 := hide (T1.out.trans t3)
    have HN := hide (sl_new (w0 := w) (w := w2) T1.out w3 hM t3 a 120 cap vals (V.out.turned0 T3.out) (old_ne (w1 := w3) (V.out.turned0 T1.out)) (by omega) hcn.out 1 (1 + (r : Int)) (by omega) (by omega) (by omega) (by omega))
    rw [show ((1 : Nat) : Int) = 1 from rfl] at HN
    have HNB := hide (nb_law vals 120 V.out.size (1 + r) (by omega) 1)
    rw [show ((1 + r : Nat) : Int) = 1 + (r : Int) by omega] at HNB
    have hPl : (⟨vals, szOf 120 (1 + (r : Int)), 1⟩ : SP).len = 120 := V.out.size
    have HPV := hide (show (⟨vals, szOf 120 (1 + (r : Int)), 1⟩ : SP).vals = vals from rfl)
    have hPn : (⟨vals, szOf 120 (1 + (r : Int)), 1⟩ : SP).n = 1 := rfl
    have hnb := SP.nb_le (P := ⟨vals, szOf 120 (1 + (r : Int)), 1⟩) (szOf_pos 120 (by omega))
    rw [hPl] at hnb
    have HLF := hide (left_fresh (P := ⟨vals, szOf 120 (1 + (r : Int)), 1⟩) (szOf_pos 120 (by omega)) (by show 0 < 1; omega))
    generalize (⟨vals, szOf 120 (1 + (r : Int)), 1⟩ : SP) = P at *
    clear hM t3 HC T3 T1
    generalize w2.heap.size + 1 = cp at *
    go_wp2_with fail
    refine HN.out.mono ?_
    rintro e w4 ⟨I, rfl, h4, -⟩
    have H4 := hide h4
    have HF := hide (show (SS.fresh P).ph ≠ 3 by simp [SS.fresh])
    have HLE := hide (show (SS.fresh P).left P + 0 ≤ 2 * 120 + 3 * P.nb + 3 from by have := HLF.out; omega)
    generalize SS.fresh P = S0 at *
    generalize P.nb = nb at *
    clear h4 HN HLF
    go_wp2_with fail
    go_loopw [9] (fun i wr => ∃ (j : Nat) (S : SS), i = .int .i64 j ∧ Hid (Sl w wr I P S j) ∧ Hid (S.left P + j ≤ 2 * 120 + 3 * nb + 3) ∧ Hid (S.ph ≠ 3)) (fun i _ => 2000 - (intOf i).toNat)
    case atStart => exact ⟨0, S0, rfl, H4, HLE, HF⟩
    case round =>
      obtain ⟨j, S, rfl, H5, L5, F5⟩ := hrel
      clear H4 HLE HF
      have hj : j ≤ 2 * 120 + 3 * nb + 3 := by have := L5.out; omega
      have hjz : (j : Int) < 2000 := by omega
      have HST := hide (sl_step H5.out (by omega) 0 (by omega))
      have HGO := hide (alone_goes H5.out.inv hPn F5.out)
      have HEN := hide (alone_ended (H5.out.inv.next 0).1 hPn)
      have HLN := hide (show (S.next P 0).left P + 1 ≤ S.left P from HGO.out)
      clear H5 HGO
      generalize S.next P 0 = S' at *
      generalize S'.ended P 0 = en at *
      cases en with
      | true =>
        have h3 := HEN.out.1 rfl
        go_wp2_with fail
        refine HST.out.mono ?_
        rintro e w5 ⟨rfl, h5, t5⟩
        have HR := hide (sl_result h5 h3)
        rw [hPl, HPV.out] at HR
        have hnbi : ((120 : Int) + (1 + (r : Int)) - 1) / (1 + (r : Int)) = (nb : Int) := HNB.out
        have HNI := hide hnbi
        clear h5 t5 HST hnbi HNB
        go_wp2_with fail
        rw [HNI.out]
        refine HR.out.mono ?_
        rintro e w6 ⟨ao, c, rfl, r6, -, h6, t6⟩
        have R6 := hide r6
        have V6 := hide (V.out.turned0 h6.turn)
        have T6 := hide h6.turn
        have HS6 := hide V.out.size
        clear r6 h6 t6 HR V HNI
        go_wp2_with fail
        go_loopw [14, 15] (fun s i wr => ∃ (k : Nat), k ≤ 120 ∧ i = .int .i64 k ∧ s = .int .i64 (wrap64 (pre vals k)) ∧ Hid (wr = w6)) (fun _ i _ => 120 - (intOf i).toNat)
        case atStart => exact ⟨0, Nat.zero_le _, rfl, by rw [pre_zero, wrap0], by first | exact rfl | exact trivial⟩
        case round =>
          obtain ⟨k, hk, rfl, rfl, HW⟩ := hrel
          have hw := HW.out
          clear HW
          subst hw
          by_cases hlt : k < 120
          · obtain ⟨b, off, rfl, c0⟩ := V6.out.cell k _ (getD_some (by have := HS6.out; omega))
            obtain ⟨b2, off2, rfl, c2⟩ := R6.out.cell k _ (preL_get (by have := HS6.out; omega))
            have HX := hide (pre_succ (getD_some (show k < vals.length by have := HS6.out; omega)))
            generalize vals.getD k 0 = x at *
            have e1 := wrap_add (pre vals k) x
            rw [← HX.out] at e1
            have E1 := hide e1
            have hrr := wrap64_range (pre vals k)
            clear e1 HX
            generalize wrap64 (pre vals k) = sj at *
            go_wp2_with fail
            go_roundw
            case rel => exact ⟨k + 1, by omega, by go_num, by rw [← E1.out], by first | exact rfl | exact trivial⟩
            case measure => simp [intOf]; omega
          · have hkj : k = 120 := by omega
            subst hkj
            go_wp2_with fail
            go_ret
            exact ⟨by first | rfl | (congr 2; simp; omega), T6.out⟩
      | false =>
        have h3 : S'.ph ≠ 3 := fun e => by have := HEN.out.2 e; cases this
        go_wp2_with fail
        refine HST.out.mono ?_
        rintro e w5 ⟨rfl, h5, t5⟩
        have H5 := hide h5
        clear h5 t5 HST
        go_wp2_with fail
        go_roundw
        case rel => exact ⟨j + 1, S', by go_num, H5, (show S'.left P + (j + 1) ≤ 2 * 120 + 3 * nb + 3 by have := HLN.out; have := L5.out; omega), h3⟩
        case measure => simp [intOf]; omega
  · have hlz : ¬ (120 : Int) < (len : Int) := by omega
    have V := hide hr
    generalize zs.take len = vals at *
    clear hr
    go_enter Try.func6, Try.ntmps6
    go_wp2_with fail
    refine HA.out.mono ?_
    rintro e w1 ⟨rfl, t1⟩
    have T1 := hide t1
    clear t1 HA
    have HPK := hide (pick12 bk 30 w1 hbr (by omega))
    rw [show ((30 : Nat) : Int) = 30 from rfl] at HPK
    go_wp2_with fail
    refine HPK.out.mono ?_
    rintro e w2 ⟨⟨r, rfl, hr⟩, rfl⟩
    clear HPK
    have HC := hide (new_any 1 w2)
    rw [show (min (max (1 : Int) 0) 65536).toNat = 1 by decide] at HC
    go_wp2_with fail
    refine HC.out.mono ?_
    rintro e w3 ⟨rfl, hM, t3, -⟩
    have T3 := hide (T1.out.trans t3)
    have HN := hide (sl_new (w0 := w) (w := w2) T1.out w3 hM t3 a len cap vals (V.out.turned0 T3.out) (old_ne (w1 := w3) (V.out.turned0 T1.out)) (by omega) hcn.out 1 (1 + (r : Int)) (by omega) (by omega) (by omega) (by omega))
    rw [show ((1 : Nat) : Int) = 1 from rfl] at HN
    have HNB := hide (nb_law vals len V.out.size (1 + r) (by omega) 1)
    rw [show ((1 + r : Nat) : Int) = 1 + (r : Int) by omega] at HNB
    have hPl : (⟨vals, szOf len (1 + (r : Int)), 1⟩ : SP).len = len := V.out.size
    have HPV := hide (show (⟨vals, szOf len (1 + (r : Int)), 1⟩ : SP).vals = vals from rfl)
    have hPn : (⟨vals, szOf len (1 + (r : Int)), 1⟩ : SP).n = 1 := rfl
    have hnb := SP.nb_le (P := ⟨vals, szOf len (1 + (r : Int)), 1⟩) (szOf_pos len (by omega))
    rw [hPl] at hnb
    have HLF := hide (left_fresh (P := ⟨vals, szOf len (1 + (r : Int)), 1⟩) (szOf_pos len (by omega)) (by show 0 < 1; omega))
    generalize (⟨vals, szOf len (1 + (r : Int)), 1⟩ : SP) = P at *
    clear hM t3 HC T3 T1
    generalize w2.heap.size + 1 = cp at *
    go_wp2_with fail
    refine HN.out.mono ?_
    rintro e w4 ⟨I, rfl, h4, -⟩
    have H4 := hide h4
    have HF := hide (show (SS.fresh P).ph ≠ 3 by simp [SS.fresh])
    have HLE := hide (show (SS.fresh P).left P + 0 ≤ 2 * len + 3 * P.nb + 3 from by have := HLF.out; omega)
    generalize SS.fresh P = S0 at *
    generalize P.nb = nb at *
    clear h4 HN HLF
    go_wp2_with fail
    go_loopw [9] (fun i wr => ∃ (j : Nat) (S : SS), i = .int .i64 j ∧ Hid (Sl w wr I P S j) ∧ Hid (S.left P + j ≤ 2 * len + 3 * nb + 3) ∧ Hid (S.ph ≠ 3)) (fun i _ => 2000 - (intOf i).toNat)
    case atStart => exact ⟨0, S0, rfl, H4, HLE, HF⟩
    case round =>
      obtain ⟨j, S, rfl, H5, L5, F5⟩ := hrel
      clear H4 HLE HF
      have hj : j ≤ 2 * len + 3 * nb + 3 := by have := L5.out; omega
      have hjz : (j : Int) < 2000 := by omega
      have HST := hide (sl_step H5.out (by omega) 0 (by omega))
      have HGO := hide (alone_goes H5.out.inv hPn F5.out)
      have HEN := hide (alone_ended (H5.out.inv.next 0).1 hPn)
      have HLN := hide (show (S.next P 0).left P + 1 ≤ S.left P from HGO.out)
      clear H5 HGO
      generalize S.next P 0 = S' at *
      generalize S'.ended P 0 = en at *
      cases en with
      | true =>
        have h3 := HEN.out.1 rfl
        go_wp2_with fail
        refine HST.out.mono ?_
        rintro e w5 ⟨rfl, h5, t5⟩
        have HR := hide (sl_result h5 h3)
        rw [hPl, HPV.out] at HR
        have hnbi : ((len : Int) + (1 + (r : Int)) - 1) / (1 + (r : Int)) = (nb : Int) := HNB.out
        have HNI := hide hnbi
        clear h5 t5 HST hnbi HNB
        go_wp2_with fail
        rw [HNI.out]
        refine HR.out.mono ?_
        rintro e w6 ⟨ao, c, rfl, r6, -, h6, t6⟩
        have R6 := hide r6
        have V6 := hide (V.out.turned0 h6.turn)
        have T6 := hide h6.turn
        have HS6 := hide V.out.size
        clear r6 h6 t6 HR V HNI
        go_wp2_with fail
        go_loopw [14, 15] (fun s i wr => ∃ (k : Nat), k ≤ len ∧ i = .int .i64 k ∧ s = .int .i64 (wrap64 (pre vals k)) ∧ Hid (wr = w6)) (fun _ i _ => len - (intOf i).toNat)
        case atStart => exact ⟨0, Nat.zero_le _, rfl, by rw [pre_zero, wrap0], by first | exact rfl | exact trivial⟩
        case round =>
          obtain ⟨k, hk, rfl, rfl, HW⟩ := hrel
          have hw := HW.out
          clear HW
          subst hw
          by_cases hlt : k < len
          · obtain ⟨b, off, rfl, c0⟩ := V6.out.cell k _ (getD_some (by have := HS6.out; omega))
            obtain ⟨b2, off2, rfl, c2⟩ := R6.out.cell k _ (preL_get (by have := HS6.out; omega))
            have HX := hide (pre_succ (getD_some (show k < vals.length by have := HS6.out; omega)))
            generalize vals.getD k 0 = x at *
            have e1 := wrap_add (pre vals k) x
            rw [← HX.out] at e1
            have E1 := hide e1
            have hrr := wrap64_range (pre vals k)
            clear e1 HX
            generalize wrap64 (pre vals k) = sj at *
            go_wp2_with fail
            go_roundw
            case rel => exact ⟨k + 1, by omega, by go_num, by rw [← E1.out], by first | exact rfl | exact trivial⟩
            case measure => simp [intOf]; omega
          · have hkj : k = len := by omega
            subst hkj
            go_wp2_with fail
            go_ret
            exact ⟨by first | rfl | (congr 2; simp; omega), T6.out⟩
      | false =>
        have h3 : S'.ph ≠ 3 := fun e => by have := HEN.out.2 e; cases this
        go_wp2_with fail
        refine HST.out.mono ?_
        rintro e w5 ⟨rfl, h5, t5⟩
        have H5 := hide h5
        clear h5 t5 HST
        go_wp2_with fail
        go_roundw
        case rel => exact ⟨j + 1, S', by go_num, H5, (show S'.left P + (j + 1) ≤ 2 * len + 3 * nb + 3 by have := HLN.out; have := L5.out; omega), h3⟩
        case measure => simp [intOf]; omega

set_option maxRecDepth 100000 in
theorem sumsAlone_lifted (os : Os) (started : os.Started) (H : Type) (enc : TypeId × Value → H) :
    ReturnsInHanded {} Try.checked os 6 .any (Rows.sumsAloneSpec.pre6 enc Try.prog Try.f6 Rows.sumsAloneRow.domain false) (Rows.sumsAloneSpec.post enc Try.prog Try.f6 false true false false) := by
  refine returnsInHanded_of_change (C := Try.checked) own started (by kernel_rfl) Try.func6
    (ChangeSpec.witness6 (enc := enc) (C := Try.checked) false ⟨#[], #[.slice none 0 0, .int .i64 0], []⟩ 8 (by kernel_rfl) (by kernel_rfl) (by kernel_rfl) (by kernel_rfl)) ?_
  intro W base args ds gs before hval0 hW hcnd _
  have hval : ∀ (j : Nat) t v, Try.f6.params[j]? = some t → args[j]? = some v → Value.okWide Try.prog W .any base t v := hval0
  have hW' := hW
  obtain ⟨p, q, hA0, hV, rfl, hfz, hnd⟩ := hW
  have hA : DataW.TrodAll enc Try.prog W 0 (fun _ => true) true Try.f6.params.toList args.toList ds p := hA0
  rw [Try.params6] at hA hval
  obtain ⟨v0, vs0, d0, ds0, p0, q0, hargs, rfl, rfl, h0, r0⟩ := trodAll_cons hA
  obtain ⟨v1, vs1, d1, ds1, p1, q1, rfl, rfl, rfl, h1, r1⟩ := trodAll_cons r0
  obtain ⟨rfl, rfl, rfl⟩ := trodAll_nil r1
  obtain rfl : args = #[v0, v1] := by cases args; simp_all
  obtain ⟨rfl, rfl⟩ := trodVars_none hV
  obtain ⟨a0, len0, cap0, rfl⟩ := okWide_slice Try.underlying22 (hval 0 22 v0 rfl rfl)
  have k0 := h0
  have lt0 : ∀ x ∈ p0, x.block < W.heap.size := by obtain ⟨m, hm⟩ := k0; exact DataW.trod_lt m _ _ _ hm
  obtain ⟨z0, w0⟩ : ∃ zs, IsRow .i64 W a0 len0 cap0 zs := by
    obtain ⟨fuel, hf⟩ := h0
    rcases open_ints Try.underlying22 Try.underlying2 (by kernel_rfl) hf with ⟨hcs, _⟩ | ⟨x, l, c, zs, hcs, _, hl, hm, hz, _, hcell, hwz⟩
    · simp [Value.cells] at hcs
      obtain ⟨rfl, rfl, rfl⟩ := hcs
      exact ⟨[], .inl ⟨rfl, rfl, rfl, rfl⟩⟩
    · simp [Value.cells] at hcs
      obtain ⟨rfl, rfl, rfl⟩ := hcs
      exact ⟨zs, .inr ⟨_, rfl, hl, hm, by simpa using hz, hcell, hwz⟩⟩
  obtain ⟨a1, rfl, rfl, rfl, w1⟩ := open_int Try.underlying3 (hval 1 3 v1 rfl rfl) h1
  clear hA0 hval0
  refine (sumsAlone_walk a0 len0 cap0 z0 a1 W w0 w1).mono fun e W' ⟨he, ht⟩ => ?_
  subst he
  have bel : Below W.heap.size W W' := ht.below0
  exact ⟨_, rfl, _, _, _, [], _, [], hW', trodAll_mk1 (shut_bool Try.underlying4 _), (trodAll_cons_mk (Below.trod laidOut (by kernel_rfl) (of_decide_eq_true (by kernel_rfl)) k0 bel lt0) (trodAll_cons_mk (shut_int Try.underlying3 w1) trodAll_mk0)), rfl, bel.frame _, fun h => by cases h⟩

theorem sumsAlone_over : Rows.sumsAloneRow.holds Try.pinned (OpenSpec.ofChange Rows.sumsAloneSpec) :=
  OpenClaim.holds_of_wide 6 Try.f6 rfl rfl rfl rfl rfl rfl rfl ⟨rfl, rfl, rfl, rfl, rfl⟩ rfl rfl rfl rfl rfl (by kernel_rfl) Try.func6 (by kernel_rfl)
    (of_decide_eq_true (by kernel_rfl)) (by unfold Func.isWrapper; first | (rw [if_pos (by decide +kernel)]; kernel_rfl) | (rw [if_neg (by decide +kernel)]; exact ⟨rfl, rfl⟩))
    (fun os started H enc _ => sumsAlone_lifted os started H enc)

theorem sumsAlone_holds : Rows.SumsAloneSaid := sumsAlone_over
end Go.Proofs.Ytdjeilombaclmaa
