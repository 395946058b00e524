/-
  SumsPlain: Plain tells the sums ahead of all and the sum of all (modulo 2^64), as the document's own does; New refuses numbers of workers that are not from 1 to 64 and blocks of less than one value, and nothing else. Any values (of which the first 300 count), any two numbers.
-/
import Derived.Test.YtdjeilombaclmaaSumsKit
namespace Go.Proofs.Ytdjeilombaclmaa
open Go.ChangeShapes Go.WideShapes Go.ChangeAt Go.RowKit
set_option linter.unusedVariables false


set_option maxRecDepth 100000 in
theorem sumsPlain_walk (a : Option Addr) (len cap : Nat) (zs : List Int) (k bk : Int) (w : World) (h : IsRow .i64 w a len cap zs) (hk0 : (Lit.int .i64 k).wf = true) (hb0 : (Lit.int .i64 bk).wf = true) :
    Calls Try.prog 3 #[.slice a len cap, .int .i64 k, .int .i64 bk] w fun e w' => e = .returned (.bool true) ∧ Turned [] w w' := by
  obtain ⟨hr, hlen, hlc, hcc, hcn0⟩ := isRow_rd h
  have hkr := wf_range hk0
  have hbr := wf_range hb0
  have hcn := hide hcn0
  have HA := hide (awake12 w)
  clear h hk0 hb0 hcn0
  by_cases hl : 300 < len
  · have hsl := cut_first a len cap 300 hl hlc hcc
    have hlz : (300 : Int) < (len : Int) := by omega
    have V := hide (hr.first (m := 300) (by omega))
    generalize (zs.take len).take 300 = vals at *
    clear hr
    rw [show ((300 : Nat) : Int) = 300 from rfl] at hsl
    go_enter Try.func3, Try.ntmps3
    go_wp2_with fail
    refine HA.out.mono ?_
    rintro e w1 ⟨rfl, t1⟩
    have T1 := hide t1
    clear t1 HA
    have HP := hide (splain_any w1 a 300 cap vals (V.out.turned0 T1.out) (by omega))
    go_wp2_with fail
    refine HP.out.mono ?_
    rintro e w2 ⟨rfl, r2, t2⟩
    have R2 := hide r2
    have T2 := hide (T1.out.trans t2)
    clear r2 t2 HP T1
    generalize w1.heap.size = g at *
    have HP := hide (rplain_any w2 a 300 cap vals (V.out.turned0 T2.out) (by omega))
    generalize wrap64 (pre vals 300) = tot at *
    go_wp2_with fail
    refine HP.out.mono ?_
    rintro e w3 ⟨ao, c, rfl, r3, -, t3⟩
    have HS := hide (same12 w3 (some ⟨g, 0, none⟩) ao 300 c (preL vals) 300 (by omega) (R2.out.turned0 t3) r3)
    have T3 := hide (T2.out.trans t3)
    clear r3 t3 HP T2 R2
    go_wp2_with fail
    refine HS.out.mono ?_
    rintro e w4 ⟨rfl, t4⟩
    have T4 := hide (T3.out.trans t4)
    clear t4 HS T3
    have HC := hide (new_any 1 w4)
    rw [show (min (max (1 : Int) 0) 65536).toNat = 1 by decide] at HC
    go_wp2_with fail
    refine HC.out.mono ?_
    rintro e w5 ⟨rfl, hM, t5, -⟩
    have M5 := hide hM
    have T45 := hide t5
    have T5 := hide (T4.out.trans t5)
    clear hM t5 HC
    by_cases hk : k < 1 ∨ 64 < k
    · have HK := hide hk
      rcases hk with hk | hk
      · have z1 : ¬ 1 ≤ k := by omega
        have HN := hide (snew_bad1 w5 (.pointer (some ⟨w4.heap.size + 1, 0, none⟩)) a 300 cap k bk HK.out)
        go_wp2_with fail
        refine HN.out.mono ?_
        rintro e w6 ⟨rfl, t6⟩
        have T6 := hide (T5.out.trans t6)
        clear t6 HN
        go_wp2_with fail
        go_ret
        exact ⟨by first | rfl | (congr 2; simp; omega), T6.out⟩
      · have z1 : 1 ≤ k := by omega
        have z2 : ¬ k ≤ 64 := by omega
        have HN := hide (snew_bad1 w5 (.pointer (some ⟨w4.heap.size + 1, 0, none⟩)) a 300 cap k bk HK.out)
        go_wp2_with fail
        refine HN.out.mono ?_
        rintro e w6 ⟨rfl, t6⟩
        have T6 := hide (T5.out.trans t6)
        clear t6 HN
        go_wp2_with fail
        go_ret
        exact ⟨by first | rfl | (congr 2; simp; omega), T6.out⟩
    · have z1 : 1 ≤ k := by omega
      have z2 : k ≤ 64 := by omega
      obtain ⟨kn, rfl⟩ := Int.eq_ofNat_of_zero_le (show 0 ≤ k by omega)
      by_cases hb : bk < 1
      · have z3 : ¬ 1 ≤ bk := by omega
        have HN := hide (snew_bad2 w5 (.pointer (some ⟨w4.heap.size + 1, 0, none⟩)) a 300 cap kn bk (by omega) (by omega) (by omega))
        go_wp2_with fail
        refine HN.out.mono ?_
        rintro e w6 ⟨rfl, t6⟩
        have T6 := hide (T5.out.trans t6)
        clear t6 HN
        go_wp2_with fail
        go_ret
        exact ⟨by first | rfl | (congr 2; simp; omega), T6.out⟩
      · have z3 : 1 ≤ bk := by omega
        have HN := hide (sl_new (w0 := w) (w := w4) T4.out w5 M5.out T45.out a 300 cap vals (V.out.turned0 T5.out) (old_ne (w1 := w5) (V.out.turned0 T4.out)) (by omega) hcn.out kn bk (by omega) (by omega) (by omega) (by omega))
        go_wp2_with fail
        refine HN.out.mono ?_
        rintro e w6 ⟨I, rfl, h6, -⟩
        have T6 := hide h6.turn
        clear h6 HN
        go_wp2_with fail
        go_ret
        exact ⟨by first | rfl | (congr 2; simp; omega), T6.out⟩
  · have hlz : ¬ (300 : Int) < (len : Int) := by omega
    have V := hide hr
    generalize zs.take len = vals at *
    clear hr
    go_enter Try.func3, Try.ntmps3
    go_wp2_with fail
    refine HA.out.mono ?_
    rintro e w1 ⟨rfl, t1⟩
    have T1 := hide t1
    clear t1 HA
    have HP := hide (splain_any w1 a len cap vals (V.out.turned0 T1.out) (by omega))
    go_wp2_with fail
    refine HP.out.mono ?_
    rintro e w2 ⟨rfl, r2, t2⟩
    have R2 := hide r2
    have T2 := hide (T1.out.trans t2)
    clear r2 t2 HP T1
    generalize w1.heap.size = g at *
    have HP := hide (rplain_any w2 a len cap vals (V.out.turned0 T2.out) (by omega))
    generalize wrap64 (pre vals len) = tot at *
    go_wp2_with fail
    refine HP.out.mono ?_
    rintro e w3 ⟨ao, c, rfl, r3, -, t3⟩
    have HS := hide (same12 w3 (some ⟨g, 0, none⟩) ao len c (preL vals) len (by omega) (R2.out.turned0 t3) r3)
    have T3 := hide (T2.out.trans t3)
    clear r3 t3 HP T2 R2
    go_wp2_with fail
    refine HS.out.mono ?_
    rintro e w4 ⟨rfl, t4⟩
    have T4 := hide (T3.out.trans t4)
    clear t4 HS T3
    have HC := hide (new_any 1 w4)
    rw [show (min (max (1 : Int) 0) 65536).toNat = 1 by decide] at HC
    go_wp2_with fail
    refine HC.out.mono ?_
    rintro e w5 ⟨rfl, hM, t5, -⟩
    have M5 := hide hM
    have T45 := hide t5
    have T5 := hide (T4.out.trans t5)
    clear hM t5 HC
    by_cases hk : k < 1 ∨ 64 < k
    · have HK := hide hk
      rcases hk with hk | hk
      · have z1 : ¬ 1 ≤ k := by omega
        have HN := hide (snew_bad1 w5 (.pointer (some ⟨w4.heap.size + 1, 0, none⟩)) a len cap k bk HK.out)
        go_wp2_with fail
        refine HN.out.mono ?_
        rintro e w6 ⟨rfl, t6⟩
        have T6 := hide (T5.out.trans t6)
        clear t6 HN
        go_wp2_with fail
        go_ret
        exact ⟨by first | rfl | (congr 2; simp; omega), T6.out⟩
      · have z1 : 1 ≤ k := by omega
        have z2 : ¬ k ≤ 64 := by omega
        have HN := hide (snew_bad1 w5 (.pointer (some ⟨w4.heap.size + 1, 0, none⟩)) a len cap k bk HK.out)
        go_wp2_with fail
        refine HN.out.mono ?_
        rintro e w6 ⟨rfl, t6⟩
        have T6 := hide (T5.out.trans t6)
        clear t6 HN
        go_wp2_with fail
        go_ret
        exact ⟨by first | rfl | (congr 2; simp; omega), T6.out⟩
    · have z1 : 1 ≤ k := by omega
      have z2 : k ≤ 64 := by omega
      obtain ⟨kn, rfl⟩ := Int.eq_ofNat_of_zero_le (show 0 ≤ k by omega)
      by_cases hb : bk < 1
      · have z3 : ¬ 1 ≤ bk := by omega
        have HN := hide (snew_bad2 w5 (.pointer (some ⟨w4.heap.size + 1, 0, none⟩)) a len cap kn bk (by omega) (by omega) (by omega))
        go_wp2_with fail
        refine HN.out.mono ?_
        rintro e w6 ⟨rfl, t6⟩
        have T6 := hide (T5.out.trans t6)
        clear t6 HN
        go_wp2_with fail
        go_ret
        exact ⟨by first | rfl | (congr 2; simp; omega), T6.out⟩
      · have z3 : 1 ≤ bk := by omega
        have HN := hide (sl_new (w0 := w) (w := w4) T4.out w5 M5.out T45.out a len cap vals (V.out.turned0 T5.out) (old_ne (w1 := w5) (V.out.turned0 T4.out)) (by omega) hcn.out kn bk (by omega) (by omega) (by omega) (by omega))
        go_wp2_with fail
        refine HN.out.mono ?_
        rintro e w6 ⟨I, rfl, h6, -⟩
        have T6 := hide h6.turn
        clear h6 HN
        go_wp2_with fail
        go_ret
        exact ⟨by first | rfl | (congr 2; simp; omega), T6.out⟩

set_option maxRecDepth 100000 in
theorem sumsPlain_lifted (os : Os) (started : os.Started) (H : Type) (enc : TypeId × Value → H) :
    ReturnsInHanded {} Try.checked os 3 .any (Rows.sumsPlainSpec.pre6 enc Try.prog Try.f3 Rows.sumsPlainRow.domain false) (Rows.sumsPlainSpec.post enc Try.prog Try.f3 false true false false) := by
  refine returnsInHanded_of_change (C := Try.checked) own started (by kernel_rfl) Try.func3
    (ChangeSpec.witness6 (enc := enc) (C := Try.checked) false ⟨#[], #[.slice none 0 0, .int .i64 0, .int .i64 0], []⟩ 8 (by kernel_rfl) (by kernel_rfl) (by kernel_rfl) (by kernel_rfl)) ?_
  intro W base args ds gs before hval0 hW hcnd _
  have hval : ∀ (j : Nat) t v, Try.f3.params[j]? = some t → args[j]? = some v → Value.okWide Try.prog W .any base t v := hval0
  have hW' := hW
  obtain ⟨p, q, hA0, hV, rfl, hfz, hnd⟩ := hW
  have hA : DataW.TrodAll enc Try.prog W 0 (fun _ => true) true Try.f3.params.toList args.toList ds p := hA0
  rw [Try.params3] at hA hval
  obtain ⟨v0, vs0, d0, ds0, p0, q0, hargs, rfl, rfl, h0, r0⟩ := trodAll_cons hA
  obtain ⟨v1, vs1, d1, ds1, p1, q1, rfl, rfl, rfl, h1, r1⟩ := trodAll_cons r0
  obtain ⟨v2, vs2, d2, ds2, p2, q2, rfl, rfl, rfl, h2, r2⟩ := trodAll_cons r1
  obtain ⟨rfl, rfl, rfl⟩ := trodAll_nil r2
  obtain rfl : args = #[v0, v1, v2] := by cases args; simp_all
  obtain ⟨rfl, rfl⟩ := trodVars_none hV
  obtain ⟨a0, len0, cap0, rfl⟩ := okWide_slice Try.underlying22 (hval 0 22 v0 rfl rfl)
  have k0 := h0
  have lt0 : ∀ x ∈ p0, x.block < W.heap.size := by obtain ⟨m, hm⟩ := k0; exact DataW.trod_lt m _ _ _ hm
  obtain ⟨z0, w0⟩ : ∃ zs, IsRow .i64 W a0 len0 cap0 zs := by
    obtain ⟨fuel, hf⟩ := h0
    rcases open_ints Try.underlying22 Try.underlying2 (by kernel_rfl) hf with ⟨hcs, _⟩ | ⟨x, l, c, zs, hcs, _, hl, hm, hz, _, hcell, hwz⟩
    · simp [Value.cells] at hcs
      obtain ⟨rfl, rfl, rfl⟩ := hcs
      exact ⟨[], .inl ⟨rfl, rfl, rfl, rfl⟩⟩
    · simp [Value.cells] at hcs
      obtain ⟨rfl, rfl, rfl⟩ := hcs
      exact ⟨zs, .inr ⟨_, rfl, hl, hm, by simpa using hz, hcell, hwz⟩⟩
  obtain ⟨a1, rfl, rfl, rfl, w1⟩ := open_int Try.underlying3 (hval 1 3 v1 rfl rfl) h1
  obtain ⟨a2, rfl, rfl, rfl, w2⟩ := open_int Try.underlying3 (hval 2 3 v2 rfl rfl) h2
  clear hA0 hval0
  refine (sumsPlain_walk a0 len0 cap0 z0 a1 a2 W w0 w1 w2).mono fun e W' ⟨he, ht⟩ => ?_
  subst he
  have bel : Below W.heap.size W W' := ht.below0
  exact ⟨_, rfl, _, _, _, [], _, [], hW', trodAll_mk1 (shut_bool Try.underlying4 _), (trodAll_cons_mk (Below.trod laidOut (by kernel_rfl) (of_decide_eq_true (by kernel_rfl)) k0 bel lt0) (trodAll_cons_mk (shut_int Try.underlying3 w1) (trodAll_cons_mk (shut_int Try.underlying3 w2) trodAll_mk0))), rfl, bel.frame _, fun h => by cases h⟩

theorem sumsPlain_over : Rows.sumsPlainRow.holds Try.pinned (OpenSpec.ofChange Rows.sumsPlainSpec) :=
  OpenClaim.holds_of_wide 3 Try.f3 rfl rfl rfl rfl rfl rfl rfl ⟨rfl, rfl, rfl, rfl, rfl⟩ rfl rfl rfl rfl rfl (by kernel_rfl) Try.func3 (by kernel_rfl)
    (of_decide_eq_true (by kernel_rfl)) (by unfold Func.isWrapper; first | (rw [if_pos (by decide +kernel)]; kernel_rfl) | (rw [if_neg (by decide +kernel)]; exact ⟨rfl, rfl⟩))
    (fun os started H enc _ => sumsPlain_lifted os started H enc)

theorem sumsPlain_holds : Rows.SumsPlainSaid := sumsPlain_over
end Go.Proofs.Ytdjeilombaclmaa
