/-
  ArenaRises: one thread alone is told rising places out of one buffer after the other, and ErrFull once less is left than it asks for: true for every sizes, every buffer, every end.
-/
import Derived.Test.YtelljfckffmjmaaArenaRisesP
namespace Go.Proofs.Ytelljfckffmjmaa
open Go.ChangeShapes Go.WideShapes Go.ChangeAt Go.RowKit
set_option linter.unusedVariables false

/-- An argument's first words. -/
def RR (w : World) (a : Option Addr) (L : Nat) (xs : Nat → Int) : Prop := ∀ i, i < L → ∃ b off, a = some ⟨b, off, none⟩ ∧ b < w.heap.size ∧ w.cell? ⟨b, off + i, none⟩ = some (.int .i64 (xs i)) ∧ -9223372036854775808 ≤ xs i ∧ xs i ≤ 9223372036854775807
theorem rr_of {w : World} {a : Option Addr} {len cap : Nat} {zs : List Int} (h : IsRow .i64 w a len cap zs) : RR w a len (fun i => zs.getD i 0) ∧ len ≤ 9223372036854775807 := by
  rcases h.cases with h0 | ⟨b, off, ha, _, h1, h2, h3, h4⟩
  · exact ⟨fun i hi => by omega, by omega⟩
  · exact ⟨fun i hi => ⟨b, off, ha, h2, h3 i hi, wf_range (h4 i)⟩, h1⟩

set_option maxHeartbeats 4000000 in
set_option maxRecDepth 100000 in
theorem arenaRises_walk (ao : Option Addr) (len cap : Nat) (zs : List Int) (x y : Int) (w : World) (hz : IsRow .i64 w ao len cap zs) (hx : (Lit.int .i64 x).wf = true) (hy : (Lit.int .i64 y).wf = true) :
    Calls Try.prog 5 #[.slice ao len cap, .int .i64 x, .int .i64 y] w fun e w' => e = .returned (.bool true) ∧ Turned [] w w' := by
  obtain ⟨hrr, hlen⟩ := rr_of hz
  have HR := hide hrr
  have HAw := hide (awake_any w)
  have HPx := hide (fun w' => lpick_any x 39 w' (wf_range hx) (by omega))
  have HPy := hide (fun w' => lpick_any y 296 w' (wf_range hy) (by omega))
  have hrx := pickOf_lt x 39 (by omega)
  have hry := pickOf_lt y 296 (by omega)
  generalize pickOf x 39 = rx at *
  generalize pickOf y 296 = ry at *
  generalize (fun i => zs.getD i 0) = xs at *
  clear hx hy hz hrr
  go_enter Try.func5, Try.ntmps5
  go_wp2_with fail
  refine HAw.out.mono ?_
  rintro e w0 ⟨rfl, t0⟩
  have T0 := hide t0
  clear t0 HAw
  have HNew := hide (new_any 301 w0)
  go_wp2_with fail
  refine HNew.out.mono ?_
  rintro e w1 ⟨rfl, h1, t1, -⟩
  rw [show (min (max (301 : Int) 0) 65536).toNat = 301 by decide] at h1
  have HPQ := hide (show w.heap.size ≤ w0.heap.size + 1 ∧ w.heap.size ≤ w0.heap.size by have := T0.out.size; omega)
  generalize w0.heap.size + 1 = p at *
  generalize w0.heap.size = q at *
  have HM := hide h1
  have HT := hide (T0.out.trans t1)
  clear h1 t1 HNew T0
  go_wp2_with fail
  refine (HPy.out _).mono ?_
  rintro e w3 ⟨rfl, hw⟩
  rw [hw]
  clear hw w3 HPy
  have HP := hide (put_one p q (List.replicate 301 0) 0 0 w1.heap.size 1 1 (w1.alloc (.cells #[.int .i64 1] 2)) (by simp) (by simp) (HM.out.alloc _) (by rw [cell_of_heap (heap_alloc_new _ _)]; rfl))
  have HTa := hide (HT.out.alloc (.cells #[.int .i64 1] 2))
  obtain ⟨l1, hl1⟩ : ∃ l1, l1 = (List.replicate 301 (0 : Int)).set 0 1 := ⟨_, rfl⟩
  rw [← hl1] at HP
  have HL1 := hide (show l1.length = 301 ∧ l1.getD 0 0 = 1 by rw [hl1]; decide)
  obtain ⟨en, hen⟩ : ∃ en : Nat, (5 + (ry : Int)) = (en : Int) := ⟨5 + ry, by omega⟩
  have hen300 : 5 ≤ en ∧ en ≤ 300 := by omega
  clear hl1 hry
  go_wp2_with fail
  clear hen
  refine HP.out.mono ?_
  rintro e w2 ⟨rfl, h2, t2⟩
  have T2 := hide (HTa.out.trans_new t2 (by intro i hi; simp at hi; rcases hi with rfl | rfl <;> exact .inr (by have := HPQ.out; omega)))
  have H2 := hide h2
  clear HP HTa HT HM h2 t2
  go_wp2_with fail
  refine (HPx.out _).mono ?_
  rintro e w3 ⟨rfl, hw⟩
  rw [hw]
  clear hw w3 HPx
  obtain ⟨k, hk⟩ : ∃ k : Nat, (2 + (rx : Int)) = (k : Int) := ⟨2 + rx, by omega⟩
  have hk40 : 2 ≤ k ∧ k ≤ 40 := by omega
  have HA := hide (anew_ok w2 p q l1 0 0 en k (by have := HL1.out; omega) (by have := HL1.out; omega) (by omega) (by have := HL1.out; omega) H2.out)
  clear H2 hrx
  go_wp2_with fail
  refine HA.out.mono ?_
  rintro e w3 ⟨a, v, rfl, h3, t3, -⟩
  have T3 := hide (T2.out.trans t3)
  have t4 : Turned [] w3 (w3.alloc (.cells #[.int .i64 0, .int .i64 0] 44)) := (Turned.refl _ _).alloc _
  have HB := hide (show Bf (w3.alloc (.cells #[.int .i64 0, .int .i64 0] 44)) w3.heap.size 44 [0, 0] from heap_alloc_new _ _)
  have H4 := hide (h3.turned t4 (by simp) (by simp) (by simp) (by simp))
  have T4 := hide (T3.out.trans t4)
  have HLo := hide (show w.heap.size ≤ w3.heap.size from T3.out.size)
  clear HA h3 t3 T2 t4 T3 hk
  go_wp2_with fail
  generalize w3.alloc (.cells #[.int .i64 0, .int .i64 0] 44) = w4 at *
  generalize w3.heap.size = B at *
  have N0 := hide (show Sn w w4 a v p q ⟨0, en, k⟩ l1 0 B 44 [0, 0] from ⟨H4.out, HB.out, bt_buf, T4.out, HPQ.out.1, HPQ.out.2, HLo.out⟩)
  have R0 := hide (show RI ⟨0, en, k⟩ l1 0 0 0 0 from ⟨rfl, HL1.out.1, hen300.2, by simp; omega, by rw [show topOf ⟨0, en, k⟩ l1 = 1 from HL1.out.2]; simp; omega, .inl ⟨rfl, rfl⟩, by rw [show topOf ⟨0, en, k⟩ l1 = 1 from HL1.out.2]; omega, by rw [show topOf ⟨0, en, k⟩ l1 = 1 from HL1.out.2]; omega⟩)
  clear H4 HB T4 HL1 HPQ HLo
  go_loopg [13, 14, 15] 60 (fun gg s13 s14 s15 wr => ∃ (j : Nat) (l : List Int) (s f t used large : Int), j ≤ len ∧ j ≤ 60 ∧ gg = 60 - j ∧ s15 = .int .i64 (j : Int) ∧ s14 = .int .i64 used ∧ s13 = .int .i64 large ∧ Aside (Sn w wr a v p q ⟨0, en, k⟩ l s B 44 [f, t]) ∧ Aside (RI ⟨0, en, k⟩ l f t used large))
  case atStart => exact ⟨0, l1, 0, 0, 0, 0, 0, by omega, by omega, rfl, rfl, rfl, rfl, N0.out, R0.out⟩
  case round =>
    obtain ⟨j, l, s, f, t, used, large, hj, hj60, hgg, rfl, rfl, rfl, hsn, hri⟩ := hrel
    have N1 := hide hsn.out
    have R1 := hide hri.out
    clear hsn hri N0 R0
    by_cases hc : j < len ∧ j < 60
    · obtain ⟨b0, off, rfl, hb0, hcell0, hin⟩ := HR.out j hc.1
      have hcell := (N1.out.tu.cell (p := ⟨b0, off + j, none⟩) hb0 (by simp)).trans hcell0
      have e1 : (j : Int) < (len : Int) := by omega
      have e2 : (j : Int) < 60 := by omega
      have HPj := hide (fun w' => lpick_any (xs j) 30 w' hin (by omega))
      have hrj := pickOf_lt (xs j) 30 (by omega)
      generalize pickOf (xs j) 30 = rj at *
      clear hcell0 hin hb0
      go_wp2_with fail
      refine (HPj.out _).mono ?_
      rintro e w5 ⟨rfl, hw⟩
      rw [hw]
      clear hw w5 HPj hcell
      obtain ⟨n, hn⟩ : ∃ n : Nat, (1 + (rj : Int)) = (n : Int) := ⟨1 + rj, by omega⟩
      have hn30 : 1 ≤ n ∧ n ≤ 30 := by omega
      have HLf := hide (left_any wr a v p q ⟨0, en, k⟩ l s N1.out.ar)
      clear hrj
      go_wp2_with fail
      clear hn
      refine HLf.out.mono ?_
      rintro e w6 ⟨rfl, t6⟩
      have N2 := hide (show Sn w w6 a v p q ⟨0, en, k⟩ l s B 44 [f, t] from ⟨N1.out.ar.turned t6 (by simp) (by simp) (by simp) (by simp), N1.out.bf.turned t6 (by simp), bt_buf, N1.out.tu.trans t6, N1.out.lo⟩)
      have HRo := hide (rose ⟨0, en, k⟩ l f t used large n s R1.out (by omega))
      have hft : 0 ≤ f ∧ f ≤ t ∧ t ≤ 300 := by have h1 := R1.out.bf; have h2 := R1.out.top.2; simp only at h2; omega
      have hul : 0 ≤ used ∧ used ≤ 300 ∧ 0 ≤ large ∧ large ≤ 300 := by have h1 := R1.out.used; have h2 := R1.out.top.2; have h3 := R1.out.large; simp only at h2; omega
      have hl301 := hide R1.out.len
      clear HLf t6 N1 R1
      have c0 := N2.out.bf.at (i := 0) rfl
      have c1 := N2.out.bf.at (i := 1) rfl
      have ew : IntKind.i64.wrap (t - f) = t - f := by rw [IntKind.wrap_i64]; omega
      go_wp2_with fail
      go_quiet (fail)
      have N3 := hide (show Sn w (w6.drewN nq) a v p q ⟨0, en, k⟩ l s B 44 [f, t] from ⟨N2.out.ar.drewN nq, N2.out.bf, bt_buf, N2.out.tu.drewN nq, N2.out.lo⟩)
      generalize w6.drewN nq = w7 at *
      clear N2 c0 c1 ew
      have HK := hide (ask_any w7 a v p q B 0 ⟨0, en, k⟩ l s n N3.out.ar)
      unfold Rose at HRo
      generalize aboveOf ⟨0, en, k⟩ (topOf ⟨0, en, k⟩ l) = L at *
      go_wp2_with fail
      refine HK.out.mono ?_
      rintro e wa ⟨rfl, hka, ta, -⟩
      obtain ⟨l', f', t', pos, errno, hT, hh⟩ := HRo.out
      have HE := hide (ends_any wa a v p q B w7.heap.size 0 44 ⟨0, en, k⟩ ⟨l, [f, t], akNew n, s⟩ 4 (by omega) (fitNew _ _ _ _ _ _ (by simp; omega) (by simp; rw [hl301.out]; omega) (by simp)) hT.done (AX.mk N3.out.ar N3.out.bf N3.out.bt ta hka))
      rw [hT.pos, hT.errno] at HE
      have TA := hide ta
      have HH := hide hh
      have HT' := hide hT
      clear HK hka ta hh hT HRo
      go_wp2_with fail
      refine HE.out.mono ?_
      rintro e w8 ⟨rfl, hy⟩
      have N4 := hide (N3.out.next TA.out hy rfl).1
      rw [HT'.out.l, HT'.out.bl] at N4
      generalize (goA ⟨0, en, k⟩ 0 4 ⟨l, [f, t], akNew n, s⟩).s = s4 at *
      clear hy HE TA N3 wa HT'
      rcases HH.out with ⟨rfl, hL, hR⟩ | ⟨rfl, hp1, hp2, hp3, hp4, hR⟩
      · have R2 := hide hR
        have hL2 : ¬ ((n : Int) ≤ L) := by omega
        clear HH hR
        go_wp2_with fail
        go_roundg (60 - (j + 1))
        case measure => omega
        case rel => exact ⟨j + 1, l', s4, f', t', used, large, by omega, by omega, rfl, by go_num, rfl, rfl, N4.out, R2.out⟩
      · have hq2 : pos + n ≤ 300 := by have := hR.til; simp only at this hp2; omega
        have R2 := hide hR
        have H3 := hide hp3
        have H4 := hide hp4
        clear HH hR hp3 hp4
        have g1 : ¬ (pos < 1) := by omega
        have g2 : ¬ ((en : Int) < pos + n) := by omega
        by_cases hrest : (n : Int) ≤ t - f
        · have g3 : ¬ (t - f < (n : Int)) := by omega
          have HLf := hide (left_any w8 a v p q ⟨0, en, k⟩ l' s4 N4.out.ar)
          rw [H4.out hrest] at HLf
          go_wp2_with fail
          all_goals (
            refine HLf.out.mono ?_
            rintro e w9 ⟨rfl, t9⟩
            have N5 := hide (show Sn w w9 a v p q ⟨0, en, k⟩ l' s4 B 44 [f', t'] from ⟨N4.out.ar.turned t9 (by simp) (by simp) (by simp) (by simp), N4.out.bf.turned t9 (by simp), bt_buf, N4.out.tu.trans t9, N4.out.lo⟩)
            clear HLf t9 N4
            by_cases hlp : large ≤ pos
            · rw [if_pos hlp] at R2
              go_wp2_with fail
              go_roundg (60 - (j + 1))
              case measure => omega
              case rel => exact ⟨j + 1, l', s4, f', t', used + n, pos + n, by omega, by omega, rfl, by go_num, by go_num, by go_num, N5.out, R2.out⟩
            · rw [if_neg hlp] at R2
              go_wp2_with fail
              go_roundg (60 - (j + 1))
              case measure => omega
              case rel => exact ⟨j + 1, l', s4, f', t', used + n, large, by omega, by omega, rfl, by go_num, by go_num, rfl, N5.out, R2.out⟩)
        · have g3 : ¬ (L < (n : Int)) := by have := H3.out; omega
          have g4 : t - f < (n : Int) := by omega
          by_cases hlp : large ≤ pos
          · rw [if_pos hlp] at R2
            go_wp2_with fail
            go_roundg (60 - (j + 1))
            case measure => omega
            case rel => exact ⟨j + 1, l', s4, f', t', used + n, pos + n, by omega, by omega, rfl, by go_num, by go_num, by go_num, N4.out, R2.out⟩
          · rw [if_neg hlp] at R2
            go_wp2_with fail
            go_roundg (60 - (j + 1))
            case measure => omega
            case rel => exact ⟨j + 1, l', s4, f', t', used + n, large, by omega, by omega, rfl, by go_num, by go_num, rfl, N4.out, R2.out⟩
    · have hul : 0 ≤ used ∧ used ≤ (en : Int) - 1 ∧ 0 ≤ large ∧ large ≤ (en : Int) := by have h1 := R1.out.used; have h2 := R1.out.top.2; have h3 := R1.out.large; have h4 := R1.out.bf; simp only at h2; omega
      clear R1
      have HTf := hide N1.out.tu
      by_cases hjl : j < len
      · have e1 : (j : Int) < (len : Int) := by omega
        have e2 : ¬ ((j : Int) < 60) := by omega
        go_wp2_with fail
        go_ret
        exact ⟨rfl, HTf.out⟩
      · have e1 : ¬ ((j : Int) < (len : Int)) := by omega
        go_wp2_with fail
        go_ret
        exact ⟨rfl, HTf.out⟩

set_option maxRecDepth 100000 in
theorem arenaRises_lifted (os : Os) (started : os.Started) (H : Type) (enc : TypeId × Value → H) :
    ReturnsInHanded {} Try.checked os 5 .any (Rows.arenaRisesSpec.pre6 enc Try.prog Try.f5 Rows.arenaRisesRow.domain false) (Rows.arenaRisesSpec.post enc Try.prog Try.f5 false true false false) := by
  refine returnsInHanded_of_change (C := Try.checked) own started (by kernel_rfl) Try.func5
    (ChangeSpec.witness6 (enc := enc) (C := Try.checked) false ⟨#[], #[.slice none 0 0, .int .i64 0, .int .i64 0], []⟩ 8 (by kernel_rfl) (by kernel_rfl) (by kernel_rfl) (by kernel_rfl)) ?_
  intro W base args ds gs before hval0 hW hcnd _
  have hval : ∀ (j : Nat) t v, Try.f5.params[j]? = some t → args[j]? = some v → Value.okWide Try.prog W .any base t v := hval0
  have hW' := hW
  obtain ⟨p, q, hA0, hV, rfl, hfz, hnd⟩ := hW
  have hA : DataW.TrodAll enc Try.prog W 0 (fun _ => true) true Try.f5.params.toList args.toList ds p := hA0
  rw [Try.params5] at hA hval
  obtain ⟨v0, vs0, d0, ds0, p0, q0, hargs, rfl, rfl, h0, r0⟩ := trodAll_cons hA
  obtain ⟨v1, vs1, d1, ds1, p1, q1, rfl, rfl, rfl, h1, r1⟩ := trodAll_cons r0
  obtain ⟨v2, vs2, d2, ds2, p2, q2, rfl, rfl, rfl, h2, r2⟩ := trodAll_cons r1
  obtain ⟨rfl, rfl, rfl⟩ := trodAll_nil r2
  obtain rfl : args = #[v0, v1, v2] := by cases args; simp_all
  obtain ⟨rfl, rfl⟩ := trodVars_none hV
  obtain ⟨a0, len0, cap0, rfl⟩ := okWide_slice Try.underlying82 (hval 0 82 v0 rfl rfl)
  have k0 := h0
  have lt0 : ∀ x ∈ p0, x.block < W.heap.size := by obtain ⟨m, hm⟩ := k0; exact DataW.trod_lt m _ _ _ hm
  obtain ⟨z0, w0⟩ : ∃ zs, IsRow .i64 W a0 len0 cap0 zs := by
    obtain ⟨fuel, hf⟩ := h0
    rcases open_ints Try.underlying82 Try.underlying3 (by kernel_rfl) hf with ⟨hcs, _⟩ | ⟨x, l, c, zs, hcs, _, hl, hm, hz, _, hcell, hwz⟩
    · simp [Value.cells] at hcs
      obtain ⟨rfl, rfl, rfl⟩ := hcs
      exact ⟨[], .inl ⟨rfl, rfl, rfl, rfl⟩⟩
    · simp [Value.cells] at hcs
      obtain ⟨rfl, rfl, rfl⟩ := hcs
      exact ⟨zs, .inr ⟨_, rfl, hl, hm, by simpa using hz, hcell, hwz⟩⟩
  obtain ⟨a1, rfl, rfl, rfl, w1⟩ := open_int Try.underlying3 (hval 1 3 v1 rfl rfl) h1
  obtain ⟨a2, rfl, rfl, rfl, w2⟩ := open_int Try.underlying3 (hval 2 3 v2 rfl rfl) h2
  clear hA0 hval0
  refine (arenaRises_walk a0 len0 cap0 z0 a1 a2 W w0 w1 w2).mono fun e W' ⟨he, ht⟩ => ?_
  subst he
  have bel : Below W.heap.size W W' := ht.below0
  exact ⟨_, rfl, _, _, _, [], _, [], hW', trodAll_mk1 (shut_bool Try.underlying4 _), (trodAll_cons_mk (Below.trod laidOut (by kernel_rfl) (of_decide_eq_true (by kernel_rfl)) k0 bel lt0) (trodAll_cons_mk (shut_int Try.underlying3 w1) (trodAll_cons_mk (shut_int Try.underlying3 w2) trodAll_mk0))), rfl, bel.frame _, fun h => by cases h⟩

theorem arenaRises_over : Rows.arenaRisesRow.holds Try.pinned (OpenSpec.ofChange Rows.arenaRisesSpec) :=
  OpenClaim.holds_of_wide 5 Try.f5 rfl rfl rfl rfl rfl rfl rfl ⟨rfl, rfl, rfl, rfl, rfl⟩ rfl rfl rfl rfl rfl (by kernel_rfl) Try.func5 (by kernel_rfl)
    (of_decide_eq_true (by kernel_rfl)) (by unfold Func.isWrapper; first | (rw [if_pos (by decide +kernel)]; kernel_rfl) | (rw [if_neg (by decide +kernel)]; exact ⟨rfl, rfl⟩))
    (fun os started H enc _ => arenaRises_lifted os started H enc)

theorem arenaRises_holds : Rows.ArenaRisesSaid := arenaRises_over
end Go.Proofs.Ytelljfckffmjmaa
