/-
  DequeTwo: the last item is had by just one of the owner and a thief, however their steps fall: true for every item and every order of steps. (Text by DequeTwo.gen.py.)
-/
import Derived.Test.YtdhfggdmlhgdoaaDequeTwoP
import Derived.Test.YtdhfggdmlhgdoaaDequeAwake
import Derived.Test.YtdhfggdmlhgdoaaLawKit
import Derived.Deep.Grids
namespace Go.Proofs.Ytdhfggdmlhgdoaa
open Go.ChangeShapes Go.WideShapes Go.ChangeAt Go.RowKit
set_option linter.unusedVariables false

def BRd (w : World) (a : Option Addr) (len : Nat) (bs : Nat → Bool) : Prop := ∀ i, i < len → ∃ g off, a = some ⟨g, off, none⟩ ∧ w.cell? ⟨g, off + i, none⟩ = some (.bool (bs i))

set_option maxHeartbeats 4000000 in
set_option maxRecDepth 100000 in
theorem dequeTwo_walk (v : Int) (a : Option Addr) (len cap : Nat) (bs : Nat → Bool) (w : World) (_hv : (Lit.int .i64 v).wf = true) (hB : BRd w a len bs) (hl : len ≤ 9223372036854775807) :
    Calls Try.prog 5 #[.int .i64 v, .slice a len cap] w fun e w' => e = .returned (.bool true) ∧ Turned [] w w' := by
  have HAw := hide (awake_any w)
  have HB := hide hB
  clear hB _hv
  go_enter Try.func5, Try.ntmps5
  go_wp2_with fail
  refine HAw.out.mono ?_
  rintro e w0 ⟨rfl, t0⟩
  have HNew := hide (new_any 20 w0)
  have T0 := hide t0
  clear t0 HAw
  go_wp2_with fail
  refine HNew.out.mono ?_
  rintro e w1 ⟨rfl, h1, t1, -⟩
  have hw0 : w.heap.size ≤ w0.heap.size := T0.out.size
  obtain ⟨p, hp⟩ : ∃ p, p = w0.heap.size + 1 := ⟨_, rfl⟩
  obtain ⟨q, hq⟩ : ∃ q, q = w0.heap.size := ⟨_, rfl⟩
  rw [← hp, ← hq] at h1
  rw [← hp]
  have HPQ := hide (show w.heap.size ≤ p ∧ w.heap.size ≤ q by omega)
  have T1 := hide (T0.out.trans t1)
  have HD := hide (dnew_ok w1 p q ⟨0, 4, 2⟩ (List.replicate 20 0) 0 (by simp) (by simp) (by simp) (by simp) h1)
  clear h1 t1 hp hq HNew T0 hw0
  go_wp2_with fail
  refine HD.out.mono ?_
  rintro e w2 ⟨rfl, h2, t2, -⟩
  have D2 := hide (show Dn w2 w1.heap.size p q ⟨0, 4, 2⟩ (List.replicate 20 0) from ⟨0, h2⟩)
  have T2 := hide (T1.out.trans t2)
  have HDD := hide (show w.heap.size ≤ w1.heap.size from T1.out.size)
  generalize w1.heap.size = d at *
  clear h2 t2 HD T1
  go_wp2_with fail
  refine (D2.out.push v).mono ?_
  rintro e wa ⟨rfl, h3, h4, h5, h6⟩
  have ta := T2.out.trans h5
  have hb : w.heap.size ≤ w2.heap.size := T2.out.size
  generalize w2.heap.size = b at *
  go_wp2_with fail
  refine (h3.did h4 h6 (twoL v 0 1 0 0) (v, 0) (.inl rfl) (by decide) (by decide) rfl rfl rfl).mono ?_
  rintro e w3 ⟨rfl, h7, h8⟩
  have T3 := hide (ta.trans_new h8 (fun i hi => by have := HPQ.out; simp at hi; right; rcases hi with rfl | rfl | rfl <;> omega))
  have D3 := hide h7
  clear ta hb h3 h4 h5 h6 h7 h8 T2 D2
  go_wp2_with fail
  refine D3.out.pop.mono ?_
  rintro e wa ⟨rfl, h3, h4, h5, h6⟩
  have ta := T3.out.trans h5
  have hb : w.heap.size ≤ w3.heap.size := T3.out.size
  have hlt := h4.lt
  generalize w3.heap.size = b1 at *
  clear T3 D3 h5
  go_wp2_with fail
  refine h3.steal.mono ?_
  rintro e wb ⟨rfl, h7, h8, h9, h10⟩
  have tb := ta.trans h9
  have h4' := h4.turned h9 (by simp)
  have hb2 : w.heap.size ≤ wa.heap.size := ta.size
  have hne : b1 ≠ wa.heap.size := by omega
  generalize wa.heap.size = b2 at *
  have HN1 := hide h6
  have HN2 := hide h10
  have HNE := hide hne
  have HLo := hide (And.intro hb hb2)
  have DB := hide h7
  have O1 := hide h4'
  have O2 := hide h8
  have TB := hide tb
  clear h3 h4 h4' h6 h7 h8 h9 h10 ta tb hb hb2 hlt hne
  go_wp2_with fail
  go_loopg [11] 31 (fun gg s11 wr => ∃ k : Nat, s11 = .int .i64 (k : Int) ∧ k ≤ 30 ∧ k ≤ len ∧ 30 - k ≤ gg ∧ Aside (Turned [] w wr) ∧ Aside (∃ i, i < 79 ∧ Dn wr d p q ⟨0, 4, 2⟩ (twoSt v i).1 ∧ OpB wr b1 d (twoSt v i).2.1 ∧ OpB wr b2 d (twoSt v i).2.2))
  case atStart => exact ⟨0, rfl, by omega, by omega, by omega, TB.out, ⟨0, by omega, DB.out, O1.out, O2.out⟩⟩
  case round =>
    obtain ⟨k, rfl, hk, hkl, hgg, htu, hst⟩ := hrel
    obtain ⟨i, hi, ⟨s, hdq⟩, ho1, ho2⟩ := hst.out
    by_cases hgo : k < len ∧ k < 30
    · obtain ⟨hk1, hk2⟩ := hgo
      obtain ⟨g, off, rfl, hc0⟩ := HB.out k hk1
      have hc : wr.cell? ⟨g, off + k, none⟩ = some (.bool (bs k)) := by rw [htu.out.cell (p := ⟨g, off + k, none⟩) (block_lt hc0) (by simp)]; exact hc0
      have e1 : (k : Int) < (len : Int) := by omega
      have e2 : (k : Int) < 30 := by omega
      have hok := two_ok v i hi
      have SA := hide (step_any wr d p q b1 ⟨0, 4, 2⟩ _ s 1000 (by omega) _ hok.2.2.2.2.1 HN1.out hdq ho1)
      have SB := hide (step_any wr d p q b2 ⟨0, 4, 2⟩ _ s 1000 (by omega) _ hok.2.2.2.2.2 HN2.out hdq ho2)
      have HOK := hide hok
      have HO1 := hide ho1
      have HO2 := hide ho2
      clear hc0 hok hdq ho1 ho2 hst
      cases hbk : bs k with
      | true =>
        rw [hbk] at hc
        clear hbk
        generalize hdn : (stepOf ⟨0, 4, 2⟩ (twoSt v i).1 (twoSt v i).2.1).2.done = dn at SA
        clear hdn
        go_wp2_with (go_at_call 20; refine SA.out.mono ?_; rintro e w5 ⟨rfl, h1, h2, h3⟩; have H1 := hide h1; have H2 := hide h2; have H3 := hide h3; clear h1 h2 h3)
        go_roundg (30 - (k + 1))
        case measure => omega
        case rel =>
          have h1 := H1.out
          have h2 := H2.out
          rw [HOK.out.1] at h1 h2
          refine ⟨k + 1, by go_num, by omega, by omega, Nat.le_refl _, htu.out.trans_new H3.out (fun c hc => by have := HPQ.out; have := HLo.out; simp at hc; right; rcases hc with rfl | rfl | rfl <;> omega), ⟨twoA i, twoA_lt i hi, ⟨_, h1⟩, h2, ?_⟩⟩
          rw [HOK.out.2.1]
          exact HO2.out.turned H3.out (by simp; exact ⟨HN2.out.2.1, HN2.out.2.2, Ne.symm HNE.out⟩)
      | false =>
        rw [hbk] at hc
        clear hbk
        generalize hdn : (stepOf ⟨0, 4, 2⟩ (twoSt v i).1 (twoSt v i).2.2).2.done = dn at SB
        clear hdn
        go_wp2_with (go_at_call 20; refine SB.out.mono ?_; rintro e w5 ⟨rfl, h1, h2, h3⟩; have H1 := hide h1; have H2 := hide h2; have H3 := hide h3; clear h1 h2 h3)
        go_roundg (30 - (k + 1))
        case measure => omega
        case rel =>
          have h1 := H1.out
          have h2 := H2.out
          rw [HOK.out.2.2.1] at h1 h2
          refine ⟨k + 1, by go_num, by omega, by omega, Nat.le_refl _, htu.out.trans_new H3.out (fun c hc => by have := HPQ.out; have := HLo.out; simp at hc; right; rcases hc with rfl | rfl | rfl <;> omega), ⟨twoB i, twoB_lt i hi, ⟨_, h1⟩, ?_, h2⟩⟩
          rw [HOK.out.2.2.2.1]
          exact HO1.out.turned H3.out (by simp; exact ⟨HN1.out.2.1, HN1.out.2.2, HNE.out⟩)
    · have hok := two_ok v i hi
      have t9 : Turned [] wr (wr.alloc (.cells #[.pointer (some ⟨b1, 0, none⟩), .pointer (some ⟨b2, 0, none⟩)] 37)) := (Turned.refl _ _).alloc _
      have hfin := two_fin v i hi
      have HR := hide (run_two (wr.alloc (.cells #[.pointer (some ⟨b1, 0, none⟩), .pointer (some ⟨b2, 0, none⟩)] 37)) d p q b1 b2 ⟨0, 4, 2⟩ (twoSt v i).1 (twoSt v i).2.1 (twoSt v i).2.2 wr.heap.size 2 14 (by omega) 1000 (by omega) hok.2.2.2.2.1 hok.2.2.2.2.2 hfin.2.1 hfin.2.2.1 (by rw [cell_of_heap (heap_alloc_new _ _)]; rfl) (by rw [cell_of_heap (heap_alloc_new _ _)]; rfl) HNE.out HN1.out HN2.out ((show Dn wr d p q ⟨0, 4, 2⟩ (twoSt v i).1 from ⟨s, hdq⟩).turned t9 (by simp) (by simp) (by simp)) (ho1.turned t9 (by simp)) (ho2.turned t9 (by simp)))
      have TB9 := hide (htu.out.trans t9)
      have HFin := hide hfin
      have e : ((twoSt v i).1, (twoSt v i).2.1, (twoSt v i).2.2) = twoSt v i := rfl
      rw [e] at HR
      generalize goes2 ⟨0, 4, 2⟩ 14 (twoSt v i) = R at *
      clear e t9 hfin hok hdq ho1 ho2 hst
      have ends : Aside (¬ (k < len ∧ k < 30)) := hgo
      clear hgo
      by_cases hkl2 : k < len
      · have e1 : (k : Int) < (len : Int) := by omega
        have e2 : ¬ (k : Int) < 30 := by have := ends.out; omega
        go_wp2_with fail
        refine HR.out.mono ?_
        rintro e wc ⟨⟨nn, rfl⟩, h1, h2, h3, h4⟩
        have TC := hide (TB9.out.trans_new h4 (fun c hc => by have := HPQ.out; have := HLo.out; simp at hc; right; rcases hc with rfl | rfl | rfl | rfl <;> omega))
        have V1 := hide (value_any wc d b1 _ h2)
        have V2 := hide (fun m => value_any (wc.drewN m) d b2 _ (h3.drewN m))
        have HI : Hid (∀ m, Calls Try.prog 28 #[.pointer (some ⟨d, 0, none⟩)] (wc.drewN m) fun e w' => ∃ v cp, e = .returned (.slice v 0 cp) ∧ Turned [] (wc.drewN m) w') := by
          intro m
          obtain ⟨s, h1⟩ := h1
          rw [HFin.out.1] at h1
          refine (items_any (wc.drewN m) d p q ⟨0, 4, 2⟩ (twoL v 1 1 0 0) s (show -4611686018427387904 ≤ (1 : Int) ∧ (1 : Int) ≤ 4611686018427387904 by omega) (show -4611686018427387904 ≤ (1 : Int) ∧ (1 : Int) ≤ 4611686018427387904 by omega) (h1.drewN m)).mono ?_
          rintro e w' ⟨vv, rfl, ⟨len', ho⟩, ht⟩
          have hlen : len' = 0 := by have := ho.1; rw [List.length_map, show (itemsOf ⟨0, 4, 2⟩ (twoL v 1 1 0 0)).length = 0 from rfl] at this; omega
          subst hlen
          obtain ⟨-, ao, cap, rfl, -⟩ := ownsRow_any ho
          exact ⟨ao, cap, rfl, ht⟩
        clear h1 h2 h3 h4 HR
        go_wp2_with fail
        refine V1.out.mono ?_
        rintro e wd ⟨rfl, m1, rfl⟩
        clear V1
        go_wp2_with fail
        refine (V2.out _).mono ?_
        rintro e wd ⟨rfl, m2, rfl⟩
        clear V2
        rcases HFin.out.2.2.2 with ⟨q1, q2 | q2⟩ | ⟨q1, q2⟩
        · rw [q1, q2]
          clear q1 q2
          go_wp2_with (go_at_call 28; first | rw [World.drewN_drewN] | skip; refine (HI.out _).mono ?_; rintro e we ⟨vv, cp, rfl, ht⟩; have HTT := hide ht; clear ht)
          go_ret
          exact ⟨rfl, (TC.out.drewN _).trans HTT.out⟩
        · rw [q1, q2]
          clear q1 q2
          go_wp2_with (go_at_call 28; first | rw [World.drewN_drewN] | skip; refine (HI.out _).mono ?_; rintro e we ⟨vv, cp, rfl, ht⟩; have HTT := hide ht; clear ht)
          go_ret
          exact ⟨rfl, (TC.out.drewN _).trans HTT.out⟩
        · rw [q1, q2]
          clear q1 q2
          go_wp2_with (go_at_call 28; first | rw [World.drewN_drewN] | skip; refine (HI.out _).mono ?_; rintro e we ⟨vv, cp, rfl, ht⟩; have HTT := hide ht; clear ht)
          go_ret
          exact ⟨rfl, (TC.out.drewN _).trans HTT.out⟩
      · have e1 : ¬ (k : Int) < (len : Int) := by omega
        go_wp2_with fail
        refine HR.out.mono ?_
        rintro e wc ⟨⟨nn, rfl⟩, h1, h2, h3, h4⟩
        have TC := hide (TB9.out.trans_new h4 (fun c hc => by have := HPQ.out; have := HLo.out; simp at hc; right; rcases hc with rfl | rfl | rfl | rfl <;> omega))
        have V1 := hide (value_any wc d b1 _ h2)
        have V2 := hide (fun m => value_any (wc.drewN m) d b2 _ (h3.drewN m))
        have HI : Hid (∀ m, Calls Try.prog 28 #[.pointer (some ⟨d, 0, none⟩)] (wc.drewN m) fun e w' => ∃ v cp, e = .returned (.slice v 0 cp) ∧ Turned [] (wc.drewN m) w') := by
          intro m
          obtain ⟨s, h1⟩ := h1
          rw [HFin.out.1] at h1
          refine (items_any (wc.drewN m) d p q ⟨0, 4, 2⟩ (twoL v 1 1 0 0) s (show -4611686018427387904 ≤ (1 : Int) ∧ (1 : Int) ≤ 4611686018427387904 by omega) (show -4611686018427387904 ≤ (1 : Int) ∧ (1 : Int) ≤ 4611686018427387904 by omega) (h1.drewN m)).mono ?_
          rintro e w' ⟨vv, rfl, ⟨len', ho⟩, ht⟩
          have hlen : len' = 0 := by have := ho.1; rw [List.length_map, show (itemsOf ⟨0, 4, 2⟩ (twoL v 1 1 0 0)).length = 0 from rfl] at this; omega
          subst hlen
          obtain ⟨-, ao, cap, rfl, -⟩ := ownsRow_any ho
          exact ⟨ao, cap, rfl, ht⟩
        clear h1 h2 h3 h4 HR
        go_wp2_with fail
        refine V1.out.mono ?_
        rintro e wd ⟨rfl, m1, rfl⟩
        clear V1
        go_wp2_with fail
        refine (V2.out _).mono ?_
        rintro e wd ⟨rfl, m2, rfl⟩
        clear V2
        rcases HFin.out.2.2.2 with ⟨q1, q2 | q2⟩ | ⟨q1, q2⟩
        · rw [q1, q2]
          clear q1 q2
          go_wp2_with (go_at_call 28; first | rw [World.drewN_drewN] | skip; refine (HI.out _).mono ?_; rintro e we ⟨vv, cp, rfl, ht⟩; have HTT := hide ht; clear ht)
          go_ret
          exact ⟨rfl, (TC.out.drewN _).trans HTT.out⟩
        · rw [q1, q2]
          clear q1 q2
          go_wp2_with (go_at_call 28; first | rw [World.drewN_drewN] | skip; refine (HI.out _).mono ?_; rintro e we ⟨vv, cp, rfl, ht⟩; have HTT := hide ht; clear ht)
          go_ret
          exact ⟨rfl, (TC.out.drewN _).trans HTT.out⟩
        · rw [q1, q2]
          clear q1 q2
          go_wp2_with (go_at_call 28; first | rw [World.drewN_drewN] | skip; refine (HI.out _).mono ?_; rintro e we ⟨vv, cp, rfl, ht⟩; have HTT := hide ht; clear ht)
          go_ret
          exact ⟨rfl, (TC.out.drewN _).trans HTT.out⟩

set_option maxRecDepth 100000 in
theorem dequeTwo_lifted (os : Os) (started : os.Started) (H : Type) (enc : TypeId × Value → H) :
    ReturnsInHanded {} Try.checked os 5 .any (Rows.dequeTwoSpec.pre6 enc Try.prog Try.f5 Rows.dequeTwoRow.domain false) (Rows.dequeTwoSpec.post enc Try.prog Try.f5 false true false false) := by
  refine returnsInHanded_of_change (C := Try.checked) own started (by kernel_rfl) Try.func5
    (ChangeSpec.witness6 (enc := enc) (C := Try.checked) false ⟨#[], #[.int .i64 0, .slice none 0 0], []⟩ 8 (by kernel_rfl) (by kernel_rfl) (by kernel_rfl) (by kernel_rfl)) ?_
  intro W base args ds gs before hval0 hW hcnd _
  have hval : ∀ (j : Nat) t v, Try.f5.params[j]? = some t → args[j]? = some v → Value.okWide Try.prog W .any base t v := hval0
  have hW' := hW
  obtain ⟨p, q, hA0, hV, rfl, hfz, hnd⟩ := hW
  have hA : DataW.TrodAll enc Try.prog W 0 (fun _ => true) true Try.f5.params.toList args.toList ds p := hA0
  rw [Try.params5] at hA hval
  obtain ⟨v0, vs0, d0, ds0, p0, q0, hargs, rfl, rfl, h0, r0⟩ := trodAll_cons hA
  obtain ⟨v1, vs1, d1, ds1, p1, q1, rfl, rfl, rfl, h1, r1⟩ := trodAll_cons r0
  obtain ⟨rfl, rfl, rfl⟩ := trodAll_nil r1
  obtain rfl : args = #[v0, v1] := by cases args; simp_all
  obtain ⟨rfl, rfl⟩ := trodVars_none hV
  obtain ⟨a0, rfl, rfl, rfl, w0⟩ := open_int Try.underlying2 (hval 0 2 v0 rfl rfl) h0
  obtain ⟨a1, len1, cap1, rfl⟩ := okWide_slice Try.underlying62 (hval 1 62 v1 rfl rfl)
  have k1 := h1
  have lt1 : ∀ x ∈ p1, x.block < W.heap.size := by obtain ⟨m, hm⟩ := k1; exact DataW.trod_lt m _ _ _ hm
  obtain ⟨z1, w1, l1⟩ : ∃ bs, BRd W a1 len1 bs ∧ len1 ≤ 9223372036854775807 := by
    obtain ⟨fuel, hf⟩ := h1
    rcases Go.Deep.open_bools Try.underlying62 Try.underlying4 (by kernel_rfl) hf with ⟨hcs, _⟩ | ⟨x, l, c, bs, hcs, _, hl, hm, _, hcell⟩
    · simp [Value.cells] at hcs
      obtain ⟨rfl, rfl, rfl⟩ := hcs
      exact ⟨fun _ => false, fun i hi => by omega, by omega⟩
    · simp [Value.cells] at hcs
      obtain ⟨rfl, rfl, rfl⟩ := hcs
      refine ⟨bs, fun i hi => ?_, by unfold maxLen at hm; omega⟩
      have hsp : x.spot = none := by
        have := World.cell?_spot (hcell 0 (by omega))
        simpa [Addr.add] using this
      have h5 := hcell i (by omega)
      obtain ⟨b, off, spot⟩ := x
      simp at hsp
      subst hsp
      rw [show Addr.add ⟨b, off, none⟩ i = ⟨b, off + i, none⟩ by simp [Addr.add]] at h5
      exact ⟨b, off, rfl, h5⟩
  clear hA0 hval0
  refine (dequeTwo_walk a0 a1 len1 cap1 z1 W w0 w1 l1).mono fun e W' ⟨he, ht⟩ => ?_
  subst he
  have bel : Below W.heap.size W W' := ht.below0
  exact ⟨_, rfl, _, _, _, [], _, [], hW', trodAll_mk1 (shut_bool Try.underlying4 _), (trodAll_cons_mk (shut_int Try.underlying2 w0) (trodAll_cons_mk (Below.trod laidOut (by kernel_rfl) (of_decide_eq_true (by kernel_rfl)) k1 bel lt1) trodAll_mk0)), rfl, bel.frame _, fun h => by cases h⟩

theorem dequeTwo_over : Rows.dequeTwoRow.holds Try.pinned (OpenSpec.ofChange Rows.dequeTwoSpec) :=
  OpenClaim.holds_of_wide 5 Try.f5 rfl rfl rfl rfl rfl rfl rfl ⟨rfl, rfl, rfl, rfl, rfl⟩ rfl rfl rfl rfl rfl (by kernel_rfl) Try.func5 (by kernel_rfl)
    (of_decide_eq_true (by kernel_rfl)) (by unfold Func.isWrapper; first | (rw [if_pos (by decide +kernel)]; kernel_rfl) | (rw [if_neg (by decide +kernel)]; exact ⟨rfl, rfl⟩))
    (fun os started H enc _ => dequeTwo_lifted os started H enc)

theorem dequeTwo_holds : Rows.DequeTwoSaid := dequeTwo_over
end Go.Proofs.Ytdhfggdmlhgdoaa
