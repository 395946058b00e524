/-
  DequeThieves: thieves alone have all items, in the order in which they were pushed, as far as the slots go; the rest from the stack: true for every size and every list of items. (Text by DequeLists.gen.py.)
-/
import Derived.Test.YtdhfggdmlhgdoaaDequeKit
namespace Go.Proofs.Ytdhfggdmlhgdoaa
open Go.ChangeShapes Go.WideShapes Go.ChangeAt Go.RowKit
set_option linter.unusedVariables false

set_option maxHeartbeats 4000000 in
set_option maxRecDepth 100000 in
theorem dequeThieves_walk (x0 : Int) (a : Option Addr) (len cap : Nat) (zs : List Int) (w : World) (h0 : (Lit.int .i64 x0).wf = true) (hR : IsRow .i64 w a len cap zs) :
    Calls Try.prog 6 #[.int .i64 x0, .slice a len cap] w fun e w' => e = .returned (.bool true) ∧ Turned [] w w' := by
  have HAw := hide (awake_any w)
  obtain ⟨hrr, hlen, hlc⟩ := rr_of hR
  have HR := hide hrr
  generalize (fun i => zs.getD i 0) = xs at *
  clear hrr hR
  go_enter Try.func6, Try.ntmps6
  go_wp2_with fail
  refine HAw.out.mono ?_
  rintro e w0 ⟨rfl, t0⟩
  have T0 := hide t0
  clear t0 HAw
  have HP := hide (lpick_any x0 16 w0 h0 (by omega))
  clear h0
  go_wp2_with fail
  refine HP.out.mono ?_
  rintro e w00 ⟨⟨r, rfl, hr⟩, rfl⟩
  clear HP
  have HNew := hide (new_any 80 w00)
  go_wp2_with fail
  refine HNew.out.mono ?_
  rintro e w1 ⟨rfl, h1, t1, -⟩
  have hw0 : w.heap.size ≤ w00.heap.size := T0.out.size
  obtain ⟨p, hp⟩ : ∃ p, p = w00.heap.size + 1 := ⟨_, rfl⟩
  obtain ⟨q, hq⟩ : ∃ q, q = w00.heap.size := ⟨_, rfl⟩
  rw [← hp, ← hq] at h1
  rw [← hp]
  have HPQ := hide (show w.heap.size ≤ p ∧ w.heap.size ≤ q by omega)
  have T1 := hide (T0.out.trans t1)
  have M1 := hide h1
  clear h1 t1 hp hq HNew T0 hw0
  obtain ⟨n, hn⟩ : ∃ n : Nat, n = 1 + r := ⟨_, rfl⟩
  have hn1 : (1 : Int) + (r : Int) = (n : Int) := by omega
  have hnn : 1 ≤ n ∧ n ≤ 16 := by omega
  have HD := hide (dnew_ok w1 p q ⟨0, n, 40⟩ (List.replicate 80 0) 0 (show 1 ≤ n ∧ n ≤ 64 by omega) (show (40 : Nat) ≤ 4096 by omega) (show 0 + (4 + n + 40) ≤ (List.replicate 80 (0 : Int)).length by rw [List.length_replicate]; omega) (by simp) M1.out)
  clear hn hr
  go_wp2_with fail
  try rw [hn1]
  clear hn1
  refine HD.out.mono ?_
  rintro e w2 ⟨rfl, h2', t2, -⟩
  have D2 := hide (show Dn w2 w1.heap.size p q ⟨0, n, 40⟩ (List.replicate 80 0) from ⟨0, h2'⟩)
  have L2 := hide (lies_zero n 80 hnn.1 (by omega) xs)
  have T2 := hide (T1.out.trans t2)
  have HDD := hide (show w.heap.size ≤ w1.heap.size from T1.out.size)
  generalize w1.heap.size = d at *
  clear h2' t2 HD T1 M1
  generalize List.replicate 80 (0 : Int) = l0 at *
  go_upto_if 36 with fail
  go_cut [1] (fun s1 wc => ∃ L cp : Nat, s1 = .slice a L cp ∧ L ≤ 30 ∧ L ≤ len ∧ Aside (wc = w2))
  case first =>
    by_cases hL : 30 < len
    · have e1 : (30 : Int) < (len : Int) := by omega
      obtain ⟨b0, off0, rfl, -⟩ := HR.out 0 (by omega)
      go_wp2_with fail
      go_meet
      case rel => exact ⟨30, _, rfl, by omega, by omega, rfl⟩
    · have e1 : ¬ (30 : Int) < (len : Int) := by omega
      go_wp2_with fail
      go_meet
      case rel => exact ⟨len, cap, rfl, by omega, by omega, rfl⟩
  case rest =>
    obtain ⟨L, cp, rfl, hL, hLl, hwc⟩ := hcut
    have hwc' := hwc.out
    subst hwc'
    clear hwc
    go_wp2_with fail
    go_loopg [10] 31 (fun gg s wr => ∃ j : Nat, s = .int .i64 (j : Int) ∧ j ≤ L ∧ L - j ≤ gg ∧ Aside (Turned [] w wr) ∧ Aside (∃ l, Dn wr d p q ⟨0, n, 40⟩ l ∧ Lies ⟨0, n, 40⟩ l xs 0 (min j n) (max j n)))
    case atStart => exact ⟨0, rfl, by omega, by omega, T2.out, ⟨l0, D2.out, by rw [Nat.zero_min, Nat.zero_max]; exact L2.out⟩⟩
    case round =>
      obtain ⟨j, rfl, hj, hgg, htu, hst⟩ := hrel
      obtain ⟨l, hdn, hli⟩ := hst.out
      by_cases hlt : j < L
      · have e1 : (j : Int) < (L : Int) := by omega
        obtain ⟨b0, off0, ha, hc0⟩ := HR.out j (by omega)
        subst ha
        have hc : wr.cell? ⟨b0, off0 + j, none⟩ = some (.int .i64 (xs j)) := by rw [htu.out.cell (p := ⟨b0, off0 + j, none⟩) (block_lt hc0) (by simp)]; exact hc0
        obtain ⟨l', hdid, hli'⟩ : ∃ l', Did ⟨0, n, 40⟩ .pushReadBottom (xs j) l l' (xs j, 0) ∧ Lies ⟨0, n, 40⟩ l' xs 0 (min (j + 1) n) (max (j + 1) n) := by
          by_cases hjn : j < n
          · rw [show min j n = j by omega, show max j n = n by omega] at hli
            obtain ⟨l', h1, h2⟩ := hli.push_slot (show j < n from hjn) (Nat.le_refl _)
            exact ⟨l', h1, by rw [show min (j + 1) n = j + 1 by omega, show max (j + 1) n = n by omega]; exact h2⟩
          · rw [show min j n = n by omega, show max j n = j by omega] at hli
            obtain ⟨l', h1, h2⟩ := hli.push_stack (show n ≤ j by omega) (show j < n + 40 by omega)
            exact ⟨l', h1, by rw [show min (j + 1) n = n by omega, show max (j + 1) n = j + 1 by omega]; exact h2⟩
        have HDid := hide hdid
        have HLi := hide hli
        have HLi' := hide hli'
        have HPush := hide (hdn.push (xs j))
        clear hdid hli hli' hdn hst hc0
        go_wp2_with fail
        refine HPush.out.mono ?_
        rintro e wa ⟨rfl, h3, h4, h5, h6⟩
        have ta := htu.out.trans h5
        have hb : w.heap.size ≤ wr.heap.size := htu.out.size
        generalize wr.heap.size = b at *
        have HDo := hide (h3.alone h4 h6 (.inl rfl) HLi.out (show n ≤ 64 by omega) HDid.out)
        have TA := hide ta
        clear h3 h4 h5 h6 ta HPush
        go_wp2_with fail
        refine HDo.out.mono ?_
        rintro e w5 ⟨rfl, h7, h8⟩
        have T5 := hide (TA.out.trans_new h8 (fun i hi => by have := HPQ.out; simp at hi; right; rcases hi with rfl | rfl | rfl <;> omega))
        have D5 := hide h7
        clear h7 h8 HDo TA hc
        go_wp2_with fail
        go_roundg (L - (j + 1))
        case measure => omega
        case rel => exact ⟨j + 1, by go_num, by omega, Nat.le_refl _, T5.out, ⟨l', D5.out, HLi'.out⟩⟩
      · have e1 : ¬ (j : Int) < (L : Int) := by omega
        have ej : j = L := by omega
        subst ej
        have DA := hide hdn
        have LA := hide hli
        have TA := hide htu.out
        clear hdn hli hst htu
        go_wp2_with fail
        go_loopg [11, 12, 13, 14] 31 (fun gg s _ _ _ wr => ∃ i : Nat, s = .int .i64 (i : Int) ∧ i ≤ j ∧ j - i ≤ gg ∧ Aside (Turned [] w wr) ∧ Aside (∃ l, Dn wr d p q ⟨0, n, 40⟩ l ∧ Lies ⟨0, n, 40⟩ l xs (min i (min j n)) (min j n) (max j n - (i - min j n))))
        case atStart => exact ⟨0, rfl, by omega, by omega, TA.out, ⟨l, DA.out, by rw [Nat.zero_min, Nat.zero_sub, Nat.sub_zero]; exact LA.out⟩⟩
        case round =>
          obtain ⟨i, rfl, hi, hgg2, htu, hst⟩ := hrel
          obtain ⟨l3, hdn, hli⟩ := hst.out
          have htu' := htu.out
          clear htu DA LA TA
          by_cases hlt2 : i < j
          · have e2 : (i : Int) < (j : Int) := by omega
            obtain ⟨b0, off0, ha, hc0⟩ := HR.out i (by omega)
            subst ha
            have hc : wr.cell? ⟨b0, off0 + i, none⟩ = some (.int .i64 (xs i)) := by rw [htu'.cell (p := ⟨b0, off0 + i, none⟩) (block_lt hc0) (by simp)]; exact hc0
            clear hc0
            by_cases hin : i < n
            · have e3 : ¬ ((n : Int) ≤ (i : Int)) := by omega
              obtain ⟨l', hdid, hli'⟩ : ∃ l', Did ⟨0, n, 40⟩ .stealReadTop 0 l3 l' (xs i, 0) ∧ Lies ⟨0, n, 40⟩ l' xs (min (i + 1) (min j n)) (min j n) (max j n - (i + 1 - min j n)) := by
                rw [show min i (min j n) = i by omega, show max j n - (i - min j n) = max j n by omega] at hli
                obtain ⟨l', h1, h2⟩ := hli.steal_slot (by omega)
                exact ⟨l', h1, by rw [show min (i + 1) (min j n) = i + 1 by omega, show max j n - (i + 1 - min j n) = max j n by omega]; exact h2⟩
              have HDid := hide hdid
              have HLi := hide hli
              have HLi' := hide hli'
              have HDn := hide hdn
              have HTu := hide htu'
              clear hdid hli hli' hdn hst htu'
              have HOp := hide HDn.out.steal
              go_wp2_with fail
              refine HOp.out.mono ?_
              rintro e wa ⟨rfl, h3, h4, h5, h6⟩
              have ta := HTu.out.trans h5
              have hb : w.heap.size ≤ wr.heap.size := HTu.out.size
              generalize wr.heap.size = b at *
              have HDo := hide (h3.alone h4 h6 (.inr (.inr rfl)) HLi.out (show n ≤ 64 by omega) HDid.out)
              have TTA := hide ta
              clear h3 h4 h5 h6 ta HOp
              go_wp2_with fail
              refine HDo.out.mono ?_
              rintro e w6 ⟨rfl, h7, h8⟩
              have T6 := hide (TTA.out.trans_new h8 (fun i hi => by have := HPQ.out; simp at hi; right; rcases hi with rfl | rfl | rfl <;> omega))
              have D6 := hide h7
              clear h7 h8 HDo TTA hb
              go_wp2_with fail
              go_roundg (j - (i + 1))
              case measure => omega
              case rel => exact ⟨i + 1, by go_num, by omega, Nat.le_refl _, T6.out, ⟨l', D6.out, HLi'.out⟩⟩
            · have e3 : (n : Int) ≤ (i : Int) := by omega
              obtain ⟨c2, hc2⟩ : ∃ c2 : Nat, c2 = j - 1 - (i - n) := ⟨_, rfl⟩
              have ec2 : ((j : Int) - 1) - ((i : Int) - (n : Int)) = (c2 : Int) := by omega
              obtain ⟨b1, off1, ha1, hc1⟩ := HR.out c2 (by omega)
              cases ha1
              have hcc : wr.cell? ⟨b0, off0 + c2, none⟩ = some (.int .i64 (xs c2)) := by rw [htu'.cell (p := ⟨b0, off0 + c2, none⟩) (block_lt hc1) (by simp)]; exact hc1
              have hc2j : c2 < j := by omega
              obtain ⟨l', hdid, hli'⟩ : ∃ l', Did ⟨0, n, 40⟩ .stealReadTop 0 l3 l' (xs c2, 0) ∧ Lies ⟨0, n, 40⟩ l' xs (min (i + 1) (min j n)) (min j n) (max j n - (i + 1 - min j n)) := by
                rw [show min i (min j n) = n by omega, show min j n = n by omega, show max j n - (i - n) = c2 + 1 by omega] at hli
                obtain ⟨l', h1, h2⟩ := (hli.take .stealReadTop (.inr rfl)).1 (show n < c2 + 1 by omega)
                exact ⟨l', h1, by rw [show min (i + 1) (min j n) = n by omega, show min j n = n by omega, show max j n - (i + 1 - n) = c2 + 1 - 1 by omega]; exact h2⟩
              have HDid := hide hdid
              have HLi := hide hli
              have HLi' := hide hli'
              have HDn := hide hdn
              have HTu := hide htu'
              clear hdid hli hli' hdn hst htu' hc1 hc2
              have HOp := hide HDn.out.steal
              go_wp2_with fail
              refine HOp.out.mono ?_
              rintro e wa ⟨rfl, h3, h4, h5, h6⟩
              have ta := HTu.out.trans h5
              have hb : w.heap.size ≤ wr.heap.size := HTu.out.size
              generalize wr.heap.size = b at *
              have HDo := hide (h3.alone h4 h6 (.inr (.inr rfl)) HLi.out (show n ≤ 64 by omega) HDid.out)
              have TTA := hide ta
              clear h3 h4 h5 h6 ta HOp
              go_wp2_with fail
              refine HDo.out.mono ?_
              rintro e w6 ⟨rfl, h7, h8⟩
              have T6 := hide (TTA.out.trans_new h8 (fun i hi => by have := HPQ.out; simp at hi; right; rcases hi with rfl | rfl | rfl <;> omega))
              have D6 := hide h7
              clear h7 h8 HDo TTA hb
              go_wp2_with fail
              go_roundg (j - (i + 1))
              case measure => omega
              case rel => exact ⟨i + 1, by go_num, by omega, Nat.le_refl _, T6.out, ⟨l', D6.out, HLi'.out⟩⟩
          · have e2 : ¬ (i : Int) < (j : Int) := by omega
            have ei : i = j := by omega
            subst ei
            rw [show min i (min i n) = min i n by omega, show max i n - (i - min i n) = n by omega] at hli
            obtain ⟨l', hdid, hli'⟩ := (hli.take .stealReadTop (.inr rfl)).2 (Nat.le_refl _)
            have HDid := hide hdid
            have HLi := hide hli
            have HLi' := hide hli'
            have HDn := hide hdn
            have HTu := hide htu'
            clear hdid hli hli' hdn hst htu'
            have HOp := hide HDn.out.steal
            go_wp2_with fail
            refine HOp.out.mono ?_
            rintro e wa ⟨rfl, h3, h4, h5, h6⟩
            have ta := HTu.out.trans h5
            have hb : w.heap.size ≤ wr.heap.size := HTu.out.size
            generalize wr.heap.size = b at *
            have HDo := hide (h3.alone h4 h6 (.inr (.inr rfl)) HLi.out (show n ≤ 64 by omega) HDid.out)
            have TTA := hide ta
            clear h3 h4 h5 h6 ta HOp
            go_wp2_with fail
            refine HDo.out.mono ?_
            rintro e w6 ⟨rfl, h7, h8⟩
            have T6 := hide (TTA.out.trans_new h8 (fun i hi => by have := HPQ.out; simp at hi; right; rcases hi with rfl | rfl | rfl <;> omega))
            have D6 := hide h7
            clear h7 h8 HDo TTA hb
            obtain ⟨s6, h6⟩ := D6.out
            have H0 := hide (top_any w6 d p q ⟨0, n, 40⟩ l' s6 h6)
            rw [HLi'.out.sq.t] at H0
            go_wp2_with fail
            refine H0.out.mono ?_
            rintro e w7 ⟨rfl, h7, t7⟩
            have H1 := hide (bottom_any w7 d p q ⟨0, n, 40⟩ l' _ h7)
            rw [HLi'.out.sq.b] at H1
            have T7 := hide (T6.out.trans_new t7 (fun i hi => by have := HPQ.out; simp at hi; right; rcases hi with rfl | rfl <;> omega))
            clear H0 h6 h7 t7
            go_wp2_with fail
            refine H1.out.mono ?_
            rintro e w8 ⟨rfl, h8, t8⟩
            have H2 := hide (stack_any w8 d p q ⟨0, n, 40⟩ l' _ h8)
            rw [HLi'.out.sq.n, show (n - (Cfg.cap ⟨0, n, 40⟩) : Nat) = 0 from Nat.sub_self n] at H2
            have T8 := hide (T7.out.trans_new t8 (fun i hi => by have := HPQ.out; simp at hi; right; rcases hi with rfl | rfl <;> omega))
            clear H1 h8 t8
            go_wp2_with fail
            refine H2.out.mono ?_
            rintro e w9 ⟨rfl, h9, t9⟩
            have T9 := hide (T8.out.trans_new t9 (fun i hi => by have := HPQ.out; simp at hi; right; rcases hi with rfl | rfl <;> omega))
            clear H2 h9 t9
            go_wp2_with fail
            go_ret
            exact ⟨rfl, T9.out⟩

set_option maxRecDepth 100000 in
theorem dequeThieves_lifted (os : Os) (started : os.Started) (H : Type) (enc : TypeId × Value → H) :
    ReturnsInHanded {} Try.checked os 6 .any (Rows.dequeThievesSpec.pre6 enc Try.prog Try.f6 Rows.dequeThievesRow.domain false) (Rows.dequeThievesSpec.post enc Try.prog Try.f6 false true false false) := by
  refine returnsInHanded_of_change (C := Try.checked) own started (by kernel_rfl) Try.func6
    (ChangeSpec.witness6 (enc := enc) (C := Try.checked) false ⟨#[], #[.int .i64 0, .slice none 0 0], []⟩ 8 (by kernel_rfl) (by kernel_rfl) (by kernel_rfl) (by kernel_rfl)) ?_
  intro W base args ds gs before hval0 hW hcnd _
  have hval : ∀ (j : Nat) t v, Try.f6.params[j]? = some t → args[j]? = some v → Value.okWide Try.prog W .any base t v := hval0
  have hW' := hW
  obtain ⟨p, q, hA0, hV, rfl, hfz, hnd⟩ := hW
  have hA : DataW.TrodAll enc Try.prog W 0 (fun _ => true) true Try.f6.params.toList args.toList ds p := hA0
  rw [Try.params6] at hA hval
  obtain ⟨v0, vs0, d0, ds0, p0, q0, hargs, rfl, rfl, h0, r0⟩ := trodAll_cons hA
  obtain ⟨v1, vs1, d1, ds1, p1, q1, rfl, rfl, rfl, h1, r1⟩ := trodAll_cons r0
  obtain ⟨rfl, rfl, rfl⟩ := trodAll_nil r1
  obtain rfl : args = #[v0, v1] := by cases args; simp_all
  obtain ⟨rfl, rfl⟩ := trodVars_none hV
  obtain ⟨a0, rfl, rfl, rfl, w0⟩ := open_int Try.underlying3 (hval 0 3 v0 rfl rfl) h0
  obtain ⟨a1, len1, cap1, rfl⟩ := okWide_slice Try.underlying51 (hval 1 51 v1 rfl rfl)
  have k1 := h1
  have lt1 : ∀ x ∈ p1, x.block < W.heap.size := by obtain ⟨m, hm⟩ := k1; exact DataW.trod_lt m _ _ _ hm
  obtain ⟨z1, w1⟩ : ∃ zs, IsRow .i64 W a1 len1 cap1 zs := by
    obtain ⟨fuel, hf⟩ := h1
    rcases open_ints Try.underlying51 Try.underlying2 (by kernel_rfl) hf with ⟨hcs, _⟩ | ⟨x, l, c, zs, hcs, _, hl, hm, hz, _, hcell, hwz⟩
    · simp [Value.cells] at hcs
      obtain ⟨rfl, rfl, rfl⟩ := hcs
      exact ⟨[], .inl ⟨rfl, rfl, rfl, rfl⟩⟩
    · simp [Value.cells] at hcs
      obtain ⟨rfl, rfl, rfl⟩ := hcs
      exact ⟨zs, .inr ⟨_, rfl, hl, hm, by simpa using hz, hcell, hwz⟩⟩
  clear hA0 hval0
  refine (dequeThieves_walk a0 a1 len1 cap1 z1 W w0 w1).mono fun e W' ⟨he, ht⟩ => ?_
  subst he
  have bel : Below W.heap.size W W' := ht.below0
  exact ⟨_, rfl, _, _, _, [], _, [], hW', trodAll_mk1 (shut_bool Try.underlying4 _), (trodAll_cons_mk (shut_int Try.underlying3 w0) (trodAll_cons_mk (Below.trod laidOut (by kernel_rfl) (of_decide_eq_true (by kernel_rfl)) k1 bel lt1) trodAll_mk0)), rfl, bel.frame _, fun h => by cases h⟩

theorem dequeThieves_over : Rows.dequeThievesRow.holds Try.pinned (OpenSpec.ofChange Rows.dequeThievesSpec) :=
  OpenClaim.holds_of_wide 6 Try.f6 rfl rfl rfl rfl rfl rfl rfl ⟨rfl, rfl, rfl, rfl, rfl⟩ rfl rfl rfl rfl rfl (by kernel_rfl) Try.func6 (by kernel_rfl)
    (of_decide_eq_true (by kernel_rfl)) (by unfold Func.isWrapper; first | (rw [if_pos (by decide +kernel)]; kernel_rfl) | (rw [if_neg (by decide +kernel)]; exact ⟨rfl, rfl⟩))
    (fun os started H enc _ => dequeThieves_lifted os started H enc)

theorem dequeThieves_holds : Rows.DequeThievesSaid := dequeThieves_over
end Go.Proofs.Ytdhfggdmlhgdoaa
