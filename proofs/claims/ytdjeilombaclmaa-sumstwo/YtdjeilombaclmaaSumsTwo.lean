/-
  (Text by SumsTwo.gen.py.) SumsTwo: however many workers and blocks two sums of the same values have, by turns forth or back, both end and tell the same. Any values (of which the first 100 count), any numbers that pick workers and blocks.
-/
import Derived.Test.YtdjeilombaclmaaSumsBox
namespace Go.Proofs.Ytdjeilombaclmaa
open Go.ChangeShapes Go.WideShapes Go.ChangeAt Go.RowKit
set_option linter.unusedVariables false

/-- What is known of sums' parameters. -/
structure Four (P : SP) (vals : List Int) (m n : Nat) : Prop where
  n : P.n = n
  l : P.len = m
  v : P.vals = vals
  bound : (SS.fresh P).left P * P.n + P.n ≤ 8 * (5 * m + 25)
theorem by4 (vals : List Int) (m : Nat) (hv : vals.length = m) (hm : m ≤ 120) (n : Nat) (hn : 0 < n ∧ n ≤ 8) (r : Nat) : Four ⟨vals, szOf m (1 + (r : Int)), n⟩ vals m n := by
  have hs : 0 < (⟨vals, szOf m (1 + (r : Int)), n⟩ : SP).size := szOf_pos m (by omega)
  have h1 := turn_bound hs hn (by show vals.length ≤ 120; omega) (left_fresh hs hn.1)
  exact ⟨rfl, hv, rfl, by rw [show (⟨vals, szOf m (1 + (r : Int)), n⟩ : SP).len = m from hv] at h1; exact h1⟩

set_option maxRecDepth 100000 in
set_option maxHeartbeats 16000000 in
theorem sumsTwo_walk (a : Option Addr) (len cap : Nat) (zs : List Int) (a0 a1 b0 b1 : Int) (w : World) (h : IsRow .i64 w a len cap zs) (ha : In64 a0 ∧ In64 a1) (hb : In64 b0 ∧ In64 b1) :
    Calls Try.prog 8 #[.slice a len cap, .agg #[.int .i64 a0, .int .i64 a1], .agg #[.int .i64 b0, .int .i64 b1]] w fun e w' => e = .returned (.bool true) ∧ Turned [] w w' := by
  obtain ⟨hr, hlen, hlc, hcc, hcn0⟩ := isRow_rd h
  have hcn := hide hcn0
  clear h hcn0
  have hBA : Bx ((w.alloc (.cells #[.int .i64 a0, .int .i64 a1] 35)).alloc (.cells #[.int .i64 b0, .int .i64 b1] 35)) w.heap.size a0 a1 := by
    unfold Bx
    rw [Below.heap_alloc _ _ _ (by simp), heap_alloc_new]
  have hBB : Bx ((w.alloc (.cells #[.int .i64 a0, .int .i64 a1] 35)).alloc (.cells #[.int .i64 b0, .int .i64 b1] 35)) (w.heap.size + 1) b0 b1 := by
    have := heap_alloc_new (w.alloc (.cells #[.int .i64 a0, .int .i64 a1] 35)) (.cells #[.int .i64 b0, .int .i64 b1] 35)
    unfold Bx
    simpa using this
  have TB := hide (((Turned.refl [] w).alloc (.cells #[.int .i64 a0, .int .i64 a1] 35)).alloc (.cells #[.int .i64 b0, .int .i64 b1] 35))
  have BA := hide hBA
  have BB := hide hBB
  have HA := hide (awake12 ((w.alloc (.cells #[.int .i64 a0, .int .i64 a1] 35)).alloc (.cells #[.int .i64 b0, .int .i64 b1] 35)))
  clear hBA hBB
  unfold In64 at ha hb
  by_cases hl : 100 < len
  · have hsl := cut_first a len cap 100 hl hlc hcc
    have hlz : (100 : Int) < (len : Int) := by omega
    have V := hide (hr.first (m := 100) (by omega))
    generalize (zs.take len).take 100 = vals at *
    clear hr
    rw [show ((100 : Nat) : Int) = 100 from rfl] at hsl
    go_enter Try.func8, Try.ntmps8
    go_wp2_with fail
    generalize (w.alloc (.cells #[.int .i64 a0, .int .i64 a1] 35)).alloc (.cells #[.int .i64 b0, .int .i64 b1] 35) = wB at *
    generalize w.heap.size + 1 = O2 at *
    generalize w.heap.size = O1 at *
    refine HA.out.mono ?_
    rintro e w1 ⟨rfl, t1⟩
    clear HA
    have HPK := hide (pick12 a0 8 w1 ha.1 (by omega))
    rw [show ((8 : Nat) : Int) = 8 from rfl] at HPK
    have B1 := hide (BA.out.next t1)
    have B2 := hide (BB.out.next t1)
    have TW := hide (TB.out.trans t1)
    have c10 := B1.out.c0
    have c20 := B2.out.c0
    clear t1 BA BB TB
    go_wp2_with fail
    refine HPK.out.mono ?_
    rintro e w2 ⟨⟨r1, rfl, hr1⟩, rfl⟩
    clear HPK
    have HPK := hide (pick12 b0 8 w2 hb.1 (by omega))
    rw [show ((8 : Nat) : Int) = 8 from rfl] at HPK
    go_wp2_with fail
    obtain ⟨n, hn⟩ : ∃ n : Nat, (1 + (r1 : Int)) = (n : Int) := ⟨1 + r1, by omega⟩
    rw [hn]
    have hn1 : 0 < n ∧ n ≤ 8 := by omega
    clear hn hr1
    refine HPK.out.mono ?_
    rintro e w3 ⟨⟨r2, rfl, hr2⟩, rfl⟩
    clear HPK c10 c20
    go_wp2_with fail
    obtain ⟨m, hm⟩ : ∃ m : Nat, (1 + (r2 : Int)) = (m : Int) := ⟨1 + r2, by omega⟩
    rw [hm]
    have hm1 : 0 < m ∧ m ≤ 8 := by omega
    clear hm hr2
    have HC := hide (fun w' => cnew12 w')
    have HPK := hide (fun w' => pick12 a1 20 w' ha.2 (by omega))
    rw [show ((20 : Nat) : Int) = 20 from rfl] at HPK
    have HPK2 := hide (fun w' => pick12 b1 20 w' hb.2 (by omega))
    rw [show ((20 : Nat) : Int) = 20 from rfl] at HPK2
    have HB1 := hide (fun w' (t : Turned [] w3.drew w') => (B1.out.next ((Turned.refl [] w3).drew.trans t)).c1)
    have c1 := B1.out.c1
    have HN1 := hide (snew12 w w3.drew TW.out.drew a 100 cap vals V.out (by omega) hcn.out n hn1)
    go_region_held3 (fun w' => w'.cell? ⟨O1, 1, none⟩ = some (.int .i64 a1)) (go_keep)
      (first
        | (go_at_call 14; refine (HC.out _).mono ?_; rintro e w5 ⟨cp, cq, rfl, s5⟩; have S5 := hide s5; have i0 := HB1.out w5 S5.out.turn; clear s5)
        | (go_at_call 15; refine (HPK.out _).mono ?_; rintro e w6 ⟨⟨r3, rfl, hr3⟩, rfl⟩)
        | (go_at_call 13; rw [wrap_one r3 hr3]; refine (HN1.out _ cp cq S5.out r3 hr3).mono ?_; rintro e w7 ⟨I, rfl, h7⟩; have H7 := hide h7; have i0 := HB1.out w7 H7.out.turn; clear h7))
    clear c1 i0 HPK HN1 HB1 S5
    have T7 := hide H7.out.sl.turn
    have B27 := hide ((B2.out.next (Turned.refl [] w3).drew).next H7.out.turn)
    have c2 := B27.out.c1
    have HB2 := hide (fun w' (t : Turned [] w7.drew w') => (B27.out.next ((Turned.refl [] w7).drew.trans t)).c1)
    have HN2 := hide (snew12 w w7.drew T7.out.drew a 100 cap vals V.out (by omega) hcn.out m hm1)
    clear TW B1 B2
    go_wp2_with fail
    go_region_held3 (fun w' => w'.cell? ⟨O2, 1, none⟩ = some (.int .i64 b1)) (go_keep)
      (first
        | (go_at_call 14; refine (HC.out _).mono ?_; rintro e w8 ⟨dp, dq, rfl, s8⟩; have S8 := hide s8; have i0 := HB2.out w8 S8.out.turn; clear s8)
        | (go_at_call 15; refine (HPK2.out _).mono ?_; rintro e w9 ⟨⟨r4, rfl, hr4⟩, rfl⟩)
        | (go_at_call 13; rw [wrap_one r4 hr4]; refine (HN2.out _ dp dq S8.out r4 hr4).mono ?_; rintro e w10 ⟨J, rfl, h10⟩; have H10 := hide h10; have i0 := HB2.out w10 H10.out.turn; clear h10))
    clear c2 i0 HPK2 HN2 HB2 S8 B27 HC
    have SA := hide (H7.out.sl.next ((Turned.refl [] w7).drew.trans H10.out.turn))
    have SB := hide H10.out.sl
    have HD1 := hide (show ∀ i, i ∈ I.hot → i ∉ J.all from fun i h1 h2 => by
      have x1 := H7.out.sl.lt i (hot_all h1)
      have x2 := H10.out.all i h2
      have x3 : w7.drew.heap.size = w7.heap.size := rfl
      omega)
    have HD2 := hide (show ∀ i, i ∈ J.hot → i ∉ I.all from fun i h1 h2 => by
      have x1 := H7.out.sl.lt i h2
      have x2 := H10.out.all i (hot_all h1)
      have x3 : w7.drew.heap.size = w7.heap.size := rfl
      omega)
    have HVS := hide V.out.size
    have HP4 := hide (by4 vals 100 HVS.out (by omega) n hn1 r3)
    have HQ4 := hide (by4 vals 100 HVS.out (by omega) m hm1 r4)
    generalize (⟨vals, szOf 100 (1 + (r3 : Int)), n⟩ : SP) = P at *
    generalize (⟨vals, szOf 100 (1 + (r4 : Int)), m⟩ : SP) = Q at *
    clear H7 H10 T7 hr3 hr4
    have HTS := hide (Tn.start (P := P) (S := SS.fresh P) (f := fun j => j % n) (j := 0) (K := 4200) SA.out.inv (fun k hk => by
      rw [HP4.out.n] at hk ⊢
      exact turn_f n hn1.1 0 k hk) (by have := HP4.out.bound; omega))
    have HTT := hide (Tn.start (P := Q) (S := SS.fresh Q) (f := fun j => (10000 - j) % m) (j := 0) (K := 4200) SB.out.inv (fun k hk => by
      rw [HQ4.out.n] at hk ⊢
      exact turn_g m hm1.1 0 k hk (by omega)) (by have := HQ4.out.bound; omega))
    generalize SS.fresh P = S0 at *
    generalize SS.fresh Q = R0 at *
    go_wp2_with fail
    go_loopw [14] (fun i wr => ∃ (j : Nat) (S : SS), i = .int .i64 j ∧ j ≤ 4201 ∧ Hid (Sl w wr I P S j) ∧ Hid (Tn P S (fun j => j % n) j 4200) ∧ Hid (Sl w wr J Q R0 0)) (fun i _ => 10000 - (intOf i).toNat)
    case atStart => exact ⟨0, S0, rfl, by omega, SA, HTS, SB⟩
    case round =>
      obtain ⟨j, S, rfl, hj, H5, TN, H6⟩ := hrel
      clear SA SB HTS
      have hjz : (j : Int) < 10000 := by omega
      have HD := hide (sl_done H5.out)
      by_cases h3 : S.ph = 3
      · rw [decide_eq_true h3] at HD
        go_wp2_with fail
        refine HD.out.mono ?_
        rintro e w11 ⟨rfl, h11, t11⟩
        have SA := hide h11
        have SB := hide (H6.out.next t11)
        clear h11 t11 HD H5 H6 TN
        go_wp2_with fail
        go_loopw [15] (fun i wr => ∃ (t : Nat) (R : SS), i = .int .i64 (t : Int) ∧ 5799 ≤ t ∧ t ≤ 10000 ∧ Hid (∃ k, k = 10000 - t ∧ Sl w wr J Q R k ∧ Tn Q R (fun j => (10000 - j) % m) k 4200) ∧ Hid (Sl w wr I P S j)) (fun i _ => (intOf i).toNat)
        case atStart => exact ⟨10000, R0, by go_num, by omega, by omega, ⟨0, rfl, SB.out, HTT.out⟩, SA⟩
        case round =>
          obtain ⟨t, R, rfl, ht1, ht2, HK, H8⟩ := hrel
          clear SA SB HTT
          obtain ⟨k, hk, h7, tm⟩ := HK.out
          have H7 := hide h7
          have TM := hide tm
          have HKT := hide hk
          clear h7 tm hk HK
          have htz : 0 < (t : Int) := by omega
          have HD := hide (sl_done H7.out)
          by_cases g3 : R.ph = 3
          · rw [decide_eq_true g3] at HD
            go_wp2_with fail
            refine HD.out.mono ?_
            rintro e w12 ⟨rfl, h12, t12⟩
            have HR := hide (sl_result (H8.out.next t12) h3)
            rw [HP4.out.v, HP4.out.l] at HR
            have SB := hide h12
            clear h12 t12 HD H7 H8 TM
            go_wp2_with fail
            refine HR.out.mono ?_
            rintro e w13 ⟨ao, c, rfl, r13, -, h13, t13⟩
            have HR2 := hide (sl_result (SB.out.next t13) g3)
            rw [HQ4.out.v, HQ4.out.l] at HR2
            have R13 := hide r13
            clear r13 h13 t13 HR SB
            go_wp2_with fail
            refine HR2.out.mono ?_
            rintro e w14 ⟨bo, d, rfl, r14, -, h14, t14⟩
            have HS := hide (same12 w14 ao bo c d (preL vals) 100 (by omega) (R13.out.turned0 t14) r14)
            have T14 := hide h14.turn
            clear r14 h14 t14 HR2 R13
            generalize wrap64 (pre vals 100) = tot at *
            go_wp2_with fail
            refine HS.out.mono ?_
            rintro e w15 ⟨rfl, t15⟩
            have T15 := hide (T14.out.trans t15)
            clear t15 HS T14
            go_wp2_with fail
            go_ret
            exact ⟨by first | rfl | (congr 2; simp), T15.out⟩
          · rw [decide_eq_false g3] at HD
            have hk4 := TM.out.le g3
            go_wp2_with fail
            refine HD.out.mono ?_
            rintro e w12 ⟨rfl, h12, t12⟩
            have hmz : ¬ (m : Int) = 0 := by omega
            have hmm : ¬ (m : Int) = -1 := by omega
            have HST := hide (sl_step h12 (by omega) ((t % m : Nat) : Int) (by have := Nat.mod_lt t hm1.1; omega))
            have TM2 := hide (Tn.step (f := fun j => (10000 - j) % m) h12.inv g3 (by rw [HQ4.out.n]; exact Nat.mod_lt _ hm1.1) (fun i hi => by
              rw [HQ4.out.n] at hi ⊢
              exact turn_g m hm1.1 (k + 1) i hi (by omega)) TM.out)
            rw [show 10000 - k = t by have := HKT.out; omega] at TM2
            have HM := hide (show ((t : Int) % (m : Int)) = ((t % m : Nat) : Int) from rfl)
            have H8' := hide (H8.out.next t12)
            clear h12 t12 HD H7 H8 TM
            generalize ((t % m : Nat) : Int) = x at *
            go_wp2_with fail
            rw [HM.out]
            refine HST.out.mono ?_
            rintro e w13 ⟨rfl, h13, t13⟩
            have H13 := hide h13
            have H14 := hide (H8'.out.far t13 HD2.out (fun i hi => h13.hot i (hot_all hi)))
            clear h13 t13 HST H8' HM
            go_wp2_with fail
            go_roundw
            case rel => exact ⟨t - 1, _, by go_num, by have := HKT.out; omega, by omega, ⟨k + 1, by have := HKT.out; omega, H13.out, TM2.out⟩, H14⟩
            case measure => simp [intOf]; omega
      · rw [decide_eq_false h3] at HD
        have hj4 := TN.out.le h3
        go_wp2_with fail
        refine HD.out.mono ?_
        rintro e w11 ⟨rfl, h11, t11⟩
        have hnz : ¬ (n : Int) = 0 := by omega
        have hnm : ¬ (n : Int) = -1 := by omega
        have HST := hide (sl_step h11 (by omega) ((j % n : Nat) : Int) (by have := Nat.mod_lt j hn1.1; omega))
        have TN2 := hide (Tn.step (f := fun j => j % n) h11.inv h3 (by rw [HP4.out.n]; exact Nat.mod_lt _ hn1.1) (fun i hi => by
          rw [HP4.out.n] at hi ⊢
          exact turn_f n hn1.1 (j + 1) i hi) TN.out)
        have HM := hide (show ((j : Int) % (n : Int)) = ((j % n : Nat) : Int) from rfl)
        have H6' := hide (H6.out.next t11)
        clear h11 t11 HD H5 H6 TN
        generalize ((j % n : Nat) : Int) = x at *
        go_wp2_with fail
        rw [HM.out]
        refine HST.out.mono ?_
        rintro e w12 ⟨rfl, h12, t12⟩
        have H12 := hide h12
        have H13 := hide (H6'.out.far t12 HD1.out (fun i hi => h12.hot i (hot_all hi)))
        clear h12 t12 HST H6' HM
        go_wp2_with fail
        go_roundw
        case rel => exact ⟨j + 1, _, by go_num, by omega, H12, TN2, H13⟩
        case measure => simp [intOf]; omega
  · have hlz : ¬ (100 : Int) < (len : Int) := by omega
    have V := hide hr
    generalize zs.take len = vals at *
    clear hr
    go_enter Try.func8, Try.ntmps8
    go_wp2_with fail
    generalize (w.alloc (.cells #[.int .i64 a0, .int .i64 a1] 35)).alloc (.cells #[.int .i64 b0, .int .i64 b1] 35) = wB at *
    generalize w.heap.size + 1 = O2 at *
    generalize w.heap.size = O1 at *
    refine HA.out.mono ?_
    rintro e w1 ⟨rfl, t1⟩
    clear HA
    have HPK := hide (pick12 a0 8 w1 ha.1 (by omega))
    rw [show ((8 : Nat) : Int) = 8 from rfl] at HPK
    have B1 := hide (BA.out.next t1)
    have B2 := hide (BB.out.next t1)
    have TW := hide (TB.out.trans t1)
    have c10 := B1.out.c0
    have c20 := B2.out.c0
    clear t1 BA BB TB
    go_wp2_with fail
    refine HPK.out.mono ?_
    rintro e w2 ⟨⟨r1, rfl, hr1⟩, rfl⟩
    clear HPK
    have HPK := hide (pick12 b0 8 w2 hb.1 (by omega))
    rw [show ((8 : Nat) : Int) = 8 from rfl] at HPK
    go_wp2_with fail
    obtain ⟨n, hn⟩ : ∃ n : Nat, (1 + (r1 : Int)) = (n : Int) := ⟨1 + r1, by omega⟩
    rw [hn]
    have hn1 : 0 < n ∧ n ≤ 8 := by omega
    clear hn hr1
    refine HPK.out.mono ?_
    rintro e w3 ⟨⟨r2, rfl, hr2⟩, rfl⟩
    clear HPK c10 c20
    go_wp2_with fail
    obtain ⟨m, hm⟩ : ∃ m : Nat, (1 + (r2 : Int)) = (m : Int) := ⟨1 + r2, by omega⟩
    rw [hm]
    have hm1 : 0 < m ∧ m ≤ 8 := by omega
    clear hm hr2
    have HC := hide (fun w' => cnew12 w')
    have HPK := hide (fun w' => pick12 a1 20 w' ha.2 (by omega))
    rw [show ((20 : Nat) : Int) = 20 from rfl] at HPK
    have HPK2 := hide (fun w' => pick12 b1 20 w' hb.2 (by omega))
    rw [show ((20 : Nat) : Int) = 20 from rfl] at HPK2
    have HB1 := hide (fun w' (t : Turned [] w3.drew w') => (B1.out.next ((Turned.refl [] w3).drew.trans t)).c1)
    have c1 := B1.out.c1
    have HN1 := hide (snew12 w w3.drew TW.out.drew a len cap vals V.out (by omega) hcn.out n hn1)
    go_region_held3 (fun w' => w'.cell? ⟨O1, 1, none⟩ = some (.int .i64 a1)) (go_keep)
      (first
        | (go_at_call 14; refine (HC.out _).mono ?_; rintro e w5 ⟨cp, cq, rfl, s5⟩; have S5 := hide s5; have i0 := HB1.out w5 S5.out.turn; clear s5)
        | (go_at_call 15; refine (HPK.out _).mono ?_; rintro e w6 ⟨⟨r3, rfl, hr3⟩, rfl⟩)
        | (go_at_call 13; rw [wrap_one r3 hr3]; refine (HN1.out _ cp cq S5.out r3 hr3).mono ?_; rintro e w7 ⟨I, rfl, h7⟩; have H7 := hide h7; have i0 := HB1.out w7 H7.out.turn; clear h7))
    clear c1 i0 HPK HN1 HB1 S5
    have T7 := hide H7.out.sl.turn
    have B27 := hide ((B2.out.next (Turned.refl [] w3).drew).next H7.out.turn)
    have c2 := B27.out.c1
    have HB2 := hide (fun w' (t : Turned [] w7.drew w') => (B27.out.next ((Turned.refl [] w7).drew.trans t)).c1)
    have HN2 := hide (snew12 w w7.drew T7.out.drew a len cap vals V.out (by omega) hcn.out m hm1)
    clear TW B1 B2
    go_wp2_with fail
    go_region_held3 (fun w' => w'.cell? ⟨O2, 1, none⟩ = some (.int .i64 b1)) (go_keep)
      (first
        | (go_at_call 14; refine (HC.out _).mono ?_; rintro e w8 ⟨dp, dq, rfl, s8⟩; have S8 := hide s8; have i0 := HB2.out w8 S8.out.turn; clear s8)
        | (go_at_call 15; refine (HPK2.out _).mono ?_; rintro e w9 ⟨⟨r4, rfl, hr4⟩, rfl⟩)
        | (go_at_call 13; rw [wrap_one r4 hr4]; refine (HN2.out _ dp dq S8.out r4 hr4).mono ?_; rintro e w10 ⟨J, rfl, h10⟩; have H10 := hide h10; have i0 := HB2.out w10 H10.out.turn; clear h10))
    clear c2 i0 HPK2 HN2 HB2 S8 B27 HC
    have SA := hide (H7.out.sl.next ((Turned.refl [] w7).drew.trans H10.out.turn))
    have SB := hide H10.out.sl
    have HD1 := hide (show ∀ i, i ∈ I.hot → i ∉ J.all from fun i h1 h2 => by
      have x1 := H7.out.sl.lt i (hot_all h1)
      have x2 := H10.out.all i h2
      have x3 : w7.drew.heap.size = w7.heap.size := rfl
      omega)
    have HD2 := hide (show ∀ i, i ∈ J.hot → i ∉ I.all from fun i h1 h2 => by
      have x1 := H7.out.sl.lt i h2
      have x2 := H10.out.all i (hot_all h1)
      have x3 : w7.drew.heap.size = w7.heap.size := rfl
      omega)
    have HVS := hide V.out.size
    have HP4 := hide (by4 vals len HVS.out (by omega) n hn1 r3)
    have HQ4 := hide (by4 vals len HVS.out (by omega) m hm1 r4)
    generalize (⟨vals, szOf len (1 + (r3 : Int)), n⟩ : SP) = P at *
    generalize (⟨vals, szOf len (1 + (r4 : Int)), m⟩ : SP) = Q at *
    clear H7 H10 T7 hr3 hr4
    have HTS := hide (Tn.start (P := P) (S := SS.fresh P) (f := fun j => j % n) (j := 0) (K := 4200) SA.out.inv (fun k hk => by
      rw [HP4.out.n] at hk ⊢
      exact turn_f n hn1.1 0 k hk) (by have := HP4.out.bound; omega))
    have HTT := hide (Tn.start (P := Q) (S := SS.fresh Q) (f := fun j => (10000 - j) % m) (j := 0) (K := 4200) SB.out.inv (fun k hk => by
      rw [HQ4.out.n] at hk ⊢
      exact turn_g m hm1.1 0 k hk (by omega)) (by have := HQ4.out.bound; omega))
    generalize SS.fresh P = S0 at *
    generalize SS.fresh Q = R0 at *
    go_wp2_with fail
    go_loopw [14] (fun i wr => ∃ (j : Nat) (S : SS), i = .int .i64 j ∧ j ≤ 4201 ∧ Hid (Sl w wr I P S j) ∧ Hid (Tn P S (fun j => j % n) j 4200) ∧ Hid (Sl w wr J Q R0 0)) (fun i _ => 10000 - (intOf i).toNat)
    case atStart => exact ⟨0, S0, rfl, by omega, SA, HTS, SB⟩
    case round =>
      obtain ⟨j, S, rfl, hj, H5, TN, H6⟩ := hrel
      clear SA SB HTS
      have hjz : (j : Int) < 10000 := by omega
      have HD := hide (sl_done H5.out)
      by_cases h3 : S.ph = 3
      · rw [decide_eq_true h3] at HD
        go_wp2_with fail
        refine HD.out.mono ?_
        rintro e w11 ⟨rfl, h11, t11⟩
        have SA := hide h11
        have SB := hide (H6.out.next t11)
        clear h11 t11 HD H5 H6 TN
        go_wp2_with fail
        go_loopw [15] (fun i wr => ∃ (t : Nat) (R : SS), i = .int .i64 (t : Int) ∧ 5799 ≤ t ∧ t ≤ 10000 ∧ Hid (∃ k, k = 10000 - t ∧ Sl w wr J Q R k ∧ Tn Q R (fun j => (10000 - j) % m) k 4200) ∧ Hid (Sl w wr I P S j)) (fun i _ => (intOf i).toNat)
        case atStart => exact ⟨10000, R0, by go_num, by omega, by omega, ⟨0, rfl, SB.out, HTT.out⟩, SA⟩
        case round =>
          obtain ⟨t, R, rfl, ht1, ht2, HK, H8⟩ := hrel
          clear SA SB HTT
          obtain ⟨k, hk, h7, tm⟩ := HK.out
          have H7 := hide h7
          have TM := hide tm
          have HKT := hide hk
          clear h7 tm hk HK
          have htz : 0 < (t : Int) := by omega
          have HD := hide (sl_done H7.out)
          by_cases g3 : R.ph = 3
          · rw [decide_eq_true g3] at HD
            go_wp2_with fail
            refine HD.out.mono ?_
            rintro e w12 ⟨rfl, h12, t12⟩
            have HR := hide (sl_result (H8.out.next t12) h3)
            rw [HP4.out.v, HP4.out.l] at HR
            have SB := hide h12
            clear h12 t12 HD H7 H8 TM
            go_wp2_with fail
            refine HR.out.mono ?_
            rintro e w13 ⟨ao, c, rfl, r13, -, h13, t13⟩
            have HR2 := hide (sl_result (SB.out.next t13) g3)
            rw [HQ4.out.v, HQ4.out.l] at HR2
            have R13 := hide r13
            clear r13 h13 t13 HR SB
            go_wp2_with fail
            refine HR2.out.mono ?_
            rintro e w14 ⟨bo, d, rfl, r14, -, h14, t14⟩
            have HS := hide (same12 w14 ao bo c d (preL vals) len (by omega) (R13.out.turned0 t14) r14)
            have T14 := hide h14.turn
            clear r14 h14 t14 HR2 R13
            generalize wrap64 (pre vals len) = tot at *
            go_wp2_with fail
            refine HS.out.mono ?_
            rintro e w15 ⟨rfl, t15⟩
            have T15 := hide (T14.out.trans t15)
            clear t15 HS T14
            go_wp2_with fail
            go_ret
            exact ⟨by first | rfl | (congr 2; simp), T15.out⟩
          · rw [decide_eq_false g3] at HD
            have hk4 := TM.out.le g3
            go_wp2_with fail
            refine HD.out.mono ?_
            rintro e w12 ⟨rfl, h12, t12⟩
            have hmz : ¬ (m : Int) = 0 := by omega
            have hmm : ¬ (m : Int) = -1 := by omega
            have HST := hide (sl_step h12 (by omega) ((t % m : Nat) : Int) (by have := Nat.mod_lt t hm1.1; omega))
            have TM2 := hide (Tn.step (f := fun j => (10000 - j) % m) h12.inv g3 (by rw [HQ4.out.n]; exact Nat.mod_lt _ hm1.1) (fun i hi => by
              rw [HQ4.out.n] at hi ⊢
              exact turn_g m hm1.1 (k + 1) i hi (by omega)) TM.out)
            rw [show 10000 - k = t by have := HKT.out; omega] at TM2
            have HM := hide (show ((t : Int) % (m : Int)) = ((t % m : Nat) : Int) from rfl)
            have H8' := hide (H8.out.next t12)
            clear h12 t12 HD H7 H8 TM
            generalize ((t % m : Nat) : Int) = x at *
            go_wp2_with fail
            rw [HM.out]
            refine HST.out.mono ?_
            rintro e w13 ⟨rfl, h13, t13⟩
            have H13 := hide h13
            have H14 := hide (H8'.out.far t13 HD2.out (fun i hi => h13.hot i (hot_all hi)))
            clear h13 t13 HST H8' HM
            go_wp2_with fail
            go_roundw
            case rel => exact ⟨t - 1, _, by go_num, by have := HKT.out; omega, by omega, ⟨k + 1, by have := HKT.out; omega, H13.out, TM2.out⟩, H14⟩
            case measure => simp [intOf]; omega
      · rw [decide_eq_false h3] at HD
        have hj4 := TN.out.le h3
        go_wp2_with fail
        refine HD.out.mono ?_
        rintro e w11 ⟨rfl, h11, t11⟩
        have hnz : ¬ (n : Int) = 0 := by omega
        have hnm : ¬ (n : Int) = -1 := by omega
        have HST := hide (sl_step h11 (by omega) ((j % n : Nat) : Int) (by have := Nat.mod_lt j hn1.1; omega))
        have TN2 := hide (Tn.step (f := fun j => j % n) h11.inv h3 (by rw [HP4.out.n]; exact Nat.mod_lt _ hn1.1) (fun i hi => by
          rw [HP4.out.n] at hi ⊢
          exact turn_f n hn1.1 (j + 1) i hi) TN.out)
        have HM := hide (show ((j : Int) % (n : Int)) = ((j % n : Nat) : Int) from rfl)
        have H6' := hide (H6.out.next t11)
        clear h11 t11 HD H5 H6 TN
        generalize ((j % n : Nat) : Int) = x at *
        go_wp2_with fail
        rw [HM.out]
        refine HST.out.mono ?_
        rintro e w12 ⟨rfl, h12, t12⟩
        have H12 := hide h12
        have H13 := hide (H6'.out.far t12 HD1.out (fun i hi => h12.hot i (hot_all hi)))
        clear h12 t12 HST H6' HM
        go_wp2_with fail
        go_roundw
        case rel => exact ⟨j + 1, _, by go_num, by omega, H12, TN2, H13⟩
        case measure => simp [intOf]; omega

set_option maxRecDepth 100000 in
theorem sumsTwo_lifted (os : Os) (started : os.Started) (H : Type) (enc : TypeId × Value → H) :
    ReturnsInHanded {} Try.checked os 8 .any (Rows.sumsTwoSpec.pre6 enc Try.prog Try.f8 Rows.sumsTwoRow.domain false) (Rows.sumsTwoSpec.post enc Try.prog Try.f8 false true false false) := by
  refine returnsInHanded_of_change (C := Try.checked) own started (by kernel_rfl) Try.func8
    (ChangeSpec.witness6 (enc := enc) (C := Try.checked) false ⟨#[], #[.slice none 0 0, .agg #[.int .i64 0, .int .i64 0], .agg #[.int .i64 0, .int .i64 0]], []⟩ 8 (by kernel_rfl) (by kernel_rfl) (by kernel_rfl) (by kernel_rfl)) ?_
  intro W base args ds gs before hval0 hW hcnd _
  have hval : ∀ (j : Nat) t v, Try.f8.params[j]? = some t → args[j]? = some v → Value.okWide Try.prog W .any base t v := hval0
  have hW' := hW
  obtain ⟨p, q, hA0, hV, rfl, hfz, hnd⟩ := hW
  have hA : DataW.TrodAll enc Try.prog W 0 (fun _ => true) true Try.f8.params.toList args.toList ds p := hA0
  rw [Try.params8] at hA hval
  obtain ⟨v0, vs0, d0, ds0, p0, q0, hargs, rfl, rfl, h0, r0⟩ := trodAll_cons hA
  obtain ⟨v1, vs1, d1, ds1, p1, q1, rfl, rfl, rfl, h1, r1⟩ := trodAll_cons r0
  obtain ⟨v2, vs2, d2, ds2, p2, q2, rfl, rfl, rfl, h2, r2⟩ := trodAll_cons r1
  obtain ⟨rfl, rfl, rfl⟩ := trodAll_nil r2
  obtain rfl : args = #[v0, v1, v2] := by cases args; simp_all
  obtain ⟨rfl, rfl⟩ := trodVars_none hV
  obtain ⟨a0, len0, cap0, rfl⟩ := okWide_slice Try.underlying22 (hval 0 22 v0 rfl rfl)
  have k0 := h0
  have lt0 : ∀ x ∈ p0, x.block < W.heap.size := by obtain ⟨m, hm⟩ := k0; exact DataW.trod_lt m _ _ _ hm
  obtain ⟨z0, w0⟩ : ∃ zs, IsRow .i64 W a0 len0 cap0 zs := by
    obtain ⟨fuel, hf⟩ := h0
    rcases open_ints Try.underlying22 Try.underlying2 (by kernel_rfl) hf with ⟨hcs, _⟩ | ⟨x, l, c, zs, hcs, _, hl, hm, hz, _, hcell, hwz⟩
    · simp [Value.cells] at hcs
      obtain ⟨rfl, rfl, rfl⟩ := hcs
      exact ⟨[], .inl ⟨rfl, rfl, rfl, rfl⟩⟩
    · simp [Value.cells] at hcs
      obtain ⟨rfl, rfl, rfl⟩ := hcs
      exact ⟨zs, .inr ⟨_, rfl, hl, hm, by simpa using hz, hcell, hwz⟩⟩
  have k1 := h1
  have lt1 : ∀ x ∈ p1, x.block < W.heap.size := by obtain ⟨m, hm⟩ := k1; exact DataW.trod_lt m _ _ _ hm
  obtain ⟨a10, a11, rfl, w1⟩ := open_two (hval 1 35 v1 rfl rfl) h1
  have k2 := h2
  have lt2 : ∀ x ∈ p2, x.block < W.heap.size := by obtain ⟨m, hm⟩ := k2; exact DataW.trod_lt m _ _ _ hm
  obtain ⟨a20, a21, rfl, w2⟩ := open_two (hval 2 35 v2 rfl rfl) h2
  clear hA0 hval0
  refine (sumsTwo_walk a0 len0 cap0 z0 a10 a11 a20 a21 W w0 w1 w2).mono fun e W' ⟨he, ht⟩ => ?_
  subst he
  have bel : Below W.heap.size W W' := ht.below0
  exact ⟨_, rfl, _, _, _, [], _, [], hW', trodAll_mk1 (shut_bool Try.underlying4 _), (trodAll_cons_mk (Below.trod laidOut (by kernel_rfl) (of_decide_eq_true (by kernel_rfl)) k0 bel lt0) (trodAll_cons_mk (Below.trod laidOut (by kernel_rfl) (of_decide_eq_true (by kernel_rfl)) k1 bel lt1) (trodAll_cons_mk (Below.trod laidOut (by kernel_rfl) (of_decide_eq_true (by kernel_rfl)) k2 bel lt2) trodAll_mk0))), rfl, bel.frame _, fun h => by cases h⟩

theorem sumsTwo_over : Rows.sumsTwoRow.holds Try.pinned (OpenSpec.ofChange Rows.sumsTwoSpec) :=
  OpenClaim.holds_of_wide 8 Try.f8 rfl rfl rfl rfl rfl rfl rfl ⟨rfl, rfl, rfl, rfl, rfl⟩ rfl rfl rfl rfl rfl (by kernel_rfl) Try.func8 (by kernel_rfl)
    (of_decide_eq_true (by kernel_rfl)) (by unfold Func.isWrapper; first | (rw [if_pos (by decide +kernel)]; kernel_rfl) | (rw [if_neg (by decide +kernel)]; exact ⟨rfl, rfl⟩))
    (fun os started H enc _ => sumsTwo_lifted os started H enc)

theorem sumsTwo_holds : Rows.SumsTwoSaid := sumsTwo_over
end Go.Proofs.Ytdjeilombaclmaa
