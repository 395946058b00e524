/-
  PlanTakes: regions take words out of none ahead of themselves; of those that are not filled some one waits for no other, and filled in any order that keeps to this all get filled. For every list of blocks, any region and any picks.
-/
import Derived.Test.YtcckflcjjgckoaaDoorPlanTakesM
import Derived.Test.YtcckflcjjgckoaaDoorMarkLaid
import Derived.Test.YtcckflcjjgckoaaDoorCards
import Derived.Test.YtcckflcjjgckoaaDoorTie
import Derived.SevenTiedAt
namespace Go.Proofs.YtcckflcjjgckoaaDoor
open Go.ChangeShapes Go.WideShapes Go.ChangeAt Go.RowKit Bt
set_option linter.unusedVariables false
set_option linter.unusedSimpArgs false

theorem tmod_bounds (a : Int) (k : Int) (h : 0 < k) : -k < a.tmod k ∧ a.tmod k < k := ⟨Int.lt_tmod_of_pos a h, Int.tmod_lt_of_pos a h⟩
theorem plan_var (w : World) (P : PN) (lq aq wq tq : Nat) : Pb (w.alloc (.cells (plC P (slc lq P.R) (slc aq P.R) (slc wq P.R) (slc tq P.R)) 30)) w.heap.size P (slc lq P.R) (slc aq P.R) (slc wq P.R) (slc tq P.R) := pb_new _ _ _ _ _ _
theorem grownT {w w' : World} {B : Nat} {e : TypeId} {size n : Nat} {v : Value} {xs : List Value} (ho : w.ownsRow B e size v n xs) (hg : w.grownBy w' v.ownBlock) : ∃ T : List Nat, Turned T w w' ∧ ∀ k, k ∈ T → B ≤ k := by
  cases hv : v.ownBlock with
  | none => exact ⟨[], (Turned.refl [] w).grown hg (fun k hk => by rw [hv] at hk; cases hk), fun k hk => by cases hk⟩
  | some g => exact ⟨[g], (Turned.refl [g] w).grown hg (fun k hk => by rw [hv] at hk; cases hk; exact .inl (by simp)), fun k hk => by simp at hk; subst hk; exact (ownsRow_lt ho k hv).1⟩

set_option maxHeartbeats 8000000 in
set_option maxRecDepth 100000 in
theorem planTakes_walk (ao : Option Addr) (len cap : Nat) (cs : List (Int × Int)) (x : Int) (po : Option Addr) (plen pcap : Nat) (zs : List Int) (w : World) (h : TwRd w ao len cs) (hx : (Lit.int .i64 x).wf = true) (hz : IsRow .i64 w po plen pcap zs) (hT : Tab w) :
    Calls Tryd.prog 4 #[.slice ao len cap, .int .i64 x, .slice po plen pcap] w fun e w' => e = .returned (.bool true) ∧ Turned [] w w' := by
  have hxr := wf_range hx
  have HPk := hide (isRow_ird hz)
  generalize zs.take plen = ps at *
  clear hx hz
  have HTb := hide hT
  have HO := hide h
  have HAw := hide (awake13 w hT)
  clear h hT
  go_enter Tryd.func4, Tryd.ntmps4
  go_wp2_with fail
  refine (HAw.out).mono ?_
  rintro e w1 ⟨rfl, ht1⟩
  have HT1 := hide ht1
  have HM := hide (marks_any 150 ao len cap cs w1 (by omega) (HO.out.turned HT1.out) (HTb.out.turned HT1.out (by simp)))
  clear ht1 HAw
  go_wp2_with fail
  refine (HM.out).mono ?_
  rintro e w2 ⟨p, q, p2, rfl, hb2, hp0, hq0, ht2⟩
  have HB2 := hide hb2
  have HBl := hide (mkS_bl 150 cs (min len 60))
  have HT2 := hide (HT1.out.trans ht2)
  clear hb2 hp0 hq0 ht2 HT1 HM
  generalize mkS 150 cs (min len 60) = S at *
  go_upto_if 43 with fail
  go_cut [10] (fun s wc => ∃ n : Nat, s = .int .i64 (n : Int) ∧ n ≤ 39 ∧ Aside (wc = w2))
  case first =>
    have ta : -40 < x.tmod 40 ∧ x.tmod 40 < 40 := tmod_bounds x 40 (by omega)
    by_cases hneg : x.tmod 40 < 0
    · go_wp2_with fail
      go_meet
      case rel => exact ⟨(-(x.tmod 40)).toNat, by congr 1; omega, by omega, rfl⟩
    · go_wp2_with fail
      go_meet
      case rel => exact ⟨(x.tmod 40).toNat, by congr 1; omega, by omega, rfl⟩
  case rest =>
    obtain ⟨k, rfl, hk, hwc⟩ := hcut
    have hwc' := hwc.out
    subst hwc'
    clear hwc hxr
    obtain ⟨w2, hw2⟩ : ∃ w2, w2 = wc := ⟨_, rfl⟩
    subst hw2
    have HMk := hide (make_ok p 150 S 0 150 (k + 1) 0 w2 HB2.out.brd HBl.out (by omega) (by omega) (by omega) (by omega) (by omega) (noCut0 S) (noCutN HBl.out))
    rw [show ((0 : Nat) : Int) = 0 from rfl, show ((150 : Nat) : Int) = 150 from rfl, show ((k + 1 : Nat) : Int) = (k : Int) + 1 from by omega] at HMk
    go_wp2_with fail
    refine (HMk.out).mono ?_
    rintro e w3 ⟨P, lq, aq, wq, tq, rfl, hmP, hpl, ht3⟩
    have hOk := hmP.ok (by omega) (by omega) (by omega) (by omega)
    have hFt : Fit P (live S) := ⟨hOk, by rw [hmP.f_]; omega, by rw [hmP.t_]; exact hmP.dle HBl.out (noCutN HBl.out), by rw [hmP.t_]; exact hmP.e_⟩
    have hPt := hmP.t_
    have HGo := hide (fun (w' : World) (i : Nat) (hi : i < P.R) => goal_in P hOk (slc lq P.R) (slc aq P.R) (slc wq P.R) (slc tq P.R) i hi w')
    have HSo := hide (fun (w' : World) (i x : Nat) (hb : Bts w' p q 150 (sidesOf S)) (hl : Pln w' P S lq aq wq tq) (hi : i < P.R) h1 h2 => tk_source p 150 P S hFt (slc lq P.R) (slc wq P.R) (slc tq P.R) aq P.R i x w' hb.brd HBl.out hl.ah (by omega) hi h1 h2)
    have HRg := hide (fun (w' : World) (s : Nat) (hs : P.f ≤ s ∧ s < P.t) => tk_region P hOk (slc lq P.R) (slc aq P.R) (slc wq P.R) (slc tq P.R) s hs w')
    have HCw : Hid (∀ w', Pln w' P S lq aq wq tq → ∀ j, j < P.R → w'.cell? ⟨wq, j, none⟩ = some (.int .i64 ((wtC P (live S) (fun _ => false) j : Nat) : Int))) := hide (fun w' hl j hj => by rw [hl.wt.cell hj, hFt.wait0 hj]; rfl)
    have HCle : Hid (∀ Fl q, wtC P (live S) Fl q ≤ P.R) := hide (fun Fl q => cnt_le _ _)
    have HRy : Hid (∀ Fl i, i < P.R → gF P i < gT P i → Fl i = false → ∃ j, j ≤ i ∧ gF P j < gT P j ∧ Fl j = false ∧ wtC P (live S) Fl j = 0) := hide (fun Fl i => hFt.ready i)
    have HFi : Hid (∀ Fl i q, i < P.R → Fl i = false → wtC P (live S) Fl q = wtC P (live S) (fill Fl i) q + (if tkB P (live S) i q = true ∧ q ≠ i then 1 else 0)) := hide (fun Fl i q h1 h2 => hFt.fills h1 h2)
    have HDo : Hid (∀ Fl, (∀ i, i < P.R → gF P i < gT P i → Fl i = true) → ∀ q, q < P.R → wtC P (live S) Fl q = 0) := hide (fun Fl h1 q h2 => hFt.done h1 h2)
    have HUs : Hid (∀ i q, tkU P (live S) i (gF P i) q = false) := hide (fun i q => tkU_start i q)
    have HUe : Hid (∀ i q, i < P.R → q < P.R → gF P i < gT P i → tkU P (live S) i (gT P i) q = tkB P (live S) i q) := hide (fun i q h1 h2 h3 => hFt.tkU_end h1 h2 h3)
    have HGb : Hid (∀ i, gT P i ≤ 150) := hide (fun i => by unfold gT; have := PN.ed_le P (i + 1); split <;> omega)
    have hR6 := PN.R_few hOk
    have HV4 := hide (plan_var w3 P lq aq wq tq)
    have hU4 := (Turned.refl [] w3).alloc (.cells (plC P (slc lq P.R) (slc aq P.R) (slc wq P.R) (slc tq P.R)) 30)
    have HL4 := hide (hpl.turned0 hU4)
    have HB4 := hide ((HB2.out.turned0 ht3).turned0 hU4)
    have HT4 := hide ((HT2.out.trans ht3).trans hU4)
    clear hmP hpl ht3 hU4 HMk hOk HT2 HB2 hFt hPt hk
    unfold plC slc at HV4 HGo HSo HRg HL4 HB4 HT4 ⊢
    generalize hRR : P.R = R at *
    generalize gF P = G1 at *
    generalize gT P = G2 at *
    generalize wtC P (live S) = C at *
    generalize tkB P (live S) = T at *
    generalize tkU P (live S) = U at *
    clear hRR
    have hmi := make_ints R hR6
    have hmb := make_bools R hR6
    go_upto_region 7 with fail
    generalize w3.alloc (.cells #[Value.int .i64 P.f, Value.int .i64 P.t, Value.int .i64 P.k, Value.int .i64 P.d, Value.int .i64 P.e, .slice (some ⟨lq, 0, none⟩) R R, .slice (some ⟨aq, 0, none⟩) R R, .slice (some ⟨wq, 0, none⟩) R R, .slice (some ⟨tq, 0, none⟩) R R] 30) = w4 at *
    generalize w3.heap.size = pb at *
    obtain ⟨c0, c1, c2, c3, c4, c5, c6, c7, c8⟩ := HV4.out.cs
    obtain ⟨w5, hw5⟩ : ∃ w5, w5 = w4.alloc (.cells (madeCells #[Value.int .i64 0] R) 3) := ⟨_, rfl⟩
    obtain ⟨w6, hw6⟩ : ∃ w6, w6 = w5.alloc (.cells (madeCells #[Value.bool false] R) 4) := ⟨_, rfl⟩
    have hs5 : w5.heap.size = w4.heap.size + 1 := by rw [hw5]; simp
    have ht5 : Turned [] w4 w5 := by rw [hw5]; exact (Turned.refl [] w4).alloc _
    have ht6 : Turned [] w5 w6 := by rw [hw6]; exact (Turned.refl [] w5).alloc _
    have hi5 : Ri w5 3 w4.heap.size R (fun _ => 0) := by rw [hw5]; exact new_ints w4 R
    have hb6 : Rb w6 w5.heap.size R (fun _ => false) := by rw [hw6]; exact new_bools w5 R
    obtain ⟨F0, hF0⟩ : ∃ F0 : Nat → Bool, F0 = fun _ => false := ⟨_, rfl⟩
    rw [← hF0] at hb6 HCw
    have hc0 : cnt F0 R = 0 := by rw [hF0]; exact cnt_zero fun _ _ => rfl
    obtain ⟨lb, hlb⟩ : ∃ lb, lb = w4.heap.size := ⟨_, rfl⟩
    obtain ⟨fb, hfb⟩ : ∃ fb, fb = w4.heap.size + 1 := ⟨_, rfl⟩
    have HS6 : Hid (TkS w w6 p q pb lq aq wq tq lb fb R S P (fun i => if i < 0 then (C F0 i : Int) else 0) F0) := hide (by
      have k1 := HB4.out.ltp
      have k2 := HB4.out.ltq
      have k3 := HV4.out.lt
      have k4 := HL4.out.lv.lt
      have k5 := Ri.lt HL4.out.ah
      have k6 := HL4.out.wt.lt
      have k7 := HL4.out.tk.lt
      refine ⟨(HB4.out.turned0 ht5).turned0 ht6, (HV4.out.turned0 ht5).turned0 ht6, (HL4.out.turned0 ht5).turned0 ht6, ?_, ?_, (HT4.out.trans ht5).trans ht6, by omega, by rw [hlb]; exact HT4.out.size⟩
      · rw [hlb]; exact (hi5.turned0 ht6).congr (fun i _ => by simp)
      · rw [hfb, ← hs5]; exact hb6)
    have HC0 := hide hc0
    have HB6 := hide (show fb < w6.heap.size by rw [hfb, ← hs5]; exact hb6.lt)
    clear ht5 ht6 hi5 hb6 hs5 hF0 hc0 HB4 HV4 HL4 HT4
    go_upto_region 12 with fail
    rw [← hw5, ← hw6, ← hfb, ← hlb]
    clear hw5 hw6 hlb hfb hmi c0 c1 c2 c3 c4 c5 c6 c7 c8
    go_wp2_with fail
    go_loopg [16] 70000 (fun gg s16 wr => ∃ (j : Nat), s16 = .int .i64 (j : Int) ∧ j ≤ R ∧ R - j ≤ gg ∧ Aside (TkS w wr p q pb lq aq wq tq lb fb R S P (fun i => if i < j then (C F0 i : Int) else 0) (F0)))
    case atStart => exact ⟨0, rfl, by omega, by omega, HS6.out⟩
    case round =>
      obtain ⟨j, rfl, hj, hgj, hts⟩ := hrel
      have HS := hide hts.out
      clear hts HS6
      by_cases hlt : j < R
      · have hlti : (j : Int) < R := by omega
        obtain ⟨c0, c1, c2, c3, c4, c5, c6, c7, c8⟩ := HS.out.v.cs
        have cw := HCw.out wr HS.out.l j hlt
        have cl := HS.out.lf.cell hlt
        rw [if_neg (Nat.lt_irrefl j)] at cl
        have fz := HS.out.lf.fz j
        have hne : wq ≠ lb := by have := HS.out.lo; omega
        have HS2 : Hid (TkS w (wr.setCell ⟨lb, j, none⟩ (.int .i64 (C F0 j : Int))) p q pb lq aq wq tq lb fb R S P (fun i => if i < j + 1 then (C F0 i : Int) else 0) (F0)) := hide ((HS.out.setL j (C F0 j : Int)).congrL (fun i hi => by
          by_cases hij : i = j
          · subst hij; simp
          · simp only [hij, if_false]
            by_cases h3 : i < j
            · rw [if_pos h3, if_pos (by omega)]
            · rw [if_neg h3, if_neg (by omega)]))
        clear HS
        generalize C F0 j = cj at *
        go_wp2_with fail
        go_roundg (R - (j + 1))
        case measure => omega
        case rel => exact ⟨j + 1, by go_num, by omega, Nat.le_refl _, HS2.out⟩
      · have hjR : j = R := by omega
        subst hjR
        have HS7 : Hid (TkS w wr p q pb lq aq wq tq lb fb j S P (fun i => (C F0 i : Int)) F0) := hide (HS.out.congrL (fun i hi => by rw [if_pos hi]))
        have HB7 := hide (show fb < wr.heap.size from HS.out.fl.lt)
        clear HS HB6 HCw hmb
        have hmb := make_bools j hR6
        obtain ⟨B, hB⟩ : ∃ B, B = wr.heap.size := ⟨_, rfl⟩
        have HBf := hide (show fb < B by have := HB7.out; omega)
        have HBw := hide (show B ≤ wr.heap.size by omega)
        clear hB HB7 hlt hgj hj
        obtain ⟨w7, hw7⟩ : ∃ w7, w7 = wr := ⟨_, rfl⟩
        subst hw7
        obtain ⟨R, hR⟩ : ∃ R, R = j := ⟨_, rfl⟩
        subst hR
        have hdd : decide ((R : Int) < (R : Int)) = false := decide_eq_false (by omega)
        go_wp2_with fail
        -- OUTER
        obtain ⟨i0, hi, hi0⟩ := Option.map_eq_some_iff.1 Tryd.infoInt
        simp only [Prod.mk.injEq] at hi0
        obtain ⟨hz0, hz1, hz2⟩ := hi0
        have HI := hide (And.intro hi (And.intro hz0 (And.intro hz1 hz2)))
        clear hi hz0 hz1 hz2 hdd
        go_loopg [17] 70000 (fun gg s17 wr => ∃ (n : Nat) (Fl : Nat → Bool), s17 = .int .i64 (n : Int) ∧ n ≤ R ∧ R - n ≤ gg ∧ Aside (TkS w wr p q pb lq aq wq tq lb fb R S P (fun i => (C Fl i : Int)) (Fl)) ∧ Aside (cnt Fl R = n) ∧ Aside (B ≤ wr.heap.size))
        case atStart => exact ⟨0, F0, rfl, by omega, by omega, HS7.out, HC0.out, HBw.out⟩
        case round =>
          obtain ⟨n, Fl, rfl, hn, hgn, hts, hcn, hbw⟩ := hrel
          have HS := hide hts.out
          have HCn := hide hcn.out
          have HB8 := hide hbw.out
          clear hts hcn hbw HS7 HC0 HBw
          by_cases hlt : n < R
          · have hlti : (n : Int) < R := by omega
            go_wp2_with fail
            obtain ⟨wo, hwo⟩ : ∃ wo, wo = wr := ⟨_, rfl⟩
            subst hwo
            go_loopg [18, 19, 20] 70000 (fun gg s18 s19 s20 wr => ∃ (i o : Nat) (v : Value) (L : List Nat), v = s18 ∧ s19 = .int .i64 (o : Int) ∧ s20 = .int .i64 (i : Int) ∧ i ≤ R ∧ R - i ≤ gg ∧ o ≤ i ∧ Aside (wr.ownsRow B 3 1 v L.length (iv L)) ∧ Aside (Rdy G1 G2 (C Fl) Fl R i o L) ∧ Aside (TkS w wr p q pb lq aq wq tq lb fb R S P (fun i => (C Fl i : Int)) (Fl)) ∧ Aside (B ≤ wr.heap.size))
            case atStart => exact ⟨0, 0, _, [], rfl, rfl, rfl, by omega, by omega, by omega, ⟨rfl, .inl ⟨rfl, rfl⟩⟩, Rdy.start, HS.out, HB8.out⟩
            case round =>
              obtain ⟨i, o, v, L, rfl, rfl, rfl, hi, hgi, hoi, hown, hrd, hts, hbw⟩ := hrel
              have HOw := hide hown.out
              have HRd := hide hrd.out
              have HS3 := hide hts.out
              have HB9 := hide hbw.out
              clear hown hrd hts hbw HS HB8
              by_cases hiR : i < R
              · have hiRi : (i : Int) < R := by omega
                have HC := hide (HGo.out wr i hiR)
                obtain ⟨c0, c1, c2, c3, c4, c5, c6, c7, c8⟩ := HS3.out.v.cs
                go_wp2_with fail
                refine (HC.out).mono ?_
                rintro e w8 ⟨rfl, ht8⟩
                have HZ8 := hide (HS3.out.turned0 ht8)
                have HO8 : Hid (w8.ownsRow B 3 1 v L.length (iv L)) := hide (ownsRow_keep HOw.out (fun k hk => ht8.block k (ownsRow_lt HOw.out k hk).2.1 (by simp)))
                have HB10 := hide (Nat.le_trans HB9.out ht8.size)
                have cf := HZ8.out.fl.cell hiR
                have cl := HZ8.out.lf.cell hiR
                have hcle := HCle.out Fl i
                have HK := hide (fun (h : ¬ (G1 i < G2 i ∧ Fl i = false)) => HRd.out.closed (fun h1 => by
                  cases hf : Fl i
                  · exact absurd ⟨h1, hf⟩ h
                  · rfl))
                have HKw := hide (fun (h1 : G1 i < G2 i) (h2 : Fl i = false) (h3 : ¬ C Fl i = 0) => HRd.out.waits h1 h2 h3)
                have HKa := hide (fun (h1 : G1 i < G2 i) (h2 : Fl i = false) => HRd.out.adds h1 h2 hiR)
                have hLl := HRd.out.len
                clear ht8 HS3 HC HOw HB9 HRd c0 c1 c2 c3 c4 c5 c6 c7 c8
                generalize hG1 : G1 i = a1 at *
                generalize hG2 : G2 i = a2 at *
                generalize hFi : Fl i = fi at *
                generalize hCi : C Fl i = ci at *
                clear hG1 hG2 hFi hCi
                by_cases hg : a1 < a2
                · have hgi2 : (a1 : Int) < a2 := by omega
                  cases fi
                  · by_cases hc : ci = 0
                    · subst hc
                      have HRd2 := hide (HKa.out hg rfl)
                      clear HK HKw HKa hcle
                      have hbs : ∀ w : World, (Instr.buildSlice 28 1 #[(0, .int .i64 (i : Int))]).run Tryd.prog w = .ok (.slice (some ⟨w.heap.size, 0, none⟩) 1 1) (w.alloc (.cells #[.int .i64 (i : Int)] 3)) := fun w => by kernel_rfl
                      have hU : Turned [] w8 (w8.alloc (.cells #[.int .i64 (i : Int)] 3)) := (Turned.refl [] w8).alloc _
                      have HZ9 := hide (HZ8.out.turned0 hU)
                      have HO9 : Hid ((w8.alloc (.cells #[.int .i64 (i : Int)] 3)).ownsRow B 3 1 v L.length (iv L)) := hide (ownsRow_keep HO8.out (fun k hk => hU.block k (ownsRow_lt HO8.out k hk).2.1 (by simp)))
                      have HB11 := hide (Nat.le_trans HB10.out hU.size)
                      have HNw : Hid (∀ j u, [Value.int .i64 (i : Int)][j]? = some u → (w8.alloc (.cells #[.int .i64 (i : Int)] 3)).cell? ((⟨w8.heap.size, 0, none⟩ : Addr).add j) = some u) := hide (fun j u hu => by
                        rw [addr_add0, cell_of_heap (heap_alloc_new _ _)]
                        match j, hu with
                        | 0, hu => simpa using hu
                        | j + 1, hu => simp at hu)
                      clear hU HZ8 HO8 HB10
                      have hl6 : L.length ≤ 65536 := by omega
                      go_wp2_with (at_builtin; refine wpList_append_own _ rfl _ _ 28 rfl B 3 i0 (.int .i64 0) 1 8 Tryd.underlying28 HI.out.1 HI.out.2.1 HI.out.2.2.1 HI.out.2.2.2 rfl (by decide) v L.length (iv L) rfl HO9.out ⟨w8.heap.size, 0, none⟩ 1 1 [.int .i64 (i : Int)] rfl rfl HNw.out (by intro u hu; simp at hu; subst hu; rfl) (by unfold maxLen; omega) (by omega) HB11.out ?_; intro v10 w10 hown hgr hvv)
                      have HO10 : Hid (w10.ownsRow B 3 1 v10 (L ++ [i]).length (iv (L ++ [i]))) := hide (by rw [iv_snoc, List.length_append]; exact hown)
                      obtain ⟨TT, hT1, hT2⟩ := grownT HO9.out hgr
                      have HZ10 := hide (HZ9.out.other hT1 (fun k hk => by have := hT2 k hk; have := HBf.out; omega))
                      have HB12 := hide (Nat.le_trans HB11.out hgr.size)
                      clear hown hgr hvv hT1 hT2 HO9 HZ9 HB11 HNw hbs cf cl
                      go_wp2_with fail
                      go_roundg (R - (i + 1))
                      case measure => omega
                      case rel => exact ⟨i + 1, o + 1, _, L ++ [i], rfl, by go_num, by go_num, by omega, Nat.le_refl _, by omega, HO10.out, HRd2.out, HZ10.out, HB12.out⟩
                    · have hci : ¬ (ci : Int) = 0 := by omega
                      have HRd2 := hide (HKw.out hg rfl hc)
                      clear HK HKw HKa
                      go_wp2_with fail
                      go_roundg (R - (i + 1))
                      case measure => omega
                      case rel => exact ⟨i + 1, o + 1, _, L, rfl, by go_num, by go_num, by omega, Nat.le_refl _, by omega, HO8.out, HRd2.out, HZ8.out, HB10.out⟩
                  · have HRd2 := hide (HK.out (fun h => by cases h.2))
                    clear HK HKw HKa
                    go_wp2_with fail
                    go_roundg (R - (i + 1))
                    case measure => omega
                    case rel => exact ⟨i + 1, o, _, L, rfl, rfl, by go_num, by omega, Nat.le_refl _, by omega, HO8.out, HRd2.out, HZ8.out, HB10.out⟩
                · have hgi2 : ¬ (a1 : Int) < a2 := by omega
                  have HRd2 := hide (HK.out (fun h => hg h.1))
                  clear HK HKw HKa
                  go_wp2_with fail
                  go_roundg (R - (i + 1))
                  case measure => omega
                  case rel => exact ⟨i + 1, o, _, L, rfl, rfl, by go_num, by omega, Nat.le_refl _, by omega, HO8.out, HRd2.out, HZ8.out, HB10.out⟩
              · have hiR2 : i = R := by omega
                subst hiR2
                have hdd : decide ((i : Int) < (i : Int)) = false := decide_eq_false (by omega)
                obtain ⟨R, hR⟩ : ∃ R, R = i := ⟨_, rfl⟩
                subst hR
                by_cases ho : o = 0
                · subst ho
                  have HAll := hide HRd.out.none
                  have HDn := hide (HDo.out Fl HRd.out.none)
                  have HS := HS3
                  clear HRd HOw HB9 HS3
                  obtain ⟨wz, hwz⟩ : ∃ wz, wz = wr := ⟨_, rfl⟩
                  subst hwz
                  go_wp2_with fail
                  go_loopg [31] 70000 (fun gg s31 wr => ∃ (i : Nat), s31 = .int .i64 (i : Int) ∧ i ≤ R ∧ R - i ≤ gg ∧ Aside (TkS w wr p q pb lq aq wq tq lb fb R S P (fun i => (C Fl i : Int)) (Fl)))
                  case atStart => exact ⟨0, rfl, by omega, by omega, HS.out⟩
                  case round =>
                    obtain ⟨i, rfl, hi, hgi, hts⟩ := hrel
                    have HZ := hide hts.out
                    clear hts HS
                    by_cases hlt : i < R
                    · have hlti : (i : Int) < R := by omega
                      have HC := hide (HGo.out wr i hlt)
                      obtain ⟨c0, c1, c2, c3, c4, c5, c6, c7, c8⟩ := HZ.out.v.cs
                      go_wp2_with fail
                      refine (HC.out).mono ?_
                      rintro e w8 ⟨rfl, ht8⟩
                      have HZ8 := hide (HZ.out.turned0 ht8)
                      have cf := HZ8.out.fl.cell hlt
                      have cl := HZ8.out.lf.cell hlt
                      rw [HDn.out i hlt] at cl
                      have HA := hide (HAll.out i hlt)
                      clear ht8 HZ HC c0 c1 c2 c3 c4 c5 c6 c7 c8
                      generalize G1 i = a1 at *
                      generalize G2 i = a2 at *
                      by_cases hg : a1 < a2
                      · have hgi2 : (a1 : Int) < a2 := by omega
                        rw [HA.out hg] at cf
                        go_wp2_with fail
                        go_roundg (R - (i + 1))
                        case measure => omega
                        case rel => exact ⟨i + 1, by go_num, by omega, Nat.le_refl _, HZ8.out⟩
                      · have hgi2 : ¬ (a1 : Int) < a2 := by omega
                        go_wp2_with fail
                        go_roundg (R - (i + 1))
                        case measure => omega
                        case rel => exact ⟨i + 1, by go_num, by omega, Nat.le_refl _, HZ8.out⟩
                    · have hlti : ¬ (i : Int) < R := by omega
                      have HTe := hide HZ.out.t
                      clear HZ
                      go_wp2_with fail
                      go_ret
                      exact ⟨rfl, HTe.out⟩
                · have hoi2 : ¬ (o : Int) = 0 := by omega
                  have hLne : L ≠ [] := by
                    obtain ⟨j, j1, j2, j3⟩ := HRd.out.some ho
                    obtain ⟨m, m1, m2, m3, m4⟩ := HRy.out Fl j j1 j2 j3
                    exact HRd.out.has m (by omega) m2 m3 m4
                  have hLm := HRd.out.mem
                  obtain ⟨m, hm⟩ : ∃ m, m = L.length := ⟨_, rfl⟩
                  have hm0 : 0 < m := by rw [hm]; exact List.length_pos_iff.2 hLne
                  have hmR : m ≤ R := by rw [hm]; exact HRd.out.len
                  have hm1 : ¬ (m : Int) = 0 := by omega
                  obtain ⟨g, cp, rfl, -, -, hcp, hcell, -⟩ := ownsRow_open HOw.out (by omega)
                  have HLm := hide hLm
                  have HCe : Hid (∀ k, k < m → ∃ t : Nat, (t < R ∧ G1 t < G2 t ∧ Fl t = false) ∧ wr.cell? ⟨g, k, none⟩ = some (.int .i64 (t : Int))) := hide (fun k hk => by
                    obtain ⟨t, ht⟩ : ∃ t, L[k]? = some t := ⟨_, List.getElem?_eq_getElem (by omega)⟩
                    exact ⟨t, hLm t (List.mem_of_getElem? ht), hcell k _ (iv_get ht)⟩)
                  rw [← hm]
                  clear hLne hLm hm hcp hcell HRd HOw
                  obtain ⟨ws, hws⟩ : ∃ ws, ws = wr := ⟨_, rfl⟩
                  subst hws
                  go_upto_if 138 with fail
                  go_cut [23] (fun s23 wc => ∃ z : Int, s23 = .int .i64 z ∧ Aside (-9223372036854775808 ≤ z ∧ z ≤ 9223372036854775807) ∧ Aside (wc = ws))
                  case first =>
                    by_cases hj2 : n < plen
                    · have e4 : (n : Int) < (plen : Int) := by omega
                      obtain ⟨z, hzz⟩ : ∃ z, ps[n]? = some z := ⟨_, List.getElem?_eq_getElem (by have := HPk.out.1.size; omega)⟩
                      obtain ⟨bg, bo', hao, cz⟩ := (HPk.out.1.turned0 HS3.out.t).cell n z hzz
                      subst hao
                      have hz64 := HPk.out.2.2 z (List.mem_of_getElem? hzz)
                      clear hzz
                      go_wp2_with fail
                      go_meet
                      case rel => exact ⟨z, rfl, hz64, rfl⟩
                    · have e4 : ¬ (n : Int) < (plen : Int) := by omega
                      go_wp2_with fail
                      go_meet
                      case rel => exact ⟨0, rfl, ⟨by omega, by omega⟩, rfl⟩
                  case rest =>
                    obtain ⟨z, rfl, hz64, hwc⟩ := hcut
                    have hwc' := hwc.out
                    subst hwc'
                    clear hwc
                    obtain ⟨ws, hws⟩ : ∃ ws, ws = wc := ⟨_, rfl⟩
                    subst hws
                    go_upto_if 144 with fail
                    go_cut [23] (fun s23 wc => ∃ k : Nat, s23 = .int .i64 (k : Int) ∧ Aside (wc = ws))
                    case first =>
                      obtain ⟨q1, q2⟩ := hz64.out
                      by_cases hz0 : z < 0
                      · have e4 : wrap64 (z + 1) = z + 1 := by unfold wrap64; omega
                        have e5 : wrap64 (-(z + 1)) = -(z + 1) := by unfold wrap64; omega
                        go_wp2_with fail
                        go_meet
                        case rel => exact ⟨(-(z + 1)).toNat, by rw [Int.toNat_of_nonneg (by omega)], rfl⟩
                      · go_wp2_with fail
                        go_meet
                        case rel => exact ⟨z.toNat, by rw [Int.toNat_of_nonneg (by omega)], rfl⟩
                    case rest =>
                      obtain ⟨zn, rfl, hwc⟩ := hcut
                      have hwc' := hwc.out
                      subst hwc'
                      clear hwc hz64
                      obtain ⟨ws, hws⟩ : ∃ ws, ws = wc := ⟨_, rfl⟩
                      subst hws
                      obtain ⟨kx, hkm, HMod⟩ : ∃ kx, kx < m ∧ Hid (((zn : Int)).tmod (m : Int) = (kx : Int)) := ⟨zn % m, Nat.mod_lt _ hm0, by show _ = _; exact (Int.ofNat_tmod zn m).symm⟩
                      obtain ⟨t, ⟨ht1, ht2, ht3⟩, ct⟩ := HCe.out kx hkm
                      have e8 : (kx : Int) < (m : Int) := by omega
                      have hti : (t : Int) < R := by omega
                      clear HCe
                      have cf := HS3.out.fl.cell ht1
                      have ff := HS3.out.fl.fz t
                      have hgf : fb < g ∨ g < fb ∨ g = fb := by omega
                      have hmod := HMod.out
                      clear HMod hgf
                      go_upto_region 38 with fail
                      clear hmod hm1 ct
                      have HS4 := hide (HS3.out.setF t)
                      have HB10 : Hid (B ≤ (ws.setCell ⟨fb, t, none⟩ (.bool true)).heap.size) := hide (by have := HB9.out; simpa [World.setCell] using this)
                      have HFt := hide ht3
                      have HG := hide (fun w' => HGo.out w' t ht1)
                      have HSt := hide (fun w' x hb hl h1 h2 => HSo.out w' t x hb hl ht1 h1 h2)
                      have HUs2 := hide (fun q => HUs.out t q)
                      have HUe2 := hide (fun q hq => HUe.out t q ht1 hq ht2)
                      have HFi2 := hide (fun q => HFi.out Fl t q ht1 ht3)
                      have HCf : Hid (cnt (fill Fl t) R = n + 1) := hide (by rw [cnt_fill ht1 ht3, HCn.out])
                      have hg2b := HGb.out t
                      clear HS3 HB9 ht3
                      go_upto_region 39 with fail
                      clear cf ff
                      generalize ws.setCell ⟨fb, t, none⟩ (.bool true) = wt at *
                      obtain ⟨c0, c1, c2, c3, c4, c5, c6, c7, c8⟩ := HS4.out.v.cs
                      go_wp2_with fail
                      refine (HG.out wt).mono ?_
                      rintro e w8 ⟨rfl, ht8⟩
                      have HS5 := hide (HS4.out.turned0 ht8)
                      have HB11 := hide (Nat.le_trans HB10.out ht8.size)
                      clear ht8 HS4 HB10 HG c0 c1 c2 c3 c4 c5 c6 c7 c8
                      obtain ⟨w9, hw9⟩ : ∃ w9, w9 = w8.alloc (.cells (madeCells #[Value.bool false] R) 4) := ⟨_, rfl⟩
                      have hb9 : Rb w9 w8.heap.size R (fun _ => false) := by rw [hw9]; exact new_bools w8 R
                      have hU9 : Turned [] w8 w9 := by rw [hw9]; exact (Turned.refl [] w8).alloc _
                      have HS6 := hide (HS5.out.turned0 hU9)
                      have HB12 := hide (Nat.le_trans HB11.out hU9.size)
                      obtain ⟨tb, htb⟩ : ∃ tb, tb = w8.heap.size := ⟨_, rfl⟩
                      have HTb2 := hide (show B ≤ tb by rw [htb]; exact HB11.out)
                      rw [← htb] at hb9
                      have HR9 : Hid (Rb w9 tb R (U t (G1 t))) := hide (hb9.congr (fun i _ => (HUs2.out i).symm))
                      clear hb9 hU9 HS5 HB11 HUs2
                      generalize hG1 : G1 t = a1 at *
                      generalize hG2 : G2 t = a2 at *
                      have HGt := hide (And.intro hG1 hG2)
                      clear hG1 hG2
                      go_upto_region 41 with fail
                      rw [← hw9, ← htb]
                      clear hw9 htb
                      go_wp2_with fail
                      go_loopg [28] 200 (fun gg s28 wr => ∃ (x : Nat), s28 = .int .i64 (x : Int) ∧ a1 ≤ x ∧ x ≤ a2 ∧ a2 - x ≤ gg ∧ Aside (Rb wr tb R (U t x)) ∧ Aside (TkS w wr p q pb lq aq wq tq lb fb R S P (fun i => (C Fl i : Int)) (fill Fl t)) ∧ Aside (B ≤ wr.heap.size))
                      case atStart => exact ⟨a1, rfl, Nat.le_refl _, by omega, by omega, HR9.out, HS6.out, HB12.out⟩
                      case round =>
                        obtain ⟨y, rfl, hy1, hy2, hgy, hrb, hts, hbw⟩ := hrel
                        have HR10 := hide hrb.out
                        have HS7 := hide hts.out
                        have HB13 := hide hbw.out
                        clear hrb hts hbw HR9 HS6 HB12
                        by_cases hya : y < a2
                        · have hyai : (y : Int) < a2 := by omega
                          obtain ⟨c0, c1, c2, c3, c4, c5, c6, c7, c8⟩ := HS7.out.v.cs
                          have HX := hide (fun w' hb hl => HSt.out w' y hb hl hy1 hya)
                          obtain ⟨wl, hwl⟩ : ∃ wl, wl = wr := ⟨_, rfl⟩
                          subst hwl
                          go_wp2_with fail
                          go_region_held3 (fun w' => w'.cell? ⟨pb, 0, none⟩ = some (.int .i64 (P.f : Int)) ∧ w'.cell? ⟨pb, 1, none⟩ = some (.int .i64 (P.t : Int)) ∧ w'.cell? ⟨pb, 2, none⟩ = some (.int .i64 (P.k : Int)) ∧ w'.cell? ⟨pb, 3, none⟩ = some (.int .i64 (P.d : Int)) ∧ w'.cell? ⟨pb, 4, none⟩ = some (.int .i64 (P.e : Int)) ∧ w'.cell? ⟨pb, 5, none⟩ = some (.slice (some ⟨lq, 0, none⟩) R R) ∧ w'.cell? ⟨pb, 6, none⟩ = some (.slice (some ⟨aq, 0, none⟩) R R) ∧ w'.cell? ⟨pb, 7, none⟩ = some (.slice (some ⟨wq, 0, none⟩) R R) ∧ w'.cell? ⟨pb, 8, none⟩ = some (.slice (some ⟨tq, 0, none⟩) R R)) (go_keep)
                            (first
                              | (go_at_call 14; refine (HRg.out _ sx hsx1).mono ?_; rintro e' w12 ⟨rfl, ht12⟩; have HU12 := hide (HU11.out.trans ht12); have HS12 := hide (HS7.out.turned0 HU12.out); have HR12 := hide (HR10.out.turned0 HU12.out); have HB14 := hide (Nat.le_trans HB13.out HU12.out.size); obtain ⟨g0, g1, g2, g3, g4, g5, g6, g7, g8⟩ := HS12.out.v.cs; clear ht12)
                              | (go_at_call 12; refine (HX.out _ (HS7.out.b.turned0 (Turned.refl [] wl).drew) (HS7.out.l.turned0 (Turned.refl [] wl).drew)).mono ?_; rintro e' w11 ⟨sx, rfl, ⟨hsx1, hsx2, hsx3, hsx4⟩, ht11⟩; have HU11 := hide ((Turned.refl [] wl).drew.trans ht11); have HSx := hide hsx4; have HS11 := hide (HS7.out.turned0 HU11.out); obtain ⟨d0, d1, d2, d3, d4, d5, d6, d7, d8⟩ := HS11.out.v.cs; clear ht11 hsx4))
                          clear c0 c1 c2 c3 c4 c5 c6 c7 c8 d0 d1 d2 d3 d4 d5 d6 d7 d8 g0 g1 g2 g3 g4 g5 g6 g7 g8 HS7 HS11 HR10 HB13 HU11 HU12 HX hsx1
                          generalize P.reg sx = r at *
                          have hri : (r : Int) < R := by omega
                          have htr : ¬ (r : Int) < t := by omega
                          have cb := HR12.out.cell hsx2
                          have fz := HR12.out.fz r
                          have HR13 : Hid (Rb (w12.setCell ⟨tb, r, none⟩ (.bool true)) tb R (U t (y + 1))) := hide ((HR12.out.set r true).congr (fun q hq => (HSx.out q hq).symm))
                          have HS13 := hide (HS12.out.other ((Turned.refl [tb] w12).setCell (p := ⟨tb, r, none⟩) (.inl (by simp)) (.bool true)) (fun k hk => by simp at hk; subst hk; have := HTb2.out; have := HBf.out; omega))
                          have HB15 : Hid (B ≤ (w12.setCell ⟨tb, r, none⟩ (.bool true)).heap.size) := hide (by have := HB14.out; simpa [World.setCell] using this)
                          clear HR12 HS12 HB14 HSx
                          go_wp2_with fail
                          go_roundg (a2 - (y + 1))
                          case measure => omega
                          case rel => exact ⟨y + 1, by go_num, by omega, by omega, Nat.le_refl _, HR13.out, HS13.out, HB15.out⟩
                        · have hyai : ¬ (y : Int) < a2 := by omega
                          have hye : y = a2 := by omega
                          have HR14 : Hid (Rb wr tb R (T t)) := hide (HR10.out.congr (fun q hq => by rw [hye]; exact HUe2.out q hq))
                          have HS14 : Hid (TkS w wr p q pb lq aq wq tq lb fb R S P (fun q => if q < 0 then (C (fill Fl t) q : Int) else (C Fl q : Int)) (fill Fl t)) := hide (HS7.out.congrL (fun i hi => by simp))
                          clear HR10 HS7 hye HSt HUe2
                          obtain ⟨wk, hwk⟩ : ∃ wk, wk = wr := ⟨_, rfl⟩
                          subst hwk
                          go_wp2_with fail
                          go_loopg [30] 70000 (fun gg s30 wr => ∃ (z : Nat), s30 = .int .i64 (z : Int) ∧ z ≤ R ∧ R - z ≤ gg ∧ Aside (Rb wr tb R (T t)) ∧ Aside (TkS w wr p q pb lq aq wq tq lb fb R S P (fun q => if q < z then (C (fill Fl t) q : Int) else (C Fl q : Int)) (fill Fl t)) ∧ Aside (B ≤ wr.heap.size))
                          case atStart => exact ⟨0, rfl, by omega, by omega, HR14.out, HS14.out, HB13.out⟩
                          case round =>
                            obtain ⟨z', rfl, hz1, hgz, hrb, hts, hbw⟩ := hrel
                            have HR15 := hide hrb.out
                            have HS15 := hide hts.out
                            have HB15 := hide hbw.out
                            clear hrb hts hbw HR14 HS14 HB13
                            by_cases hzR : z' < R
                            · have hzRi : (z' : Int) < R := by omega
                              have cb := HR15.out.cell hzR
                              have cl := HS15.out.lf.cell hzR
                              rw [if_neg (Nat.lt_irrefl z')] at cl
                              have fz := HS15.out.lf.fz z'
                              have hfi := HFi2.out z'
                              have hc1 := HCle.out Fl z'
                              have HNx : Hid (∀ u : Int, u = (C (fill Fl t) z' : Int) → TkS w (wr.setCell ⟨lb, z', none⟩ (.int .i64 u)) p q pb lq aq wq tq lb fb R S P (fun q => if q < z' + 1 then (C (fill Fl t) q : Int) else (C Fl q : Int)) (fill Fl t)) := hide (fun u hu => (HS15.out.setL z' u).congrL (fun i hi => by
                                by_cases hij : i = z'
                                · subst hij; simp [hu]
                                · simp only [hij, if_false]
                                  by_cases h3 : i < z'
                                  · rw [if_pos h3, if_pos (by omega)]
                                  · rw [if_neg h3, if_neg (by omega)]))
                              have HNo : Hid (C Fl z' = C (fill Fl t) z' → TkS w wr p q pb lq aq wq tq lb fb R S P (fun q => if q < z' + 1 then (C (fill Fl t) q : Int) else (C Fl q : Int)) (fill Fl t)) := hide (fun hu => HS15.out.congrL (fun i hi => by
                                by_cases hij : i = z'
                                · subst hij; simp [hu]
                                · by_cases h3 : i < z'
                                  · rw [if_pos h3, if_pos (by omega)]
                                  · rw [if_neg h3, if_neg (by omega)]))
                              have HRs : Hid (∀ u : Value, Rb (wr.setCell ⟨lb, z', none⟩ u) tb R (T t)) := hide (fun u => HR15.out.turned ((Turned.refl [lb] wr).setCell (p := ⟨lb, z', none⟩) (.inl (by simp)) u) (by simp; have := HTb2.out; have := HBf.out; have := HS15.out.lo; omega))
                              have HBs : Hid (∀ u : Value, B ≤ (wr.setCell ⟨lb, z', none⟩ u).heap.size) := hide (fun u => by have := HB15.out; simpa [World.setCell] using this)
                              have hne : lb ≠ tb := by have := HTb2.out; have := HBf.out; have := HS15.out.lo; omega
                              generalize T t z' = tz at *
                              generalize C (fill Fl t) z' = cz' at *
                              generalize C Fl z' = cz at *
                              cases tz
                              · have HZ := hide (HNo.out (by simpa using hfi))
                                clear HNx HNo HRs HBs hfi HS15
                                go_wp2_with fail
                                go_roundg (R - (z' + 1))
                                case measure => omega
                                case rel => exact ⟨z' + 1, by go_num, by omega, Nat.le_refl _, HR15.out, HZ.out, HB15.out⟩
                              · by_cases hzt : z' = t
                                · have HZ := hide (HNo.out (by rw [if_neg (fun hh => hh.2 hzt)] at hfi; omega))
                                  clear HNx HNo HRs HBs hfi HS15
                                  subst hzt
                                  go_wp2_with fail
                                  go_roundg (R - (z' + 1))
                                  case measure => omega
                                  case rel => exact ⟨z' + 1, by go_num, by omega, Nat.le_refl _, HR15.out, HZ.out, HB15.out⟩
                                · have hcc : cz = cz' + 1 := by rw [if_pos ⟨rfl, hzt⟩] at hfi; exact hfi
                                  subst hcc
                                  have HZ := hide (HNx.out (cz' : Int) rfl)
                                  have HRz := hide (HRs.out (.int .i64 (cz' : Int)))
                                  have HBz := hide (HBs.out (.int .i64 (cz' : Int)))
                                  have hzti : ¬ (z' : Int) = t := by omega
                                  have e9 : wrap64 (((cz' + 1 : Nat) : Int) - 1) = (cz' : Int) := by unfold wrap64; omega
                                  clear HNx HNo HRs HBs hfi HS15 HR15 HB15
                                  obtain ⟨cy, hcy⟩ : ∃ cy : Int, cy = ((cz' + 1 : Nat) : Int) := ⟨_, rfl⟩
                                  rw [← hcy] at cl e9
                                  clear hcy hc1
                                  go_wp2_with fail
                                  go_roundg (R - (z' + 1))
                                  case measure => omega
                                  case rel => exact ⟨z' + 1, by go_num, by omega, Nat.le_refl _, HRz.out, HZ.out, HBz.out⟩
                            · have hzRi : ¬ (z' : Int) < R := by omega
                              have HZ : Hid (TkS w wr p q pb lq aq wq tq lb fb R S P (fun i => (C (fill Fl t) i : Int)) (fill Fl t)) := hide (HS15.out.congrL (fun i hi => by rw [if_pos (by omega)]))
                              clear HS15
                              go_wp2_with fail
                              go_roundg (R - (n + 1))
                              case measure => omega
                              case rel => exact ⟨n + 1, fill Fl t, by go_num, by omega, Nat.le_refl _, HZ.out, HCf.out, HB15.out⟩
          · have hnR : n = R := by omega
            have hlti : ¬ (n : Int) < R := by omega
            have hfull := cnt_full R (show R ≤ cnt Fl R by rw [HCn.out]; omega)
            have HAll : Hid (∀ i, i < R → G1 i < G2 i → Fl i = true) := hide (fun i hi _ => hfull i hi)
            have HDn := hide (HDo.out Fl (fun i hi _ => hfull i hi))
            clear hfull HB8 HCn
            obtain ⟨wz, hwz⟩ : ∃ wz, wz = wr := ⟨_, rfl⟩
            subst hwz
            go_wp2_with fail
            go_loopg [31] 70000 (fun gg s31 wr => ∃ (i : Nat), s31 = .int .i64 (i : Int) ∧ i ≤ R ∧ R - i ≤ gg ∧ Aside (TkS w wr p q pb lq aq wq tq lb fb R S P (fun i => (C Fl i : Int)) (Fl)))
            case atStart => exact ⟨0, rfl, by omega, by omega, HS.out⟩
            case round =>
              obtain ⟨i, rfl, hi, hgi, hts⟩ := hrel
              have HZ := hide hts.out
              clear hts HS
              by_cases hlt : i < R
              · have hlti : (i : Int) < R := by omega
                have HC := hide (HGo.out wr i hlt)
                obtain ⟨c0, c1, c2, c3, c4, c5, c6, c7, c8⟩ := HZ.out.v.cs
                go_wp2_with fail
                refine (HC.out).mono ?_
                rintro e w8 ⟨rfl, ht8⟩
                have HZ8 := hide (HZ.out.turned0 ht8)
                have cf := HZ8.out.fl.cell hlt
                have cl := HZ8.out.lf.cell hlt
                rw [HDn.out i hlt] at cl
                have HA := hide (HAll.out i hlt)
                clear ht8 HZ HC c0 c1 c2 c3 c4 c5 c6 c7 c8
                generalize G1 i = a1 at *
                generalize G2 i = a2 at *
                by_cases hg : a1 < a2
                · have hgi2 : (a1 : Int) < a2 := by omega
                  rw [HA.out hg] at cf
                  go_wp2_with fail
                  go_roundg (R - (i + 1))
                  case measure => omega
                  case rel => exact ⟨i + 1, by go_num, by omega, Nat.le_refl _, HZ8.out⟩
                · have hgi2 : ¬ (a1 : Int) < a2 := by omega
                  go_wp2_with fail
                  go_roundg (R - (i + 1))
                  case measure => omega
                  case rel => exact ⟨i + 1, by go_num, by omega, Nat.le_refl _, HZ8.out⟩
              · have hlti : ¬ (i : Int) < R := by omega
                have HTe := hide HZ.out.t
                clear HZ
                go_wp2_with fail
                go_ret
                exact ⟨rfl, HTe.out⟩
        -- END

set_option maxRecDepth 100000 in
theorem planTakes_lifted (os : Os) (started : os.Started) (H : Type) (enc : TypeId × Value → H) :
    ReturnsInHanded {} Tryd.checked os 4 .any (fun w args => (Rows.planTakesSpec.pre enc Tryd.prog Tryd.f4 [] false w args ∧ laidMetH Tryd.prog laidTab w) ∧ sizedMet enc Tryd.prog Tryd.f4 (OpenSpec.ofChange Rows.planTakesSpec) false w args)
      (Rows.planTakesSpec.post enc Tryd.prog Tryd.f4 false true false false) := by
  refine returnsInHanded_of_change_and (C := Tryd.checked) (X := fun w _ => laidMetH Tryd.prog laidTab w) (fun _ _ _ hh h => h.of_heap hh) own started (by kernel_rfl) Tryd.func4
    (ChangeSpec.witness_shaped (enc := enc) (C := Tryd.checked) (os := os) (X := fun w _ => laidMetH Tryd.prog laidTab w) false (World.doorLaid Tryd.prog 400 os) #[.slice none 0 0, .int .i64 0, .slice none 0 0] 8 rfl (World.shaped_of_RefB (by kernel_rfl) (by kernel_rfl)) (by kernel_rfl) (by kernel_rfl) (by kernel_rfl) (door_met os _)) ?_
  intro W base args ds gs before hval0 hW _ _ hL _
  have hTab := tab_of hL
  have hval : ∀ (j : Nat) t v, Tryd.f4.params[j]? = some t → args[j]? = some v → Value.okWide Tryd.prog W .any base t v := hval0
  have hW' := hW
  obtain ⟨p, q, hA0, hV, rfl, hfz, hnd⟩ := hW
  have hA : DataW.TrodAll enc Tryd.prog W 0 (fun _ => true) true Tryd.f4.params.toList args.toList ds p := hA0
  rw [Tryd.params4] at hA hval
  obtain ⟨v0, vs0, d0, ds0, p0, q0, hargs, rfl, rfl, h0, r0⟩ := trodAll_cons hA
  obtain ⟨v1, vs1, d1, ds1, p1, q1, rfl, rfl, rfl, h1, r1⟩ := trodAll_cons r0
  obtain ⟨v2, vs2, d2, ds2, p2, q2, rfl, rfl, rfl, h2, r2⟩ := trodAll_cons r1
  obtain ⟨rfl, rfl, rfl⟩ := trodAll_nil r2
  obtain rfl : args = #[v0, v1, v2] := by cases args; simp_all
  obtain ⟨rfl, rfl⟩ := trodVars_none hV
  obtain ⟨a0, len0, cap0, rfl⟩ := okWide_slice Tryd.underlying22 (hval 0 22 v0 rfl rfl)
  have k0 := h0
  have lt0 : ∀ x ∈ p0, x.block < W.heap.size := by obtain ⟨m, hm⟩ := k0; exact DataW.trod_lt m _ _ _ hm
  obtain ⟨z0, w0⟩ := open_pairs h0
  obtain ⟨a1, rfl, rfl, rfl, w1⟩ := open_int Tryd.underlying3 (hval 1 3 v1 rfl rfl) h1
  obtain ⟨a2, len2, cap2, rfl⟩ := okWide_slice Tryd.underlying28 (hval 2 28 v2 rfl rfl)
  have k2 := h2
  have lt2 : ∀ x ∈ p2, x.block < W.heap.size := by obtain ⟨m, hm⟩ := k2; exact DataW.trod_lt m _ _ _ hm
  obtain ⟨z2, w2⟩ : ∃ zs, IsRow .i64 W a2 len2 cap2 zs := by
    obtain ⟨fuel, hf⟩ := h2
    rcases open_ints Tryd.underlying28 Tryd.underlying3 (by kernel_rfl) hf with ⟨hcs, _⟩ | ⟨x, l, c, zs, hcs, _, hl, hm, hz, _, hcell, hwz⟩
    · simp [Value.cells] at hcs
      obtain ⟨rfl, rfl, rfl⟩ := hcs
      exact ⟨[], .inl ⟨rfl, rfl, rfl, rfl⟩⟩
    · simp [Value.cells] at hcs
      obtain ⟨rfl, rfl, rfl⟩ := hcs
      exact ⟨zs, .inr ⟨_, rfl, hl, hm, by simpa using hz, hcell, hwz⟩⟩
  simp only [List.append_nil] at hW'
  clear hA0 hval0
  refine (planTakes_walk a0 len0 cap0 z0 a1 a2 len2 cap2 z2 W w0 w1 w2 hTab).mono fun e W' ⟨he, ht⟩ => ?_
  subst he
  have bel : Below W.heap.size W W' := ht.below0
  exact ⟨_, rfl, _, _, _, [], _, [], hW', trodAll_mk1 (shut_bool Tryd.underlying4 _), (trodAll_cons_mk (Below.trod laidOut (by kernel_rfl) (of_decide_eq_true (by kernel_rfl)) k0 bel lt0) (trodAll_cons_mk (shut_int Tryd.underlying3 w1) (trodAll_cons_mk (Below.trod laidOut (by kernel_rfl) (of_decide_eq_true (by kernel_rfl)) k2 bel lt2) trodAll_mk0))), rfl, bel.frame _, fun h => by cases h⟩

theorem planTakes_over : Rows.planTakesRow.holds Tryd.pinned (OpenSpec.ofChange Rows.planTakesSpec) :=
  OpenClaim.holds_of_wide 4 Tryd.f4 rfl rfl rfl rfl rfl rfl rfl ⟨rfl, rfl, rfl, rfl, rfl⟩ rfl rfl rfl rfl rfl (by kernel_rfl) Tryd.func4 (by kernel_rfl)
    (of_decide_eq_true (by kernel_rfl)) (by unfold Func.isWrapper; first | (rw [if_pos (by decide +kernel)]; kernel_rfl) | (rw [if_neg (by decide +kernel)]; exact ⟨rfl, rfl⟩))
    (fun os started H enc _ => planTakes_lifted os started H enc)

theorem planTakes_holds : Rows.PlanTakesSaid := planTakes_over

theorem planTakes_card : Rows.PlanTakesCardSaid :=
  Claim7.holds_tied_plain_at .later [] [.data] true _ false
    planTakes_holds (fun _ h => by cases h) (by kernel_rfl) (fun _ h => by cases h) planTakes_row_tie rfl ⟨rfl, rfl⟩ (by kernel_rfl) rfl
    (fun f fn hf hfn => by
      obtain rfl : f = 4 := Option.some.inj ((show Tryd.prog.funcNamed "ballast/ballastlaw13.PlanTakes" = some 4 by kernel_rfl).symm.trans hf) |>.symm
      obtain rfl : fn = Tryd.f4 := (Option.some.inj (Tryd.func4.symm.trans hfn)).symm
      exact ⟨by kernel_rfl, fun j t ht => by
        rw [Tryd.params4] at ht
        have h3 : t ∈ [22, 3, 28] := by
          have h4 := Array.mem_of_getElem? ht
          simpa using h4
        have h5 : ∀ u, u ∈ [22, 3, 28] → Tryd.prog.wantsStandIn u = false := by
          intro u hu
          simp only [List.mem_cons, List.not_mem_nil, or_false] at hu
          rcases hu with rfl | rfl | rfl <;> kernel_rfl
        exact h5 t h3⟩)
    (by kernel_rfl)

end Go.Proofs.YtcckflcjjgckoaaDoor
