/-
  BitsPlays: blocks are marked, cleared, counted and found, call by call, as the document's own object does. For every number of words and every list of calls.
-/
import Derived.Test.YtaofkddondaceaaDoorBitsAsked
import Derived.Test.YtaofkddondaceaaDoorOpsOpen
import Derived.Test.YtaofkddondaceaaDoorLawLaid
import Derived.Test.YtaofkddondaceaaDoorCards
import Derived.Test.YtaofkddondaceaaDoorTie
import Derived.SevenTiedAt
namespace Go.Proofs.YtaofkddondaceaaDoor
open Go.ChangeShapes Go.WideShapes Go.ChangeAt Go.RowKit
set_option linter.unusedVariables false

/-- Both objects, of the same sizes. -/
structure Both (w wr : World) (p q p2 q2 n : Nat) (S : Nat → Nat) : Prop where
  b : Bts wr p q n (sidesOf S)
  r : RB wr p2 q2 n S
  t : Turned [] w wr
  np : w.heap.size ≤ p
  nq : w.heap.size ≤ q
  np2 : w.heap.size ≤ p2
  nq2 : w.heap.size ≤ q2
  pp : p ≠ p2
  pq : p ≠ q2
  qp : q ≠ p2
  qq : q ≠ q2
theorem Both.turned0 {w wr wz : World} {p q p2 q2 n : Nat} {S : Nat → Nat} (h : Both w wr p q p2 q2 n S) (t : Turned [] wr wz) : Both w wz p q p2 q2 n S :=
  ⟨h.b.turned0 t, h.r.turned0 t, h.t.trans t, h.np, h.nq, h.np2, h.nq2, h.pp, h.pq, h.qp, h.qq⟩
/-- One step of the program's, one of the document's. -/
theorem Both.step {w wr w1 w2 : World} {p q p2 q2 n : Nat} {S S' : Nat → Nat} (h : Both w wr p q p2 q2 n S) (hb : Bts w1 p q n (sidesOf S')) (t1 : Turned [q] wr w1) (hr : RB w2 p2 q2 n S') (t2 : Turned [q2] w1 w2) : Both w w2 p q p2 q2 n S' :=
  ⟨hb.turned t2 (by simpa using h.pq) (by simpa using h.qq) (by simp; exact fun e => h.r.q0 e.symm), hr, (h.t.trans_new t1 (fun i hi => by simp at hi; subst hi; exact .inr h.nq)).trans_new t2 (fun i hi => by simp at hi; subst hi; exact .inr h.nq2), h.np, h.nq, h.np2, h.nq2, h.pp, h.pq, h.qp, h.qq⟩
theorem Both.mid {w wr w1 : World} {p q p2 q2 n : Nat} {S : Nat → Nat} (h : Both w wr p q p2 q2 n S) (t1 : Turned [q] wr w1) : RB w1 p2 q2 n S := h.r.turned t1 (by simp; exact fun e => h.qp e.symm) (by simp; exact fun e => h.qq e.symm)

theorem bclear_one (p q n g : Nat) (S : Nat → Nat) (x y : Int) (w : World) (h : Bts w p q n (sidesOf S)) (hs : Bl n S) (hsp : SpRd w g [(x, y)]) (hg : g ≠ q) :
    Calls Tryd.prog 15 #[.pointer (some ⟨p, 0, none⟩), .slice (some ⟨g, 0, none⟩) 1 1] w fun e w' => e = .returned (.tuple #[]) ∧ Bts w' p q n (sidesOf (clr S (kp n x) (kp n y))) ∧ Turned [q] w w' := by
  by_cases hn : n = 0
  · subst hn
    refine (clear_any (some ⟨p, 0, none⟩) p q 0 S (some ⟨g, 0, none⟩) 1 1 [(x, y)] w (h.ob hs) (by omega) rfl (fun h => absurd h (by omega)) (fun _ => ⟨g, rfl, hsp, hg⟩) h.ltq [] (fun h => absurd h (by omega))).mono ?_
    rintro e w' ⟨he, _, ht⟩
    have e1 : clr S (kp 0 x) (kp 0 y) = S := by
      funext k; unfold clr; rw [if_neg (by have := kp_le 0 y; omega)]
    rw [e1]
    exact ⟨he, h.turned0 ht, ht.mono (by simp)⟩
  · refine (clear_any (some ⟨p, 0, none⟩) p q n S (some ⟨g, 0, none⟩) 1 1 [(x, y)] w (h.ob hs) (by omega) rfl (fun h => absurd h (by omega)) (fun _ => ⟨g, rfl, hsp, hg⟩) h.ltq [q] (fun _ => by simp)).mono ?_
    rintro e w' ⟨he, hob, ht⟩
    exact ⟨he, (hob.own (by omega)).2, ht⟩
theorem bclear_all (p q n : Nat) (S : Nat → Nat) (w : World) (h : Bts w p q n (sidesOf S)) (hs : Bl n S) :
    Calls Tryd.prog 15 #[.pointer (some ⟨p, 0, none⟩), .slice none 0 0] w fun e w' => e = .returned (.tuple #[]) ∧ Bts w' p q n (sidesOf (clr S 0 n)) ∧ Turned [q] w w' := by
  by_cases hn : n = 0
  · subst hn
    refine (clear_any (some ⟨p, 0, none⟩) p q 0 S none 0 0 [(0, ((0 : Nat) : Int))] w (h.ob hs) (by omega) rfl (fun _ => rfl) (fun h => absurd h (by omega)) h.ltq [] (fun h => absurd h (by omega))).mono ?_
    rintro e w' ⟨he, _, ht⟩
    have e1 : clr S 0 0 = S := by
      funext k; unfold clr; rw [if_neg (by omega)]
    rw [e1]
    exact ⟨he, h.turned0 ht, ht.mono (by simp)⟩
  · refine (clear_any (some ⟨p, 0, none⟩) p q n S none 0 0 [(0, (n : Int))] w (h.ob hs) (by omega) rfl (fun _ => rfl) (fun h => absurd h (by omega)) h.ltq [q] (fun _ => by simp)).mono ?_
    rintro e w' ⟨he, hob, ht⟩
    have e1 : clrs n S [(0, (n : Int))] = clr S 0 n := by
      show clr S (kp n 0) (kp n (n : Int)) = _
      rw [show kp n 0 = 0 by (unfold kp; omega), show kp n (n : Int) = n by (unfold kp; omega)]
    rw [e1] at hob
    exact ⟨he, (hob.own (by omega)).2, ht⟩
theorem span_new (w : World) (x y : Int) : SpRd (w.alloc (.cells #[.int .i64 x, .int .i64 y] 38)) w.heap.size [(x, y)] := ⟨fun i r hr => by
  cases i with
  | zero =>
    simp at hr
    subst hr
    exact ⟨by rw [cell_of_heap (heap_alloc_new _ _)]; rfl, by rw [cell_of_heap (heap_alloc_new _ _)]; rfl⟩
  | succ i => simp at hr⟩
theorem tmod8 (K : Int) : -8 < K.tmod 8 ∧ K.tmod 8 < 8 := ⟨Int.lt_tmod_of_pos K (by omega), Int.tmod_lt_of_pos K (by omega)⟩

set_option maxHeartbeats 4000000 in
set_option maxRecDepth 100000 in
theorem bitsPlays_walk (x : Int) (ao : Option Addr) (len cap : Nat) (cs : List Op3) (w : World) (hx : (Lit.int .i64 x).wf = true) (h : ORd w ao len cs) (hT : Tab w) :
    Calls Tryd.prog 3 #[.int .i64 x, .slice ao len cap] w fun e w' => e = .returned (.bool true) ∧ Turned [] w w' := by
  have hxr := wf_range hx
  have HT := hide hT
  have HO := hide h
  have HL := hide h.size
  have hroom := h.room
  have HAw := hide (awake_any w hT)
  clear h hT hx
  go_enter Tryd.func3, Tryd.ntmps3
  go_wp2_with fail
  refine (HAw.out).mono ?_
  rintro e w1 ⟨rfl, ht1⟩
  have HT1 := hide ht1
  clear ht1 HAw
  go_upto_if 20 with fail
  go_cut [0] (fun v wc => ∃ y : Int, v = .int .i64 y ∧ y ≤ 2000 ∧ -9223372036854775808 ≤ y ∧ Aside (wc = w1))
  case first =>
    by_cases h1 : 2000 < x
    · go_wp2_with fail
      go_meet
      exact ⟨2000, rfl, by omega, by omega, rfl⟩
    · go_wp2_with fail
      go_meet
      exact ⟨x, rfl, by omega, by omega, rfl⟩
  case rest =>
    obtain ⟨y, rfl, hy1, hy2, HWc⟩ := hcut
    have hWc := HWc.out
    subst hWc
    clear HWc
    have HN := hide (new_any y wc (by unfold In64; omega) (HT.out.turned HT1.out (by simp)))
    have hn2 : kp 65536 y ≤ 2000 := by unfold kp; omega
    have HRN := hide (fun w h => rnew_any y w (by unfold In64; omega) h)
    generalize kp 65536 y = n at *
    go_wp2_with fail
    refine (HN.out).mono ?_
    rintro e w2 ⟨p, q, rfl, hb2, hp2, hq2, ht2⟩
    have HB2 := hide hb2
    have HP2 := hide (And.intro (Nat.le_trans HT1.out.size hp2) (Nat.le_trans HT1.out.size hq2))
    have HT2 := hide (HT1.out.trans ht2)
    clear hb2 hp2 hq2 ht2 HN HT1
    go_wp2_with fail
    refine (HRN.out w2 HB2.out.tab).mono ?_
    rintro e w3 ⟨p2, q2, rfl, hr3, hp3, hq3, ht3⟩
    have HBo : Hid (Both w w3 p q p2 q2 n S0) := ⟨HB2.out.turned0 ht3, hr3, HT2.out.trans ht3, HP2.out.1, HP2.out.2, Nat.le_trans HT2.out.size hp3, Nat.le_trans HT2.out.size hq3, by have := HB2.out.ltp; omega, by have := HB2.out.ltp; omega, by have := HB2.out.ltq; omega, by have := HB2.out.ltq; omega⟩
    have c0 := hr3.c0
    have HWd := hide (fun m => words_any (some ⟨p, 0, none⟩) n _ (w3.drewN m) (HBo.out.b.drewN m).brd)
    clear hr3 hp3 hq3 ht3 HRN HB2 HP2 HT2
    go_wp2_with fail
    go_quiet ((go_at_call 12; exact Calls.quiet_of_same (HWd.out _)))
    have HBq := hide (HBo.out.turned0 ((Turned.refl [] w3).drewN nq))
    clear c0 HWd HBo
    generalize w3.drewN nq = w4 at *
    go_upto_block 0 with fail
    go_cut [8, 9, 10, 11, 12, 13, 14, 15] (fun _ _ _ _ _ _ _ _ wc => ∃ S : Nat → Nat, Aside (Both w wc p q p2 q2 n S))
    case first =>
      go_wp2_with fail
      go_loopg [8] 80 (fun gg i wr => ∃ (j : Nat) (S : Nat → Nat), j ≤ len ∧ j ≤ 80 ∧ gg = 80 - j ∧ i = .int .i64 j ∧ Aside (Both w wr p q p2 q2 n S))
      case atStart => exact ⟨0, S0, Nat.zero_le _, by omega, rfl, rfl, HBq.out⟩
      case round =>
        clear HBq
        obtain ⟨j, S, hj, hj8, hgg, rfl, HBo⟩ := hrel
        by_cases hlt : j < len ∧ j < 80
        · obtain ⟨o, ho⟩ : ∃ o, cs[j]? = some o := ⟨_, List.getElem?_eq_getElem (by have := HL.out; omega)⟩
          obtain ⟨b, off, rfl, c0, c1, c2⟩ := (HO.out.turned HBo.out.t).cell j o ho
          have hin := HO.out.inn o (List.mem_of_getElem? ho)
          obtain ⟨K, At, Z⟩ := o
          simp only at c0 c1 c2
          obtain ⟨hKr, hAr, hZr⟩ := hin
          have ht8 := tmod8 K
          simp only at hKr hAr hZr
          have hlt1 : (j : Int) < (len : Int) := by omega
          have hlt2 : (j : Int) < 80 := by omega
          clear ho
          go_upto_if 55 with fail
          have ht5 : Turned [] wr (wr.alloc (.cells #[.int .i64 K, .int .i64 At, .int .i64 Z] 33)) := (Turned.refl [] wr).alloc _
          have HB5 := hide (HBo.out.turned0 ht5)
          have hgp : Hid (p < wr.heap.size ∧ q < wr.heap.size ∧ p2 < wr.heap.size ∧ q2 < wr.heap.size) := ⟨HBo.out.b.ltp, HBo.out.b.ltq, HBo.out.r.ltp, HBo.out.r.ltq⟩
          have HD : Hid ((wr.alloc (.cells #[.int .i64 K, .int .i64 At, .int .i64 Z] 33)).cell? ⟨wr.heap.size, 1, none⟩ = some (.int .i64 At) ∧ (wr.alloc (.cells #[.int .i64 K, .int .i64 At, .int .i64 Z] 33)).cell? ⟨wr.heap.size, 2, none⟩ = some (.int .i64 Z)) := ⟨by rw [cell_of_heap (heap_alloc_new _ _)]; rfl, by rw [cell_of_heap (heap_alloc_new _ _)]; rfl⟩
          clear ht5 c0 c1 c2 HBo
          generalize wr.alloc (.cells #[.int .i64 K, .int .i64 At, .int .i64 Z] 33) = w5 at *
          generalize wr.heap.size = g at *
          go_cut [10] (fun v wd => ∃ k : Int, v = .int .i64 k ∧ 0 ≤ k ∧ k < 8 ∧ wd = w5)
          case first =>
            generalize K.tmod 8 = kt at *
            by_cases hk : kt < 0
            · go_wp2_with fail
              go_meet
              case rel => exact ⟨kt + 8, by go_num, by omega, by omega, rfl⟩
            · go_wp2_with fail
              go_meet
              case rel => exact ⟨kt, rfl, by omega, by omega, rfl⟩
          case rest =>
            obtain ⟨k, rfl, hk0, hk8, rfl⟩ := hcut
            clear ht8
            obtain ⟨w6, hw6⟩ : ∃ w6, w6 = wc := ⟨_, rfl⟩
            subst hw6
            go_upto_block 2 with fail
            go_cut [11, 12, 13, 14] (fun _ _ _ _ wd => ∃ S' : Nat → Nat, Aside (Both w wd p q p2 q2 n S' ∧ wd.cell? ⟨g, 1, none⟩ = some (.int .i64 At) ∧ wd.cell? ⟨g, 2, none⟩ = some (.int .i64 Z)))
            case first =>
              obtain ⟨d1, d2⟩ := HD.out
              have hgq : g ≠ q := by have := hgp.out.2.1; omega
              have hgq2 : g ≠ q2 := by have := hgp.out.2.2.2; omega
              by_cases h4 : k < 4
              · have HM1 := hide (mark_any p q n S At Z w6 HB5.out.b HB5.out.r.bl hZr)
                have HM2 := hide (fun w h => rmark_any p2 q2 n S At Z w hZr h)
                generalize markT n S At Z = M at *
                obtain ⟨t, er, S'⟩ := M
                simp only at HM1 HM2
                go_wp2_with fail
                refine (HM1.out).mono ?_
                rintro e w7 ⟨rfl, hb7, ht7⟩
                have e1 : w7.cell? ⟨g, 1, none⟩ = some (.int .i64 At) := by rw [ht7.cell (block_lt d1) (by simpa using hgq)]; exact d1
                have e2 : w7.cell? ⟨g, 2, none⟩ = some (.int .i64 Z) := by rw [ht7.cell (block_lt d2) (by simpa using hgq)]; exact d2
                have HB7 := hide (And.intro hb7 ht7)
                clear hb7 ht7 d1 d2
                go_wp2_with fail
                refine (HM2.out w7 (HB5.out.mid HB7.out.2)).mono ?_
                rintro e w8 ⟨rfl, hr8, ht8⟩
                have f1 : w8.cell? ⟨g, 1, none⟩ = some (.int .i64 At) := by rw [ht8.cell (block_lt e1) (by simpa using hgq2)]; exact e1
                have f2 : w8.cell? ⟨g, 2, none⟩ = some (.int .i64 Z) := by rw [ht8.cell (block_lt e2) (by simpa using hgq2)]; exact e2
                have HX := hide (And.intro (HB5.out.step HB7.out.1 HB7.out.2 hr8 ht8) (And.intro f1 f2))
                clear hr8 ht8 e1 e2 f1 f2
                have hbt : (t != t) = false := by simp
                go_wp2_with fail
                go_meet
                case rel => exact ⟨S', HX.out⟩
              · have hd4 : decide (k < 4) = false := decide_eq_false h4
                by_cases h6 : k = 6
                · subst h6
                  have ht7 : Turned [] w6 (w6.alloc (.cells #[.int .i64 At, .int .i64 Z] 38)) := (Turned.refl [] w6).alloc _
                  have HB7 := hide (HB5.out.turned0 ht7)
                  have hq6 : w6.heap.size ≠ q := by have := HB5.out.b.ltq; omega
                  have HC1 := hide (bclear_one p q n w6.heap.size S At Z _ HB7.out.b HB7.out.r.bl (span_new w6 At Z) hq6)
                  have e1 : (w6.alloc (.cells #[.int .i64 At, .int .i64 Z] 38)).cell? ⟨g, 1, none⟩ = some (.int .i64 At) := by rw [ht7.cell (block_lt d1) (by simp)]; exact d1
                  have e2 : (w6.alloc (.cells #[.int .i64 At, .int .i64 Z] 38)).cell? ⟨g, 2, none⟩ = some (.int .i64 Z) := by rw [ht7.cell (block_lt d2) (by simp)]; exact d2
                  go_wp2_with fail
                  clear d1 d2 ht7 hq6
                  generalize w6.alloc (.cells #[.int .i64 At, .int .i64 Z] 38) = w7 at *
                  generalize w6.heap.size = g7 at *
                  refine (HC1.out).mono ?_
                  rintro e w8 ⟨rfl, hb8, ht8⟩
                  have f1 : w8.cell? ⟨g, 1, none⟩ = some (.int .i64 At) := by rw [ht8.cell (block_lt e1) (by simpa using hgq)]; exact e1
                  have f2 : w8.cell? ⟨g, 2, none⟩ = some (.int .i64 Z) := by rw [ht8.cell (block_lt e2) (by simpa using hgq)]; exact e2
                  have HR8 := hide (HB7.out.mid ht8)
                  have HB8 := hide (And.intro hb8 ht8)
                  clear hb8 ht8 e1 e2 HC1
                  have ht9 : Turned [] w8 (w8.alloc (.cells #[.int .i64 At, .int .i64 Z] 38)) := (Turned.refl [] w8).alloc _
                  have HR9 := hide (HR8.out.turned0 ht9)
                  have hq8 : w8.heap.size ≠ q2 := by have := HR8.out.ltq; omega
                  have HC2 := hide (rclear_one p2 q2 n w8.heap.size 1 S At Z _ HR9.out (span_new w8 At Z) hq8)
                  have g1 : (w8.alloc (.cells #[.int .i64 At, .int .i64 Z] 38)).cell? ⟨g, 1, none⟩ = some (.int .i64 At) := by rw [ht9.cell (block_lt f1) (by simp)]; exact f1
                  have g2 : (w8.alloc (.cells #[.int .i64 At, .int .i64 Z] 38)).cell? ⟨g, 2, none⟩ = some (.int .i64 Z) := by rw [ht9.cell (block_lt f2) (by simp)]; exact f2
                  have HB9 := hide (And.intro (HB8.out.1.turned0 ht9) (HB8.out.2.trans (ht9.mono (T := [q]) (by simp))))
                  go_wp2_with fail
                  clear f1 f2 ht9 hq8
                  generalize w8.alloc (.cells #[.int .i64 At, .int .i64 Z] 38) = w9 at *
                  generalize w8.heap.size = g9 at *
                  refine (HC2.out).mono ?_
                  rintro e w10 ⟨rfl, hr10, ht10⟩
                  have k1 : w10.cell? ⟨g, 1, none⟩ = some (.int .i64 At) := by rw [ht10.cell (block_lt g1) (by simpa using hgq2)]; exact g1
                  have k2 : w10.cell? ⟨g, 2, none⟩ = some (.int .i64 Z) := by rw [ht10.cell (block_lt g2) (by simpa using hgq2)]; exact g2
                  have HX := hide (And.intro (HB7.out.step HB9.out.1 HB9.out.2 hr10 ht10) (And.intro k1 k2))
                  clear hr10 ht10 g1 g2 k1 k2 HC2
                  go_wp2_with fail
                  go_meet
                  case rel => exact ⟨_, HX.out⟩
                · by_cases h7 : k = 7 ∧ Z < 3
                  · obtain ⟨h7, h73⟩ := h7
                    subst h7
                    have HC1 := hide (bclear_all p q n S w6 HB5.out.b HB5.out.r.bl)
                    have HC2 := hide (fun w h => rclear_all p2 q2 n 0 S w h)
                    go_wp2_with fail
                    refine (HC1.out).mono ?_
                    rintro e w7 ⟨rfl, hb7, ht7⟩
                    have e1 : w7.cell? ⟨g, 1, none⟩ = some (.int .i64 At) := by rw [ht7.cell (block_lt d1) (by simpa using hgq)]; exact d1
                    have e2 : w7.cell? ⟨g, 2, none⟩ = some (.int .i64 Z) := by rw [ht7.cell (block_lt d2) (by simpa using hgq)]; exact d2
                    have HB7 := hide (And.intro hb7 ht7)
                    clear hb7 ht7 d1 d2
                    go_wp2_with fail
                    refine (HC2.out w7 (HB5.out.mid HB7.out.2)).mono ?_
                    rintro e w8 ⟨rfl, hr8, ht8⟩
                    have f1 : w8.cell? ⟨g, 1, none⟩ = some (.int .i64 At) := by rw [ht8.cell (block_lt e1) (by simpa using hgq2)]; exact e1
                    have f2 : w8.cell? ⟨g, 2, none⟩ = some (.int .i64 Z) := by rw [ht8.cell (block_lt e2) (by simpa using hgq2)]; exact e2
                    have HX := hide (And.intro (HB5.out.step HB7.out.1 HB7.out.2 hr8 ht8) (And.intro f1 f2))
                    clear hr8 ht8 e1 e2 f1 f2
                    go_wp2_with fail
                    go_meet
                    case rel => exact ⟨_, HX.out⟩
                  · have HX := hide (And.intro HB5.out (And.intro d1 d2))
                    by_cases h77 : k = 7
                    · subst h77
                      have h73 : ¬ Z < 3 := fun h => h7 ⟨rfl, h⟩
                      go_wp2_with fail
                      go_meet
                      case rel => exact ⟨S, HX.out⟩
                    · have hb6 : (k == 6) = false := by simp; exact h6
                      have hb7 : (k == 7) = false := by simp; exact h77
                      go_wp2_with fail
                      go_meet
                      case rel => exact ⟨S, HX.out⟩
            case rest =>
              obtain ⟨S', HX⟩ := hcut
              obtain ⟨d1, d2⟩ := HX.out.2
              have HA := hide (asked_any p q p2 q2 n S' At Z wc hAr HX.out.1.b HX.out.1.r)
              go_wp2_with fail
              refine (HA.out).mono ?_
              rintro e w9 ⟨rfl, ht9⟩
              have HB9 := hide (HX.out.1.turned0 ht9)
              clear ht9 HA HX d1 d2
              go_wp2_with fail
              go_roundg (80 - (j + 1))
              case measure => omega
              case rel => exact ⟨j + 1, S', by omega, by omega, rfl, by go_num, HB9.out⟩
        · by_cases h1 : j < len
          · have h2 : ¬ j < 80 := by omega
            go_wp2_with fail
            go_meet
            case rel => exact ⟨S, HBo.out⟩
          · have hd : decide ((j : Int) < (len : Int)) = false := decide_eq_false (by omega)
            go_wp2_with fail
            go_meet
            case rel => exact ⟨S, HBo.out⟩
    case rest =>
      obtain ⟨S, HBo⟩ := hcut
      have HBh := hide HBo.out
      clear HBo HBq
      go_wp2_with fail
      go_loopw [16, 17] (fun i _ wr => ∃ c : Int, -1 ≤ c ∧ c ≤ (n : Int) + 1 ∧ i = .int .i64 c ∧ Hid (Both w wr p q p2 q2 n S)) (fun i _ _ => ((n : Int) + 1 - intOf i).toNat)
      case atStart => exact ⟨-1, by omega, by omega, rfl, HBh⟩
      case round =>
        obtain ⟨c, hc1, hc2, rfl, HB⟩ := hrel
        have c0 := HB.out.r.c0
        by_cases hlt : c ≤ (n : Int)
        · have HA := hide (asked_any p q p2 q2 n S c (c + 7) _ (by unfold In64; omega) HB.out.b HB.out.r)
          go_wp2_with fail
          refine (HA.out).mono ?_
          rintro e w9 ⟨rfl, ht9⟩
          have HB9 := hide (HB.out.turned0 ht9)
          clear ht9 HA HB c0
          go_wp2_with fail
          go_roundw
          case rel => exact ⟨c + 1, by omega, by omega, by go_num, HB9⟩
          case measure => simp [intOf]; omega
        · have hd : decide (c ≤ (n : Int)) = false := decide_eq_false hlt
          go_wp2_with fail
          go_ret
          exact ⟨rfl, HB.out.t⟩

set_option maxRecDepth 100000 in
theorem bitsPlays_lifted (os : Os) (started : os.Started) (H : Type) (enc : TypeId × Value → H) :
    ReturnsInHanded {} Tryd.checked os 3 .any (fun w args => (Rows.bitsPlaysSpec.pre enc Tryd.prog Tryd.f3 [] false w args ∧ laidMetH Tryd.prog laidTab w) ∧ sizedMet enc Tryd.prog Tryd.f3 (OpenSpec.ofChange Rows.bitsPlaysSpec) false w args)
      (Rows.bitsPlaysSpec.post enc Tryd.prog Tryd.f3 false true false false) := by
  refine returnsInHanded_of_change_and (C := Tryd.checked) (X := fun w _ => laidMetH Tryd.prog laidTab w) (fun _ _ _ hh h => h.of_heap hh) own started (by kernel_rfl) Tryd.func3
    (ChangeSpec.witness_shaped (enc := enc) (C := Tryd.checked) (os := os) (X := fun w _ => laidMetH Tryd.prog laidTab w) false (World.doorLaid Tryd.prog 400 os) #[.int .i64 0, .slice none 0 0] 8 rfl (World.shaped_of_RefB (by kernel_rfl) (by kernel_rfl)) (by kernel_rfl) (by kernel_rfl) (by kernel_rfl) (door_met os _)) ?_
  intro W base args ds gs before hval0 hW _ _ hL _
  have hTab := tab_of hL
  have hval : ∀ (j : Nat) t v, Tryd.f3.params[j]? = some t → args[j]? = some v → Value.okWide Tryd.prog W .any base t v := hval0
  have hW' := hW
  obtain ⟨p, q, hA0, hV, rfl, hfz, hnd⟩ := hW
  have hA : DataW.TrodAll enc Tryd.prog W 0 (fun _ => true) true Tryd.f3.params.toList args.toList ds p := hA0
  rw [Tryd.params3] at hA hval
  obtain ⟨v0, vs0, d0, ds0, p0, q0, hargs, rfl, rfl, h0, r0⟩ := trodAll_cons hA
  obtain ⟨v1, vs1, d1, ds1, p1, q1, rfl, rfl, rfl, h1, r1⟩ := trodAll_cons r0
  obtain ⟨rfl, rfl, rfl⟩ := trodAll_nil r1
  obtain rfl : args = #[v0, v1] := by cases args; simp_all
  obtain ⟨rfl, rfl⟩ := trodVars_none hV
  obtain ⟨a0, rfl, rfl, rfl, w0⟩ := open_int Tryd.underlying3 (hval 0 3 v0 rfl rfl) h0
  obtain ⟨a1, len1, cap1, rfl⟩ := okWide_slice Tryd.underlying22 (hval 1 22 v1 rfl rfl)
  have k1 := h1
  have lt1 : ∀ x ∈ p1, x.block < W.heap.size := by obtain ⟨m, hm⟩ := k1; exact DataW.trod_lt m _ _ _ hm
  obtain ⟨z1, w1⟩ := open_ops h1
  simp only [List.append_nil] at hW'
  clear hA0 hval0
  refine (bitsPlays_walk a0 a1 len1 cap1 z1 W w0 w1 hTab).mono fun e W' ⟨he, ht⟩ => ?_
  subst he
  have bel : Below W.heap.size W W' := ht.below0
  exact ⟨_, rfl, _, _, _, [], _, [], hW', trodAll_mk1 (shut_bool Tryd.underlying4 _), (trodAll_cons_mk (shut_int Tryd.underlying3 w0) (trodAll_cons_mk (Below.trod laidOut (by kernel_rfl) (of_decide_eq_true (by kernel_rfl)) k1 bel lt1) trodAll_mk0)), rfl, bel.frame _, fun h => by cases h⟩

theorem bitsPlays_over : Rows.bitsPlaysRow.holds Tryd.pinned (OpenSpec.ofChange Rows.bitsPlaysSpec) :=
  OpenClaim.holds_of_wide 3 Tryd.f3 rfl rfl rfl rfl rfl rfl rfl ⟨rfl, rfl, rfl, rfl, rfl⟩ rfl rfl rfl rfl rfl (by kernel_rfl) Tryd.func3 (by kernel_rfl)
    (of_decide_eq_true (by kernel_rfl)) (by unfold Func.isWrapper; first | (rw [if_pos (by decide +kernel)]; kernel_rfl) | (rw [if_neg (by decide +kernel)]; exact ⟨rfl, rfl⟩))
    (fun os started H enc _ => bitsPlays_lifted os started H enc)

theorem bitsPlays_holds : Rows.BitsPlaysSaid := bitsPlays_over

theorem bitsPlays_card : Rows.BitsPlaysCardSaid :=
  Claim7.holds_tied_plain_at .later [] [.data] true _ false
    bitsPlays_holds (fun _ h => by cases h) (by kernel_rfl) (fun _ h => by cases h) bitsPlays_row_tie rfl ⟨rfl, rfl⟩ (by kernel_rfl) rfl
    (fun f fn hf hfn => by
      obtain rfl : f = 3 := Option.some.inj ((show Tryd.prog.funcNamed "ballast/ballastlaw05.BitsPlays" = some 3 by kernel_rfl).symm.trans hf) |>.symm
      obtain rfl : fn = Tryd.f3 := (Option.some.inj (Tryd.func3.symm.trans hfn)).symm
      exact ⟨by kernel_rfl, fun j t ht => by
        rw [Tryd.params3] at ht
        have h3 : t ∈ [3, 22] := by
          have h4 := Array.mem_of_getElem? ht
          simpa using h4
        have h5 : ∀ u, u ∈ [3, 22] → Tryd.prog.wantsStandIn u = false := by
          intro u hu
          simp only [List.mem_cons, List.not_mem_nil, or_false] at hu
          rcases hu with rfl | rfl <;> kernel_rfl
        exact h5 t h3⟩)
    (by kernel_rfl)
#print axioms bitsPlays_card
end Go.Proofs.YtaofkddondaceaaDoor
