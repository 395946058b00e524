/-
  The walk of ArenaApart: whatever the order of steps of four threads' asks, all that is told lies apart, within the heap; once headers are laid and buffers retired, the heap can be read as blocks.
-/
import Derived.Test.YtelljfckffmjmaaArenaApartA
import Derived.Test.YtelljfckffmjmaaArenaBlkRd
import Derived.Test.YtelljfckffmjmaaArenaOpen
namespace Go.Proofs.Ytelljfckffmjmaa
open Go.ChangeShapes Go.WideShapes Go.ChangeAt Go.RowKit
set_option linter.unusedVariables false

theorem alloc5 (w : World) (o0 o1 o2 o3 o4 : Obj) : (((((w.alloc o0).alloc o1).alloc o2).alloc o3).alloc o4).heap[w.heap.size]? = some o0 ∧ (((((w.alloc o0).alloc o1).alloc o2).alloc o3).alloc o4).heap[w.heap.size + 1]? = some o1 ∧ (((((w.alloc o0).alloc o1).alloc o2).alloc o3).alloc o4).heap[w.heap.size + 1 + 1]? = some o2 ∧ (((((w.alloc o0).alloc o1).alloc o2).alloc o3).alloc o4).heap[w.heap.size + 1 + 1 + 1]? = some o3 ∧ (((((w.alloc o0).alloc o1).alloc o2).alloc o3).alloc o4).heap[w.heap.size + 1 + 1 + 1 + 1]? = some o4 := by
  have s1 : (w.alloc o0).heap.size = w.heap.size + 1 := by simp
  have s2 : ((w.alloc o0).alloc o1).heap.size = w.heap.size + 2 := by simp
  have s3 : (((w.alloc o0).alloc o1).alloc o2).heap.size = w.heap.size + 3 := by simp
  have s4 : ((((w.alloc o0).alloc o1).alloc o2).alloc o3).heap.size = w.heap.size + 4 := by simp
  refine ⟨?_, ?_, ?_, ?_, ?_⟩
  · rw [Below.heap_alloc _ _ _ (by omega), Below.heap_alloc _ _ _ (by omega), Below.heap_alloc _ _ _ (by omega), Below.heap_alloc _ _ _ (by omega), heap_alloc_new]
  · rw [Below.heap_alloc _ _ _ (by omega), Below.heap_alloc _ _ _ (by omega), Below.heap_alloc _ _ _ (by omega), ← s1, heap_alloc_new]
  · rw [Below.heap_alloc _ _ _ (by omega), Below.heap_alloc _ _ _ (by omega), show w.heap.size + 1 + 1 = ((w.alloc o0).alloc o1).heap.size by omega, heap_alloc_new]
  · rw [Below.heap_alloc _ _ _ (by omega), show w.heap.size + 1 + 1 + 1 = (((w.alloc o0).alloc o1).alloc o2).heap.size by omega, heap_alloc_new]
  · rw [show w.heap.size + 1 + 1 + 1 + 1 = ((((w.alloc o0).alloc o1).alloc o2).alloc o3).heap.size by omega, heap_alloc_new]

theorem words_all (p q : Nat) (l : List Int) (s : Int) (w : World) (hl : l.length ≤ 65536) (h0 : 0 < l.length) (n : Nat) (hn : n = l.length) (h : Mem w p q l s) :
    Calls Try.prog 27 #[.pointer (some ⟨p, 0, none⟩), .int .i64 0, .int .i64 n] w fun e w' => ∃ g cap, e = .returned (.slice (some ⟨g, 0, none⟩) l.length cap) ∧ Doc w' g l ∧ Turned [] w w' ∧ w.heap.size ≤ g := by
  subst hn
  refine (words_mem p q l s 0 l.length w hl h).mono ?_
  rintro e w2 ⟨v, rfl, ho, ht⟩
  rw [show (min (max (l.length : Int) 0) (l.length : Int)).toNat = l.length by omega, show (min (max (0 : Int) 0) (l.length : Int)).toNat = 0 by omega, List.take_length, List.drop_zero] at ho
  obtain ⟨g, cap, rfl, h1, h2, _, h3, _⟩ := ownsRow_open ho h0
  exact ⟨g, cap, rfl, ⟨h2, fun i x hx => h3 i _ (by rw [List.getElem?_map, hx]; rfl)⟩, ht, h1⟩

set_option maxHeartbeats 40000000 in
set_option maxRecDepth 100000 in
theorem arenaApart_walk (x0 x1 : Int) (ao : Option Addr) (len cap : Nat) (cs : List Op3) (w : World) (hx : In64 x0 ∧ In64 x1) (hz : ORd w ao len cs) :
    Calls Try.prog 4 #[.agg #[.int .i64 x0, .int .i64 x1], .slice ao len cap] w fun e w' => e = .returned (.bool true) ∧ Turned [] w w' := by
  have HR := hide hz
  have hlen := hz.room
  have HLen := hide hz.size
  have tb : Turned [] w (w.alloc (.cells #[.int .i64 x0, .int .i64 x1] 66)) := (Turned.refl _ _).alloc _
  have HAw := hide (awake_any (w.alloc (.cells #[.int .i64 x0, .int .i64 x1] 66)))
  have HBx := hide (heap_alloc_new w (.cells #[.int .i64 x0, .int .i64 x1] 66))
  have TB := hide tb
  have HP0 := hide (fun w' => lpick_any x0 390 w' hx.1 (by omega))
  have HP1 := hide (fun w' => lpick_any x1 39 w' hx.2 (by omega))
  have hr0 := pickOf_lt x0 390 (by omega)
  have hr1 := pickOf_lt x1 39 (by omega)
  generalize pickOf x0 390 = r0 at *
  generalize pickOf x1 39 = r1 at *
  clear hz tb hx
  go_enter Try.func4, Try.ntmps4
  go_wp2_with fail
  generalize w.alloc (.cells #[.int .i64 x0, .int .i64 x1] 66) = wz at *
  obtain ⟨hb, hhb⟩ : ∃ hb, hb = w.heap.size := ⟨_, rfl⟩
  rw [← hhb] at HBx ⊢
  clear hhb
  refine HAw.out.mono ?_
  rintro e w0 ⟨rfl, t0⟩
  have T0 := hide (TB.out.trans t0)
  have HB0 := hide (show w0.heap[hb]? = some (.cells #[.int .i64 x0, .int .i64 x1] 66) by rw [t0.block hb (lt_of_heap HBx.out) (by simp)]; exact HBx.out)
  clear t0 HAw TB HBx
  have HNew := hide (new_any 401 w0)
  go_wp2_with fail
  refine HNew.out.mono ?_
  rintro e w1 ⟨rfl, h1, t1, hsz1⟩
  rw [show (min (max (401 : Int) 0) 65536).toNat = 401 by decide] at h1
  have HPQ := hide (show w.heap.size ≤ w0.heap.size + 1 ∧ w.heap.size ≤ w0.heap.size by have := T0.out.size; omega)
  generalize w0.heap.size + 1 = p at *
  generalize w0.heap.size = q at *
  have HM := hide h1
  have T1 := hide (T0.out.trans t1)
  have HB1 := hide (show w1.heap[hb]? = some (.cells #[.int .i64 x0, .int .i64 x1] 66) by rw [t1.block hb (lt_of_heap HB0.out) (by simp)]; exact HB0.out)
  clear h1 t1 HNew T0 HB0 hsz1
  have k0 : w1.cell? ⟨hb, 0, none⟩ = some (.int .i64 x0) := by rw [cell_of_heap HB1.out]; rfl
  go_wp2_with fail
  refine (HP0.out _).mono ?_
  rintro e w2 ⟨rfl, hw⟩
  rw [hw]
  clear hw w2 HP0 k0
  have HP := hide (put_one p q (List.replicate 401 0) 0 0 w1.heap.size 1 1 (w1.alloc (.cells #[.int .i64 1] 2)) (by simp) (by simp) (HM.out.alloc _) (by rw [cell_of_heap (heap_alloc_new _ _)]; rfl))
  have ta : Turned [] w1 (w1.alloc (.cells #[.int .i64 1] 2)) := (Turned.refl _ _).alloc _
  have TA := hide ta
  obtain ⟨l1, hl1⟩ : ∃ l1, l1 = (List.replicate 401 (0 : Int)).set 0 1 := ⟨_, rfl⟩
  rw [← hl1] at HP
  have HL1 := hide (show l1.length = 401 ∧ l1.getD 0 0 = 1 by rw [hl1]; exact ⟨by simp, by rw [getD_set, if_pos ⟨rfl, by simp⟩]⟩)
  obtain ⟨en, hen⟩ : ∃ en : Nat, (10 + (r0 : Int)) = (en : Int) := ⟨10 + r0, by omega⟩
  have hen399 : 10 ≤ en ∧ en ≤ 399 := by omega
  clear hl1 hr0 ta
  go_wp2_with fail
  clear hen
  refine HP.out.mono ?_
  rintro e w2 ⟨rfl, h2, t2⟩
  have T2 := hide ((T1.out.trans TA.out).trans_new t2 (by intro i hi; simp at hi; rcases hi with rfl | rfl <;> exact .inr (by have := HPQ.out; omega)))
  have HB2 := hide (show w2.heap[hb]? = some (.cells #[.int .i64 x0, .int .i64 x1] 66) by
    have e1 : (w1.alloc (.cells #[.int .i64 1] 2)).heap[hb]? = some (.cells #[.int .i64 x0, .int .i64 x1] 66) := by rw [TA.out.block hb (lt_of_heap HB1.out) (by simp)]; exact HB1.out
    have m1 := HM.out.alloc (.cells #[.int .i64 1] 2)
    rw [t2.block hb (lt_of_heap e1) (by simp; exact ⟨ne_of_type e1 m1.head (by decide), ne_of_type e1 m1.row (by decide)⟩)]; exact e1)
  have H2 := hide h2
  clear HP HM h2 t2 HB1 T1 TA
  have k1 : w2.cell? ⟨hb, 1, none⟩ = some (.int .i64 x1) := by rw [cell_of_heap HB2.out]; rfl
  go_wp2_with fail
  refine (HP1.out _).mono ?_
  rintro e w3 ⟨rfl, hw⟩
  rw [hw]
  clear hw w3 HP1 k1 HB2
  obtain ⟨bu, hbu⟩ : ∃ k : Nat, (2 + (r1 : Int)) = (k : Int) := ⟨2 + r1, by omega⟩
  have hbu40 : 2 ≤ bu ∧ bu ≤ 40 := by omega
  have HA := hide (anew_ok w2 p q l1 0 0 en bu (by have := HL1.out; omega) (by have := HL1.out; omega) (by omega) (by have := HL1.out; omega) H2.out)
  clear H2 hr1
  go_wp2_with fail
  clear hbu
  refine HA.out.mono ?_
  rintro e w3 ⟨a, v, rfl, h3, t3, -⟩
  have T3 := hide (T2.out.trans t3)
  have H3 := hide h3
  clear HA h3 t3 T2
  go_upto_region 14 with fail
  have HA5 := hide (alloc5 w3 (.cells #[.pointer none, .pointer none, .pointer none, .pointer none] 67) (.cells #[.int .i64 0, .int .i64 0, .int .i64 0, .int .i64 0] 68) (.cells #[.int .i64 0, .int .i64 0, .int .i64 0, .int .i64 0, .int .i64 0, .int .i64 0, .int .i64 0, .int .i64 0] 69) (.cells Try.zeroCells70 70) (.cells #[.int .i64 0, .int .i64 0, .int .i64 2] 72))
  have t4 : Turned [] w3 (((((w3.alloc (.cells #[.pointer none, .pointer none, .pointer none, .pointer none] 67)).alloc (.cells #[.int .i64 0, .int .i64 0, .int .i64 0, .int .i64 0] 68)).alloc (.cells #[.int .i64 0, .int .i64 0, .int .i64 0, .int .i64 0, .int .i64 0, .int .i64 0, .int .i64 0, .int .i64 0] 69)).alloc (.cells Try.zeroCells70 70)).alloc (.cells #[.int .i64 0, .int .i64 0, .int .i64 2] 72)) := (((((Turned.refl _ _).alloc _).alloc _).alloc _).alloc _).alloc _
  have H4 := hide (H3.out.turned t4 (by simp) (by simp) (by simp) (by simp))
  have T4 := hide (T3.out.trans t4)
  have HG := hide (show w.heap.size ≤ w3.heap.size from T3.out.size)
  clear t4 H3 T3
  generalize (((((w3.alloc (.cells #[.pointer none, .pointer none, .pointer none, .pointer none] 67)).alloc (.cells #[.int .i64 0, .int .i64 0, .int .i64 0, .int .i64 0] 68)).alloc (.cells #[.int .i64 0, .int .i64 0, .int .i64 0, .int .i64 0, .int .i64 0, .int .i64 0, .int .i64 0, .int .i64 0] 69)).alloc (.cells Try.zeroCells70 70)).alloc (.cells #[.int .i64 0, .int .i64 0, .int .i64 2] 72)) = w4 at *
  generalize hgc : w3.heap.size + 1 + 1 + 1 + 1 = gc at *
  generalize hgo : w3.heap.size + 1 + 1 + 1 = go at *
  generalize hB : w3.heap.size + 1 + 1 = B at *
  generalize hgn : w3.heap.size + 1 = gn at *
  have HG2 := hide (show w.heap.size ≤ gn ∧ w.heap.size ≤ B ∧ w.heap.size ≤ go by have := HG.out; omega)
  clear hgc hgo hB hgn
  generalize w3.heap.size = gx at *
  have P0 := hide (show PB w.heap.size w4 a v p q B gx gn go gc ⟨0, en, bu⟩ l1 [0, 0, 0, 0, 0, 0, 0, 0] 0 (fun _ => none) (fun _ => akNew 0) (fun _ => 0) (fun _ => 0) from ⟨H4.out, HA5.out.2.2.1, HA5.out.1, HA5.out.2.1, by unfold Bf; rw [← zero401]; exact HA5.out.2.2.2.1, HA5.out.2.2.2.2, fun i b hi h => (by cases h), fun i j b hi hj h => (by cases h), by have h1 := HPQ.out; have h2 := HG.out; have h3 := HG2.out; exact ⟨h1.1, h1.2, h3.2.1, h2, h3.1, h3.2.2⟩, fun i b hi h => (by cases h)⟩)
  have A0 := hide (ai_zero len en bu l1 HL1.out hen399 hbu40)
  clear H4 HA5 HPQ HG HG2 HL1
  obtain ⟨bl0, hbl0⟩ : ∃ bl0 : List Int, bl0 = [0, 0, 0, 0, 0, 0, 0, 0] := ⟨_, rfl⟩
  rw [← hbl0] at P0 A0
  clear hbl0
  obtain ⟨N, hN⟩ : ∃ N : Int, wrap64 ((len : Int) + 400) = N := ⟨_, rfl⟩
  have HN := hide (show (N = (len : Int) + 400 ∧ (len : Int) + 400 ≤ 9223372036854775807) ∨ N < 0 by rw [← hN]; unfold wrap64; omega)
  go_wp2_with fail
  go_loopg [14, 16] (len + 400) (fun gg s14 s16 wr => ∃ (j : Nat) (l bl : List Int) (s : Int) (tp : Nat) (F G ow : Nat → Nat) (made : Nat) (nx : Nat → Nat) (kd : Nat → Kd) (xs : Nat → Option Nat) (K : Nat → AkS) (ns : Nat → Nat), s16 = .int .i64 (j : Int) ∧ s14 = .int .i64 (made : Int) ∧ gg = len + 400 - j ∧ j ≤ len + 400 ∧ Aside (PB w.heap.size wr a v p q B gx gn go gc ⟨0, en, bu⟩ l bl s xs K ns ow) ∧ Aside (AI ⟨0, en, bu⟩ len j l bl tp F G ow made nx kd xs K ns) ∧ Aside (Turned [] w wr) ∧ Aside (N < 0 → ∀ u, u < 4 → xs u = none))
  case atStart => exact ⟨0, l1, bl0, 0, 1, _, _, _, 0, _, _, _, _, _, rfl, rfl, rfl, by omega, P0.out, A0.out, T4.out, fun _ _ _ => rfl⟩
  case round =>
    obtain ⟨j, l, bl, s, tp, F, G, ow, made, nx, kd, xs, K, ns, rfl, rfl, hgg, hj, hpb, hai, htu, hnn0⟩ := hrel
    have P1 := hide hpb.out
    have A1 := hide hai.out
    have T1 := hide htu.out
    have N1 := hide hnn0.out
    clear hpb hai htu hnn0 P0 A0 T4
    by_cases hc : (j : Int) < N
    · have hNl : N = (len : Int) + 400 ∧ (len : Int) + 400 ≤ 9223372036854775807 := by rcases HN.out with h | h; exact h; omega
      have hjl : j < len + 400 := by omega
      have hNr := hide hNl
      have hj9 : j < 9223372036854775807 := by omega
      have HJL := hide hjl
      have HGG := hide hgg
      have HJJ := hide hj
      clear hNl N1 hjl hgg hj
      go_upto_region 18 with fail
      have ta : Turned [] wr (wr.alloc (.cells #[.int .i64 1, .int .i64 j, .int .i64 0] 49)) := (Turned.refl _ _).alloc _
      have P2 := hide (P1.out.t0 ta)
      have T2 := hide (T1.out.trans ta)
      have HO := hide (heap_alloc_new wr (.cells #[.int .i64 1, .int .i64 j, .int .i64 0] 49))
      have HOl := hide (show w.heap.size ≤ wr.heap.size from T1.out.size)
      clear ta P1 T1
      generalize wr.alloc (.cells #[.int .i64 1, .int .i64 j, .int .i64 0] 49) = w8 at *
      generalize wr.heap.size = O at *
      go_cut [73] (fun s73 wc => ∃ bb : Bool, s73 = .bool bb ∧ Aside (bb = decide (j < len ∧ j < 250)) ∧ Aside (wc = w8))
      case first =>
        by_cases hjl2 : j < len
        · have e1 : (j : Int) < (len : Int) := by omega
          by_cases hjl3 : j < 250
          · have e2 : (j : Int) < 250 := by omega
            go_wp2_with fail
            go_meet
            case rel => exact ⟨true, by go_num, by show true = _; rw [decide_eq_true ⟨hjl2, hjl3⟩], rfl⟩
          · have e2 : ¬ ((j : Int) < 250) := by omega
            go_wp2_with fail
            go_meet
            case rel => exact ⟨false, by go_num, by show false = _; rw [decide_eq_false (fun h => hjl3 h.2)], rfl⟩
        · have e1 : ¬ ((j : Int) < (len : Int)) := by omega
          go_wp2_with fail
          go_meet
          case rel => exact ⟨false, by go_num, by show false = _; rw [decide_eq_false (fun h => hjl2 h.1)], rfl⟩
      case rest =>
       obtain ⟨bb, rfl, hbb, hwc⟩ := hcut
       have hwc' := hwc.out
       subst hwc'
       have HBB := hide hbb.out
       clear hwc hbb
       obtain ⟨w8, hw8⟩ : ∃ w8, w8 = wc := ⟨_, rfl⟩
       subst hw8
       go_upto_if 73 with fail
       go_cut [74] (fun _ wc => ∃ ck cw cz : Int, Aside (In64 ck ∧ In64 cw ∧ In64 cz) ∧ Aside (j < len ∨ (ck = 1 ∧ cw = (j : Int))) ∧ Aside (wc.heap[O]? = some (.cells #[.int .i64 ck, .int .i64 cw, .int .i64 cz] 49)) ∧ Aside (PB w.heap.size wc a v p q B gx gn go gc ⟨0, en, bu⟩ l bl s xs K ns ow) ∧ Aside (Turned [] w wc))
       case first =>
         cases bb
         · have hjin : In64 1 ∧ In64 (j : Int) ∧ In64 0 := by unfold In64; omega
           have HJin := hide hjin
           clear hjin
           go_wp2_with fail
           go_meet
           case rel => exact ⟨1, j, 0, HJin.out, by by_cases hh : j < len; exact .inl hh; exact .inr ⟨rfl, rfl⟩, HO.out, P2.out, T2.out⟩
         · have hs : j < len ∧ j < 250 := by simpa using HBB.out.symm
           as_aux_lemma =>
             obtain ⟨⟨ck, cw, cz⟩, hcs⟩ : ∃ c, cs[j]? = some c := ⟨cs[j]'(by have := HLen.out; omega), by simp⟩
             obtain ⟨b0, off, rfl, q0, q1, q2'⟩ := HR.out.cell j _ hcs
             have hin := HR.out.inn _ (List.mem_of_getElem? hcs)
             simp only at q0 q1 q2'
             have r0 := (T2.out.cell (block_lt q0) (by simp)).trans q0
             have r1 := (T2.out.cell (block_lt q1) (by simp)).trans q1
             have r2 := (T2.out.cell (block_lt q2') (by simp)).trans q2'
             have e1 : (j : Int) < (len : Int) := by omega
             have e2 : (j : Int) < 250 := by omega
             have o0 : w8.cell? ⟨O, 0, none⟩ = some (.int .i64 1) := by rw [cell_of_heap HO.out]; rfl
             have o1 : w8.cell? ⟨O, 1, none⟩ = some (.int .i64 j) := by rw [cell_of_heap HO.out]; rfl
             have o2 : w8.cell? ⟨O, 2, none⟩ = some (.int .i64 0) := by rw [cell_of_heap HO.out]; rfl
             have z0 : w8.frozen? ⟨O, 0, none⟩ = false := by simp [World.frozen?, HO.out]
             have z1 : w8.frozen? ⟨O, 1, none⟩ = false := by simp [World.frozen?, HO.out]
             have z2 : w8.frozen? ⟨O, 2, none⟩ = false := by simp [World.frozen?, HO.out]
             have tO : Turned [O] w8 (((w8.setCell ⟨O, 0, none⟩ (.int .i64 ck)).setCell ⟨O, 1, none⟩ (.int .i64 cw)).setCell ⟨O, 2, none⟩ (.int .i64 cz)) := (((Turned.refl _ _).setCell (by simp) _).setCell (by simp) _).setCell (by simp) _
             have P3 := hide (P2.out.t1 HO.out tO (by decide))
             have T3 := hide (T2.out.trans_new tO (by intro k hk; simp at hk; subst hk; exact .inr HOl.out))
             have HO3 := hide (show (((w8.setCell ⟨O, 0, none⟩ (.int .i64 ck)).setCell ⟨O, 1, none⟩ (.int .i64 cw)).setCell ⟨O, 2, none⟩ (.int .i64 cz)).heap[O]? = some (.cells #[.int .i64 ck, .int .i64 cw, .int .i64 cz] 49) by rw [heap_setCell_at _ _ _ _ _ _ (heap_setCell_at _ _ _ _ _ _ (heap_setCell_at _ _ _ _ _ _ HO.out _) _) _]; rfl)
             have HIn := hide hin
             have hb0 : b0 ≠ O := by have h1 := block_lt q0; have h2 := HOl.out; simp only at h1; omega
             clear tO hcs hin q0 q1 q2'
             go_wp2_with fail
             go_meet
             case rel => exact ⟨ck, cw, cz, HIn.out, .inl (by omega), HO3.out, P3.out, T3.out⟩
       case rest =>
         obtain ⟨ck, cw, cz, hin, hph, hO, hpb, htu⟩ := hcut
         obtain ⟨wb, hwb⟩ : ∃ wb, wb = wc := ⟨_, rfl⟩
         subst hwb
         clear P2 T2 HO
         have P2 := hide hpb.out
         have T2 := hide htu.out
         have HO := hide hO.out
         have HPw := hide (fun w' => lpick_any cw 4 w' hin.out.2.1 (by omega))
         have HPk := hide (fun w' => lpick_any ck 5 w' hin.out.1 (by omega))
         have HPz := hide (fun w' => lpick_any cz 40 w' hin.out.2.2 (by omega))
         have hi4 := pickOf_lt cw 4 (by omega)
         have hk5 := pickOf_lt ck 5 (by omega)
         have hrz := pickOf_lt cz 40 (by omega)
         have HPh := hide (show j < len ∨ (pickOf cw 4 = j % 4 ∧ pickOf ck 5 ≠ 0) by
           rcases hph.out with h | ⟨h1, h2⟩
           · exact .inl h
           · right
             rw [h1, h2, pick_turn, pick_one]
             exact ⟨rfl, by omega⟩)
         generalize pickOf cw 4 = i at *
         generalize pickOf ck 5 = kk at *
         generalize pickOf cz 40 = rz at *
         clear hpb htu hO hin hph
         have o0 : wb.cell? ⟨O, 0, none⟩ = some (.int .i64 ck) := by rw [cell_of_heap HO.out]; rfl
         have o1 : wb.cell? ⟨O, 1, none⟩ = some (.int .i64 cw) := by rw [cell_of_heap HO.out]; rfl
         have o2 : wb.cell? ⟨O, 2, none⟩ = some (.int .i64 cz) := by rw [cell_of_heap HO.out]; rfl
         go_wp2_with fail
         refine (HPw.out _).mono ?_
         rintro e w9 ⟨rfl, hw⟩
         rw [hw]
         clear hw w9 HPw
         have x1 := P2.out.ax.at i hi4
         have e3 : (i : Int) < 4 := by omega
         go_wp2_with fail
         refine (HPk.out _).mono ?_
         rintro e w9 ⟨rfl, hw⟩
         rw [hw]
         clear hw w9
         by_cases hk0 : kk = 0
         · subst hk0
           cases hxi : xs i with
           | none =>
             as_aux_lemma =>
               have hjl' : j < len := by rcases HPh.out with h | h <;> first | exact h | omega
               have e4 : (j : Int) < (len : Int) := by omega
               rw [hxi] at x1
               simp only [pv, Option.map] at x1
               have n1 := P2.out.an.at (nsl_at ns hi4)
               have n1z := P2.out.an.fz i
               obtain ⟨n, hn⟩ : ∃ n : Nat, (1 + (rz : Int)) = (n : Int) := ⟨1 + rz, by omega⟩
               have hn40 : 1 ≤ n ∧ n ≤ 40 := by omega
               go_wp2_with fail
               refine (HPz.out _).mono ?_
               rintro e w9 ⟨rfl, hw⟩
               rw [hw]
               clear hw w9 HPz hrz
               go_upto_region 23 with fail
               clear hn
               have P3 := hide (show PB w.heap.size (wb.setCell ⟨gn, i, none⟩ (.int .i64 (n : Int))) a v p q B gx gn go gc ⟨0, en, bu⟩ l bl s xs K (updF ns i n) ow from P2.out.size hi4 n)
               have T3 := hide (show Turned [] w (wb.setCell ⟨gn, i, none⟩ (.int .i64 (n : Int))) from T2.out.setCell (.inr P2.out.lo.2.2.2.2.1) _)
               have HO3 := hide (show (wb.setCell ⟨gn, i, none⟩ (.int .i64 (n : Int))).heap[O]? = some (.cells #[.int .i64 ck, .int .i64 cw, .int .i64 cz] 49) by rw [((Turned.refl [gn] wb).setCell (p := ⟨gn, i, none⟩) (by simp) (.int .i64 (n : Int))).block O (lt_of_heap HO.out) (by simp; exact ne_of_type HO.out P2.out.an (by decide))]; exact HO.out)
               generalize wb.setCell ⟨gn, i, none⟩ (.int .i64 (n : Int)) = w9 at *
               clear P2 T2 HO x1 n1 n1z o0 o1 o2
               have n9 := P3.out.an.at (nsl_at (updF ns i n) hi4)
               rw [updF_self] at n9
               have x9 := P3.out.ax.at i hi4
               have x9z := P3.out.ax.fz i
               have HK := hide (fun w' (h' : Arn w' a v p q ⟨0, en, bu⟩ l s) => ask_any w' a v p q B (i * 2) ⟨0, en, bu⟩ l s n h')
               have hgg2 := hide (show gn ≠ gx from ne_of_type P3.out.an P3.out.ax (by decide))
               go_region_held3 (fun w' => w'.cell? ⟨gn, i, none⟩ = some (.int .i64 n)) (first | go_keep | exact i2)
                 (first
                   | (go_at_call 15; refine (HK.out _ P3.out.ar.drew).mono ?_; rintro e w10 ⟨rfl, hk, t10, -⟩; have TD := hide ((Turned.refl [] w9).drew.trans t10); have HK9 := hide hk; have P9 := P3.out.t0 TD.out; have hn2 := P9.an.at (nsl_at (updF ns i n) hi4); rw [updF_self] at hn2; have x10 := P9.ax.at i hi4; have x10z := P9.ax.fz i; have i2 := (((Turned.refl [gx] w10).setCell (p := ⟨gx, i, none⟩) (by simp) (pv (some w9.heap.size))).cell (p := ⟨gn, i, none⟩) P9.an.lt (by simp; exact hgg2.out)).trans hn2; clear hk t10))
               have P4 := hide (show PB w.heap.size (w10.setCell ⟨gx, i, none⟩ (.pointer (some ⟨w9.heap.size, 0, none⟩))) a v p q B gx gn go gc ⟨0, en, bu⟩ l bl s (updF xs i (some w9.heap.size)) (updF K i (akNew n)) (updF ns i n) ow from (P3.out.t0 TD.out).ptr hi4 (some w9.heap.size) (akNew n) (fun b hb => by cases hb; exact ⟨Nat.mul_comm i 2 ▸ HK9.out, T3.out.size, fun j c hj hc e => by have := (P3.out.ak j c hj hc).lt; omega⟩))
               have T4 := hide (show Turned [] w (w10.setCell ⟨gx, i, none⟩ (.pointer (some ⟨w9.heap.size, 0, none⟩))) from (T3.out.trans TD.out).setCell (.inr P3.out.lo.2.2.2.1) _)
               have HO4 := hide (show (w10.setCell ⟨gx, i, none⟩ (.pointer (some ⟨w9.heap.size, 0, none⟩))).heap[O]? = some (.cells #[.int .i64 ck, .int .i64 cw, .int .i64 cz] 49) by
                 have h10 : w10.heap[O]? = some (.cells #[.int .i64 ck, .int .i64 cw, .int .i64 cz] 49) := by rw [TD.out.block O (lt_of_heap HO3.out) (by simp)]; exact HO3.out
                 rw [((Turned.refl [gx] w10).setCell (p := ⟨gx, i, none⟩) (by simp) (.pointer (some ⟨w9.heap.size, 0, none⟩))).block O (lt_of_heap h10) (by simp; exact ne_of_type HO3.out P3.out.ax (by decide))]; exact h10)
               clear i2 hn2 x10 x10z P9 HK9 TD HK x9 x9z n9 P3 T3 HO3
               generalize w10.setCell ⟨gx, i, none⟩ (.pointer (some ⟨w9.heap.size, 0, none⟩)) = w11 at *
               generalize w9.heap.size = xb at *
               have x11 := P4.out.ax.at i hi4
               rw [updF_self] at x11
               simp only [pv, Option.map] at x11
               have o0 : w11.cell? ⟨O, 0, none⟩ = some (.int .i64 ck) := by rw [cell_of_heap HO4.out]; rfl
               go_wp2_with fail
               refine (HPk.out _).mono ?_
               rintro e w12 ⟨rfl, hw⟩
               rw [hw]
               clear hw w12
               go_wp2_with fail
               go_roundg (len + 400 - (j + 1))
               case measure => have h1 := HJL.out; have h2 := HGG.out; omega
               case rel => exact ⟨j + 1, l, bl, s, tp, F, G, ow, made, nx, kd, _, _, _, by go_num, rfl, rfl, by have := HJL.out; omega, P4.out, A1.out.ask hi4 hjl' hn40, T4.out, fun hh => absurd hh (by have := hNr.out; omega)⟩
           | some b =>
             as_aux_lemma =>
               rw [hxi] at x1
               simp only [pv, Option.map] at x1
               have hjl' : j < len := by rcases HPh.out with h | h <;> first | exact h | omega
               have e4 : (j : Int) < (len : Int) := by omega
               go_wp2_with fail
               refine (HPk.out _).mono ?_
               rintro e w12 ⟨rfl, hw⟩
               rw [hw]
               clear hw w12
               go_wp2_with fail
               go_roundg (len + 400 - (j + 1))
               case measure => have h1 := HJL.out; have h2 := HGG.out; omega
               case rel => exact ⟨j + 1, l, bl, s, tp, F, G, ow, made, nx, kd, xs, K, ns, by go_num, rfl, rfl, by have := HJL.out; omega, P2.out, A1.out.idle (i := i) (.inl hjl'), T2.out, fun hh => absurd hh (by have := hNr.out; omega)⟩
         · have hk0' : ¬ ((kk : Int) = 0) := by omega
           cases hxi : xs i with
           | none =>
             as_aux_lemma =>
               rw [hxi] at x1
               simp only [pv, Option.map] at x1
               have HXi := hide hxi
               clear hxi
               go_wp2_with fail
               go_roundg (len + 400 - (j + 1))
               case measure => have h1 := HJL.out; have h2 := HGG.out; omega
               case rel => exact ⟨j + 1, l, bl, s, tp, F, G, ow, made, nx, kd, xs, K, ns, by go_num, rfl, rfl, by have := HJL.out; omega, P2.out, A1.out.idle (i := i) (by rcases HPh.out with h | h; exact .inl h; exact .inr ⟨h.1, HXi.out⟩), T2.out, fun hh => absurd hh (by have := hNr.out; omega)⟩
           | some b =>
             as_aux_lemma =>
               rw [hxi] at x1
               simp only [pv, Option.map] at x1
               have HXi := hide hxi
               have hxn : xs i ≠ none := by rw [hxi]; simp
               have HS := hide (kstep_any wb a v p q B b (2 * i) TB4 ⟨0, en, bu⟩ ⟨l, bl, K i, s⟩ (A1.out.fit hi4 hxn s) ⟨P2.out.ar, P2.out.bf, bt4, P2.out.ak i b hi4 hxi, Turned.refl _ _⟩)
               have HGo := hide (A1.out.step hi4 hxn (by rcases HPh.out with h | h; exact .inl h; exact .inr h.1) s)
               clear hxi hxn
               generalize stepA ⟨0, en, bu⟩ (2 * i) ⟨l, bl, K i, s⟩ = Y at *
               obtain ⟨Yl, Ybl, Yk, Ys⟩ := Y
               simp only at HS HGo
               go_wp2_with fail
               refine (HPk.out _).mono ?_
               rintro e w12 ⟨rfl, hw⟩
               rw [hw]
               clear hw w12
               go_wp2_with fail
               refine HS.out.mono ?_
               rintro e w10 ⟨rfl, h9⟩
               have P3 := hide (P2.out.step hi4 HXi.out h9)
               have T3 := hide (T2.out.trans_new h9.tu (by intro k hk; simp at hk; rcases hk with rfl | rfl | rfl | rfl <;> exact .inr (by have h1 := P2.out.lo; have h2 := P2.out.lb i _ hi4 HXi.out; omega)))
               have hki : AkB w10 b a B (2 * i) Yk := h9.ak
               clear HS h9 P2 T2 x1 o0 o1 o2 HO HPk HPz
               simp only at P3
               rcases HGo.out with ⟨F', G', kd', hd, hai2⟩ | ⟨F', G', kd', hd, he, hai2⟩ | ⟨pos, tp', F', G', nx', kd', hd, he, hp, h1, h2, h3, hai2⟩
               · clear HGo
                 as_aux_lemma =>
                   rw [hd]
                   have A3 := hide hai2
                   clear hki hd hai2
                   go_wp2_with fail
                   go_roundg (len + 400 - (j + 1))
                   case measure => have h1 := HJL.out; have h2 := HGG.out; omega
                   case rel => exact ⟨j + 1, _, _, _, tp, F', G', ow, made, nx, kd', xs, _, ns, by go_num, rfl, rfl, by have := HJL.out; omega, P3.out, A3.out, T3.out, fun hh => absurd hh (by have := hNr.out; omega)⟩
               · clear HGo
                 as_aux_lemma =>
                   have HAt := hide (kat_any w10 a B b (2 * i) Yk hki)
                   rw [show atOf Yk = (Yk.pos, 14) by unfold atOf; rw [if_pos hd, he]] at HAt
                   rw [hd]
                   have x10 := P3.out.ax.at i hi4
                   rw [HXi.out] at x10
                   simp only [pv, Option.map] at x10
                   have A3 := hide hai2
                   clear hki hd he hai2
                   go_wp2_with fail
                   refine HAt.out.mono ?_
                   rintro e w11 ⟨rfl, k11, hw11⟩
                   have U11 := hide (show Turned [] w10 w11 by rw [hw11]; exact (Turned.refl [] w10).drewN k11)
                   have P4 := hide (P3.out.t0 U11.out)
                   have T4 := hide (T3.out.trans U11.out)
                   clear hw11 HAt x10 U11 P3 T3
                   have x11 := P4.out.ax.at i hi4
                   have x11z := P4.out.ax.fz i
                   have P5 := hide (show PB w.heap.size (w11.setCell ⟨gx, i, none⟩ (.pointer none)) a v p q B gx gn go gc ⟨0, en, bu⟩ Yl Ybl Ys (updF xs i none) (updF K i Yk) ns ow by have h := P4.out.ptr hi4 none Yk (fun b hb => by cases hb); rw [updF_again] at h; exact h)
                   have T5 := hide (show Turned [] w (w11.setCell ⟨gx, i, none⟩ (.pointer none)) from T4.out.setCell (.inr P4.out.lo.2.2.2.1) _)
                   go_wp2_with fail
                   go_roundg (len + 400 - (j + 1))
                   case measure => have h1 := HJL.out; have h2 := HGG.out; omega
                   case rel => exact ⟨j + 1, _, _, _, tp, F', G', ow, made, nx, kd', _, _, ns, by go_num, rfl, rfl, by have := HJL.out; omega, P5.out, A3.out, T5.out, fun hh => absurd hh (by have := hNr.out; omega)⟩
               · clear HGo
                 as_aux_lemma =>
                   have HAt := hide (kat_any w10 a B b (2 * i) Yk hki)
                   rw [show atOf Yk = (((pos : Nat) : Int), 0) by unfold atOf; rw [if_pos hd, hp, he]] at HAt
                   rw [hd]
                   have x10 := P3.out.ax.at i hi4
                   rw [HXi.out] at x10
                   simp only [pv, Option.map] at x10
                   have H3 := hide h3
                   have A3 := hide hai2
                   have htil2 : pos + ns i ≤ en := h2
                   clear hki hd he hp h3 hai2 h2
                   go_wp2_with fail
                   refine HAt.out.mono ?_
                   rintro e w11 ⟨rfl, k11, hw11⟩
                   have U11 := hide (show Turned [] w10 w11 by rw [hw11]; exact (Turned.refl [] w10).drewN k11)
                   have P4 := hide (P3.out.t0 U11.out)
                   have T4 := hide (T3.out.trans U11.out)
                   clear hw11 HAt x10 U11 P3 T3
                   have x11 := P4.out.ax.at i hi4
                   have x11z := P4.out.ax.fz i
                   go_upto_region 27 with fail
                   have P5 := hide (show PB w.heap.size (w11.setCell ⟨gx, i, none⟩ (.pointer none)) a v p q B gx gn go gc ⟨0, en, bu⟩ Yl Ybl Ys (updF xs i none) (updF K i Yk) ns ow by have h := P4.out.ptr hi4 none Yk (fun b hb => by cases hb); rw [updF_again] at h; exact h)
                   have T5 := hide (show Turned [] w (w11.setCell ⟨gx, i, none⟩ (.pointer none)) from T4.out.setCell (.inr P4.out.lo.2.2.2.1) _)
                   generalize w11.setCell ⟨gx, i, none⟩ (.pointer none) = w12 at *
                   clear P4 T4 x11 x11z
                   have n12 := P5.out.an.at (nsl_at ns hi4)
                   have g1 : ¬ ((pos : Int) < 1) := by omega
                   have g2 : ¬ ((en : Int) < (pos : Int) + (ns i : Int)) := by omega
                   have hmd := A1.out.few
                   have hnn : 1 ≤ ns i ∧ ns i ≤ 40 := (A1.out.ki i hi4 (by rw [HXi.out]; simp)).sz.2
                   generalize hnm : ns i = nm at *
                   have HNM := hide hnm
                   clear hnm
                   obtain ⟨mm, hmm⟩ : ∃ mm : Nat, mm = made + 1 := ⟨_, rfl⟩
                   have HMM := hide hmm
                   clear hmm
                   go_wp2_with fail
                   rw [show (made : Int) + 1 = (mm : Int) by have := HMM.out; omega]
                   obtain ⟨wd, hwd⟩ : ∃ wd, wd = w12 := ⟨_, rfl⟩
                   subst hwd
                   go_loopg [21] nm (fun gg s21 wr => ∃ (z pz : Nat), z ≤ nm ∧ gg = nm - z ∧ s21 = .int .i64 (pz : Int) ∧ pz < 401 ∧ Aside (pz = pos + z) ∧ Aside (PB w.heap.size wr a v p q B gx gn go gc ⟨0, en, bu⟩ Yl Ybl Ys (updF xs i none) (updF K i Yk) ns (owC ow pos z mm)) ∧ Aside (Turned [] w wr))
                   case atStart => exact ⟨0, pos, by omega, rfl, rfl, by omega, rfl, by rw [owC_zero]; exact P5.out, T5.out⟩
                   case round =>
                     obtain ⟨z, pz, hz, hgz, rfl, hpz4, hpzz, hpz, htz⟩ := hrel
                     have HPZ := hide hpzz.out
                     clear hpzz
                     have P6 := hide hpz.out
                     have T6 := hide htz.out
                     clear hpz htz P5 T5 n12
                     have n6 := P6.out.an.at (nsl_at ns hi4)
                     rw [HNM.out] at n6
                     by_cases hzn : z < nm
                     · have e6 : (pz : Int) < (pos : Int) + (nm : Int) := by have := HPZ.out; omega
                       have hq : owC ow pos z mm pz = 0 := by have := HPZ.out; unfold owC; rw [if_neg (by omega)]; exact H3.out pz (by omega) (by omega)
                       have o6 := P6.out.ao.at (owl_at (owC ow pos z mm) hpz4)
                       have o6z := P6.out.ao.fz pz
                       rw [hq] at o6
                       have P7 := hide (show PB w.heap.size (wr.setCell ⟨go, pz, none⟩ (.int .i64 (mm : Int))) a v p q B gx gn go gc ⟨0, en, bu⟩ Yl Ybl Ys (updF xs i none) (updF K i Yk) ns (owC ow pos (z + 1) mm) by rw [← owC_succ, ← HPZ.out]; exact P6.out.own pz mm)
                       have T7 := hide (show Turned [] w (wr.setCell ⟨go, pz, none⟩ (.int .i64 (mm : Int))) from T6.out.setCell (.inr P6.out.lo.2.2.2.2.2) _)
                       clear hq
                       go_wp2_with fail
                       go_roundg (nm - (z + 1))
                       case measure => omega
                       case rel => exact ⟨z + 1, pz + 1, by omega, rfl, by go_num, by have := HPZ.out; omega, by show pz + 1 = pos + (z + 1); have := HPZ.out; omega, P7.out, T7.out⟩
                     · obtain rfl : z = nm := by omega
                       have e6 : ¬ ((pz : Int) < (pos : Int) + (z : Int)) := by have := HPZ.out; omega
                       have HHd := hide (fun w' => rheader_any 1 ((z : Int) - 1) w')
                       have hl9 : Yl.length = 401 := by have := A3.out.tl.len; simpa using this
                       have HPt := hide (fun w' (hm' : Mem w' p q Yl Ys) g' (hc' : w'.cell? ⟨g', 0, none⟩ = some (.int .i64 (headOf 1 ((z : Int) - 1)))) => put_one p q Yl Ys pos g' 1 (headOf 1 ((z : Int) - 1)) w' (by omega) (by omega) hm' hc')
                       have HLL := hide (show (Yl.set pos (headOf 1 ((z : Int) - 1))).length = Yl.length by simp)
                       have A4 := hide A3.out
                       generalize headOf 1 ((z : Int) - 1) = hd at *
                       clear hl9
                       go_wp2_with fail
                       refine (HHd.out _).mono ?_
                       rintro e w13 ⟨rfl, hw⟩
                       rw [hw]
                       clear hw w13 HHd
                       have ta : Turned [] wr (wr.alloc (.cells #[.int .i64 hd] 2)) := (Turned.refl _ _).alloc _
                       have P8 := hide (P6.out.t0 ta)
                       have T8 := hide (T6.out.trans ta)
                       have HPt2 := hide (HPt.out (wr.alloc (.cells #[.int .i64 hd] 2)) P8.out.ar.mem wr.heap.size (by rw [cell_of_heap (heap_alloc_new _ _)]; rfl))
                       clear ta HPt
                       go_wp2_with fail
                       refine HPt2.out.mono ?_
                       rintro e w14 ⟨rfl, m14, t14⟩
                       have P9 := hide (P8.out.put m14 HLL.out t14)
                       have T9 := hide (T8.out.trans_new t14 (by intro k hk; simp at hk; rcases hk with rfl | rfl <;> exact .inr (by have := P8.out.lo; omega)))
                       have hmm := HMM.out
                       subst hmm
                       clear HPt2 m14 t14 P8 T8
                       go_wp2_with fail
                       go_roundg (len + 400 - (j + 1))
                       case measure => have h1 := HJL.out; have h2 := HGG.out; omega
                       case rel => exact ⟨j + 1, _, _, _, tp', F', G', _, (made + 1), nx', kd', _, _, ns, by go_num, by go_num, rfl, by have := HJL.out; omega, P9.out, A4.out, T9.out, fun hh => absurd hh (by have := hNr.out; omega)⟩
    · skip
      as_aux_lemma =>
        have HXn := hide (show ∀ u, u < 4 → xs u = none by
          rcases HN.out with h | h
          · have hjj : j = len + 400 := by omega
            have h2 := A1.out.jv
            rw [hjj] at h2
            exact J_end h2
          · exact N1.out h)
        have TL := hide A1.out.tl
        have hmd := A1.out.few
        clear A1 N1 HN
        obtain ⟨wd, hwd⟩ : ∃ wd, wd = wr := ⟨_, rfl⟩
        subst hwd
        go_wp2_with fail
        clear hN
        go_loopg [22] 4 (fun gg s22 wr => ∃ (k : Nat) (l bl : List Int) (s : Int) (F G : Nat → Nat) (kd : Nat → Kd), k ≤ 4 ∧ gg = 4 - k ∧ s22 = .int .i64 (k : Int) ∧ Aside (PB w.heap.size wr a v p q B gx gn go gc ⟨0, en, bu⟩ l bl s xs K ns ow) ∧ Aside (Tl ⟨0, en, bu⟩ l bl tp F G ow made nx kd) ∧ Aside (∀ u, u < k → ¬ F u < G u) ∧ Aside (Turned [] w wr))
        case atStart => exact ⟨0, l, bl, s, F, G, kd, by omega, rfl, rfl, P1.out, TL.out, fun u hu => (by omega), T1.out⟩
        case round =>
          obtain ⟨k, l, bl, s, F, G, kd, hk, hgg3, rfl, hpb, htl, hno, htu⟩ := hrel
          have P2 := hide hpb.out
          have L2 := hide htl.out
          have O2 := hide hno.out
          have T2 := hide htu.out
          clear hpb htl hno htu P1 TL T1
          by_cases hk4 : k < 4
          · have e5 : (k : Int) < 4 := by omega
            have x1 := P2.out.ax.at k hk4
            rw [HXn.out k hk4] at x1
            simp only [pv, Option.map] at x1
            have hb := L2.out.bls k hk4
            have hf := L2.out.bfs k hk4
            have h8 := L2.out.b8
            have hl9 := L2.out.len
            have htl9 := L2.out.til
            simp only at hf htl9
            have g0 : bl[k * 2]? = some (F k : Int) := by rw [Nat.mul_comm, ← hb.1]; exact getD_some (by omega)
            have g1 : bl[k * 2 + 1]? = some (G k : Int) := by rw [Nat.mul_comm, ← hb.2]; exact getD_some (by omega)
            by_cases hfg : F k < G k
            · have HRt := hide (retire_any wr a v p q B (k * 2) TB4 ⟨0, en, bu⟩ l bl s (F k) (G k) (by omega) g0 g1 ⟨P2.out.ar, P2.out.bf, bt4, Turned.refl _ _⟩)
              have L3 := hide (L2.out.retire hk4 hfg)
              have O3 := hide (show ∀ u, u < k + 1 → ¬ updN F k 0 u < updN G k 0 u from fun u hu => by
                by_cases e : u = k
                · subst e; rw [updN_self, updN_self]; omega
                · rw [updN_ne F _ e, updN_ne G _ e]; exact O2.out u (by omega))
              rw [show ((F k : Int)).toNat = F k by omega, Nat.mul_comm k 2] at HRt
              generalize l.set (F k) (headOf 0 ((G k : Int) - F k - 1)) = l3 at *
              generalize (bl.set (2 * k) 0).set (2 * k + 1) 0 = bl3 at *
              rw [Nat.mul_comm 2 k] at HRt
              clear hb hf h8 hl9 htl9 g0 g1
              go_wp2_with fail
              refine HRt.out.mono ?_
              rintro e w9 ⟨rfl, h9⟩
              have P3 := hide (P2.out.retired h9)
              have T3 := hide (T2.out.trans_new h9.tu (by intro k hk; simp at hk; rcases hk with rfl | rfl | rfl <;> exact .inr (by have := P2.out.lo; omega)))
              clear HRt h9 P2 T2 L2 O2
              go_wp2_with fail
              go_roundg (4 - (k + 1))
              case measure => omega
              case rel => exact ⟨k + 1, l3, bl3, _, _, _, _, by omega, rfl, by go_num, P3.out, L3.out, O3.out, T3.out⟩
            · have hfg2 : G k = F k := by omega
              rw [hfg2] at g1
              have HRt := hide (retire_none wr a v p q B (k * 2) TB4 ⟨0, en, bu⟩ l bl s (F k) (by omega) g0 g1 ⟨P2.out.ar, P2.out.bf, bt4, Turned.refl _ _⟩)
              have O3 := hide (show ∀ u, u < k + 1 → ¬ F u < G u from fun u hu => by
                by_cases e : u = k
                · subst e; exact hfg
                · exact O2.out u (by omega))
              clear hb hf h8 hl9 htl9 g0 g1 hfg hfg2
              go_wp2_with fail
              refine HRt.out.mono ?_
              rintro e w9 ⟨rfl, k9, hw9⟩
              have U9 := hide (show Turned [] wr w9 by rw [hw9]; exact (Turned.refl [] wr).drewN k9)
              clear HRt hw9
              go_wp2_with fail
              go_roundg (4 - (k + 1))
              case measure => omega
              case rel => exact ⟨k + 1, l, bl, s, F, G, kd, by omega, rfl, by go_num, P2.out.t0 U9.out, L2.out, O3.out, T2.out.trans U9.out⟩
          · have e5 : ¬ ((k : Int) < 4) := by omega
            have hk44 : k = 4 := by omega
            obtain ⟨bs, hb1, hb2, hb3, hb5⟩ := L2.out.walk (fun u hu => O2.out u (by omega)) tp 1 (by omega) (by rcases L2.out.one with h | h; exact .inl h.symm; exact .inr h)
            have hb4 : cnt1 bs = made := by
              have e : objs nx kd 1 = 0 := by
                show objs nx kd 0 + _ = 0
                rw [if_neg (fun hh => by have := (L2.out.seg 0 hh.1).1; omega)]
                rfl
              omega
            have HLf := hide (left_any wr a v p q ⟨0, en, bu⟩ l s P2.out.ar)
            rw [L2.out.above] at HLf
            have htp := L2.out.top.2
            have hl9 := L2.out.len
            simp only at htp HLf
            have HW := hide hb1
            have HB2 := hide hb2
            have HB4 := hide hb4
            have HL9 := hide hl9
            clear hb1 hb2 hb3 hb4 hl9 L2 O2 hk44
            obtain ⟨we, hwe⟩ : ∃ we, we = wr := ⟨_, rfl⟩
            subst hwe
            go_wp2_with fail
            refine HLf.out.mono ?_
            rintro e w9 ⟨rfl, t9⟩
            have P3 := hide (P2.out.t0 t9)
            have T3 := hide (T2.out.trans t9)
            clear HLf t9 P2 T2
            have HWd := hide (words_all p q l s w9 (by have := HL9.out; omega) (by have := HL9.out; omega) 401 HL9.out.symm P3.out.ar.mem)
            rw [HL9.out] at HWd
            go_wp2_with fail
            refine HWd.out.mono ?_
            rintro e w10 ⟨gw, capw, rfl, hd10, t10, -⟩
            have P4 := hide (P3.out.t0 t10)
            have T4 := hide (T3.out.trans t10)
            have HD := hide hd10
            clear HWd hd10 t10 P3 T3
            have hcr : CRd w10 (some ⟨gc, 0, none⟩) 1 [⟨0, 0, 2⟩] := ⟨rfl, by omega, fun i c hc => by
              match i, hc with
              | 0, hc =>
                cases hc
                exact ⟨gc, 0, rfl, by rw [cell_of_heap P4.out.cl]; rfl, by rw [cell_of_heap P4.out.cl]; rfl, by rw [cell_of_heap P4.out.cl]; rfl⟩
              | i + 1, hc => simp at hc, fun c hc => by simp at hc; subst hc; unfold Cls.In In64; simp⟩
            have HWk := hide (rwalk_in capw gw l (some ⟨gc, 0, none⟩) 1 1 [⟨0, 0, 2⟩] 1 (tp : Int) w10 (by have := HL9.out; omega) HD.out hcr (by have := HL9.out; omega))
            have hb1' : walkOf l [⟨0, 0, 2⟩] (tp : Int) 1 = some bs := HW.out
            rw [hb1', HL9.out] at HWk
            simp only [Option.isNone, Option.getD, Bool.false_eq_true, if_false] at HWk
            clear hcr hb1' HW HD HL9
            go_wp2_with fail
            rw [show (en : Int) - ((en : Int) - (tp : Int)) = (tp : Int) by omega]
            refine HWk.out.mono ?_
            rintro e w11 ⟨v', rfl, ho11, t11⟩
            obtain ⟨aor, capr, rfl, hrd⟩ := ownsRow_blks ho11
            have P5 := hide (P4.out.t0 t11)
            have T5 := hide (T4.out.trans t11)
            have RD := hide hrd
            clear HWk ho11 t11 hrd P4 T4
            have hn4 : bs.length ≤ 400 := by omega
            generalize hnb : bs.length = n4 at *
            have HNB := hide hnb
            clear hnb hb5
            go_wp2_with fail
            go_loopg [27, 28] n4 (fun gg s27 s28 wr => ∃ (z o : Nat), z ≤ n4 ∧ gg = n4 - z ∧ s28 = .int .i64 (z : Int) ∧ s27 = .int .i64 (o : Int) ∧ o ≤ z ∧ Aside (o = cnt1 (bs.take z)) ∧ Aside (PB w.heap.size wr a v p q B gx gn go gc ⟨0, en, bu⟩ l bl s xs K ns ow) ∧ Aside (BlkRd wr aor n4 bs) ∧ Aside (Turned [] w wr))
            case atStart => exact ⟨0, 0, by omega, rfl, rfl, rfl, Nat.le_refl _, rfl, P5.out, RD.out, T5.out⟩
            case round =>
              obtain ⟨z, o, hz, hgz, rfl, rfl, hoz, hoc, hpb, hrd, htu⟩ := hrel
              have P6 := hide hpb.out
              have R6 := hide hrd.out
              have T6 := hide htu.out
              have C6 := hide hoc.out
              clear hpb hrd htu hoc P5 RD T5
              by_cases hz4 : z < n4
              · have e6 : (z : Int) < (n4 : Int) := by omega
                obtain ⟨b, hbz⟩ : ∃ b, bs[z]? = some b := ⟨bs[z]'(by have := HNB.out; omega), by simp⟩
                obtain ⟨gb, offb, rfl, q0, q1, q2', q3⟩ := R6.out.cell z b hbz
                have hgood := HB2.out b (List.mem_of_getElem? hbz)
                have HC7 := hide (cnt1_take bs z b hbz)
                obtain ⟨bt, bk, bn, bsz⟩ := b
                simp only at q0 q1 q2' q3
                obtain ⟨gr, g1, g2⟩ := hgood
                simp only at gr g1 g2 HC7
                obtain ⟨tN, rfl⟩ : ∃ tN : Nat, bt = tN := ⟨bt.toNat, by omega⟩
                obtain ⟨sN, rfl⟩ : ∃ sN : Nat, bsz = sN := ⟨bsz.toNat, by omega⟩
                obtain ⟨u, hu⟩ : ∃ u : Nat, (tN : Int) + (sN : Int) - 1 = (u : Int) := ⟨tN + sN - 1, by omega⟩
                rw [show ((tN : Int) + (sN : Int) - 1).toNat = u by omega, show ((tN : Int)).toNat = tN by omega] at g1
                rw [show ((tN : Int)).toNat = tN by omega] at g2
                have hu4 : u < 401 := by omega
                have ht4 : tN < 401 := by omega
                have ta : Turned [] wr (wr.alloc (.cells #[.int .i64 tN, .int .i64 bk, .int .i64 bn, .int .i64 sN] 80)) := (Turned.refl _ _).alloc _
                have P7 := hide (P6.out.t0 ta)
                have R7 := hide (R6.out.turned ta)
                have T7 := hide (T6.out.trans ta)
                have HQ := hide (heap_alloc_new wr (.cells #[.int .i64 tN, .int .i64 bk, .int .i64 bn, .int .i64 sN] 80))
                clear ta P6 T6 R6 hbz
                by_cases hb1 : bk = 1
                · subst hb1
                  obtain ⟨g3, g4⟩ := g1 rfl
                  go_upto_region 58 with fail
                  generalize wr.alloc (.cells #[.int .i64 tN, .int .i64 1, .int .i64 bn, .int .i64 sN] 80) = w12 at *
                  generalize wr.heap.size = Qb at *
                  clear q0 q1 q2' q3
                  have c0 : w12.cell? ⟨Qb, 0, none⟩ = some (.int .i64 tN) := by rw [cell_of_heap HQ.out]; rfl
                  have c3 : w12.cell? ⟨Qb, 3, none⟩ = some (.int .i64 sN) := by rw [cell_of_heap HQ.out]; rfl
                  have w1' := P7.out.ao.at (owl_at ow ht4)
                  have w2' := P7.out.ao.at (owl_at ow hu4)
                  rw [g4] at w2'
                  obtain ⟨ov, hov⟩ : ∃ ov : Int, ov = (ow tN : Int) := ⟨_, rfl⟩
                  rw [← hov] at w1' w2'
                  have hov0 : ¬ (ov = 0) := by omega
                  have dov : (ov == 0) = false := by simp; exact hov0
                  have dov2 : decide (ov = 0) = false := decide_eq_false hov0
                  have dnn : (ov != ov) = false := by simp
                  have ew1 : IntKind.i64.wrap ((tN : Int) + (sN : Int)) = (tN : Int) + (sN : Int) := by rw [IntKind.wrap_i64]; omega
                  have ew2 : IntKind.i64.wrap ((tN : Int) + (sN : Int) - 1) = (u : Int) := by rw [IntKind.wrap_i64]; omega
                  have HU := hide hu
                  clear hov hu g1 g2 g3 g4
                  go_quiet (fail)
                  have P8 := hide (P7.out.t0 ((Turned.refl [] w12).drewN nq))
                  have R8 := hide (R7.out.turned ((Turned.refl [] w12).drewN nq))
                  have T8 := hide (T7.out.drewN nq)
                  generalize w12.drewN nq = w13 at *
                  clear P7 R7 T7 c0 c3 w1' w2' ew1 ew2
                  go_wp2_with fail
                  go_roundg (n4 - (z + 1))
                  case measure => omega
                  case rel => exact ⟨z + 1, o + 1, by omega, rfl, by go_num, by go_num, by omega, by show o + 1 = _; rw [HC7.out, if_pos trivial, ← C6.out], P8.out, R8.out, T8.out⟩
                · have g3 := g2 hb1
                  have w1' := P7.out.ao.at (owl_at ow ht4)
                  rw [g3] at w1'
                  clear g1 g2 g3 hu
                  go_upto_region 60 with fail
                  generalize wr.alloc (.cells #[.int .i64 tN, .int .i64 bk, .int .i64 bn, .int .i64 sN] 80) = w12 at *
                  generalize wr.heap.size = Qb at *
                  clear q0 q1 q2' q3
                  have c0 : w12.cell? ⟨Qb, 0, none⟩ = some (.int .i64 tN) := by rw [cell_of_heap HQ.out]; rfl
                  go_wp2_with fail
                  go_roundg (n4 - (z + 1))
                  case measure => omega
                  case rel => exact ⟨z + 1, o, by omega, rfl, by go_num, rfl, by omega, by show o = _; rw [HC7.out, if_neg hb1, ← C6.out]; rfl, P7.out, R7.out, T7.out⟩
              · have e6 : ¬ ((z : Int) < (n4 : Int)) := by omega
                obtain rfl : z = n4 := by omega
                have hom : o = made := by rw [C6.out, ← HB4.out, ← HNB.out, List.take_length]
                subst hom
                clear P6 R6 C6
                go_wp2_with fail
                go_ret
                exact ⟨rfl, T6.out⟩

end Go.Proofs.Ytelljfckffmjmaa
