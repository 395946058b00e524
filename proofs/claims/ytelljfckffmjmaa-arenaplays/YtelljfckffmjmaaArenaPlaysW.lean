/-
  ArenaPlays: asks of three threads go on step by step, as the document's own do: true for every numbers and every script.
-/
import Derived.Test.YtelljfckffmjmaaArenaPlaysQ
import Derived.Test.YtelljfckffmjmaaArenaOpen
namespace Go.Proofs.Ytelljfckffmjmaa
open Go.ChangeShapes Go.WideShapes Go.ChangeAt Go.RowKit
set_option linter.unusedVariables false

theorem rput_one (p q : Nat) (l : List Int) (s : Int) (k g : Nat) (x : Int) (w : World) (hl : l.length ≤ 65536) (hk : k < l.length) (hx : In64 x) (h : Ref w p q l s) (hc : w.cell? ⟨g, 0, none⟩ = some (.int .i64 x)) (hg : g ≠ p ∧ g ≠ q) :
    Calls Try.prog 13 #[.pointer (some ⟨p, 0, none⟩), .int .i64 k, .slice (some ⟨g, 0, none⟩) 1 1] w fun e w' => e = .returned (.int .i64 0) ∧ Ref w' p q (l.set k x) s ∧ Turned [p, q] w w' := by
  have hr : IsRow .i64 w (some ⟨g, 0, none⟩) 1 1 [x] := .inr ⟨_, rfl, Nat.le_refl _, by unfold maxLen; omega, rfl, fun i hi => by
    have e : i = 0 := by simpa using hi
    subst e
    exact hc, fun n hn => by simp at hn; subst hn; exact wf_of hx⟩
  have h1 := rput_any p q l s k (some ⟨g, 0, none⟩) 1 1 [x] w hl h hr (fun b off _ e => by cases e; exact hg)
  have e1 : putE l k [x] = 0 := by unfold putE; rw [if_pos (by simp; omega)]
  have e2 : putL l k [x] = l.set k x := by
    unfold putL
    rw [if_pos (by simp; omega)]
    apply List.ext_getElem?
    intro i
    rw [over_get _ _ _ (by simp; omega), List.getElem?_set]
    by_cases hi : k = i
    · subst hi; simp [hk]
    · rw [if_neg hi, if_neg (by simp; omega)]
  rw [show ([x].take 1) = [x] from rfl, e1, e2] at h1
  exact h1

theorem alloc4 (w : World) (o0 o1 o2 o3 : Obj) : ((((w.alloc o0).alloc o1).alloc o2).alloc o3).heap[w.heap.size]? = some o0 ∧ ((((w.alloc o0).alloc o1).alloc o2).alloc o3).heap[w.heap.size + 1]? = some o1 ∧ ((((w.alloc o0).alloc o1).alloc o2).alloc o3).heap[w.heap.size + 1 + 1]? = some o2 ∧ ((((w.alloc o0).alloc o1).alloc o2).alloc o3).heap[w.heap.size + 1 + 1 + 1]? = some o3 := by
  have s1 : (w.alloc o0).heap.size = w.heap.size + 1 := by simp
  have s2 : ((w.alloc o0).alloc o1).heap.size = w.heap.size + 2 := by simp
  have s3 : (((w.alloc o0).alloc o1).alloc o2).heap.size = w.heap.size + 3 := by simp
  refine ⟨?_, ?_, ?_, ?_⟩
  · rw [Below.heap_alloc _ _ _ (by omega), Below.heap_alloc _ _ _ (by omega), Below.heap_alloc _ _ _ (by omega), heap_alloc_new]
  · rw [Below.heap_alloc _ _ _ (by omega), Below.heap_alloc _ _ _ (by omega), ← s1, heap_alloc_new]
  · rw [Below.heap_alloc _ _ _ (by omega), show w.heap.size + 1 + 1 = ((w.alloc o0).alloc o1).heap.size by omega, heap_alloc_new]
  · rw [show w.heap.size + 1 + 1 + 1 = (((w.alloc o0).alloc o1).alloc o2).heap.size by omega, heap_alloc_new]

theorem fall_zero (A : AC) (l : List Int) : FAll A l [0, 0, 0, 0, 0, 0] (fun _ => akNew 0) := by
  refine ⟨rfl, fun i hi => ?_⟩
  match i, hi with
  | 0, _ => exact fitNew _ _ _ _ _ _ (by decide) (by simp) (by decide)
  | 1, _ => exact fitNew _ _ _ _ _ _ (by decide) (by simp) (by decide)
  | 2, _ => exact fitNew _ _ _ _ _ _ (by decide) (by simp) (by decide)

set_option maxHeartbeats 40000000 in
set_option maxRecDepth 100000 in
theorem arenaPlays_walk (x0 x1 x2 top : Int) (ao : Option Addr) (len cap : Nat) (cs : List Op3) (w : World) (hx : In64 x0 ∧ In64 x1 ∧ In64 x2) (htop : (Lit.int .i64 top).wf = true) (hz : ORd w ao len cs) :
    Calls Try.prog 3 #[.agg #[.int .i64 x0, .int .i64 x1, .int .i64 x2], .int .i64 top, .slice ao len cap] w fun e w' => e = .returned (.bool true) ∧ Turned [] w w' := by
  have HR := hide hz
  have HTop := hide (wf_range htop)
  have hlen := hz.room
  have HLen := hide hz.size
  have tb : Turned [] w (w.alloc (.cells #[.int .i64 x0, .int .i64 x1, .int .i64 x2] 22)) := (Turned.refl _ _).alloc _
  have HAw := hide (awake_any (w.alloc (.cells #[.int .i64 x0, .int .i64 x1, .int .i64 x2] 22)))
  have HBx := hide (heap_alloc_new w (.cells #[.int .i64 x0, .int .i64 x1, .int .i64 x2] 22))
  have TB := hide tb
  have HBlo := hide (Nat.le_refl w.heap.size)
  clear htop hz tb
  go_enter Try.func3, Try.ntmps3
  go_wp2_with fail
  generalize w.alloc (.cells #[.int .i64 x0, .int .i64 x1, .int .i64 x2] 22) = wz at *
  obtain ⟨hb, hhb⟩ : ∃ hb, hb = w.heap.size := ⟨_, rfl⟩
  rw [← hhb] at HBx ⊢
  have HB := hide (show w.heap.size ≤ hb by omega)
  clear hhb HBlo
  refine HAw.out.mono ?_
  rintro e w0 ⟨rfl, t0⟩
  have T0 := hide (TB.out.trans t0)
  have HB0 := hide (show w0.heap[hb]? = some (.cells #[.int .i64 x0, .int .i64 x1, .int .i64 x2] 22) by rw [t0.block hb (lt_of_heap HBx.out) (by simp)]; exact HBx.out)
  clear t0 HAw TB HBx
  have HNew := hide (new_any 300 w0)
  go_wp2_with fail
  refine HNew.out.mono ?_
  rintro e w1 ⟨rfl, h1, t1, hsz1⟩
  rw [show (min (max (300 : Int) 0) 65536).toNat = 300 by decide] at h1
  have HPQ := hide (show w.heap.size ≤ w0.heap.size + 1 ∧ w.heap.size ≤ w0.heap.size ∧ w0.heap.size < w1.heap.size by have := T0.out.size; omega)
  generalize w0.heap.size + 1 = p at *
  generalize w0.heap.size = q at *
  have HM := hide h1
  have T1 := hide (T0.out.trans t1)
  have HB1 := hide (show w1.heap[hb]? = some (.cells #[.int .i64 x0, .int .i64 x1, .int .i64 x2] 22) by rw [t1.block hb (lt_of_heap HB0.out) (by simp)]; exact HB0.out)
  clear h1 t1 HNew T0 HB0 hsz1
  have HRN := hide (rnew_any 300 w1)
  go_wp2_with fail
  refine HRN.out.mono ?_
  rintro e w2 ⟨rfl, h2, t2, hsz2⟩
  rw [show (min (max (300 : Int) 0) 65536).toNat = 300 by decide] at h2
  have HPQ2 := hide (show w.heap.size ≤ w1.heap.size + 1 ∧ w.heap.size ≤ w1.heap.size ∧ q ≠ w1.heap.size by have := T1.out.size; have := HPQ.out; omega)
  generalize w1.heap.size + 1 = p2 at *
  generalize w1.heap.size = q2 at *
  have HM2 := hide (HM.out.turned t2 (by simp) (by simp))
  have HN2 := hide h2
  have T2 := hide (T1.out.trans t2)
  have HB2 := hide (show w2.heap[hb]? = some (.cells #[.int .i64 x0, .int .i64 x1, .int .i64 x2] 22) by rw [t2.block hb (lt_of_heap HB1.out) (by simp)]; exact HB1.out)
  clear h2 t2 HRN T1 HB1 HM hsz2
  have k0 : w2.cell? ⟨hb, 0, none⟩ = some (.int .i64 x0) := by rw [cell_of_heap HB2.out]; rfl
  have k1 : w2.cell? ⟨hb, 1, none⟩ = some (.int .i64 x1) := by rw [cell_of_heap HB2.out]; rfl
  have k2 : w2.cell? ⟨hb, 2, none⟩ = some (.int .i64 x2) := by rw [cell_of_heap HB2.out]; rfl
  obtain ⟨lz, hlz⟩ : ∃ lz, lz = List.replicate 300 (0 : Int) := ⟨_, rfl⟩
  rw [← hlz] at HM2 HN2
  have HLz := hide (show lz.length = 300 by rw [hlz]; simp)
  clear hlz
  by_cases hok : 0 ≤ x0 ∧ x0 < 300 ∧ 0 ≤ x1 ∧ x1 ≤ 300 ∧ 2 ≤ x2 ∧ x2 ≤ 4096
  · obtain ⟨tp, rfl⟩ : ∃ n : Nat, x0 = n := ⟨x0.toNat, by omega⟩
    obtain ⟨en, rfl⟩ : ∃ n : Nat, x1 = n := ⟨x1.toNat, by omega⟩
    obtain ⟨bu, rfl⟩ : ∃ n : Nat, x2 = n := ⟨x2.toNat, by omega⟩
    have HOk := hide (show tp < 300 ∧ en ≤ 300 ∧ 2 ≤ bu ∧ bu ≤ 4096 by omega)
    have HA := hide (anew_ok w2 p q lz 0 tp en bu (by have := HLz.out; have := HOk.out; omega) (by have := HLz.out; have := HOk.out; omega) (by have := HOk.out; omega) (by have := HLz.out; omega) HM2.out)
    clear hok hx
    go_wp2_with fail
    refine HA.out.mono ?_
    rintro e w3 ⟨a, v, rfl, h3, t3, -⟩
    have H3 := hide h3
    have HN3 := hide (HN2.out.turned t3 (by simp) (by simp))
    have T3 := hide (T2.out.trans t3)
    have HB3 := hide (show w3.heap[hb]? = some (.cells #[.int .i64 tp, .int .i64 en, .int .i64 bu] 22) by rw [t3.block hb (lt_of_heap HB2.out) (by simp)]; exact HB2.out)
    clear k0 k1 k2 HA h3 t3 HN2 T2 HB2 HM2
    have k0 : w3.cell? ⟨hb, 0, none⟩ = some (.int .i64 tp) := by rw [cell_of_heap HB3.out]; rfl
    have k1 : w3.cell? ⟨hb, 1, none⟩ = some (.int .i64 en) := by rw [cell_of_heap HB3.out]; rfl
    have k2 : w3.cell? ⟨hb, 2, none⟩ = some (.int .i64 bu) := by rw [cell_of_heap HB3.out]; rfl
    have HRA := hide (rnew_ok w3 p2 q2 lz 0 tp en bu (by have := HLz.out; have := HOk.out; omega) (by have := HLz.out; have := HOk.out; omega) (by have := HOk.out; omega) (by have := HLz.out; omega) HN3.out)
    go_wp2_with fail
    refine HRA.out.mono ?_
    rintro e w4 ⟨m, rfl, h4, t4, -⟩
    have H4 := hide h4
    have HA4 := hide (H3.out.turned t4 (by simp) (by simp) (by simp) (by simp))
    have T4 := hide (T3.out.trans t4)
    have HB4 := hide (show w4.heap[hb]? = some (.cells #[.int .i64 tp, .int .i64 en, .int .i64 bu] 22) by rw [t4.block hb (lt_of_heap HB3.out) (by simp)]; exact HB3.out)
    clear k0 k1 k2 HRA h4 t4 HN3 T3 HB3 H3
    have k0 : w4.cell? ⟨hb, 0, none⟩ = some (.int .i64 tp) := by rw [cell_of_heap HB4.out]; rfl
    have HP := hide (put_one p q lz 0 tp w4.heap.size 1 top (w4.alloc (.cells #[.int .i64 top] 2)) (by have := HLz.out; omega) (by have := HLz.out; have := HOk.out; omega) (HA4.out.mem.alloc _) (by rw [cell_of_heap (heap_alloc_new _ _)]; rfl))
    have ta : Turned [] w4 (w4.alloc (.cells #[.int .i64 top] 2)) := (Turned.refl _ _).alloc _
    have TA := hide ta
    have T4a := hide (T4.out.trans ta)
    clear ta
    obtain ⟨l1, hl1⟩ : ∃ l1, l1 = lz.set tp top := ⟨_, rfl⟩
    rw [← hl1] at HP
    have HL1 := hide (show l1.length = 300 by rw [hl1]; simp; exact HLz.out)
    go_wp2_with fail
    refine HP.out.mono ?_
    rintro e w5 ⟨rfl, h5, t5⟩
    have T5 := hide (T4a.out.trans_new t5 (by intro i hi; simp at hi; rcases hi with rfl | rfl <;> exact .inr (by have := HPQ.out; omega)))
    have HAa := HA4.out.turned TA.out (by simp) (by simp) (by simp) (by simp)
    have HRa := H4.out.turned TA.out (by simp) (by simp) (by simp)
    have H5 := hide (HAa.acc h5 (by rw [HL1.out, HLz.out]) t5)
    have HR5 := hide (HRa.turned t5 (by simp; exact ⟨ne_of_type HRa.head HAa.mem.head (by decide), ne_of_type HRa.head HAa.mem.row (by decide)⟩) (by simp; exact ⟨ne_of_type HRa.mem.head HAa.mem.head (by decide), ne_of_type HRa.mem.head HAa.mem.row (by decide)⟩) (by simp; exact ⟨ne_of_type HRa.mem.row HAa.mem.head (by decide), Ne.symm HPQ2.out.2.2⟩))
    have HB5 := hide (show w5.heap[hb]? = some (.cells #[.int .i64 tp, .int .i64 en, .int .i64 bu] 22) by
      have e1 : (w4.alloc (.cells #[.int .i64 top] 2)).heap[hb]? = some (.cells #[.int .i64 tp, .int .i64 en, .int .i64 bu] 22) := by rw [TA.out.block hb (lt_of_heap HB4.out) (by simp)]; exact HB4.out
      rw [t5.block hb (lt_of_heap e1) (by simp; exact ⟨ne_of_type e1 HAa.mem.head (by decide), ne_of_type e1 HAa.mem.row (by decide)⟩)]; exact e1)
    clear HP h5 t5 HAa HRa T4a TA HA4 H4 T4 HB4 k0
    have k0 : w5.cell? ⟨hb, 0, none⟩ = some (.int .i64 tp) := by rw [cell_of_heap HB5.out]; rfl
    have ta : Turned [] w5 (w5.alloc (.cells #[.int .i64 top] 2)) := (Turned.refl _ _).alloc _
    have HP := hide (rput_one p2 q2 lz 0 tp w5.heap.size top (w5.alloc (.cells #[.int .i64 top] 2)) (by have := HLz.out; omega) (by have := HLz.out; have := HOk.out; omega) HTop.out (HR5.out.mem.turned ta (by simp) (by simp)) (by rw [cell_of_heap (heap_alloc_new _ _)]; rfl) (by have h1 := HR5.out.mem.ltp; have h2 := HR5.out.mem.ltq; omega))
    have TA := hide ta
    have T5a := hide (T5.out.trans ta)
    rw [← hl1] at HP
    clear ta hl1
    go_wp2_with fail
    refine HP.out.mono ?_
    rintro e w6 ⟨rfl, h6, t6⟩
    have T6 := hide (T5a.out.trans_new t6 (by intro i hi; simp at hi; rcases hi with rfl | rfl <;> exact .inr (by have := HPQ2.out; omega)))
    have HAa := H5.out.turned TA.out (by simp) (by simp) (by simp) (by simp)
    have HRa := HR5.out.turned TA.out (by simp) (by simp) (by simp)
    have HR6 := hide (HRa.acc h6 (by rw [HL1.out, HLz.out]) t6)
    have H6 := hide (HAa.turned t6 (by simp; exact ⟨ne_of_type HAa.head HRa.mem.head (by decide), ne_of_type HAa.head HRa.mem.row (by decide)⟩) (by simp; exact ⟨ne_of_type HAa.var HRa.mem.head (by decide), ne_of_type HAa.var HRa.mem.row (by decide)⟩) (by simp; exact ⟨ne_of_type HAa.mem.head HRa.mem.head (by decide), ne_of_type HAa.mem.head HRa.mem.row (by decide)⟩) (by simp; exact ⟨ne_of_type HAa.mem.row HRa.mem.head (by decide), HPQ2.out.2.2⟩))
    clear HP h6 t6 HAa HRa T5a TA H5 HR5 T5 HB5 k0 HLz
    go_wp2_with fail
    have HA4 := hide (alloc4 w6 (.cells #[.pointer none, .pointer none, .pointer none] 40) (.cells #[.pointer none, .pointer none, .pointer none] 42) (.cells #[.int .i64 0, .int .i64 0, .int .i64 0, .int .i64 0, .int .i64 0, .int .i64 0] 45) (.cells #[.int .i64 0, .int .i64 0, .int .i64 0, .int .i64 0, .int .i64 0, .int .i64 0] 47))
    have t7 : Turned [] w6 ((((w6.alloc (.cells #[.pointer none, .pointer none, .pointer none] 40)).alloc (.cells #[.pointer none, .pointer none, .pointer none] 42)).alloc (.cells #[.int .i64 0, .int .i64 0, .int .i64 0, .int .i64 0, .int .i64 0, .int .i64 0] 45)).alloc (.cells #[.int .i64 0, .int .i64 0, .int .i64 0, .int .i64 0, .int .i64 0, .int .i64 0] 47)) := ((((Turned.refl _ _).alloc _).alloc _).alloc _).alloc _
    have H7 := hide (H6.out.turned t7 (by simp) (by simp) (by simp) (by simp))
    have HR7 := hide (HR6.out.turned t7 (by simp) (by simp) (by simp))
    have T7 := hide (T6.out.trans t7)
    have HG := hide (show w.heap.size ≤ w6.heap.size from T6.out.size)
    clear t7 H6 HR6 T6
    generalize ((((w6.alloc (.cells #[.pointer none, .pointer none, .pointer none] 40)).alloc (.cells #[.pointer none, .pointer none, .pointer none] 42)).alloc (.cells #[.int .i64 0, .int .i64 0, .int .i64 0, .int .i64 0, .int .i64 0, .int .i64 0] 45)).alloc (.cells #[.int .i64 0, .int .i64 0, .int .i64 0, .int .i64 0, .int .i64 0, .int .i64 0] 47)) = w7 at *
    generalize hD : w6.heap.size + 1 + 1 + 1 = D at *
    generalize hB : w6.heap.size + 1 + 1 = B at *
    generalize hgy : w6.heap.size + 1 = gy at *
    have HG2 := hide (show w.heap.size ≤ gy ∧ w.heap.size ≤ B ∧ w.heap.size ≤ D by have := HG.out; omega)
    clear hgy hB hD
    generalize w6.heap.size = gx at *
    have P0 := hide (show PA w.heap.size w7 a v p q B gx ⟨tp, en, bu⟩ l1 [0, 0, 0, 0, 0, 0] 0 (fun _ => none) (fun _ => akNew 0) from ⟨H7.out, HA4.out.2.2.1, HA4.out.1, fun i b hi h => (by cases h), fun i j b hi hj h => (by cases h), by have h1 := HPQ.out; have h2 := HG.out; have h3 := HG2.out; exact ⟨h1.1, h1.2.1, h3.2.1, h2⟩, fun i b hi h => (by cases h)⟩)
    have Q0 := hide (show PR w.heap.size w7 m p2 q2 D gy ⟨tp, en, bu⟩ l1 [0, 0, 0, 0, 0, 0] 0 (fun _ => none) (fun _ => ⟨0, 0, false, 0, 0, false, 0, 0⟩) from ⟨HR7.out, HA4.out.2.2.2, HA4.out.2.1, fun i b hi h => (by cases h), fun i j b hi hj h => (by cases h), by have h1 := HPQ2.out; have h3 := HG2.out; exact ⟨h1.1, h1.2.1, h3.2.2, h3.1⟩, fun i b hi h => (by cases h)⟩)
    have F0 := hide (fall_zero ⟨tp, en, bu⟩ l1)
    have S0 := hide (show Sync ⟨tp, en, bu⟩ (fun _ => akNew 0) (fun _ => ⟨0, 0, false, 0, 0, false, 0, 0⟩) (fun _ => none) (fun _ => none) from fun i hi => .inl ⟨rfl, rfl⟩)
    clear H7 HR7 HA4 HPQ HG HG2
    have HQQ := hide HPQ2.out.2.2
    have HTo := hide (show en ≤ 300 from HOk.out.2.1)
    obtain ⟨bl0, hbl0⟩ : ∃ bl0 : List Int, bl0 = [0, 0, 0, 0, 0, 0] := ⟨_, rfl⟩
    rw [← hbl0] at P0 Q0 F0
    clear hbl0 HPQ2 HOk
    go_loopg [18] 200 (fun gg s18 wr => ∃ (j : Nat) (l bl : List Int) (s : Int) (xs ys : Nat → Option Nat) (K : Nat → AkS) (R : Nat → RkS), j ≤ len ∧ j ≤ 200 ∧ gg = 200 - j ∧ s18 = .int .i64 (j : Int) ∧ Aside (PA w.heap.size wr a v p q B gx ⟨tp, en, bu⟩ l bl s xs K) ∧ Aside (PR w.heap.size wr m p2 q2 D gy ⟨tp, en, bu⟩ l bl s ys R) ∧ Aside (FAll ⟨tp, en, bu⟩ l bl K) ∧ Aside (Sync ⟨tp, en, bu⟩ K R xs ys) ∧ Aside (Turned [] w wr) ∧ Aside (l.length = 300))
    case atStart => exact ⟨0, l1, bl0, 0, _, _, _, _, by omega, by omega, rfl, rfl, P0.out, Q0.out, F0.out, S0.out, T7.out, HL1.out⟩
    case round =>
      obtain ⟨j, l, bl, s, xs, ys, K, R, hj, hj2, hgg, rfl, hpa, hpr, hfa, hsy, htu, hll⟩ := hrel
      have P1 := hide hpa.out
      have Q1 := hide hpr.out
      have F1 := hide hfa.out
      have S1 := hide hsy.out
      have T1 := hide htu.out
      have L1 := hide hll.out
      clear hpa hpr hfa hsy htu hll P0 Q0 F0 S0 T7 HL1
      by_cases hc : j < len ∧ j < 200
      · obtain ⟨⟨ck, cw, cz⟩, hcs⟩ : ∃ c, cs[j]? = some c := ⟨cs[j]'(by have := HLen.out; omega), by simp⟩
        obtain ⟨b0, off, rfl, q0, q1, q2'⟩ := HR.out.cell j _ hcs
        have hin := HR.out.inn _ (List.mem_of_getElem? hcs)
        simp only at q0 q1 q2'
        have r0 := (T1.out.cell (block_lt q0) (by simp)).trans q0
        have r1 := (T1.out.cell (block_lt q1) (by simp)).trans q1
        have r2 := (T1.out.cell (block_lt q2') (by simp)).trans q2'
        have e1 : (j : Int) < (len : Int) := by omega
        have e2 : (j : Int) < 200 := by omega
        have HPw := hide (fun w' => lpick_any cw 3 w' hin.2.1 (by omega))
        have HPk := hide (fun w' => lpick_any ck 5 w' hin.1 (by omega))
        have hi3 := pickOf_lt cw 3 (by omega)
        have hk5 := pickOf_lt ck 5 (by omega)
        generalize pickOf cw 3 = i at *
        generalize pickOf ck 5 = kk at *
        clear hcs hin q0 q1 q2'
        go_wp2_with fail
        have ta : Turned [] wr (wr.alloc (.cells #[.int .i64 ck, .int .i64 cw, .int .i64 cz] 49)) := (Turned.refl _ _).alloc _
        have P2 := hide (P1.out.t0 ta)
        have Q2 := hide (Q1.out.t0 ta)
        have T2 := hide (T1.out.trans ta)
        have HO := hide (heap_alloc_new wr (.cells #[.int .i64 ck, .int .i64 cw, .int .i64 cz] 49))
        have HOl := hide (show w.heap.size ≤ wr.heap.size from T1.out.size)
        clear ta P1 Q1 T1 r0 r1 r2
        generalize wr.alloc (.cells #[.int .i64 ck, .int .i64 cw, .int .i64 cz] 49) = w8 at *
        generalize wr.heap.size = O at *
        refine (HPw.out _).mono ?_
        rintro e w9 ⟨rfl, hw⟩
        rw [hw]
        clear hw w9 HPw
        have y1 := Q2.out.ax.at i hi3
        have o0 : w8.cell? ⟨O, 0, none⟩ = some (.int .i64 ck) := by rw [cell_of_heap HO.out]; rfl
        have e3 : (i : Int) < 3 := by omega
        go_upto_region 21 with fail
        go_cut [21] (fun s21 wc => ∃ fr : Bool, s21 = .bool fr ∧ Aside (fr = true ∨ ys i ≠ none) ∧ Aside (wc = w8))
        case first =>
          rcases S1.out i hi3 with ⟨h1, h2⟩ | ⟨b, c, h1, h2, hrel⟩
          · rw [h1] at y1
            simp only [pv, Option.map] at y1
            go_wp2_with fail
            go_meet
            case rel => exact ⟨true, rfl, .inl rfl, rfl⟩
          · have hk := Q2.out.ak i c hi3 h2
            have y7 := RkG.f hk 7
            simp only [rkCells] at y7
            have HNN := hide (show ys i ≠ none by rw [h2]; simp)
            rw [h2] at y1
            simp only [pv, Option.map] at y1
            clear hk hrel h1 h2
            generalize (R i).ended = fr at *
            go_wp2_with fail
            go_meet
            case rel => exact ⟨fr, rfl, .inr HNN.out, rfl⟩
        case rest =>
          obtain ⟨fr, rfl, hfr, hwc⟩ := hcut
          have hwc' := hwc.out
          subst hwc'
          have HFr := hide hfr.out
          clear hwc hfr y1
          go_wp2_with fail
          refine (HPk.out _).mono ?_
          rintro e w9 ⟨rfl, hw⟩
          rw [hw]
          clear hw w9 HPk o0
          go_upto_block 2 with fail
          obtain ⟨wb, hwb⟩ : ∃ wb, wb = wc := ⟨_, rfl⟩
          subst hwb
          go_cut [112] (fun _ wc => ∃ (l bl : List Int) (s : Int) (xs ys : Nat → Option Nat) (K : Nat → AkS) (R : Nat → RkS), Aside (PA w.heap.size wc a v p q B gx ⟨tp, en, bu⟩ l bl s xs K) ∧ Aside (PR w.heap.size wc m p2 q2 D gy ⟨tp, en, bu⟩ l bl s ys R) ∧ Aside (FAll ⟨tp, en, bu⟩ l bl K) ∧ Aside (Sync ⟨tp, en, bu⟩ K R xs ys) ∧ Aside (Turned [] w wc) ∧ Aside (l.length = 300))
          case first =>
            by_cases hk0 : kk = 0
            · subst hk0
              cases fr
              · skip
                as_aux_lemma =>
                  go_wp2_with fail
                  go_meet
                  case rel => exact ⟨l, bl, s, xs, ys, K, R, P2.out, Q2.out, F1.out, S1.out, T2.out, L1.out⟩
              · skip
                as_aux_lemma =>
                  have o2 : wb.cell? ⟨O, 2, none⟩ = some (.int .i64 cz) := by rw [cell_of_heap HO.out]; rfl
                  have HK := hide (fun w' (h' : Arn w' a v p q ⟨tp, en, bu⟩ l s) => ask_any w' a v p q B (i * 2) ⟨tp, en, bu⟩ l s cz h')
                  have HOg := hide (show O ≠ gx from ne_of_type HO.out P2.out.ax (by decide))
                  have x1 := P2.out.ax.at i hi3
                  have x1z := P2.out.ax.fz i
                  go_wp2_with fail
                  go_region_held3 (fun w' => w'.cell? ⟨O, 2, none⟩ = some (.int .i64 cz)) (first | go_keep | exact i2)
                    (first
                      | (go_at_call 15; refine (HK.out _ P2.out.ar.drew).mono ?_; rintro e w9 ⟨rfl, hk, t9, -⟩; have TD := hide ((Turned.refl [] wb).drew.trans t9); have HK9 := hide hk; have ho2 := (TD.out.cell (p := ⟨O, 2, none⟩) (lt_of_heap HO.out) (by simp)).trans o2; have P9 := P2.out.ax.turned TD.out (by simp); have x9 := P9.at i hi3; have x9z := P9.fz i; have i2 := (((Turned.refl [gx] w9).setCell (p := ⟨gx, i, none⟩) (by simp) (pv (some wb.heap.size))).cell (p := ⟨O, 2, none⟩) (Nat.lt_of_lt_of_le (lt_of_heap HO.out) TD.out.size) (by simp; exact HOg.out)).trans ho2; clear hk t9 P9))
                  have P3 := hide (show PA w.heap.size (w9.setCell ⟨gx, i, none⟩ (.pointer (some ⟨wb.heap.size, 0, none⟩))) a v p q B gx ⟨tp, en, bu⟩ l bl s (updx xs i (some wb.heap.size)) (updx K i (akNew cz)) from P2.out.ask TD.out hi3 (Nat.mul_comm i 2 ▸ HK9.out) rfl T2.out.size)
                  have Q3 := hide (show PR w.heap.size (w9.setCell ⟨gx, i, none⟩ (.pointer (some ⟨wb.heap.size, 0, none⟩))) m p2 q2 D gy ⟨tp, en, bu⟩ l bl s ys R from (Q2.out.t0 TD.out).keepG (P2.out.t0 TD.out) i _)
                  have T3 := hide (show Turned [] w (w9.setCell ⟨gx, i, none⟩ (.pointer (some ⟨wb.heap.size, 0, none⟩))) from (T2.out.trans TD.out).setCell (.inr P2.out.lo.2.2.2) _)
                  have i3 : (w9.setCell ⟨gx, i, none⟩ (.pointer (some ⟨wb.heap.size, 0, none⟩))).cell? ⟨O, 2, none⟩ = some (.int .i64 cz) := i2
                  clear i2 ho2 x9 x9z HK9 TD HK x1 x1z o2 P2 Q2 T2 HO HOg
                  generalize w9.setCell ⟨gx, i, none⟩ (.pointer (some ⟨wb.heap.size, 0, none⟩)) = w10 at *
                  generalize wb.heap.size = xb at *
                  have y1 := Q3.out.ax.at i hi3
                  have y1z := Q3.out.ax.fz i
                  have ta : Turned [] w10 (w10.alloc (.cells #[.pointer (some ⟨m, 0, none⟩), .pointer (some ⟨D, i * 2, none⟩), .int .i64 cz, .int .i64 0, .bool false, .int .i64 0, .int .i64 0, .bool false, .int .i64 0, .int .i64 0] 53)) := (Turned.refl _ _).alloc _
                  have hkb : RkB (w10.alloc (.cells #[.pointer (some ⟨m, 0, none⟩), .pointer (some ⟨D, i * 2, none⟩), .int .i64 cz, .int .i64 0, .bool false, .int .i64 0, .int .i64 0, .bool false, .int .i64 0, .int .i64 0] 53)) w10.heap.size m D (2 * i) ⟨cz, 0, false, 0, 0, false, 0, 0⟩ := by rw [Nat.mul_comm]; exact heap_alloc_new _ _
                  have P4 := hide (show PA w.heap.size ((w10.alloc (.cells #[.pointer (some ⟨m, 0, none⟩), .pointer (some ⟨D, i * 2, none⟩), .int .i64 cz, .int .i64 0, .bool false, .int .i64 0, .int .i64 0, .bool false, .int .i64 0, .int .i64 0] 53)).setCell ⟨gy, i, none⟩ (.pointer (some ⟨w10.heap.size, 0, none⟩))).drew a v p q B gx ⟨tp, en, bu⟩ l bl s (updx xs i (some xb)) (updx K i (akNew cz)) from (((P3.out.t0 ta).keepG (Q3.out.t0 ta) i _).t0 (Turned.refl [] _).drew))
                  have Q4 := hide (show PR w.heap.size ((w10.alloc (.cells #[.pointer (some ⟨m, 0, none⟩), .pointer (some ⟨D, i * 2, none⟩), .int .i64 cz, .int .i64 0, .bool false, .int .i64 0, .int .i64 0, .bool false, .int .i64 0, .int .i64 0] 53)).setCell ⟨gy, i, none⟩ (.pointer (some ⟨w10.heap.size, 0, none⟩))).drew m p2 q2 D gy ⟨tp, en, bu⟩ l bl s (updx ys i (some w10.heap.size)) (updx R i ⟨cz, 0, false, 0, 0, false, 0, 0⟩) from ((Q3.out.ask ta hi3 hkb rfl T3.out.size).t0 (Turned.refl [] _).drew))
                  have T4 := hide (show Turned [] w ((w10.alloc (.cells #[.pointer (some ⟨m, 0, none⟩), .pointer (some ⟨D, i * 2, none⟩), .int .i64 cz, .int .i64 0, .bool false, .int .i64 0, .int .i64 0, .bool false, .int .i64 0, .int .i64 0] 53)).setCell ⟨gy, i, none⟩ (.pointer (some ⟨w10.heap.size, 0, none⟩))).drew from ((T3.out.trans ta).setCell (.inr Q3.out.lo.2.2.2) _).drew)
                  have y9 := ((Q3.out.t0 ta).ax.at i hi3)
                  have y9z := ((Q3.out.t0 ta).ax.fz i)
                  clear ta hkb P3 Q3 T3
                  go_wp2_with fail
                  go_region
                  go_wp2_with fail
                  go_meet
                  case rel => exact ⟨l, bl, s, _, _, _, _, P4.out, Q4.out, F1.out.ask i hi3 cz, S1.out.ask (rel_new _ cz), T4.out, L1.out⟩
            · have hk0' : ¬ ((kk : Int) = 0) := by omega
              by_cases hk4 : kk = 4
              · subst hk4
                cases fr
                · skip
                  as_aux_lemma =>
                    go_wp2_with fail
                    go_meet
                    case rel => exact ⟨l, bl, s, xs, ys, K, R, P2.out, Q2.out, F1.out, S1.out, T2.out, L1.out⟩
                · skip
                  as_aux_lemma =>
                    obtain ⟨f, hf⟩ : ∃ f, f = bl.getD (2 * i) 0 := ⟨_, rfl⟩
                    obtain ⟨t, ht⟩ : ∃ t, t = bl.getD (2 * i + 1) 0 := ⟨_, rfl⟩
                    have fb := F1.out.2 i hi3
                    have fb0 := fb.b0
                    have fb1 := fb.b1
                    have h6 := F1.out.1
                    simp only at fb0 fb1
                    rw [← hf, ← ht] at fb0
                    rw [← ht] at fb1
                    have g0 : bl[i * 2]? = some f := by rw [Nat.mul_comm, hf]; exact getD_some (by omega)
                    have g1 : bl[i * 2 + 1]? = some t := by rw [Nat.mul_comm, ht]; exact getD_some (by omega)
                    clear fb h6 hf ht
                    by_cases hft : f < t
                    · have HR1 := hide (fun w' (h' : Ab w' w' a v p q B TB3 ⟨tp, en, bu⟩ l bl s) => retire_any w' a v p q B (i * 2) TB3 ⟨tp, en, bu⟩ l bl s f t ⟨fb0.1, hft, fb1⟩ g0 g1 h')
                      have HR2 := hide (fun w' (h' : Rb w' w' m p2 q2 D TR3 ⟨tp, en, bu⟩ l bl s) => rretire_any w' m p2 q2 D (i * 2) TR3 ⟨tp, en, bu⟩ l bl s f t ⟨fb0.1, hft, fb1⟩ g0 g1 h')
                      rw [Nat.mul_comm i 2] at HR1 HR2
                      have FF := hide (F1.out.fill i hi3 f.toNat (headOf 0 (t - f - 1)))
                      have LL := hide (show (l.set f.toNat (headOf 0 (t - f - 1))).length = 300 by simp; exact L1.out)
                      generalize l.set f.toNat (headOf 0 (t - f - 1)) = l2 at *
                      generalize (bl.set (2 * i) 0).set (2 * i + 1) 0 = bl2 at *
                      rw [Nat.mul_comm 2 i] at HR1 HR2
                      clear fb0 fb1 g0 g1
                      go_wp2_with fail
                      go_region_held3 (fun _ => True) (exact trivial)
                        (first
                          | (go_at_call 16; refine (HR1.out _ ⟨P2.out.ar.drew, P2.out.bf, bt3, Turned.refl _ _⟩).mono ?_; rintro e w9 ⟨rfl, h9⟩; have P9 := hide ((P2.out.t0 (Turned.refl [] wb).drew).retired h9); have Q9 := hide ((Q2.out.t0 (Turned.refl [] wb).drew).keepB (P2.out.t0 (Turned.refl [] wb).drew) HQQ.out h9.tu); have T9 := hide (T2.out.drew.trans_new h9.tu (by intro k hk; simp at hk; rcases hk with rfl | rfl | rfl <;> exact .inr (by have := P2.out.lo; omega))); clear h9 HR1)
                          | (go_at_call 17; refine (HR2.out _ ⟨Q9.out.ar, Q9.out.bf, br3, Turned.refl _ _⟩).mono ?_; rintro e w10 ⟨rfl, h10⟩; have P10 := hide (P9.out.keepD Q9.out HQQ.out h10.tu); have Q10 := hide (Q9.out.retired h10); have T10 := hide (T9.out.trans_new h10.tu (by intro k hk; simp at hk; rcases hk with rfl | rfl | rfl <;> exact .inr (by have := Q9.out.lo; omega))); clear h10 HR2))
                      clear P2 Q2 T2 P9 Q9 T9
                      go_wp2_with fail
                      go_meet
                      case rel => exact ⟨l2, bl2, _, xs, ys, K, R, P10.out, Q10.out, FF.out, S1.out, T10.out, LL.out⟩
                    · obtain rfl : t = f := by omega
                      have HR1 := hide (fun w' (h' : Ab w' w' a v p q B TB3 ⟨tp, en, bu⟩ l bl s) => retire_none w' a v p q B (i * 2) TB3 ⟨tp, en, bu⟩ l bl s t ⟨fb0.1, fb1⟩ g0 g1 h')
                      have HR2 := hide (fun w' (h' : Rb w' w' m p2 q2 D TR3 ⟨tp, en, bu⟩ l bl s) => rretire_none w' m p2 q2 D (i * 2) TR3 ⟨tp, en, bu⟩ l bl s t g0 g1 h')
                      clear fb0 fb1 g0 g1 hft
                      go_wp2_with fail
                      go_region_held3 (fun _ => True) (exact trivial)
                        (first
                          | (go_at_call 16; refine (HR1.out _ ⟨P2.out.ar.drew, P2.out.bf, bt3, Turned.refl _ _⟩).mono ?_; rintro e w9 ⟨rfl, k9, hw9⟩; have U9 := hide (show Turned [] wb w9 by rw [hw9]; exact (Turned.refl [] wb).drew.drewN k9); have Q9 := hide (Q2.out.t0 U9.out); clear hw9 HR1)
                          | (go_at_call 17; refine (HR2.out _ ⟨Q9.out.ar, Q9.out.bf, br3, Turned.refl _ _⟩).mono ?_; rintro e w10 ⟨rfl, k10, hw10⟩; have U10 := hide (show Turned [] wb w10 by rw [hw10]; exact U9.out.drewN k10); clear hw10 HR2))
                      go_wp2_with fail
                      go_meet
                      case rel => exact ⟨l, bl, s, xs, ys, K, R, P2.out.t0 U10.out, Q2.out.t0 U10.out, F1.out, S1.out, T2.out.trans U10.out, L1.out⟩
              · have hk4' : ¬ ((kk : Int) = 4) := by omega
                have hk1 : (0 : Int) < kk := by omega
                have hk2 : (kk : Int) < 4 := by omega
                as_aux_lemma =>
                  rcases S1.out i hi3 with ⟨h1, h2⟩ | ⟨b, c, h1, h2, hrel⟩
                  · have y1 := Q2.out.ax.at i hi3
                    rw [h1] at y1
                    simp only [pv, Option.map] at y1
                    go_wp2_with fail
                    go_meet
                    case rel => exact ⟨l, bl, s, xs, ys, K, R, P2.out, Q2.out, F1.out, S1.out, T2.out, L1.out⟩
                  · have y1 := Q2.out.ax.at i hi3
                    have x1 := P2.out.ax.at i hi3
                    rw [h2] at y1
                    rw [h1] at x1
                    simp only [pv, Option.map] at y1 x1
                    have HS := hide (kstep_any wb a v p q B b (2 * i) TB3 ⟨tp, en, bu⟩ ⟨l, bl, K i, s⟩ ((F1.out.2 i hi3).s s) ⟨P2.out.ar, P2.out.bf, bt3, P2.out.ak i b hi3 h1, Turned.refl _ _⟩)
                    have HRS := hide (fun w' (h' : PR w.heap.size w' m p2 q2 D gy ⟨tp, en, bu⟩ l bl s ys R) => rstep_any w' m p2 q2 D c (2 * i) TR3 ⟨tp, en, bu⟩ ⟨l, bl, K i, s⟩ (R i) ((F1.out.2 i hi3).s s) hrel ⟨h'.ar, h'.bf, br3, h'.ak i c hi3 h2, Turned.refl _ _⟩)
                    have F9 := hide (F1.out.step (by show en ≤ l.length; rw [L1.out]; exact HTo.out) hi3 s)
                    have L9 := hide (show (stepA ⟨tp, en, bu⟩ (2 * i) ⟨l, bl, K i, s⟩).l.length = 300 by rw [(stepA_len _ _ _).1]; exact L1.out)
                    have X1 := hide h1
                    have Y1 := hide h2
                    clear hrel h1 h2
                    generalize stepA ⟨tp, en, bu⟩ (2 * i) ⟨l, bl, K i, s⟩ = Y at *
                    obtain ⟨Yl, Ybl, Yk, Ys⟩ := Y
                    simp only at HS HRS F9 L9
                    go_wp2_with fail
                    refine HS.out.mono ?_
                    rintro e w9 ⟨rfl, h9⟩
                    have P9 := hide (P2.out.step hi3 X1.out h9)
                    have Q9 := hide (Q2.out.keepA P2.out HQQ.out (P2.out.ak i b hi3 X1.out) h9.tu)
                    have T9 := hide (T2.out.trans_new h9.tu (by intro k hk; simp at hk; rcases hk with rfl | rfl | rfl | rfl <;> exact .inr (by have h1 := P2.out.lo; have h2 := P2.out.lb i _ hi3 X1.out; omega)))
                    have HRS2 := hide (HRS.out w9 Q9.out)
                    clear HS HRS h9 P2 Q2 T2 x1 y1
                    have y9 := Q9.out.ax.at i hi3
                    rw [Y1.out] at y9
                    simp only [pv, Option.map] at y9
                    go_wp2_with fail
                    refine HRS2.out.mono ?_
                    rintro e w10 ⟨rfl, r', hr', h10⟩
                    have P10 := hide (P9.out.keepR Q9.out HQQ.out (Q9.out.ak i c hi3 Y1.out) h10.tu)
                    have Q10 := hide (Q9.out.step hi3 Y1.out h10)
                    have T10 := hide (T9.out.trans_new h10.tu (by intro k hk; simp at hk; rcases hk with rfl | rfl | rfl | rfl <;> exact .inr (by have h1 := Q9.out.lo; have h2 := Q9.out.lb i _ hi3 Y1.out; omega)))
                    have HRel := hide hr'
                    clear HRS2 h10 P9 Q9 T9 y9 hr'
                    have hki : AkB w10 b a B (2 * i) Yk := by have h := P10.out.ak i b hi3 X1.out; simpa [updx] using h
                    have hri : RkB w10 c m D (2 * i) r' := by have h := Q10.out.ak i c hi3 Y1.out; simpa [updx] using h
                    have HAt := hide (kat_any w10 a B b (2 * i) Yk hki)
                    have HKI := hide hki
                    have HRI := hide hri
                    clear hki hri
                    have x10 := P10.out.ax.at i hi3
                    rw [X1.out] at x10
                    simp only [pv, Option.map] at x10
                    go_wp2_with fail
                    refine HAt.out.mono ?_
                    rintro e w11 ⟨rfl, k11, hw11⟩
                    have U11 := hide (show Turned [] w10 w11 by rw [hw11]; exact (Turned.refl [] w10).drewN k11)
                    clear hw11 HAt x10
                    have P11 := hide (P10.out.t0 U11.out)
                    have Q11 := hide (Q10.out.t0 U11.out)
                    have T11 := hide (T10.out.trans U11.out)
                    have HD := hide (kdone_any w11 a B b (2 * i) Yk (HKI.out.turned U11.out (by simp)))
                    have hri := RkG.turned HRI.out U11.out (by simp)
                    have c8 := RkG.f hri 8
                    have c9 := RkG.f hri 9
                    simp only [rkCells] at c8 c9
                    have x11 := P11.out.ax.at i hi3
                    have y11 := Q11.out.ax.at i hi3
                    rw [X1.out] at x11
                    rw [Y1.out] at y11
                    simp only [pv, Option.map] at x11 y11
                    have S11 := hide (S1.out.step hi3 X1.out Y1.out HRel.out)
                    clear hri HKI HRI P10 Q10 T10 U11 S1 F1 L1
                    obtain ⟨kat, kd, ks, kt, kw, kp, ke⟩ := Yk
                    cases kd
                    · as_aux_lemma =>
                      rw [show atOf ⟨kat, false, ks, kt, kw, kp, ke⟩ = (0, 16) from rfl]
                      simp only at HD ⊢
                      go_wp2_with fail
                      refine HD.out.mono ?_
                      rintro e w12 ⟨rfl, hw⟩
                      rw [hw]
                      clear hw w12 HD
                      go_wp2_with fail
                      go_meet
                      case rel => exact ⟨_, _, _, _, _, _, _, P11.out, Q11.out, F9.out, S11.out, T11.out, L9.out⟩
                    · as_aux_lemma =>
                      rw [show atOf ⟨kat, true, ks, kt, kw, kp, ke⟩ = (kp, ke) from rfl]
                      rw [(HRel.out.told rfl).1] at c8
                      rw [(HRel.out.told rfl).2] at c9
                      simp only at HD c8 c9 ⊢
                      go_wp2_with fail
                      refine HD.out.mono ?_
                      rintro e w12 ⟨rfl, hw⟩
                      rw [hw]
                      clear hw w12 HD
                      go_wp2_with fail
                      go_meet
                      case rel => exact ⟨_, _, _, _, _, _, _, P11.out, Q11.out, F9.out, S11.out, T11.out, L9.out⟩
          case rest =>
            obtain ⟨l', bl', s', xs', ys', K', R', hpa, hpr, hfa, hsy, htu, hll⟩ := hcut
            as_aux_lemma =>
              have P3 := hide hpa.out
              have Q3 := hide hpr.out
              have F3 := hide hfa.out
              have S3 := hide hsy.out
              have T3 := hide htu.out
              have L3 := hide hll.out
              clear hpa hpr hfa hsy htu hll P2 Q2 F1 S1 T2 L1 HO HFr
              have h6 := F3.out.1
              obtain ⟨f, hf⟩ : ∃ f, bl'[i * 2]? = some f := ⟨bl'[i * 2]'(by omega), by simp⟩
              obtain ⟨t, ht⟩ : ∃ t, bl'[i * 2 + 1]? = some t := ⟨bl'[i * 2 + 1]'(by omega), by simp⟩
              have HKeep := hide (fun w' (u : Turned [] wc w') => show w'.cell? ⟨p2, 1, none⟩ = some (.int .i64 s') ∧ w'.cell? ⟨B, i * 2, none⟩ = some (.int .i64 f) ∧ w'.cell? ⟨B, i * 2 + 1, none⟩ = some (.int .i64 t) ∧ w'.cell? ⟨D, i * 2, none⟩ = some (.int .i64 f) ∧ w'.cell? ⟨D, i * 2 + 1, none⟩ = some (.int .i64 t) from ⟨(Q3.out.t0 u).ar.mem.c1, (P3.out.t0 u).bf.at hf, (P3.out.t0 u).bf.at ht, (Q3.out.t0 u).bf.at hf, (Q3.out.t0 u).bf.at ht⟩)
              have HSt := hide (fun w' (u : Turned [] wc w') => steps_mem p q l' s' w' (P3.out.t0 u).ar.mem)
              have HLf := hide (fun w' (u : Turned [] wc w') => left_any w' a v p q ⟨tp, en, bu⟩ l' s' (P3.out.t0 u).ar)
              have HRf := hide (fun w' (u : Turned [] wc w') => rleft_any w' m p2 q2 ⟨tp, en, bu⟩ l' s' (Q3.out.t0 u).ar)
              obtain ⟨k1, k2, k3, k4, k5⟩ := HKeep.out wc (Turned.refl _ _)
              generalize aboveOf ⟨tp, en, bu⟩ (topOf ⟨tp, en, bu⟩ l') = av at *
              clear h6 hf ht
              go_wp2_with fail
              go_region_held3 (fun w' => w'.cell? ⟨p2, 1, none⟩ = some (.int .i64 s') ∧ w'.cell? ⟨B, i * 2, none⟩ = some (.int .i64 f) ∧ w'.cell? ⟨B, i * 2 + 1, none⟩ = some (.int .i64 t) ∧ w'.cell? ⟨D, i * 2, none⟩ = some (.int .i64 f) ∧ w'.cell? ⟨D, i * 2 + 1, none⟩ = some (.int .i64 t)) (go_keep)
                (first
                  | (go_at_call 22; refine (HSt.out _ (Turned.refl [] wc).drew).mono ?_; rintro e w9 ⟨rfl, hw9⟩; have U9 := hide (show Turned [] wc w9 by rw [hw9]; exact (Turned.refl [] wc).drew); have q1 := HKeep.out w9 U9.out; have q11 := q1.1; have q12 := q1.2.1; have q13 := q1.2.2.1; have q14 := q1.2.2.2.1; have q15 := q1.2.2.2.2; clear hw9 HSt q1)
                  | (go_at_call 23; refine (HLf.out _ U9.out).mono ?_; rintro e w10 ⟨rfl, t10⟩; have U10 := hide (U9.out.trans t10); have q2' := HKeep.out w10 U10.out; have q21 := q2'.1; have q22 := q2'.2.1; have q23 := q2'.2.2.1; have q24 := q2'.2.2.2.1; have q25 := q2'.2.2.2.2; clear t10 HLf q2')
                  | (go_at_call 24; refine (HRf.out _ U10.out).mono ?_; rintro e w11 ⟨rfl, k11, hw11⟩; have U11 := hide (show Turned [] wc w11 by rw [hw11]; exact U10.out.drewN k11); have q3' := HKeep.out w11 U11.out; have q31 := q3'.1; have q32 := q3'.2.1; have q33 := q3'.2.2.1; have q34 := q3'.2.2.2.1; have q35 := q3'.2.2.2.2; clear hw11 HRf q3'))
              clear HKeep k1 k2 k3 k4 k5 q11 q12 q13 q14 q15 q21 q22 q23 q24 q25 q31 q32 q33 q34 q35 U9 U10
              go_wp2_with fail
              go_roundg (200 - (j + 1))
              case measure => omega
              case rel => exact ⟨j + 1, l', bl', s', xs', ys', K', R', by omega, by omega, rfl, by go_num, P3.out.t0 U11.out, Q3.out.t0 U11.out, F3.out, S3.out, T3.out.trans U11.out, L3.out⟩
      · skip
        as_aux_lemma =>
          have P3 := hide P1.out.ar.mem
          have Q3 := hide Q1.out.ar.mem
          have HPl := hide P1.out.lo
          have H23 := hide (show p ≠ p2 ∧ p ≠ q2 ∧ q ≠ p2 ∧ q ≠ q2 from ⟨ne_of_type P1.out.ar.mem.head Q1.out.ar.mem.head (by decide), ne_of_type P1.out.ar.mem.head Q1.out.ar.mem.row (by decide), ne_of_type P1.out.ar.mem.row Q1.out.ar.mem.head (by decide), HQQ.out⟩)
          clear P1 Q1 F1 S1
          obtain ⟨wb, hwb⟩ : ∃ wb, wb = wr := ⟨_, rfl⟩
          subst hwb
          have hcd : ¬ ((j : Int) < (len : Int)) ∨ ((j : Int) < (len : Int) ∧ ¬ ((j : Int) < 200)) := by omega
          rcases hcd with hcd | ⟨hcd1, hcd2⟩
          · as_aux_lemma =>
            go_wp2_with fail
            go_loopg [27] 300 (fun gg s27 wr => ∃ (k : Nat) (s2 : Int), k ≤ 300 ∧ gg = 300 - k ∧ s27 = .int .i64 (k : Int) ∧ Aside (Mem wr p q l s2) ∧ Aside (Ref wr p2 q2 l s) ∧ Aside (Turned [] w wr))
            case atStart => exact ⟨0, s, by omega, rfl, rfl, P3.out, Q3.out, T1.out⟩
            case round =>
              obtain ⟨k, s2, hk, hgg2, rfl, hm, hr, htu⟩ := hrel
              by_cases hk3 : k < 300
              · have e5 : (k : Int) < 300 := by omega
                obtain ⟨x, hx⟩ : ∃ x, l[k]? = some x := ⟨l[k]'(by have := L1.out; omega), by simp⟩
                have HLd := hide (load_in p q l s2 wr k x hx hm.out)
                have R1 := hide hr.out
                have T9 := hide htu.out
                have HX := hide hx
                clear hm hr htu hx
                go_wp2_with fail
                refine HLd.out.mono ?_
                rintro e w9 ⟨rfl, m9, t9⟩
                have R9 := hide (R1.out.turned t9 (by simp; exact ⟨Ne.symm H23.out.1, Ne.symm H23.out.2.2.1⟩) (by simp; exact ⟨Ne.symm H23.out.2.1, Ne.symm H23.out.2.2.2⟩))
                have M9 := hide m9
                have U9 := hide (T9.out.trans_new t9 (by intro k hk; simp at hk; rcases hk with rfl | rfl <;> exact .inr (by have := HPl.out; omega)))
                have c0 := R9.out.c0
                have cw := R9.out.word HX.out
                rw [L1.out] at c0
                clear HLd m9 t9 R1 T9
                go_wp2_with fail
                go_roundg (300 - (k + 1))
                case measure => omega
                case rel => exact ⟨k + 1, _, by omega, rfl, by go_num, M9.out, R9.out, U9.out⟩
              · have e5 : ¬ ((k : Int) < 300) := by omega
                have T9 := hide htu.out
                clear hm hr htu
                go_wp2_with fail
                go_ret
                exact ⟨rfl, T9.out⟩
          · as_aux_lemma =>
            go_wp2_with fail
            go_loopg [27] 300 (fun gg s27 wr => ∃ (k : Nat) (s2 : Int), k ≤ 300 ∧ gg = 300 - k ∧ s27 = .int .i64 (k : Int) ∧ Aside (Mem wr p q l s2) ∧ Aside (Ref wr p2 q2 l s) ∧ Aside (Turned [] w wr))
            case atStart => exact ⟨0, s, by omega, rfl, rfl, P3.out, Q3.out, T1.out⟩
            case round =>
              obtain ⟨k, s2, hk, hgg2, rfl, hm, hr, htu⟩ := hrel
              by_cases hk3 : k < 300
              · have e5 : (k : Int) < 300 := by omega
                obtain ⟨x, hx⟩ : ∃ x, l[k]? = some x := ⟨l[k]'(by have := L1.out; omega), by simp⟩
                have HLd := hide (load_in p q l s2 wr k x hx hm.out)
                have R1 := hide hr.out
                have T9 := hide htu.out
                have HX := hide hx
                clear hm hr htu hx
                go_wp2_with fail
                refine HLd.out.mono ?_
                rintro e w9 ⟨rfl, m9, t9⟩
                have R9 := hide (R1.out.turned t9 (by simp; exact ⟨Ne.symm H23.out.1, Ne.symm H23.out.2.2.1⟩) (by simp; exact ⟨Ne.symm H23.out.2.1, Ne.symm H23.out.2.2.2⟩))
                have M9 := hide m9
                have U9 := hide (T9.out.trans_new t9 (by intro k hk; simp at hk; rcases hk with rfl | rfl <;> exact .inr (by have := HPl.out; omega)))
                have c0 := R9.out.c0
                have cw := R9.out.word HX.out
                rw [L1.out] at c0
                clear HLd m9 t9 R1 T9
                go_wp2_with fail
                go_roundg (300 - (k + 1))
                case measure => omega
                case rel => exact ⟨k + 1, _, by omega, rfl, by go_num, M9.out, R9.out, U9.out⟩
              · have e5 : ¬ ((k : Int) < 300) := by omega
                have T9 := hide htu.out
                clear hm hr htu
                go_wp2_with fail
                go_ret
                exact ⟨rfl, T9.out⟩
  · have HA := hide (anew_bad w2 p q lz 0 x0 x1 x2 (by rw [HLz.out]; exact hok) HM2.out)
    go_wp2_with fail
    refine HA.out.mono ?_
    rintro e w3 ⟨rfl, t3⟩
    have HN3 := hide (HN2.out.turned t3 (by simp) (by simp))
    have T3 := hide (T2.out.trans t3)
    have HB3 := hide (show w3.heap[hb]? = some (.cells #[.int .i64 x0, .int .i64 x1, .int .i64 x2] 22) by rw [t3.block hb (lt_of_heap HB2.out) (by simp)]; exact HB2.out)
    clear k0 k1 k2 HA t3 HN2 T2 HB2 HM2
    have k0 : w3.cell? ⟨hb, 0, none⟩ = some (.int .i64 x0) := by rw [cell_of_heap HB3.out]; rfl
    have k1 : w3.cell? ⟨hb, 1, none⟩ = some (.int .i64 x1) := by rw [cell_of_heap HB3.out]; rfl
    have k2 : w3.cell? ⟨hb, 2, none⟩ = some (.int .i64 x2) := by rw [cell_of_heap HB3.out]; rfl
    have HRA := hide (rnew_bad w3 p2 q2 lz 0 x0 x1 x2 (by rw [HLz.out]; exact hok) (by have := HLz.out; omega) HN3.out)
    clear hok
    go_wp2_with fail
    refine HRA.out.mono ?_
    rintro e w4 ⟨rfl, t4⟩
    have T4 := hide (T3.out.trans t4)
    clear HRA t4 T3
    go_wp2_with fail
    go_ret
    exact ⟨rfl, T4.out⟩
end Go.Proofs.Ytelljfckffmjmaa
