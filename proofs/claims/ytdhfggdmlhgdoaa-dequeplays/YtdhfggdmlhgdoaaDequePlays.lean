/-
  DequePlays: an owner and three thieves do their steps as a script says: each step, each value, and all cells are as the document has them: true for every size and place and every script. (Text by DequePlays.gen.py.)
-/
import Derived.Test.YtdhfggdmlhgdoaaDequeBoth
namespace Go.Proofs.Ytdhfggdmlhgdoaa
open Go.ChangeShapes Go.WideShapes Go.ChangeAt Go.RowKit
set_option linter.unusedVariables false

theorem itemsOf_most (C : Cfg) (l : List Int) : (itemsOf C l).length ≤ l.length + (l.length + l.length) := by
  have hs : ∀ k n, (seg C l k n).length ≤ l.length := fun k n => by unfold seg; rw [List.length_drop, List.length_take]; omega
  unfold itemsOf
  simp only [List.length_append]
  exact Nat.add_le_add (hs _ _) (Nat.add_le_add (hs _ _) (hs _ _))
theorem words300 (l : List Int) (h : l.length = 300) : ((l.take (min (max (300 : Int) 0) l.length).toNat).drop (min (max 0 0) (l.length : Int)).toNat) = l := by
  rw [show (min (max (300 : Int) 0) l.length).toNat = l.length by omega, show (min (max 0 0) (l.length : Int)).toNat = 0 by omega]
  simp

set_option maxHeartbeats 8000000 in
set_option maxRecDepth 100000 in
theorem dequePlays_walk (x y z : Int) (a : Option Addr) (len cap : Nat) (cs : List Op3) (w : World) (h0 : In64 x ∧ In64 y ∧ In64 z) (hR : ORd w a len cs) :
    Calls Try.prog 3 #[.agg #[.int .i64 x, .int .i64 y, .int .i64 z], .slice a len cap] w fun e w' => e = .returned (.bool true) ∧ Turned [] w w' := by
  have tz : Turned [] w (w.alloc (.cells #[.int .i64 x, .int .i64 y, .int .i64 z] 22)) := (Turned.refl _ _).alloc _
  have c0 : (w.alloc (.cells #[.int .i64 x, .int .i64 y, .int .i64 z] 22)).cell? ⟨w.heap.size, 0, none⟩ = some (.int .i64 x) := by rw [cell_of_heap (heap_alloc_new _ _)]; rfl
  have c1 : (w.alloc (.cells #[.int .i64 x, .int .i64 y, .int .i64 z] 22)).cell? ⟨w.heap.size, 1, none⟩ = some (.int .i64 y) := by rw [cell_of_heap (heap_alloc_new _ _)]; rfl
  have c2 : (w.alloc (.cells #[.int .i64 x, .int .i64 y, .int .i64 z] 22)).cell? ⟨w.heap.size, 2, none⟩ = some (.int .i64 z) := by rw [cell_of_heap (heap_alloc_new _ _)]; rfl
  have HAw := hide (awake_any (w.alloc (.cells #[.int .i64 x, .int .i64 y, .int .i64 z] 22)))
  have HR := hide hR
  have hroom := hR.room
  have H0 := hide h0
  clear h0 hR
  go_enter Try.func3, Try.ntmps3
  go_wp2_with fail
  have TZ := hide tz
  generalize w.alloc (.cells #[.int .i64 x, .int .i64 y, .int .i64 z] 22) = wz at *
  obtain ⟨zb, hz⟩ : ∃ zb, zb = w.heap.size := ⟨_, rfl⟩
  rw [← hz] at c0 c1 c2
  rw [← hz]
  clear hz tz
  refine HAw.out.mono ?_
  rintro e w0 ⟨rfl, t0⟩
  have k0 : w0.cell? ⟨zb, 0, none⟩ = some (.int .i64 x) := by rw [t0.cell (p := ⟨zb, 0, none⟩) (block_lt c0) (by simp)]; exact c0
  have k1 : w0.cell? ⟨zb, 1, none⟩ = some (.int .i64 y) := by rw [t0.cell (p := ⟨zb, 1, none⟩) (block_lt c1) (by simp)]; exact c1
  have k2 : w0.cell? ⟨zb, 2, none⟩ = some (.int .i64 z) := by rw [t0.cell (p := ⟨zb, 2, none⟩) (block_lt c2) (by simp)]; exact c2
  have T0 := hide (TZ.out.trans t0)
  have HNew := hide (new_any 300 w0)
  clear t0 HAw TZ c0 c1 c2
  go_wp2_with fail
  refine HNew.out.mono ?_
  rintro e w1 ⟨rfl, h1, t1, s1⟩
  have HRN := hide (rnew_any 300 w1)
  have M1 := hide h1
  have T1 := hide t1
  have S1 := hide s1
  clear h1 t1 s1 HNew
  go_wp2_with fail
  refine HRN.out.mono ?_
  rintro e w2 ⟨rfl, h2, t2, s2⟩
  have hw0 : w.heap.size ≤ w0.heap.size := T0.out.size
  have hs1 := S1.out
  obtain ⟨p, hp⟩ : ∃ p, p = w0.heap.size + 1 := ⟨_, rfl⟩
  obtain ⟨q, hq⟩ : ∃ q, q = w0.heap.size := ⟨_, rfl⟩
  obtain ⟨rp, hrp⟩ : ∃ p, p = w1.heap.size + 1 := ⟨_, rfl⟩
  obtain ⟨rq, hrq⟩ : ∃ q, q = w1.heap.size := ⟨_, rfl⟩
  have M1' := M1.out
  rw [← hp, ← hq] at M1'
  rw [← hrp, ← hrq] at h2
  rw [← hp, ← hrp]
  have M2 := hide (M1'.turned t2 (by simp) (by simp))
  have R2 := hide h2
  have j0 : w2.cell? ⟨zb, 0, none⟩ = some (.int .i64 x) := by rw [t2.cell (p := ⟨zb, 0, none⟩) (Nat.lt_of_lt_of_le (block_lt k0) T1.out.size) (by simp), T1.out.cell (p := ⟨zb, 0, none⟩) (block_lt k0) (by simp)]; exact k0
  have j1 : w2.cell? ⟨zb, 1, none⟩ = some (.int .i64 y) := by rw [t2.cell (p := ⟨zb, 1, none⟩) (Nat.lt_of_lt_of_le (block_lt k1) T1.out.size) (by simp), T1.out.cell (p := ⟨zb, 1, none⟩) (block_lt k1) (by simp)]; exact k1
  have j2 : w2.cell? ⟨zb, 2, none⟩ = some (.int .i64 z) := by rw [t2.cell (p := ⟨zb, 2, none⟩) (Nat.lt_of_lt_of_le (block_lt k2) T1.out.size) (by simp), T1.out.cell (p := ⟨zb, 2, none⟩) (block_lt k2) (by simp)]; exact k2
  have HOrd := hide (show w.heap.size ≤ q ∧ q < p ∧ p < rq ∧ rq < rp ∧ rp < w2.heap.size by omega)
  have T2 := hide ((T0.out.trans T1.out).trans t2)
  clear h2 t2 s2 hs1 S1 HRN M1 M1' T0 T1 hw0 hp hq hrp hrq k0 k1 k2
  have HL30 := hide (show (List.replicate (min (max (300 : Int) 0) 65536).toNat (0 : Int)).length = 300 by rw [List.length_replicate]; rfl)
  have HZ0 := hide (show ∀ (C : Cfg) j, rd C (List.replicate (min (max (300 : Int) 0) 65536).toNat (0 : Int)) j = 0 from fun C j => by unfold rd; rw [List.getD_eq_getElem?_getD, List.getElem?_replicate]; split <;> rfl)
  generalize (List.replicate (min (max (300 : Int) 0) 65536).toNat (0 : Int)) = l0 at *
  have HNa := hide (fun W => need_any y z W)
  have HNb := hide (fun W => rneed_any y z W)
  by_cases hbad : NotIn x y z 300
  · have HD := hide (dnew_bad x y z w2 p q l0 0 (by rw [HL30.out]; omega) (by rw [HL30.out]; exact hbad) M2.out)
    have HE := hide (rdnew_bad x y z w2 rp rq l0 0 (by rw [HL30.out]; omega) H0.out.1 (by rw [HL30.out]; exact hbad) R2.out)
    clear hbad
    go_wp2_with fail
    refine HD.out.mono ?_
    rintro e wv ⟨rfl, hwv⟩
    rw [hwv]
    clear hwv wv
    go_wp2_with fail
    refine HE.out.mono ?_
    rintro e wv ⟨rfl, hwv⟩
    rw [hwv]
    clear hwv wv HD HE
    go_wp2_with fail
    generalize needI y z = yz at *
    go_quiet (first | (go_at_call 13; exact Calls.quiet_of_same (HNa.out _)) | (go_at_call 14; exact Calls.quiet_of_same (HNb.out _)))
    go_wp2_with fail
    go_ret
    exact ⟨rfl, T2.out.drewN _⟩
  · have hok : needI y z ≠ 0 ∧ ¬ x < 0 ∧ ¬ (300 - needI y z < x) := by unfold NotIn at hbad; omega
    have hok2 : ¬ (y < 1 ∨ 64 < y ∨ z < 0 ∨ 4096 < z) := by
      intro hc
      apply hok.1
      unfold needI
      rw [if_pos hc]
    have hok3 : needI y z = 4 + y + z := by unfold needI; rw [if_neg hok2]
    obtain ⟨bs, rfl⟩ := Int.eq_ofNat_of_zero_le (show 0 ≤ x by omega)
    obtain ⟨cp, rfl⟩ := Int.eq_ofNat_of_zero_le (show 0 ≤ y by omega)
    obtain ⟨ov, rfl⟩ := Int.eq_ofNat_of_zero_le (show 0 ≤ z by omega)
    have HC := hide (show 1 ≤ cp ∧ cp ≤ 64 ∧ ov ≤ 4096 ∧ bs + (4 + cp + ov) ≤ 300 by omega)
    have hC4 : 1 ≤ cp ∧ cp ≤ 64 ∧ ov ≤ 4096 ∧ bs + (4 + cp + ov) ≤ 300 := HC.out
    have HD := hide (dnew_ok w2 p q ⟨bs, cp, ov⟩ l0 0 (show 1 ≤ cp ∧ cp ≤ 64 by omega) (show ov ≤ 4096 by omega) (show bs + (4 + cp + ov) ≤ l0.length by rw [HL30.out]; omega) (by rw [HL30.out]; omega) M2.out)
    clear hbad hok hok2 hok3 H0
    go_wp2_with fail
    refine HD.out.mono ?_
    rintro e w3 ⟨rfl, h3, t3, s3⟩
    have HE := hide (rdnew_ok w3 rp rq ⟨bs, cp, ov⟩ l0 0 (show 1 ≤ cp ∧ cp ≤ 64 by omega) (show ov ≤ 4096 by omega) (show bs + (4 + cp + ov) ≤ l0.length by rw [HL30.out]; omega) (by rw [HL30.out]; omega) (R2.out.turned t3 (by simp) (by simp)))
    have i0 : w3.cell? ⟨zb, 0, none⟩ = some (.int .i64 (bs : Int)) := by rw [t3.cell (p := ⟨zb, 0, none⟩) (block_lt j0) (by simp)]; exact j0
    have i1 : w3.cell? ⟨zb, 1, none⟩ = some (.int .i64 (cp : Int)) := by rw [t3.cell (p := ⟨zb, 1, none⟩) (block_lt j1) (by simp)]; exact j1
    have i2 : w3.cell? ⟨zb, 2, none⟩ = some (.int .i64 (ov : Int)) := by rw [t3.cell (p := ⟨zb, 2, none⟩) (block_lt j2) (by simp)]; exact j2
    have D3 := hide h3
    have T3 := hide t3
    have S3 := hide s3
    clear h3 t3 s3 HD j0 j1 j2
    go_wp2_with fail
    refine HE.out.mono ?_
    rintro e w4 ⟨rfl, h4, t4, s4⟩
    have a0 : w4.cell? ⟨zb, 0, none⟩ = some (.int .i64 (bs : Int)) := by rw [t4.cell (p := ⟨zb, 0, none⟩) (block_lt i0) (by simp)]; exact i0
    have a1 : w4.cell? ⟨zb, 1, none⟩ = some (.int .i64 (cp : Int)) := by rw [t4.cell (p := ⟨zb, 1, none⟩) (block_lt i1) (by simp)]; exact i1
    have a2 : w4.cell? ⟨zb, 2, none⟩ = some (.int .i64 (ov : Int)) := by rw [t4.cell (p := ⟨zb, 2, none⟩) (block_lt i2) (by simp)]; exact i2
    obtain ⟨d, hd⟩ : ∃ d, d = w2.heap.size := ⟨_, rfl⟩
    obtain ⟨e, he⟩ : ∃ e, e = w3.heap.size := ⟨_, rfl⟩
    have D4 := hide (show Dq w4 d p q ⟨bs, cp, ov⟩ l0 0 by rw [hd]; exact D3.out.turned t4 (by simp) (by simp) (by simp))
    have R4 := hide (show RDq w4 e rp rq ⟨bs, cp, ov⟩ l0 0 by rw [he]; exact h4)
    have HOrd4 := hide (show w.heap.size ≤ q ∧ q < p ∧ p < rq ∧ rq < rp ∧ rp < d ∧ d < e ∧ e < w4.heap.size by have := HOrd.out; have := S3.out; omega)
    have T4 := hide ((T2.out.trans T3.out).trans t4)
    rw [← hd, ← he]
    clear h4 t4 s4 HE D3 T3 S3 i0 i1 i2 hd he HOrd M2 R2 T2
    go_wp2_with fail
    generalize needI (cp : Int) (ov : Int) = yz at *
    go_quiet (first | (go_at_call 13; exact Calls.quiet_of_same (HNa.out _)) | (go_at_call 14; exact Calls.quiet_of_same (HNb.out _)))
    go_wp2_with fail
    have tA : Turned [] w4 (((w4.drewN nq).alloc (.cells #[.pointer none, .pointer none, .pointer none, .pointer none] 38)).alloc (.cells #[.pointer none, .pointer none, .pointer none, .pointer none] 40)) := (((Turned.refl [] w4).drewN nq).alloc _).alloc _
    have HBo : Hid (Both w.heap.size (((w4.drewN nq).alloc (.cells #[.pointer none, .pointer none, .pointer none, .pointer none] 38)).alloc (.cells #[.pointer none, .pointer none, .pointer none, .pointer none] 40)) q p rq rp d e w4.heap.size (w4.heap.size + 1) ⟨bs, cp, ov⟩ l0 0 (fun _ => none) (fun _ => none) (fun _ => nilOp) (fun _ => roNew 0 0) 0) := by
      have ho := HOrd4.out
      have g1 : (((w4.drewN nq).alloc (.cells #[.pointer none, .pointer none, .pointer none, .pointer none] 38)).alloc (.cells #[.pointer none, .pointer none, .pointer none, .pointer none] 40)).heap[w4.heap.size]? = some (.cells #[.pointer none, .pointer none, .pointer none, .pointer none] 38) := by
        rw [Below.heap_alloc _ _ _ (by simp)]
        exact heap_alloc_new (w4.drewN nq) _
      have g2 : (((w4.drewN nq).alloc (.cells #[.pointer none, .pointer none, .pointer none, .pointer none] 38)).alloc (.cells #[.pointer none, .pointer none, .pointer none, .pointer none] 40)).heap[w4.heap.size + 1]? = some (.cells #[.pointer none, .pointer none, .pointer none, .pointer none] 40) := by
        have := heap_alloc_new ((w4.drewN nq).alloc (.cells #[.pointer none, .pointer none, .pointer none, .pointer none] 38)) (.cells #[.pointer none, .pointer none, .pointer none, .pointer none] 40)
        simpa using this
      have zz := HZ0.out ⟨bs, cp, ov⟩
      refine ⟨by omega, D4.out.turned tA (by simp) (by simp) (by simp), R4.out.turned tA (by simp) (by simp) (by simp), ⟨fun i hi => ?_, fun i => ?_, lt_of_heap g1⟩, ⟨fun i hi => ?_, fun i => ?_, lt_of_heap g2⟩, fun i b _ hb => (by cases hb), fun i b _ hb => (by cases hb), fun i _ => .inl ⟨rfl, rfl⟩, fun i j b _ _ hb => (by cases hb), fun i j b _ _ hb => (by cases hb), fun i b _ hb => (by cases hb), by rw [zz]; omega, by rw [zz]; omega, by rw [zz]; omega⟩
      · rw [cell_of_heap g1]
        have : i = 0 ∨ i = 1 ∨ i = 2 ∨ i = 3 := by omega
        rcases this with rfl | rfl | rfl | rfl <;> rfl
      · simp only [World.frozen?, g1]
        simp
      · rw [cell_of_heap g2]
        have : i = 0 ∨ i = 1 ∨ i = 2 ∨ i = 3 := by omega
        rcases this with rfl | rfl | rfl | rfl <;> rfl
      · simp only [World.frozen?, g2]
        simp
    have T5 := hide (T4.out.trans tA)
    obtain ⟨ga, hga⟩ : ∃ g, g = w4.heap.size := ⟨_, rfl⟩
    obtain ⟨gb, hgb⟩ : ∃ g, g = w4.heap.size + 1 := ⟨_, rfl⟩
    rw [← hgb, ← hga] at HBo
    rw [← hgb, ← hga]
    generalize (((w4.drewN nq).alloc (.cells #[.pointer none, .pointer none, .pointer none, .pointer none] 38)).alloc (.cells #[.pointer none, .pointer none, .pointer none, .pointer none] 40)) = w5 at *
    have HL3 := hide HL30.out
    clear tA T4 D4 R4 HOrd4 hga hgb HZ0 HL30 a0 a1 a2 HNa HNb
    go_loopg [14] 251 (fun gg s14 wr => ∃ k : Nat, s14 = .int .i64 (k : Int) ∧ k ≤ 250 ∧ k ≤ len ∧ 250 - k ≤ gg ∧ Aside (Turned [] w wr) ∧ Aside (∃ l s xs ys m rm, Both w.heap.size wr q p rq rp d e ga gb ⟨bs, cp, ov⟩ l s xs ys m rm (k : Int) ∧ 0 ≤ s ∧ s ≤ (k : Int) ∧ l.length = 300))
    case atStart => exact ⟨0, rfl, by omega, by omega, by omega, T5.out, ⟨l0, 0, _, _, _, _, HBo.out, by omega, by omega, HL3.out⟩⟩
    case round =>
      obtain ⟨i, rfl, hi, hil, hgg, htu, hst⟩ := hrel
      obtain ⟨l, s, xs, ys, m, rm, hbo, hs0, hs1, hl3⟩ := hst.out
      have HTU := hide htu.out
      have BO := hide hbo
      have HS01 := hide (And.intro hs0 hs1)
      have HLL := hide hl3
      clear hst hbo htu hs0 hs1 hl3 HBo T5 HL3
      by_cases hgo : i < len ∧ i < 250
      · obtain ⟨hi1, hi2⟩ := hgo
        have e1 : (i : Int) < (len : Int) := by omega
        have e2 : (i : Int) < 250 := by omega
        obtain ⟨cc, hc⟩ : ∃ c, cs[i]? = some c := ⟨_, List.getElem?_eq_getElem (by rw [HR.out.size]; exact hi1)⟩
        obtain ⟨b0, off0, rfl, d0, d1, d2⟩ := HR.out.cell i cc hc
        have hin := HR.out.inn cc (List.mem_of_getElem? hc)
        obtain ⟨K, Wh, V⟩ := cc
        simp only at d0 d1 d2
        have f0 : wr.cell? ⟨b0, off0 + i * 3, none⟩ = some (.int .i64 K) := by rw [HTU.out.cell (p := ⟨b0, _, none⟩) (block_lt d0) (by simp)]; exact d0
        have f1 : wr.cell? ⟨b0, off0 + i * 3 + 1, none⟩ = some (.int .i64 Wh) := by rw [HTU.out.cell (p := ⟨b0, _, none⟩) (block_lt d1) (by simp)]; exact d1
        have f2 : wr.cell? ⟨b0, off0 + i * 3 + 2, none⟩ = some (.int .i64 V) := by rw [HTU.out.cell (p := ⟨b0, _, none⟩) (block_lt d2) (by simp)]; exact d2
        have HKW := hide (And.intro hin.1 hin.2.1)
        clear d0 d1 d2 hc hin
        go_wp2_with fail
        have t6 : Turned [] wr (wr.alloc (.cells #[.int .i64 K, .int .i64 Wh, .int .i64 V] 42)) := (Turned.refl _ _).alloc _
        have x0 : (wr.alloc (.cells #[.int .i64 K, .int .i64 Wh, .int .i64 V] 42)).cell? ⟨wr.heap.size, 0, none⟩ = some (.int .i64 K) := by rw [cell_of_heap (heap_alloc_new _ _)]; rfl
        have x1 : (wr.alloc (.cells #[.int .i64 K, .int .i64 Wh, .int .i64 V] 42)).cell? ⟨wr.heap.size, 1, none⟩ = some (.int .i64 Wh) := by rw [cell_of_heap (heap_alloc_new _ _)]; rfl
        have x2 : (wr.alloc (.cells #[.int .i64 K, .int .i64 Wh, .int .i64 V] 42)).cell? ⟨wr.heap.size, 2, none⟩ = some (.int .i64 V) := by rw [cell_of_heap (heap_alloc_new _ _)]; rfl
        have BO6 := hide (BO.out.turned t6)
        have T6 := hide (HTU.out.trans t6)
        have HG6 := hide (show wr.heap.size ≠ ga ∧ wr.heap.size ≠ gb from ⟨by have := BO.out.arA.lt; omega, by have := BO.out.arB.lt; omega⟩)
        clear t6 BO HTU f0 f1 f2
        generalize wr.alloc (.cells #[.int .i64 K, .int .i64 Wh, .int .i64 V] 42) = w6 at *
        obtain ⟨g6, hg6⟩ : ∃ g, g = wr.heap.size := ⟨_, rfl⟩
        rw [← hg6] at x0 x1 x2 HG6
        rw [← hg6]
        clear hg6
        have HPk := hide (lpick_any K 6 w6 (wf_of HKW.out.1) (by omega))
        have HPw := hide (lpick_any Wh 3 w6 (wf_of HKW.out.2) (by omega))
        refine HPk.out.mono ?_
        rintro e9 wk ⟨⟨k, rfl, hk⟩, hwk⟩
        rw [hwk]
        clear HPk hwk wk HKW
        by_cases hk0 : k = 0
        · subst hk0
          clear HPw
          as_aux_lemma =>
            have ec := BO6.out.arB.at_ 0 (by omega)
            have ea := BO6.out.arA.at_ 0 (by omega)
            rcases BO6.out.pair 0 (by omega) with ⟨hx, hy⟩ | ⟨b1, c1, hx, hy, hrel⟩
            · rw [hy] at ec
              simp only [pv] at ec
              clear ea
              have HOp := hide (push_any w6 d p q ⟨bs, cp, ov⟩ l s V BO6.out.dq)
              go_wp2_with fail
              refine HOp.out.mono ?_
              rintro e9 wa ⟨rfl, h1, h2, h3, -⟩
              have ar := BO6.out.arA.turned h3 (by simp)
              have au := ar.at_ 0 (by omega)
              have az := ar.fz 0
              rw [hx] at au
              simp only [pv] at au
              have xa2 : wa.cell? ⟨g6, 2, none⟩ = some (.int .i64 V) := by rw [h3.cell (p := ⟨g6, 2, none⟩) (block_lt x2) (by simp)]; exact x2
              have hgg6 : g6 < wa.heap.size := block_lt xa2
              obtain ⟨b, hb⟩ : ∃ b, b = w6.heap.size := ⟨_, rfl⟩
              rw [← hb] at h2
              rw [← hb]
              have ho := BO6.out.ord
              have tga : Turned [ga] wa (wa.setCell ⟨ga, 0, none⟩ (.pointer (some ⟨b, 0, none⟩))) := (Turned.refl _ _).setCell (by simp) _
              have hrd := (BO6.out.rdq.turned h3 (by simp) (by simp) (by simp)).turned tga (by simp; omega) (by simp; omega) (by simp; omega)
              have HBg := hide (rbegin_any (wa.setCell ⟨ga, 0, none⟩ (.pointer (some ⟨b, 0, none⟩))) e rp rq ⟨bs, cp, ov⟩ l s 0 V hrd)
              have xb2 : (wa.setCell ⟨ga, 0, none⟩ (.pointer (some ⟨b, 0, none⟩))).cell? ⟨g6, 2, none⟩ = some (.int .i64 V) := by rw [tga.cell (p := ⟨g6, 2, none⟩) hgg6 (by simp; exact HG6.out.1)]; exact xa2
              have arB := (BO6.out.arB.turned h3 (by simp)).turned tga (by simp; omega)
              have H1 := hide h1
              have H2 := hide h2
              have H3 := hide h3
              have HB := hide hb
              clear h1 h2 h3 ar tga hrd HOp ho hb
              go_wp2_with fail
              refine HBg.out.mono ?_
              rintro e9 wc ⟨rfl, h4, h5, h6⟩
              have hbg := BO6.out.begin 0 (by omega) .pushReadBottom 0 V (.inl ⟨rfl, rfl⟩) HB.out H1.out H2.out H3.out rfl h5 h6
              have arB2 := arB.turned h6 (by simp)
              have bu := arB2.at_ 0 (by omega)
              have bz := arB2.fz 0
              rw [hy] at bu
              simp only [pv] at bu
              have HBG := hide hbg
              clear hbg arB arB2 h4 h5 h6 HBg au az xa2 xb2
              generalize (wa.setCell ⟨ga, 0, none⟩ (.pointer (some ⟨b, 0, none⟩))).heap.size = c at *
              go_wp2_with fail
              generalize (wc.setCell ⟨gb, 0, none⟩ (.pointer (some ⟨c, 0, none⟩))) = wn at HBG ⊢
              clear bu bz
              have BN := hide HBG.out.1
              have TN := hide (T6.out.trans_new HBG.out.2 (fun c hc => by have := BO6.out.ord; simp at hc; right; rcases hc with rfl | rfl <;> omega))
              clear HBG BO6 T6
              have HSt := hide (fun n => steps_mem p q _ s (wn.drewN n) (BN.out.dq.drewN n).mem)
              have rs1 := BN.out.rdq.mem.c1
              go_quiet ((go_at_call 24; exact Calls.quiet_of_same (HSt.out _)))
              go_wp2_with fail
              go_roundg (250 - (i + 1))
              case measure => omega
              case rel => exact ⟨i + 1, by go_num, by omega, by omega, Nat.le_refl _, TN.out.drewN _, ⟨_, s, _, _, _, _, (BN.out.more (by omega)).turned ((Turned.refl [] _).drewN _), by have := HS01.out; omega, by have := HS01.out; omega, HLL.out⟩⟩
            · rw [hy] at ec
              rw [hx] at ea
              simp only [pv] at ec ea
              have hob := BO6.out.ops 0 b1 (by omega) hx
              have hrb := BO6.out.rops 0 c1 (by omega) hy
              have r8 := hrb.1.g8
              rw [hrel.ended] at r8
              have HREL := hide hrel
              have HOB := hide hob
              have HRB := hide hrb
              clear hrel hob hrb
              cases hdd : (m b1).done with
              | true =>
                rw [hdd] at r8
                have HOp := hide (push_any w6 d p q ⟨bs, cp, ov⟩ l s V BO6.out.dq)
                go_wp2_with fail
                refine HOp.out.mono ?_
                rintro e9 wa ⟨rfl, h1, h2, h3, -⟩
                have ar := BO6.out.arA.turned h3 (by simp)
                have au := ar.at_ 0 (by omega)
                have az := ar.fz 0
                rw [hx] at au
                simp only [pv] at au
                have xa2 : wa.cell? ⟨g6, 2, none⟩ = some (.int .i64 V) := by rw [h3.cell (p := ⟨g6, 2, none⟩) (block_lt x2) (by simp)]; exact x2
                have hgg6 : g6 < wa.heap.size := block_lt xa2
                obtain ⟨b, hb⟩ : ∃ b, b = w6.heap.size := ⟨_, rfl⟩
                rw [← hb] at h2
                rw [← hb]
                have ho := BO6.out.ord
                have tga : Turned [ga] wa (wa.setCell ⟨ga, 0, none⟩ (.pointer (some ⟨b, 0, none⟩))) := (Turned.refl _ _).setCell (by simp) _
                have hrd := (BO6.out.rdq.turned h3 (by simp) (by simp) (by simp)).turned tga (by simp; omega) (by simp; omega) (by simp; omega)
                have HBg := hide (rbegin_any (wa.setCell ⟨ga, 0, none⟩ (.pointer (some ⟨b, 0, none⟩))) e rp rq ⟨bs, cp, ov⟩ l s 0 V hrd)
                have xb2 : (wa.setCell ⟨ga, 0, none⟩ (.pointer (some ⟨b, 0, none⟩))).cell? ⟨g6, 2, none⟩ = some (.int .i64 V) := by rw [tga.cell (p := ⟨g6, 2, none⟩) hgg6 (by simp; exact HG6.out.1)]; exact xa2
                have arB := (BO6.out.arB.turned h3 (by simp)).turned tga (by simp; omega)
                have H1 := hide h1
                have H2 := hide h2
                have H3 := hide h3
                have HB := hide hb
                clear h1 h2 h3 ar tga hrd HOp ho hb
                go_wp2_with fail
                refine HBg.out.mono ?_
                rintro e9 wc ⟨rfl, h4, h5, h6⟩
                have hbg := BO6.out.begin 0 (by omega) .pushReadBottom 0 V (.inl ⟨rfl, rfl⟩) HB.out H1.out H2.out H3.out rfl h5 h6
                have arB2 := arB.turned h6 (by simp)
                have bu := arB2.at_ 0 (by omega)
                have bz := arB2.fz 0
                rw [hy] at bu
                simp only [pv] at bu
                have HBG := hide hbg
                clear hbg arB arB2 h4 h5 h6 HBg au az xa2 xb2
                generalize (wa.setCell ⟨ga, 0, none⟩ (.pointer (some ⟨b, 0, none⟩))).heap.size = c at *
                go_wp2_with fail
                generalize (wc.setCell ⟨gb, 0, none⟩ (.pointer (some ⟨c, 0, none⟩))) = wn at HBG ⊢
                clear bu bz
                have BN := hide HBG.out.1
                have TN := hide (T6.out.trans_new HBG.out.2 (fun c hc => by have := BO6.out.ord; simp at hc; right; rcases hc with rfl | rfl <;> omega))
                clear HBG BO6 T6
                have HSt := hide (fun n => steps_mem p q _ s (wn.drewN n) (BN.out.dq.drewN n).mem)
                have rs1 := BN.out.rdq.mem.c1
                go_quiet ((go_at_call 24; exact Calls.quiet_of_same (HSt.out _)))
                go_wp2_with fail
                go_roundg (250 - (i + 1))
                case measure => omega
                case rel => exact ⟨i + 1, by go_num, by omega, by omega, Nat.le_refl _, TN.out.drewN _, ⟨_, s, _, _, _, _, (BN.out.more (by omega)).turned ((Turned.refl [] _).drewN _), by have := HS01.out; omega, by have := HS01.out; omega, HLL.out⟩⟩
              | false =>
                rw [hdd] at r8
                go_wp2_with fail
                have HSt := hide (fun n => steps_mem p q _ s (w6.drewN n) (BO6.out.dq.drewN n).mem)
                have rs1 := BO6.out.rdq.mem.c1
                go_quiet ((go_at_call 24; exact Calls.quiet_of_same (HSt.out _)))
                go_wp2_with fail
                go_roundg (250 - (i + 1))
                case measure => omega
                case rel => exact ⟨i + 1, by go_num, by omega, by omega, Nat.le_refl _, T6.out.drewN _, ⟨_, s, _, _, _, _, (BO6.out.more (by omega)).turned ((Turned.refl [] _).drewN _), by have := HS01.out; omega, by have := HS01.out; omega, HLL.out⟩⟩
        · by_cases hk1 : k = 1
          · subst hk1
            clear HPw
            as_aux_lemma =>
              have ec := BO6.out.arB.at_ 0 (by omega)
              have ea := BO6.out.arA.at_ 0 (by omega)
              rcases BO6.out.pair 0 (by omega) with ⟨hx, hy⟩ | ⟨b1, c1, hx, hy, hrel⟩
              · rw [hy] at ec
                simp only [pv] at ec
                clear ea
                have HOp := hide (pop_any w6 d p q ⟨bs, cp, ov⟩ l s BO6.out.dq)
                go_wp2_with fail
                refine HOp.out.mono ?_
                rintro e9 wa ⟨rfl, h1, h2, h3, -⟩
                have ar := BO6.out.arA.turned h3 (by simp)
                have au := ar.at_ 0 (by omega)
                have az := ar.fz 0
                rw [hx] at au
                simp only [pv] at au
                have xa2 : wa.cell? ⟨g6, 2, none⟩ = some (.int .i64 V) := by rw [h3.cell (p := ⟨g6, 2, none⟩) (block_lt x2) (by simp)]; exact x2
                have hgg6 : g6 < wa.heap.size := block_lt xa2
                obtain ⟨b, hb⟩ : ∃ b, b = w6.heap.size := ⟨_, rfl⟩
                rw [← hb] at h2
                rw [← hb]
                have ho := BO6.out.ord
                have tga : Turned [ga] wa (wa.setCell ⟨ga, 0, none⟩ (.pointer (some ⟨b, 0, none⟩))) := (Turned.refl _ _).setCell (by simp) _
                have hrd := (BO6.out.rdq.turned h3 (by simp) (by simp) (by simp)).turned tga (by simp; omega) (by simp; omega) (by simp; omega)
                have HBg := hide (rbegin_any (wa.setCell ⟨ga, 0, none⟩ (.pointer (some ⟨b, 0, none⟩))) e rp rq ⟨bs, cp, ov⟩ l s 1 0 hrd)
                have xb2 : (wa.setCell ⟨ga, 0, none⟩ (.pointer (some ⟨b, 0, none⟩))).cell? ⟨g6, 2, none⟩ = some (.int .i64 V) := by rw [tga.cell (p := ⟨g6, 2, none⟩) hgg6 (by simp; exact HG6.out.1)]; exact xa2
                have arB := (BO6.out.arB.turned h3 (by simp)).turned tga (by simp; omega)
                have H1 := hide h1
                have H2 := hide h2
                have H3 := hide h3
                have HB := hide hb
                clear h1 h2 h3 ar tga hrd HOp ho hb
                go_wp2_with fail
                refine HBg.out.mono ?_
                rintro e9 wc ⟨rfl, h4, h5, h6⟩
                have hbg := BO6.out.begin 0 (by omega) .popReadBottom 1 0 (.inr (.inl ⟨rfl, rfl⟩)) HB.out H1.out H2.out H3.out rfl h5 h6
                have arB2 := arB.turned h6 (by simp)
                have bu := arB2.at_ 0 (by omega)
                have bz := arB2.fz 0
                rw [hy] at bu
                simp only [pv] at bu
                have HBG := hide hbg
                clear hbg arB arB2 h4 h5 h6 HBg au az xa2 xb2
                generalize (wa.setCell ⟨ga, 0, none⟩ (.pointer (some ⟨b, 0, none⟩))).heap.size = c at *
                go_wp2_with fail
                generalize (wc.setCell ⟨gb, 0, none⟩ (.pointer (some ⟨c, 0, none⟩))) = wn at HBG ⊢
                clear bu bz
                have BN := hide HBG.out.1
                have TN := hide (T6.out.trans_new HBG.out.2 (fun c hc => by have := BO6.out.ord; simp at hc; right; rcases hc with rfl | rfl <;> omega))
                clear HBG BO6 T6
                have HSt := hide (fun n => steps_mem p q _ s (wn.drewN n) (BN.out.dq.drewN n).mem)
                have rs1 := BN.out.rdq.mem.c1
                go_quiet ((go_at_call 24; exact Calls.quiet_of_same (HSt.out _)))
                go_wp2_with fail
                go_roundg (250 - (i + 1))
                case measure => omega
                case rel => exact ⟨i + 1, by go_num, by omega, by omega, Nat.le_refl _, TN.out.drewN _, ⟨_, s, _, _, _, _, (BN.out.more (by omega)).turned ((Turned.refl [] _).drewN _), by have := HS01.out; omega, by have := HS01.out; omega, HLL.out⟩⟩
              · rw [hy] at ec
                rw [hx] at ea
                simp only [pv] at ec ea
                have hob := BO6.out.ops 0 b1 (by omega) hx
                have hrb := BO6.out.rops 0 c1 (by omega) hy
                have r8 := hrb.1.g8
                rw [hrel.ended] at r8
                have HREL := hide hrel
                have HOB := hide hob
                have HRB := hide hrb
                clear hrel hob hrb
                cases hdd : (m b1).done with
                | true =>
                  rw [hdd] at r8
                  have HOp := hide (pop_any w6 d p q ⟨bs, cp, ov⟩ l s BO6.out.dq)
                  go_wp2_with fail
                  refine HOp.out.mono ?_
                  rintro e9 wa ⟨rfl, h1, h2, h3, -⟩
                  have ar := BO6.out.arA.turned h3 (by simp)
                  have au := ar.at_ 0 (by omega)
                  have az := ar.fz 0
                  rw [hx] at au
                  simp only [pv] at au
                  have xa2 : wa.cell? ⟨g6, 2, none⟩ = some (.int .i64 V) := by rw [h3.cell (p := ⟨g6, 2, none⟩) (block_lt x2) (by simp)]; exact x2
                  have hgg6 : g6 < wa.heap.size := block_lt xa2
                  obtain ⟨b, hb⟩ : ∃ b, b = w6.heap.size := ⟨_, rfl⟩
                  rw [← hb] at h2
                  rw [← hb]
                  have ho := BO6.out.ord
                  have tga : Turned [ga] wa (wa.setCell ⟨ga, 0, none⟩ (.pointer (some ⟨b, 0, none⟩))) := (Turned.refl _ _).setCell (by simp) _
                  have hrd := (BO6.out.rdq.turned h3 (by simp) (by simp) (by simp)).turned tga (by simp; omega) (by simp; omega) (by simp; omega)
                  have HBg := hide (rbegin_any (wa.setCell ⟨ga, 0, none⟩ (.pointer (some ⟨b, 0, none⟩))) e rp rq ⟨bs, cp, ov⟩ l s 1 0 hrd)
                  have xb2 : (wa.setCell ⟨ga, 0, none⟩ (.pointer (some ⟨b, 0, none⟩))).cell? ⟨g6, 2, none⟩ = some (.int .i64 V) := by rw [tga.cell (p := ⟨g6, 2, none⟩) hgg6 (by simp; exact HG6.out.1)]; exact xa2
                  have arB := (BO6.out.arB.turned h3 (by simp)).turned tga (by simp; omega)
                  have H1 := hide h1
                  have H2 := hide h2
                  have H3 := hide h3
                  have HB := hide hb
                  clear h1 h2 h3 ar tga hrd HOp ho hb
                  go_wp2_with fail
                  refine HBg.out.mono ?_
                  rintro e9 wc ⟨rfl, h4, h5, h6⟩
                  have hbg := BO6.out.begin 0 (by omega) .popReadBottom 1 0 (.inr (.inl ⟨rfl, rfl⟩)) HB.out H1.out H2.out H3.out rfl h5 h6
                  have arB2 := arB.turned h6 (by simp)
                  have bu := arB2.at_ 0 (by omega)
                  have bz := arB2.fz 0
                  rw [hy] at bu
                  simp only [pv] at bu
                  have HBG := hide hbg
                  clear hbg arB arB2 h4 h5 h6 HBg au az xa2 xb2
                  generalize (wa.setCell ⟨ga, 0, none⟩ (.pointer (some ⟨b, 0, none⟩))).heap.size = c at *
                  go_wp2_with fail
                  generalize (wc.setCell ⟨gb, 0, none⟩ (.pointer (some ⟨c, 0, none⟩))) = wn at HBG ⊢
                  clear bu bz
                  have BN := hide HBG.out.1
                  have TN := hide (T6.out.trans_new HBG.out.2 (fun c hc => by have := BO6.out.ord; simp at hc; right; rcases hc with rfl | rfl <;> omega))
                  clear HBG BO6 T6
                  have HSt := hide (fun n => steps_mem p q _ s (wn.drewN n) (BN.out.dq.drewN n).mem)
                  have rs1 := BN.out.rdq.mem.c1
                  go_quiet ((go_at_call 24; exact Calls.quiet_of_same (HSt.out _)))
                  go_wp2_with fail
                  go_roundg (250 - (i + 1))
                  case measure => omega
                  case rel => exact ⟨i + 1, by go_num, by omega, by omega, Nat.le_refl _, TN.out.drewN _, ⟨_, s, _, _, _, _, (BN.out.more (by omega)).turned ((Turned.refl [] _).drewN _), by have := HS01.out; omega, by have := HS01.out; omega, HLL.out⟩⟩
                | false =>
                  rw [hdd] at r8
                  go_wp2_with fail
                  have HSt := hide (fun n => steps_mem p q _ s (w6.drewN n) (BO6.out.dq.drewN n).mem)
                  have rs1 := BO6.out.rdq.mem.c1
                  go_quiet ((go_at_call 24; exact Calls.quiet_of_same (HSt.out _)))
                  go_wp2_with fail
                  go_roundg (250 - (i + 1))
                  case measure => omega
                  case rel => exact ⟨i + 1, by go_num, by omega, by omega, Nat.le_refl _, T6.out.drewN _, ⟨_, s, _, _, _, _, (BO6.out.more (by omega)).turned ((Turned.refl [] _).drewN _), by have := HS01.out; omega, by have := HS01.out; omega, HLL.out⟩⟩
          · by_cases hk2 : k = 2
            · subst hk2
              as_aux_lemma =>
                go_wp2_with fail
                refine HPw.out.mono ?_
                rintro e9 wv ⟨⟨u0, rfl, hu⟩, hwv⟩
                rw [hwv]
                clear hwv wv
                obtain ⟨u, hu1⟩ : ∃ u, u = 1 + u0 := ⟨_, rfl⟩
                have hu2 : (1 : Int) + (u0 : Int) = (u : Int) := by omega
                have hu3 : 1 ≤ u ∧ u ≤ 3 := by omega
                clear hu1 hu HPw
                have ec := BO6.out.arB.at_ u (by omega)
                have ea := BO6.out.arA.at_ u (by omega)
                rcases BO6.out.pair u (by omega) with ⟨hx, hy⟩ | ⟨b1, c1, hx, hy, hrel⟩
                · rw [hy] at ec
                  simp only [pv] at ec
                  clear ea
                  have HOp := hide (steal_any w6 d p q ⟨bs, cp, ov⟩ l s BO6.out.dq)
                  go_wp2_with fail
                  refine HOp.out.mono ?_
                  rintro e9 wa ⟨rfl, h1, h2, h3, -⟩
                  have ar := BO6.out.arA.turned h3 (by simp)
                  have au := ar.at_ u (by omega)
                  have az := ar.fz u
                  rw [hx] at au
                  simp only [pv] at au
                  have xa2 : wa.cell? ⟨g6, 2, none⟩ = some (.int .i64 V) := by rw [h3.cell (p := ⟨g6, 2, none⟩) (block_lt x2) (by simp)]; exact x2
                  have hgg6 : g6 < wa.heap.size := block_lt xa2
                  obtain ⟨b, hb⟩ : ∃ b, b = w6.heap.size := ⟨_, rfl⟩
                  rw [← hb] at h2
                  rw [← hb]
                  have ho := BO6.out.ord
                  have tga : Turned [ga] wa (wa.setCell ⟨ga, u, none⟩ (.pointer (some ⟨b, 0, none⟩))) := (Turned.refl _ _).setCell (by simp) _
                  have hrd := (BO6.out.rdq.turned h3 (by simp) (by simp) (by simp)).turned tga (by simp; omega) (by simp; omega) (by simp; omega)
                  have HBg := hide (rbegin_any (wa.setCell ⟨ga, u, none⟩ (.pointer (some ⟨b, 0, none⟩))) e rp rq ⟨bs, cp, ov⟩ l s 2 0 hrd)
                  have xb2 : (wa.setCell ⟨ga, u, none⟩ (.pointer (some ⟨b, 0, none⟩))).cell? ⟨g6, 2, none⟩ = some (.int .i64 V) := by rw [tga.cell (p := ⟨g6, 2, none⟩) hgg6 (by simp; exact HG6.out.1)]; exact xa2
                  have arB := (BO6.out.arB.turned h3 (by simp)).turned tga (by simp; omega)
                  have H1 := hide h1
                  have H2 := hide h2
                  have H3 := hide h3
                  have HB := hide hb
                  clear h1 h2 h3 ar tga hrd HOp ho hb
                  go_wp2_with fail
                  refine HBg.out.mono ?_
                  rintro e9 wc ⟨rfl, h4, h5, h6⟩
                  have hbg := BO6.out.begin u (by omega) .stealReadTop 2 0 (.inr (.inr ⟨rfl, rfl⟩)) HB.out H1.out H2.out H3.out rfl h5 h6
                  have arB2 := arB.turned h6 (by simp)
                  have bu := arB2.at_ u (by omega)
                  have bz := arB2.fz u
                  rw [hy] at bu
                  simp only [pv] at bu
                  have HBG := hide hbg
                  clear hbg arB arB2 h4 h5 h6 HBg au az xa2 xb2
                  generalize (wa.setCell ⟨ga, u, none⟩ (.pointer (some ⟨b, 0, none⟩))).heap.size = c at *
                  go_wp2_with fail
                  generalize (wc.setCell ⟨gb, u, none⟩ (.pointer (some ⟨c, 0, none⟩))) = wn at HBG ⊢
                  clear bu bz
                  have BN := hide HBG.out.1
                  have TN := hide (T6.out.trans_new HBG.out.2 (fun c hc => by have := BO6.out.ord; simp at hc; right; rcases hc with rfl | rfl <;> omega))
                  clear HBG BO6 T6
                  have HSt := hide (fun n => steps_mem p q _ s (wn.drewN n) (BN.out.dq.drewN n).mem)
                  have rs1 := BN.out.rdq.mem.c1
                  go_quiet ((go_at_call 24; exact Calls.quiet_of_same (HSt.out _)))
                  go_wp2_with fail
                  go_roundg (250 - (i + 1))
                  case measure => omega
                  case rel => exact ⟨i + 1, by go_num, by omega, by omega, Nat.le_refl _, TN.out.drewN _, ⟨_, s, _, _, _, _, (BN.out.more (by omega)).turned ((Turned.refl [] _).drewN _), by have := HS01.out; omega, by have := HS01.out; omega, HLL.out⟩⟩
                · rw [hy] at ec
                  rw [hx] at ea
                  simp only [pv] at ec ea
                  have hob := BO6.out.ops u b1 (by omega) hx
                  have hrb := BO6.out.rops u c1 (by omega) hy
                  have r8 := hrb.1.g8
                  rw [hrel.ended] at r8
                  have HREL := hide hrel
                  have HOB := hide hob
                  have HRB := hide hrb
                  clear hrel hob hrb
                  cases hdd : (m b1).done with
                  | true =>
                    rw [hdd] at r8
                    have HOp := hide (steal_any w6 d p q ⟨bs, cp, ov⟩ l s BO6.out.dq)
                    go_wp2_with fail
                    refine HOp.out.mono ?_
                    rintro e9 wa ⟨rfl, h1, h2, h3, -⟩
                    have ar := BO6.out.arA.turned h3 (by simp)
                    have au := ar.at_ u (by omega)
                    have az := ar.fz u
                    rw [hx] at au
                    simp only [pv] at au
                    have xa2 : wa.cell? ⟨g6, 2, none⟩ = some (.int .i64 V) := by rw [h3.cell (p := ⟨g6, 2, none⟩) (block_lt x2) (by simp)]; exact x2
                    have hgg6 : g6 < wa.heap.size := block_lt xa2
                    obtain ⟨b, hb⟩ : ∃ b, b = w6.heap.size := ⟨_, rfl⟩
                    rw [← hb] at h2
                    rw [← hb]
                    have ho := BO6.out.ord
                    have tga : Turned [ga] wa (wa.setCell ⟨ga, u, none⟩ (.pointer (some ⟨b, 0, none⟩))) := (Turned.refl _ _).setCell (by simp) _
                    have hrd := (BO6.out.rdq.turned h3 (by simp) (by simp) (by simp)).turned tga (by simp; omega) (by simp; omega) (by simp; omega)
                    have HBg := hide (rbegin_any (wa.setCell ⟨ga, u, none⟩ (.pointer (some ⟨b, 0, none⟩))) e rp rq ⟨bs, cp, ov⟩ l s 2 0 hrd)
                    have xb2 : (wa.setCell ⟨ga, u, none⟩ (.pointer (some ⟨b, 0, none⟩))).cell? ⟨g6, 2, none⟩ = some (.int .i64 V) := by rw [tga.cell (p := ⟨g6, 2, none⟩) hgg6 (by simp; exact HG6.out.1)]; exact xa2
                    have arB := (BO6.out.arB.turned h3 (by simp)).turned tga (by simp; omega)
                    have H1 := hide h1
                    have H2 := hide h2
                    have H3 := hide h3
                    have HB := hide hb
                    clear h1 h2 h3 ar tga hrd HOp ho hb
                    go_wp2_with fail
                    refine HBg.out.mono ?_
                    rintro e9 wc ⟨rfl, h4, h5, h6⟩
                    have hbg := BO6.out.begin u (by omega) .stealReadTop 2 0 (.inr (.inr ⟨rfl, rfl⟩)) HB.out H1.out H2.out H3.out rfl h5 h6
                    have arB2 := arB.turned h6 (by simp)
                    have bu := arB2.at_ u (by omega)
                    have bz := arB2.fz u
                    rw [hy] at bu
                    simp only [pv] at bu
                    have HBG := hide hbg
                    clear hbg arB arB2 h4 h5 h6 HBg au az xa2 xb2
                    generalize (wa.setCell ⟨ga, u, none⟩ (.pointer (some ⟨b, 0, none⟩))).heap.size = c at *
                    go_wp2_with fail
                    generalize (wc.setCell ⟨gb, u, none⟩ (.pointer (some ⟨c, 0, none⟩))) = wn at HBG ⊢
                    clear bu bz
                    have BN := hide HBG.out.1
                    have TN := hide (T6.out.trans_new HBG.out.2 (fun c hc => by have := BO6.out.ord; simp at hc; right; rcases hc with rfl | rfl <;> omega))
                    clear HBG BO6 T6
                    have HSt := hide (fun n => steps_mem p q _ s (wn.drewN n) (BN.out.dq.drewN n).mem)
                    have rs1 := BN.out.rdq.mem.c1
                    go_quiet ((go_at_call 24; exact Calls.quiet_of_same (HSt.out _)))
                    go_wp2_with fail
                    go_roundg (250 - (i + 1))
                    case measure => omega
                    case rel => exact ⟨i + 1, by go_num, by omega, by omega, Nat.le_refl _, TN.out.drewN _, ⟨_, s, _, _, _, _, (BN.out.more (by omega)).turned ((Turned.refl [] _).drewN _), by have := HS01.out; omega, by have := HS01.out; omega, HLL.out⟩⟩
                  | false =>
                    rw [hdd] at r8
                    go_wp2_with fail
                    have HSt := hide (fun n => steps_mem p q _ s (w6.drewN n) (BO6.out.dq.drewN n).mem)
                    have rs1 := BO6.out.rdq.mem.c1
                    go_quiet ((go_at_call 24; exact Calls.quiet_of_same (HSt.out _)))
                    go_wp2_with fail
                    go_roundg (250 - (i + 1))
                    case measure => omega
                    case rel => exact ⟨i + 1, by go_num, by omega, by omega, Nat.le_refl _, T6.out.drewN _, ⟨_, s, _, _, _, _, (BO6.out.more (by omega)).turned ((Turned.refl [] _).drewN _), by have := HS01.out; omega, by have := HS01.out; omega, HLL.out⟩⟩
            · by_cases hk3 : 3 < k
              · have hk45 : k = 4 ∨ k = 5 := by omega
                clear hk0 hk1 hk2 hk3 hk
                rcases hk45 with hk45 | hk45
                · subst hk45
                  as_aux_lemma =>
                    go_wp2_with fail
                    refine HPw.out.mono ?_
                    rintro e9 wv ⟨⟨u0, rfl, hu⟩, hwv⟩
                    rw [hwv]
                    clear hwv wv
                    obtain ⟨u, hu1⟩ : ∃ u, u = 1 + u0 := ⟨_, rfl⟩
                    have hu2 : (1 : Int) + (u0 : Int) = (u : Int) := by omega
                    have hu3 : 1 ≤ u ∧ u ≤ 3 := by omega
                    clear hu1 hu HPw
                    have ec := BO6.out.arB.at_ u (by omega)
                    have ea := BO6.out.arA.at_ u (by omega)
                    rcases BO6.out.pair u (by omega) with ⟨hx, hy⟩ | ⟨b1, c1, hx, hy, hrel⟩
                    · rw [hy] at ec
                      simp only [pv] at ec
                      clear ea
                      go_wp2_with fail
                      have HSt := hide (fun n => steps_mem p q _ s (w6.drewN n) (BO6.out.dq.drewN n).mem)
                      have rs1 := BO6.out.rdq.mem.c1
                      go_quiet ((go_at_call 24; exact Calls.quiet_of_same (HSt.out _)))
                      go_wp2_with fail
                      go_roundg (250 - (i + 1))
                      case measure => omega
                      case rel => exact ⟨i + 1, by go_num, by omega, by omega, Nat.le_refl _, T6.out.drewN _, ⟨_, s, _, _, _, _, (BO6.out.more (by omega)).turned ((Turned.refl [] _).drewN _), by have := HS01.out; omega, by have := HS01.out; omega, HLL.out⟩⟩
                    · rw [hy] at ec
                      rw [hx] at ea
                      simp only [pv] at ec ea
                      have hob := BO6.out.ops u b1 (by omega) hx
                      have hrb := BO6.out.rops u c1 (by omega) hy
                      have r8 := hrb.1.g8
                      rw [hrel.ended] at r8
                      have HREL := hide hrel
                      have HOB := hide hob
                      have HRB := hide hrb
                      clear hrel hob hrb
                      cases hdd : (m b1).done with
                      | true =>
                        rw [hdd] at r8
                        have hval : valOf (m b1) = ((rm c1).v, (rm c1).err) := by
                          unfold valOf
                          rw [if_pos hdd, HREL.out.told hdd, HREL.out.err]
                          split
                          · rename_i e0; rw [e0]
                          · rfl
                        have HSA := hide (step_done w6 d b1 (m b1) hdd HOB.out.1)
                        have HSB := hide (rstep_done w6 e c1 (rm c1) (by rw [HREL.out.ended]; exact hdd) HRB.out.1)
                        have HV1 := hide (value_any w6 d b1 (m b1) HOB.out.1)
                        rw [hval] at HV1
                        have HDo := hide (fun n => done_any (w6.drewN n) d b1 (m b1) (HOB.out.1.drewN n))
                        rw [hdd] at HDo
                        have g6' := HRB.out.1.g6
                        have g9' := HRB.out.1.g9
                        generalize (rm c1).v = rv at *
                        generalize (rm c1).err = re at *
                        clear hval hdd
                        go_wp2_with fail
                        refine HSA.out.mono ?_
                        rintro e9 wv ⟨rfl, hwv⟩
                        rw [hwv]
                        clear hwv wv HSA
                        go_wp2_with fail
                        refine HSB.out.mono ?_
                        rintro e9 wv ⟨rfl, hwv⟩
                        rw [hwv]
                        clear hwv wv HSB
                        go_wp2_with fail
                        refine HV1.out.mono ?_
                        rintro e9 wv ⟨rfl, mm, hwv⟩
                        have q1 : wv.cell? ⟨ga, u, none⟩ = some (.pointer (some ⟨b1, 0, none⟩)) := by rw [hwv]; exact ea
                        have q2 : wv.cell? ⟨gb, u, none⟩ = some (.pointer (some ⟨c1, 0, none⟩)) := by rw [hwv]; exact ec
                        have q3 : wv.cell? ⟨c1, 6, none⟩ = some (.int .i64 rv) := by rw [hwv]; exact g6'
                        have q4 : wv.cell? ⟨c1, 9, none⟩ = some (.int .i64 re) := by rw [hwv]; exact g9'
                        have HDo2 := hide (show Calls Try.prog 23 #[.pointer (some ⟨b1, 0, none⟩)] wv fun e w' => e = .returned (.bool true) ∧ w' = wv by rw [hwv]; exact HDo.out mm)
                        have BN := hide (show Both w.heap.size wv q p rq rp d e ga gb ⟨bs, cp, ov⟩ l s xs ys m rm (i : Int) by rw [hwv]; exact BO6.out.turned ((Turned.refl [] _).drewN _))
                        have TN := hide (show Turned [] w wv by rw [hwv]; exact T6.out.drewN _)
                        clear hwv HV1 HDo ea ec r8 g6' g9' x0 x1 x2
                        go_wp2_with (go_at_call 23; refine HDo2.out.mono ?_; rintro e9 wq ⟨rfl, hwq⟩; rw [hwq]; clear hwq wq)
                        have HSt := hide (fun n => steps_mem p q _ s (wv.drewN n) (BN.out.dq.drewN n).mem)
                        have rs1 := BN.out.rdq.mem.c1
                        go_quiet ((go_at_call 24; exact Calls.quiet_of_same (HSt.out _)))
                        go_wp2_with fail
                        go_roundg (250 - (i + 1))
                        case measure => omega
                        case rel => exact ⟨i + 1, by go_num, by omega, by omega, Nat.le_refl _, TN.out.drewN _, ⟨_, s, _, _, _, _, (BN.out.more (by omega)).turned ((Turned.refl [] _).drewN _), by have := HS01.out; omega, by have := HS01.out; omega, HLL.out⟩⟩
                      | false =>
                        rw [hdd] at r8
                        have hfit := BO6.out.fit u b1 (by omega) hx
                        have HSA := hide (step_open w6 d p q b1 ⟨bs, cp, ov⟩ l s (i : Int) (by omega) (m b1) hfit hdd (by have := BO6.out.ord; have := HOB.out.2; omega) BO6.out.dq HOB.out.1)
                        have HFIT := hide hfit
                        have HDD := hide hdd
                        clear hfit hdd
                        go_wp2_with fail
                        refine HSA.out.mono ?_
                        rintro e9 wa ⟨rfl, h1, h2, h3⟩
                        have ho := BO6.out.ord
                        have hne := op_ne HOB.out.1 HRB.out.1
                        have HRS := hide (rstep_open wa e rp rq c1 ⟨bs, cp, ov⟩ l s (i : Int) (by omega) (m b1) (rm c1) HFIT.out HDD.out BO6.out.stk HREL.out (by have := HRB.out.2; omega) (BO6.out.rdq.turned h3 (by simp; have := HOB.out.2; omega) (by simp; have := HOB.out.2; omega) (by simp; have := HOB.out.2; omega)) (HRB.out.1.turned h3 (by simp; have := HRB.out.2; omega)))
                        have ea2 : wa.cell? ⟨ga, u, none⟩ = some (.pointer (some ⟨b1, 0, none⟩)) := by rw [h3.cell (p := ⟨ga, u, none⟩) (block_lt ea) (by simp; have := HOB.out.2; omega)]; exact ea
                        have ec2 : wa.cell? ⟨gb, u, none⟩ = some (.pointer (some ⟨c1, 0, none⟩)) := by rw [h3.cell (p := ⟨gb, u, none⟩) (block_lt ec) (by simp; have := HOB.out.2; omega)]; exact ec
                        have H1 := hide h1
                        have H2 := hide h2
                        have H3 := hide h3
                        clear h1 h2 h3 HSA ea ec r8 x0 x1 x2 ho hne
                        go_wp2_with fail
                        refine HRS.out.mono ?_
                        rintro e9 wb ⟨rfl, h4, ⟨r', h5, h7⟩, h6⟩
                        have hbs := BO6.out.step u (by omega) hx hy HDD.out H1.out H2.out H3.out h4 h5 h6 h7
                        have ho := BO6.out.ord
                        have hne := op_ne HOB.out.1 HRB.out.1
                        have ea3 : wb.cell? ⟨ga, u, none⟩ = some (.pointer (some ⟨b1, 0, none⟩)) := by rw [h6.cell (p := ⟨ga, u, none⟩) (block_lt ea2) (by simp; have := HRB.out.2; omega)]; exact ea2
                        have ec3 : wb.cell? ⟨gb, u, none⟩ = some (.pointer (some ⟨c1, 0, none⟩)) := by rw [h6.cell (p := ⟨gb, u, none⟩) (block_lt ec2) (by simp; have := HRB.out.2; omega)]; exact ec2
                        have hob2 : OpB wb b1 d (stepOf ⟨bs, cp, ov⟩ l (m b1)).2 := H2.out.turned h6 (by simp; have := HOB.out.2; omega)
                        have hsv : wrap64 (s + 1) = s + 1 := by have := HS01.out; unfold wrap64; omega
                        rw [hsv] at hbs
                        have hlen := (step_sees ⟨bs, cp, ov⟩ l (m b1) BO6.out.dq.room HDD.out).1
                        have BN0 := hide hbs.1
                        have TN0 := hide (T6.out.trans_new hbs.2 (fun c hc => by have := BO6.out.ord; have := HOB.out.2; have := HRB.out.2; simp at hc; right; rcases hc with rfl | rfl | rfl | rfl | rfl | rfl <;> omega))
                        have g6' := h5.g6
                        have g9' := h5.g9
                        have HV1 := hide (value_any wb d b1 _ hob2)
                        have HDo := hide (fun n => done_any (wb.drewN n) d b1 _ (hob2.drewN n))
                        have HLL2 := hide (show (stepOf ⟨bs, cp, ov⟩ l (m b1)).1.length = 300 by rw [hlen]; exact HLL.out)
                        have hval : ((stepOf ⟨bs, cp, ov⟩ l (m b1)).2.done = true → valOf (stepOf ⟨bs, cp, ov⟩ l (m b1)).2 = (r'.v, r'.err)) ∧ ((stepOf ⟨bs, cp, ov⟩ l (m b1)).2.done = false → valOf (stepOf ⟨bs, cp, ov⟩ l (m b1)).2 = (0, 16)) := by
                          constructor
                          · intro hd1
                            unfold valOf
                            rw [if_pos hd1, h7.told hd1, h7.err]
                            split
                            · rename_i e0; rw [e0]
                            · rfl
                          · intro hd1
                            unfold valOf
                            rw [hd1]
                            rfl
                        clear hbs h4 h5 h6 h7 HRS ea2 ec2 ho hne hob2 hsv hlen H1 H2 H3 BO6 T6
                        generalize stepOf ⟨bs, cp, ov⟩ l (m b1) = R at *
                        generalize r'.v = rv at *
                        generalize r'.err = re at *
                        cases hd1 : R.2.done with
                        | true =>
                          have hv := hval.1 hd1
                          rw [hv] at HV1
                          rw [hd1] at HDo
                          clear hval hv hd1
                          go_wp2_with fail
                          refine HV1.out.mono ?_
                          rintro e9 wv ⟨rfl, mm, hwv⟩
                          have q1 : wv.cell? ⟨ga, u, none⟩ = some (.pointer (some ⟨b1, 0, none⟩)) := by rw [hwv]; exact ea3
                          have q2 : wv.cell? ⟨gb, u, none⟩ = some (.pointer (some ⟨c1, 0, none⟩)) := by rw [hwv]; exact ec3
                          have q3 : wv.cell? ⟨c1, 6, none⟩ = some (.int .i64 rv) := by rw [hwv]; exact g6'
                          have q4 : wv.cell? ⟨c1, 9, none⟩ = some (.int .i64 re) := by rw [hwv]; exact g9'
                          have HDo2 := hide (show Calls Try.prog 23 #[.pointer (some ⟨b1, 0, none⟩)] wv fun e w' => e = .returned (.bool true) ∧ w' = wv by rw [hwv]; exact HDo.out mm)
                          have BN := hide (BN0.out.turned (show Turned [] wb wv by rw [hwv]; exact (Turned.refl [] _).drewN _))
                          have TN := hide (TN0.out.trans (show Turned [] wb wv by rw [hwv]; exact (Turned.refl [] _).drewN _))
                          clear hwv HV1 HDo ea3 ec3 g6' g9' BN0 TN0
                          go_wp2_with (go_at_call 23; refine HDo2.out.mono ?_; rintro e9 wq ⟨rfl, hwq⟩; rw [hwq]; clear hwq wq)
                          have HSt := hide (fun n => steps_mem p q _ (s + 1) (wv.drewN n) (BN.out.dq.drewN n).mem)
                          have rs1 := BN.out.rdq.mem.c1
                          go_quiet ((go_at_call 24; exact Calls.quiet_of_same (HSt.out _)))
                          go_wp2_with fail
                          go_roundg (250 - (i + 1))
                          case measure => omega
                          case rel => exact ⟨i + 1, by go_num, by omega, by omega, Nat.le_refl _, TN.out.drewN _, ⟨_, (s + 1), _, _, _, _, (BN.out.more (by omega)).turned ((Turned.refl [] _).drewN _), by have := HS01.out; omega, by have := HS01.out; omega, HLL2.out⟩⟩
                        | false =>
                          have hv := hval.2 hd1
                          rw [hv] at HV1
                          rw [hd1] at HDo
                          clear hval hv hd1
                          go_wp2_with fail
                          refine HV1.out.mono ?_
                          rintro e9 wv ⟨rfl, mm, hwv⟩
                          have q1 : wv.cell? ⟨ga, u, none⟩ = some (.pointer (some ⟨b1, 0, none⟩)) := by rw [hwv]; exact ea3
                          have q2 : wv.cell? ⟨gb, u, none⟩ = some (.pointer (some ⟨c1, 0, none⟩)) := by rw [hwv]; exact ec3
                          have q3 : wv.cell? ⟨c1, 6, none⟩ = some (.int .i64 rv) := by rw [hwv]; exact g6'
                          have q4 : wv.cell? ⟨c1, 9, none⟩ = some (.int .i64 re) := by rw [hwv]; exact g9'
                          have HDo2 := hide (show Calls Try.prog 23 #[.pointer (some ⟨b1, 0, none⟩)] wv fun e w' => e = .returned (.bool false) ∧ w' = wv by rw [hwv]; exact HDo.out mm)
                          have BN := hide (BN0.out.turned (show Turned [] wb wv by rw [hwv]; exact (Turned.refl [] _).drewN _))
                          have TN := hide (TN0.out.trans (show Turned [] wb wv by rw [hwv]; exact (Turned.refl [] _).drewN _))
                          clear hwv HV1 HDo ea3 ec3 g6' g9' BN0 TN0
                          go_wp2_with (go_at_call 23; refine HDo2.out.mono ?_; rintro e9 wq ⟨rfl, hwq⟩; rw [hwq]; clear hwq wq)
                          have HSt := hide (fun n => steps_mem p q _ (s + 1) (wv.drewN n) (BN.out.dq.drewN n).mem)
                          have rs1 := BN.out.rdq.mem.c1
                          go_quiet ((go_at_call 24; exact Calls.quiet_of_same (HSt.out _)))
                          go_wp2_with fail
                          go_roundg (250 - (i + 1))
                          case measure => omega
                          case rel => exact ⟨i + 1, by go_num, by omega, by omega, Nat.le_refl _, TN.out.drewN _, ⟨_, (s + 1), _, _, _, _, (BN.out.more (by omega)).turned ((Turned.refl [] _).drewN _), by have := HS01.out; omega, by have := HS01.out; omega, HLL2.out⟩⟩
                · subst hk45
                  as_aux_lemma =>
                    go_wp2_with fail
                    refine HPw.out.mono ?_
                    rintro e9 wv ⟨⟨u0, rfl, hu⟩, hwv⟩
                    rw [hwv]
                    clear hwv wv
                    obtain ⟨u, hu1⟩ : ∃ u, u = 1 + u0 := ⟨_, rfl⟩
                    have hu2 : (1 : Int) + (u0 : Int) = (u : Int) := by omega
                    have hu3 : 1 ≤ u ∧ u ≤ 3 := by omega
                    clear hu1 hu HPw
                    have ec := BO6.out.arB.at_ u (by omega)
                    have ea := BO6.out.arA.at_ u (by omega)
                    rcases BO6.out.pair u (by omega) with ⟨hx, hy⟩ | ⟨b1, c1, hx, hy, hrel⟩
                    · rw [hy] at ec
                      simp only [pv] at ec
                      clear ea
                      go_wp2_with fail
                      have HSt := hide (fun n => steps_mem p q _ s (w6.drewN n) (BO6.out.dq.drewN n).mem)
                      have rs1 := BO6.out.rdq.mem.c1
                      go_quiet ((go_at_call 24; exact Calls.quiet_of_same (HSt.out _)))
                      go_wp2_with fail
                      go_roundg (250 - (i + 1))
                      case measure => omega
                      case rel => exact ⟨i + 1, by go_num, by omega, by omega, Nat.le_refl _, T6.out.drewN _, ⟨_, s, _, _, _, _, (BO6.out.more (by omega)).turned ((Turned.refl [] _).drewN _), by have := HS01.out; omega, by have := HS01.out; omega, HLL.out⟩⟩
                    · rw [hy] at ec
                      rw [hx] at ea
                      simp only [pv] at ec ea
                      have hob := BO6.out.ops u b1 (by omega) hx
                      have hrb := BO6.out.rops u c1 (by omega) hy
                      have r8 := hrb.1.g8
                      rw [hrel.ended] at r8
                      have HREL := hide hrel
                      have HOB := hide hob
                      have HRB := hide hrb
                      clear hrel hob hrb
                      cases hdd : (m b1).done with
                      | true =>
                        rw [hdd] at r8
                        have hval : valOf (m b1) = ((rm c1).v, (rm c1).err) := by
                          unfold valOf
                          rw [if_pos hdd, HREL.out.told hdd, HREL.out.err]
                          split
                          · rename_i e0; rw [e0]
                          · rfl
                        have HSA := hide (step_done w6 d b1 (m b1) hdd HOB.out.1)
                        have HSB := hide (rstep_done w6 e c1 (rm c1) (by rw [HREL.out.ended]; exact hdd) HRB.out.1)
                        have HV1 := hide (value_any w6 d b1 (m b1) HOB.out.1)
                        rw [hval] at HV1
                        have HDo := hide (fun n => done_any (w6.drewN n) d b1 (m b1) (HOB.out.1.drewN n))
                        rw [hdd] at HDo
                        have g6' := HRB.out.1.g6
                        have g9' := HRB.out.1.g9
                        generalize (rm c1).v = rv at *
                        generalize (rm c1).err = re at *
                        clear hval hdd
                        go_wp2_with fail
                        refine HSA.out.mono ?_
                        rintro e9 wv ⟨rfl, hwv⟩
                        rw [hwv]
                        clear hwv wv HSA
                        go_wp2_with fail
                        refine HSB.out.mono ?_
                        rintro e9 wv ⟨rfl, hwv⟩
                        rw [hwv]
                        clear hwv wv HSB
                        go_wp2_with fail
                        refine HV1.out.mono ?_
                        rintro e9 wv ⟨rfl, mm, hwv⟩
                        have q1 : wv.cell? ⟨ga, u, none⟩ = some (.pointer (some ⟨b1, 0, none⟩)) := by rw [hwv]; exact ea
                        have q2 : wv.cell? ⟨gb, u, none⟩ = some (.pointer (some ⟨c1, 0, none⟩)) := by rw [hwv]; exact ec
                        have q3 : wv.cell? ⟨c1, 6, none⟩ = some (.int .i64 rv) := by rw [hwv]; exact g6'
                        have q4 : wv.cell? ⟨c1, 9, none⟩ = some (.int .i64 re) := by rw [hwv]; exact g9'
                        have HDo2 := hide (show Calls Try.prog 23 #[.pointer (some ⟨b1, 0, none⟩)] wv fun e w' => e = .returned (.bool true) ∧ w' = wv by rw [hwv]; exact HDo.out mm)
                        have BN := hide (show Both w.heap.size wv q p rq rp d e ga gb ⟨bs, cp, ov⟩ l s xs ys m rm (i : Int) by rw [hwv]; exact BO6.out.turned ((Turned.refl [] _).drewN _))
                        have TN := hide (show Turned [] w wv by rw [hwv]; exact T6.out.drewN _)
                        clear hwv HV1 HDo ea ec r8 g6' g9' x0 x1 x2
                        go_wp2_with (go_at_call 23; refine HDo2.out.mono ?_; rintro e9 wq ⟨rfl, hwq⟩; rw [hwq]; clear hwq wq)
                        have HSt := hide (fun n => steps_mem p q _ s (wv.drewN n) (BN.out.dq.drewN n).mem)
                        have rs1 := BN.out.rdq.mem.c1
                        go_quiet ((go_at_call 24; exact Calls.quiet_of_same (HSt.out _)))
                        go_wp2_with fail
                        go_roundg (250 - (i + 1))
                        case measure => omega
                        case rel => exact ⟨i + 1, by go_num, by omega, by omega, Nat.le_refl _, TN.out.drewN _, ⟨_, s, _, _, _, _, (BN.out.more (by omega)).turned ((Turned.refl [] _).drewN _), by have := HS01.out; omega, by have := HS01.out; omega, HLL.out⟩⟩
                      | false =>
                        rw [hdd] at r8
                        have hfit := BO6.out.fit u b1 (by omega) hx
                        have HSA := hide (step_open w6 d p q b1 ⟨bs, cp, ov⟩ l s (i : Int) (by omega) (m b1) hfit hdd (by have := BO6.out.ord; have := HOB.out.2; omega) BO6.out.dq HOB.out.1)
                        have HFIT := hide hfit
                        have HDD := hide hdd
                        clear hfit hdd
                        go_wp2_with fail
                        refine HSA.out.mono ?_
                        rintro e9 wa ⟨rfl, h1, h2, h3⟩
                        have ho := BO6.out.ord
                        have hne := op_ne HOB.out.1 HRB.out.1
                        have HRS := hide (rstep_open wa e rp rq c1 ⟨bs, cp, ov⟩ l s (i : Int) (by omega) (m b1) (rm c1) HFIT.out HDD.out BO6.out.stk HREL.out (by have := HRB.out.2; omega) (BO6.out.rdq.turned h3 (by simp; have := HOB.out.2; omega) (by simp; have := HOB.out.2; omega) (by simp; have := HOB.out.2; omega)) (HRB.out.1.turned h3 (by simp; have := HRB.out.2; omega)))
                        have ea2 : wa.cell? ⟨ga, u, none⟩ = some (.pointer (some ⟨b1, 0, none⟩)) := by rw [h3.cell (p := ⟨ga, u, none⟩) (block_lt ea) (by simp; have := HOB.out.2; omega)]; exact ea
                        have ec2 : wa.cell? ⟨gb, u, none⟩ = some (.pointer (some ⟨c1, 0, none⟩)) := by rw [h3.cell (p := ⟨gb, u, none⟩) (block_lt ec) (by simp; have := HOB.out.2; omega)]; exact ec
                        have H1 := hide h1
                        have H2 := hide h2
                        have H3 := hide h3
                        clear h1 h2 h3 HSA ea ec r8 x0 x1 x2 ho hne
                        go_wp2_with fail
                        refine HRS.out.mono ?_
                        rintro e9 wb ⟨rfl, h4, ⟨r', h5, h7⟩, h6⟩
                        have hbs := BO6.out.step u (by omega) hx hy HDD.out H1.out H2.out H3.out h4 h5 h6 h7
                        have ho := BO6.out.ord
                        have hne := op_ne HOB.out.1 HRB.out.1
                        have ea3 : wb.cell? ⟨ga, u, none⟩ = some (.pointer (some ⟨b1, 0, none⟩)) := by rw [h6.cell (p := ⟨ga, u, none⟩) (block_lt ea2) (by simp; have := HRB.out.2; omega)]; exact ea2
                        have ec3 : wb.cell? ⟨gb, u, none⟩ = some (.pointer (some ⟨c1, 0, none⟩)) := by rw [h6.cell (p := ⟨gb, u, none⟩) (block_lt ec2) (by simp; have := HRB.out.2; omega)]; exact ec2
                        have hob2 : OpB wb b1 d (stepOf ⟨bs, cp, ov⟩ l (m b1)).2 := H2.out.turned h6 (by simp; have := HOB.out.2; omega)
                        have hsv : wrap64 (s + 1) = s + 1 := by have := HS01.out; unfold wrap64; omega
                        rw [hsv] at hbs
                        have hlen := (step_sees ⟨bs, cp, ov⟩ l (m b1) BO6.out.dq.room HDD.out).1
                        have BN0 := hide hbs.1
                        have TN0 := hide (T6.out.trans_new hbs.2 (fun c hc => by have := BO6.out.ord; have := HOB.out.2; have := HRB.out.2; simp at hc; right; rcases hc with rfl | rfl | rfl | rfl | rfl | rfl <;> omega))
                        have g6' := h5.g6
                        have g9' := h5.g9
                        have HV1 := hide (value_any wb d b1 _ hob2)
                        have HDo := hide (fun n => done_any (wb.drewN n) d b1 _ (hob2.drewN n))
                        have HLL2 := hide (show (stepOf ⟨bs, cp, ov⟩ l (m b1)).1.length = 300 by rw [hlen]; exact HLL.out)
                        have hval : ((stepOf ⟨bs, cp, ov⟩ l (m b1)).2.done = true → valOf (stepOf ⟨bs, cp, ov⟩ l (m b1)).2 = (r'.v, r'.err)) ∧ ((stepOf ⟨bs, cp, ov⟩ l (m b1)).2.done = false → valOf (stepOf ⟨bs, cp, ov⟩ l (m b1)).2 = (0, 16)) := by
                          constructor
                          · intro hd1
                            unfold valOf
                            rw [if_pos hd1, h7.told hd1, h7.err]
                            split
                            · rename_i e0; rw [e0]
                            · rfl
                          · intro hd1
                            unfold valOf
                            rw [hd1]
                            rfl
                        clear hbs h4 h5 h6 h7 HRS ea2 ec2 ho hne hob2 hsv hlen H1 H2 H3 BO6 T6
                        generalize stepOf ⟨bs, cp, ov⟩ l (m b1) = R at *
                        generalize r'.v = rv at *
                        generalize r'.err = re at *
                        cases hd1 : R.2.done with
                        | true =>
                          have hv := hval.1 hd1
                          rw [hv] at HV1
                          rw [hd1] at HDo
                          clear hval hv hd1
                          go_wp2_with fail
                          refine HV1.out.mono ?_
                          rintro e9 wv ⟨rfl, mm, hwv⟩
                          have q1 : wv.cell? ⟨ga, u, none⟩ = some (.pointer (some ⟨b1, 0, none⟩)) := by rw [hwv]; exact ea3
                          have q2 : wv.cell? ⟨gb, u, none⟩ = some (.pointer (some ⟨c1, 0, none⟩)) := by rw [hwv]; exact ec3
                          have q3 : wv.cell? ⟨c1, 6, none⟩ = some (.int .i64 rv) := by rw [hwv]; exact g6'
                          have q4 : wv.cell? ⟨c1, 9, none⟩ = some (.int .i64 re) := by rw [hwv]; exact g9'
                          have HDo2 := hide (show Calls Try.prog 23 #[.pointer (some ⟨b1, 0, none⟩)] wv fun e w' => e = .returned (.bool true) ∧ w' = wv by rw [hwv]; exact HDo.out mm)
                          have BN := hide (BN0.out.turned (show Turned [] wb wv by rw [hwv]; exact (Turned.refl [] _).drewN _))
                          have TN := hide (TN0.out.trans (show Turned [] wb wv by rw [hwv]; exact (Turned.refl [] _).drewN _))
                          clear hwv HV1 HDo ea3 ec3 g6' g9' BN0 TN0
                          go_wp2_with (go_at_call 23; refine HDo2.out.mono ?_; rintro e9 wq ⟨rfl, hwq⟩; rw [hwq]; clear hwq wq)
                          have HSt := hide (fun n => steps_mem p q _ (s + 1) (wv.drewN n) (BN.out.dq.drewN n).mem)
                          have rs1 := BN.out.rdq.mem.c1
                          go_quiet ((go_at_call 24; exact Calls.quiet_of_same (HSt.out _)))
                          go_wp2_with fail
                          go_roundg (250 - (i + 1))
                          case measure => omega
                          case rel => exact ⟨i + 1, by go_num, by omega, by omega, Nat.le_refl _, TN.out.drewN _, ⟨_, (s + 1), _, _, _, _, (BN.out.more (by omega)).turned ((Turned.refl [] _).drewN _), by have := HS01.out; omega, by have := HS01.out; omega, HLL2.out⟩⟩
                        | false =>
                          have hv := hval.2 hd1
                          rw [hv] at HV1
                          rw [hd1] at HDo
                          clear hval hv hd1
                          go_wp2_with fail
                          refine HV1.out.mono ?_
                          rintro e9 wv ⟨rfl, mm, hwv⟩
                          have q1 : wv.cell? ⟨ga, u, none⟩ = some (.pointer (some ⟨b1, 0, none⟩)) := by rw [hwv]; exact ea3
                          have q2 : wv.cell? ⟨gb, u, none⟩ = some (.pointer (some ⟨c1, 0, none⟩)) := by rw [hwv]; exact ec3
                          have q3 : wv.cell? ⟨c1, 6, none⟩ = some (.int .i64 rv) := by rw [hwv]; exact g6'
                          have q4 : wv.cell? ⟨c1, 9, none⟩ = some (.int .i64 re) := by rw [hwv]; exact g9'
                          have HDo2 := hide (show Calls Try.prog 23 #[.pointer (some ⟨b1, 0, none⟩)] wv fun e w' => e = .returned (.bool false) ∧ w' = wv by rw [hwv]; exact HDo.out mm)
                          have BN := hide (BN0.out.turned (show Turned [] wb wv by rw [hwv]; exact (Turned.refl [] _).drewN _))
                          have TN := hide (TN0.out.trans (show Turned [] wb wv by rw [hwv]; exact (Turned.refl [] _).drewN _))
                          clear hwv HV1 HDo ea3 ec3 g6' g9' BN0 TN0
                          go_wp2_with (go_at_call 23; refine HDo2.out.mono ?_; rintro e9 wq ⟨rfl, hwq⟩; rw [hwq]; clear hwq wq)
                          have HSt := hide (fun n => steps_mem p q _ (s + 1) (wv.drewN n) (BN.out.dq.drewN n).mem)
                          have rs1 := BN.out.rdq.mem.c1
                          go_quiet ((go_at_call 24; exact Calls.quiet_of_same (HSt.out _)))
                          go_wp2_with fail
                          go_roundg (250 - (i + 1))
                          case measure => omega
                          case rel => exact ⟨i + 1, by go_num, by omega, by omega, Nat.le_refl _, TN.out.drewN _, ⟨_, (s + 1), _, _, _, _, (BN.out.more (by omega)).turned ((Turned.refl [] _).drewN _), by have := HS01.out; omega, by have := HS01.out; omega, HLL2.out⟩⟩
              · have hk4 : k = 3 := by omega
                clear hk0 hk1 hk2 hk3
                subst hk4
                clear HPw
                as_aux_lemma =>
                  have ec := BO6.out.arB.at_ 0 (by omega)
                  have ea := BO6.out.arA.at_ 0 (by omega)
                  rcases BO6.out.pair 0 (by omega) with ⟨hx, hy⟩ | ⟨b1, c1, hx, hy, hrel⟩
                  · rw [hy] at ec
                    simp only [pv] at ec
                    clear ea
                    go_wp2_with fail
                    have HSt := hide (fun n => steps_mem p q _ s (w6.drewN n) (BO6.out.dq.drewN n).mem)
                    have rs1 := BO6.out.rdq.mem.c1
                    go_quiet ((go_at_call 24; exact Calls.quiet_of_same (HSt.out _)))
                    go_wp2_with fail
                    go_roundg (250 - (i + 1))
                    case measure => omega
                    case rel => exact ⟨i + 1, by go_num, by omega, by omega, Nat.le_refl _, T6.out.drewN _, ⟨_, s, _, _, _, _, (BO6.out.more (by omega)).turned ((Turned.refl [] _).drewN _), by have := HS01.out; omega, by have := HS01.out; omega, HLL.out⟩⟩
                  · rw [hy] at ec
                    rw [hx] at ea
                    simp only [pv] at ec ea
                    have hob := BO6.out.ops 0 b1 (by omega) hx
                    have hrb := BO6.out.rops 0 c1 (by omega) hy
                    have r8 := hrb.1.g8
                    rw [hrel.ended] at r8
                    have HREL := hide hrel
                    have HOB := hide hob
                    have HRB := hide hrb
                    clear hrel hob hrb
                    cases hdd : (m b1).done with
                    | true =>
                      rw [hdd] at r8
                      have hval : valOf (m b1) = ((rm c1).v, (rm c1).err) := by
                        unfold valOf
                        rw [if_pos hdd, HREL.out.told hdd, HREL.out.err]
                        split
                        · rename_i e0; rw [e0]
                        · rfl
                      have HSA := hide (step_done w6 d b1 (m b1) hdd HOB.out.1)
                      have HSB := hide (rstep_done w6 e c1 (rm c1) (by rw [HREL.out.ended]; exact hdd) HRB.out.1)
                      have HV1 := hide (value_any w6 d b1 (m b1) HOB.out.1)
                      rw [hval] at HV1
                      have HDo := hide (fun n => done_any (w6.drewN n) d b1 (m b1) (HOB.out.1.drewN n))
                      rw [hdd] at HDo
                      have g6' := HRB.out.1.g6
                      have g9' := HRB.out.1.g9
                      generalize (rm c1).v = rv at *
                      generalize (rm c1).err = re at *
                      clear hval hdd
                      go_wp2_with fail
                      refine HSA.out.mono ?_
                      rintro e9 wv ⟨rfl, hwv⟩
                      rw [hwv]
                      clear hwv wv HSA
                      go_wp2_with fail
                      refine HSB.out.mono ?_
                      rintro e9 wv ⟨rfl, hwv⟩
                      rw [hwv]
                      clear hwv wv HSB
                      go_wp2_with fail
                      refine HV1.out.mono ?_
                      rintro e9 wv ⟨rfl, mm, hwv⟩
                      have q1 : wv.cell? ⟨ga, 0, none⟩ = some (.pointer (some ⟨b1, 0, none⟩)) := by rw [hwv]; exact ea
                      have q2 : wv.cell? ⟨gb, 0, none⟩ = some (.pointer (some ⟨c1, 0, none⟩)) := by rw [hwv]; exact ec
                      have q3 : wv.cell? ⟨c1, 6, none⟩ = some (.int .i64 rv) := by rw [hwv]; exact g6'
                      have q4 : wv.cell? ⟨c1, 9, none⟩ = some (.int .i64 re) := by rw [hwv]; exact g9'
                      have HDo2 := hide (show Calls Try.prog 23 #[.pointer (some ⟨b1, 0, none⟩)] wv fun e w' => e = .returned (.bool true) ∧ w' = wv by rw [hwv]; exact HDo.out mm)
                      have BN := hide (show Both w.heap.size wv q p rq rp d e ga gb ⟨bs, cp, ov⟩ l s xs ys m rm (i : Int) by rw [hwv]; exact BO6.out.turned ((Turned.refl [] _).drewN _))
                      have TN := hide (show Turned [] w wv by rw [hwv]; exact T6.out.drewN _)
                      clear hwv HV1 HDo ea ec r8 g6' g9' x0 x1 x2
                      go_wp2_with (go_at_call 23; refine HDo2.out.mono ?_; rintro e9 wq ⟨rfl, hwq⟩; rw [hwq]; clear hwq wq)
                      have HSt := hide (fun n => steps_mem p q _ s (wv.drewN n) (BN.out.dq.drewN n).mem)
                      have rs1 := BN.out.rdq.mem.c1
                      go_quiet ((go_at_call 24; exact Calls.quiet_of_same (HSt.out _)))
                      go_wp2_with fail
                      go_roundg (250 - (i + 1))
                      case measure => omega
                      case rel => exact ⟨i + 1, by go_num, by omega, by omega, Nat.le_refl _, TN.out.drewN _, ⟨_, s, _, _, _, _, (BN.out.more (by omega)).turned ((Turned.refl [] _).drewN _), by have := HS01.out; omega, by have := HS01.out; omega, HLL.out⟩⟩
                    | false =>
                      rw [hdd] at r8
                      have hfit := BO6.out.fit 0 b1 (by omega) hx
                      have HSA := hide (step_open w6 d p q b1 ⟨bs, cp, ov⟩ l s (i : Int) (by omega) (m b1) hfit hdd (by have := BO6.out.ord; have := HOB.out.2; omega) BO6.out.dq HOB.out.1)
                      have HFIT := hide hfit
                      have HDD := hide hdd
                      clear hfit hdd
                      go_wp2_with fail
                      refine HSA.out.mono ?_
                      rintro e9 wa ⟨rfl, h1, h2, h3⟩
                      have ho := BO6.out.ord
                      have hne := op_ne HOB.out.1 HRB.out.1
                      have HRS := hide (rstep_open wa e rp rq c1 ⟨bs, cp, ov⟩ l s (i : Int) (by omega) (m b1) (rm c1) HFIT.out HDD.out BO6.out.stk HREL.out (by have := HRB.out.2; omega) (BO6.out.rdq.turned h3 (by simp; have := HOB.out.2; omega) (by simp; have := HOB.out.2; omega) (by simp; have := HOB.out.2; omega)) (HRB.out.1.turned h3 (by simp; have := HRB.out.2; omega)))
                      have ea2 : wa.cell? ⟨ga, 0, none⟩ = some (.pointer (some ⟨b1, 0, none⟩)) := by rw [h3.cell (p := ⟨ga, 0, none⟩) (block_lt ea) (by simp; have := HOB.out.2; omega)]; exact ea
                      have ec2 : wa.cell? ⟨gb, 0, none⟩ = some (.pointer (some ⟨c1, 0, none⟩)) := by rw [h3.cell (p := ⟨gb, 0, none⟩) (block_lt ec) (by simp; have := HOB.out.2; omega)]; exact ec
                      have H1 := hide h1
                      have H2 := hide h2
                      have H3 := hide h3
                      clear h1 h2 h3 HSA ea ec r8 x0 x1 x2 ho hne
                      go_wp2_with fail
                      refine HRS.out.mono ?_
                      rintro e9 wb ⟨rfl, h4, ⟨r', h5, h7⟩, h6⟩
                      have hbs := BO6.out.step 0 (by omega) hx hy HDD.out H1.out H2.out H3.out h4 h5 h6 h7
                      have ho := BO6.out.ord
                      have hne := op_ne HOB.out.1 HRB.out.1
                      have ea3 : wb.cell? ⟨ga, 0, none⟩ = some (.pointer (some ⟨b1, 0, none⟩)) := by rw [h6.cell (p := ⟨ga, 0, none⟩) (block_lt ea2) (by simp; have := HRB.out.2; omega)]; exact ea2
                      have ec3 : wb.cell? ⟨gb, 0, none⟩ = some (.pointer (some ⟨c1, 0, none⟩)) := by rw [h6.cell (p := ⟨gb, 0, none⟩) (block_lt ec2) (by simp; have := HRB.out.2; omega)]; exact ec2
                      have hob2 : OpB wb b1 d (stepOf ⟨bs, cp, ov⟩ l (m b1)).2 := H2.out.turned h6 (by simp; have := HOB.out.2; omega)
                      have hsv : wrap64 (s + 1) = s + 1 := by have := HS01.out; unfold wrap64; omega
                      rw [hsv] at hbs
                      have hlen := (step_sees ⟨bs, cp, ov⟩ l (m b1) BO6.out.dq.room HDD.out).1
                      have BN0 := hide hbs.1
                      have TN0 := hide (T6.out.trans_new hbs.2 (fun c hc => by have := BO6.out.ord; have := HOB.out.2; have := HRB.out.2; simp at hc; right; rcases hc with rfl | rfl | rfl | rfl | rfl | rfl <;> omega))
                      have g6' := h5.g6
                      have g9' := h5.g9
                      have HV1 := hide (value_any wb d b1 _ hob2)
                      have HDo := hide (fun n => done_any (wb.drewN n) d b1 _ (hob2.drewN n))
                      have HLL2 := hide (show (stepOf ⟨bs, cp, ov⟩ l (m b1)).1.length = 300 by rw [hlen]; exact HLL.out)
                      have hval : ((stepOf ⟨bs, cp, ov⟩ l (m b1)).2.done = true → valOf (stepOf ⟨bs, cp, ov⟩ l (m b1)).2 = (r'.v, r'.err)) ∧ ((stepOf ⟨bs, cp, ov⟩ l (m b1)).2.done = false → valOf (stepOf ⟨bs, cp, ov⟩ l (m b1)).2 = (0, 16)) := by
                        constructor
                        · intro hd1
                          unfold valOf
                          rw [if_pos hd1, h7.told hd1, h7.err]
                          split
                          · rename_i e0; rw [e0]
                          · rfl
                        · intro hd1
                          unfold valOf
                          rw [hd1]
                          rfl
                      clear hbs h4 h5 h6 h7 HRS ea2 ec2 ho hne hob2 hsv hlen H1 H2 H3 BO6 T6
                      generalize stepOf ⟨bs, cp, ov⟩ l (m b1) = R at *
                      generalize r'.v = rv at *
                      generalize r'.err = re at *
                      cases hd1 : R.2.done with
                      | true =>
                        have hv := hval.1 hd1
                        rw [hv] at HV1
                        rw [hd1] at HDo
                        clear hval hv hd1
                        go_wp2_with fail
                        refine HV1.out.mono ?_
                        rintro e9 wv ⟨rfl, mm, hwv⟩
                        have q1 : wv.cell? ⟨ga, 0, none⟩ = some (.pointer (some ⟨b1, 0, none⟩)) := by rw [hwv]; exact ea3
                        have q2 : wv.cell? ⟨gb, 0, none⟩ = some (.pointer (some ⟨c1, 0, none⟩)) := by rw [hwv]; exact ec3
                        have q3 : wv.cell? ⟨c1, 6, none⟩ = some (.int .i64 rv) := by rw [hwv]; exact g6'
                        have q4 : wv.cell? ⟨c1, 9, none⟩ = some (.int .i64 re) := by rw [hwv]; exact g9'
                        have HDo2 := hide (show Calls Try.prog 23 #[.pointer (some ⟨b1, 0, none⟩)] wv fun e w' => e = .returned (.bool true) ∧ w' = wv by rw [hwv]; exact HDo.out mm)
                        have BN := hide (BN0.out.turned (show Turned [] wb wv by rw [hwv]; exact (Turned.refl [] _).drewN _))
                        have TN := hide (TN0.out.trans (show Turned [] wb wv by rw [hwv]; exact (Turned.refl [] _).drewN _))
                        clear hwv HV1 HDo ea3 ec3 g6' g9' BN0 TN0
                        go_wp2_with (go_at_call 23; refine HDo2.out.mono ?_; rintro e9 wq ⟨rfl, hwq⟩; rw [hwq]; clear hwq wq)
                        have HSt := hide (fun n => steps_mem p q _ (s + 1) (wv.drewN n) (BN.out.dq.drewN n).mem)
                        have rs1 := BN.out.rdq.mem.c1
                        go_quiet ((go_at_call 24; exact Calls.quiet_of_same (HSt.out _)))
                        go_wp2_with fail
                        go_roundg (250 - (i + 1))
                        case measure => omega
                        case rel => exact ⟨i + 1, by go_num, by omega, by omega, Nat.le_refl _, TN.out.drewN _, ⟨_, (s + 1), _, _, _, _, (BN.out.more (by omega)).turned ((Turned.refl [] _).drewN _), by have := HS01.out; omega, by have := HS01.out; omega, HLL2.out⟩⟩
                      | false =>
                        have hv := hval.2 hd1
                        rw [hv] at HV1
                        rw [hd1] at HDo
                        clear hval hv hd1
                        go_wp2_with fail
                        refine HV1.out.mono ?_
                        rintro e9 wv ⟨rfl, mm, hwv⟩
                        have q1 : wv.cell? ⟨ga, 0, none⟩ = some (.pointer (some ⟨b1, 0, none⟩)) := by rw [hwv]; exact ea3
                        have q2 : wv.cell? ⟨gb, 0, none⟩ = some (.pointer (some ⟨c1, 0, none⟩)) := by rw [hwv]; exact ec3
                        have q3 : wv.cell? ⟨c1, 6, none⟩ = some (.int .i64 rv) := by rw [hwv]; exact g6'
                        have q4 : wv.cell? ⟨c1, 9, none⟩ = some (.int .i64 re) := by rw [hwv]; exact g9'
                        have HDo2 := hide (show Calls Try.prog 23 #[.pointer (some ⟨b1, 0, none⟩)] wv fun e w' => e = .returned (.bool false) ∧ w' = wv by rw [hwv]; exact HDo.out mm)
                        have BN := hide (BN0.out.turned (show Turned [] wb wv by rw [hwv]; exact (Turned.refl [] _).drewN _))
                        have TN := hide (TN0.out.trans (show Turned [] wb wv by rw [hwv]; exact (Turned.refl [] _).drewN _))
                        clear hwv HV1 HDo ea3 ec3 g6' g9' BN0 TN0
                        go_wp2_with (go_at_call 23; refine HDo2.out.mono ?_; rintro e9 wq ⟨rfl, hwq⟩; rw [hwq]; clear hwq wq)
                        have HSt := hide (fun n => steps_mem p q _ (s + 1) (wv.drewN n) (BN.out.dq.drewN n).mem)
                        have rs1 := BN.out.rdq.mem.c1
                        go_quiet ((go_at_call 24; exact Calls.quiet_of_same (HSt.out _)))
                        go_wp2_with fail
                        go_roundg (250 - (i + 1))
                        case measure => omega
                        case rel => exact ⟨i + 1, by go_num, by omega, by omega, Nat.le_refl _, TN.out.drewN _, ⟨_, (s + 1), _, _, _, _, (BN.out.more (by omega)).turned ((Turned.refl [] _).drewN _), by have := HS01.out; omega, by have := HS01.out; omega, HLL2.out⟩⟩
      · have ends := hide hgo
        clear hgo
        have ho := BO.out.ord
        have hC4' := HC.out
        have hR0 := BO.out.rdq.at (k := 0) (by show 0 < 4 + cp + ov; omega)
        have hR1 := BO.out.rdq.at (k := 1) (by show 1 < 4 + cp + ov; omega)
        have hR3 := BO.out.rdq.at (k := 3) (by show 3 < 4 + cp + ov; omega)
        have A1 := BO.out.rdq.mem.c0
        have A2 := BO.out.rdq.mem.c1
        have A3 := BO.out.rdq.c1
        have A4 := BO.out.rdq.mem.word hR0
        have A5 := BO.out.rdq.mem.word hR1
        have A6 := BO.out.rdq.mem.word hR3
        rw [HLL.out] at A1
        simp only [Nat.add_zero] at A3 A4 A5 A6
        have HTop := hide (top_any wr.drew d p q ⟨bs, cp, ov⟩ l s BO.out.dq.drew)
        have HBot := hide (fun W S (g : Dq W d p q ⟨bs, cp, ov⟩ l S) => bottom_any W d p q ⟨bs, cp, ov⟩ l S g)
        have HStk := hide (fun W S (g : Dq W d p q ⟨bs, cp, ov⟩ l S) => stack_any W d p q ⟨bs, cp, ov⟩ l S g)
        have HItm := hide (fun W S (g : Dq W d p q ⟨bs, cp, ov⟩ l S) => items_any W d p q ⟨bs, cp, ov⟩ l S (by have := BO.out.t; omega) (by have := BO.out.b; omega) g)
        have HRItm := hide (fun W S (g : RDq W e rp rq ⟨bs, cp, ov⟩ l S) => ritems_any W e rp rq ⟨bs, cp, ov⟩ l S (by have := BO.out.t; omega) (by have := BO.out.b; omega) BO.out.stk g)
        generalize rd ⟨bs, cp, ov⟩ l 0 = vT at *
        generalize rd ⟨bs, cp, ov⟩ l 1 = vB at *
        generalize rd ⟨bs, cp, ov⟩ l 3 = vN at *
        have HIL := hide (show (itemsOf ⟨bs, cp, ov⟩ l).length ≤ 900 by have := itemsOf_most ⟨bs, cp, ov⟩ l; have := HLL.out; omega)
        generalize itemsOf ⟨bs, cp, ov⟩ l = its at *
        have hs := HS01.out
        have w1' : IntKind.i64.wrap ((bs : Int) + 1) = (bs : Int) + 1 := by rw [IntKind.wrap_i64]; omega
        have w3' : IntKind.i64.wrap ((bs : Int) + 3) = (bs : Int) + 3 := by rw [IntKind.wrap_i64]; omega
        have ws' : IntKind.i64.wrap (s + 3) = s + 3 := by rw [IntKind.wrap_i64]; omega
        have b0' : (bs : Int) < 300 := by omega
        have b1' : (bs : Int) + 1 < 300 := by omega
        have b3' : (bs : Int) + 3 < 300 := by omega
        have n0' : (0 : Int) ≤ (bs : Int) + 1 := by omega
        have n3' : (0 : Int) ≤ (bs : Int) + 3 := by omega
        have t1' : ((bs : Int) + 1).toNat = bs + 1 := by omega
        have t3' : ((bs : Int) + 3).toNat = bs + 3 := by omega
        have hss : wrap64 (wrap64 (wrap64 (s + 1) + 1) + 1) = s + 3 := by unfold wrap64; omega
        have HSS := hide hss
        clear hR0 hR1 hR3 hss hs
        have HKeep : Hid (∀ W, Turned [p, q] wr W → W.cell? ⟨rp, 0, none⟩ = some (.slice (some ⟨rq, 0, none⟩) 300 300) ∧ W.cell? ⟨rp, 1, none⟩ = some (.int .i64 s) ∧ W.cell? ⟨e, 1, none⟩ = some (.int .i64 (bs : Int)) ∧ W.cell? ⟨rq, bs, none⟩ = some (.int .i64 vT) ∧ W.cell? ⟨rq, bs + 1, none⟩ = some (.int .i64 vB) ∧ W.cell? ⟨rq, bs + 3, none⟩ = some (.int .i64 vN)) := by
          intro W tt
          exact ⟨by rw [tt.cell (p := ⟨rp, 0, none⟩) (block_lt A1) (by simp; omega)]; exact A1, by rw [tt.cell (p := ⟨rp, 1, none⟩) (block_lt A2) (by simp; omega)]; exact A2, by rw [tt.cell (p := ⟨e, 1, none⟩) (block_lt A3) (by simp; omega)]; exact A3, by rw [tt.cell (p := ⟨rq, bs, none⟩) (block_lt A4) (by simp; omega)]; exact A4, by rw [tt.cell (p := ⟨rq, bs + 1, none⟩) (block_lt A5) (by simp; omega)]; exact A5, by rw [tt.cell (p := ⟨rq, bs + 3, none⟩) (block_lt A6) (by simp; omega)]; exact A6⟩
        have HO := hide ho
        clear ho hC4'
        by_cases hil2 : i < len
        · have e1 : (i : Int) < (len : Int) := by omega
          have e2 : ¬ (i : Int) < 250 := by have := ends.out; omega
          as_aux_lemma =>
            go_wp2_with fail
            go_region_held3 (fun w' => w'.cell? ⟨rp, 0, none⟩ = some (.slice (some ⟨rq, 0, none⟩) 300 300) ∧ w'.cell? ⟨rp, 1, none⟩ = some (.int .i64 s) ∧ w'.cell? ⟨e, 1, none⟩ = some (.int .i64 (bs : Int)) ∧ w'.cell? ⟨rq, bs, none⟩ = some (.int .i64 vT) ∧ w'.cell? ⟨rq, bs + 1, none⟩ = some (.int .i64 vB) ∧ w'.cell? ⟨rq, bs + 3, none⟩ = some (.int .i64 vN)) (go_keep)
              (first
                | (go_at_call 25; refine HTop.out.mono ?_; rintro e9 w7 ⟨rfl, h7, t7⟩; obtain ⟨z1, z2, z3, z4, z5, z6⟩ := HKeep.out w7 ((Turned.refl [p, q] wr).drew.trans t7); have T7 := hide ((Turned.refl [p, q] wr).drew.trans t7); have D7 := hide h7; clear h7 t7 HTop)
                | (go_at_call 26; refine (HBot.out _ _ D7.out).mono ?_; rintro e9 w8 ⟨rfl, h8, t8⟩; obtain ⟨y1, y2, y3, y4, y5, y6⟩ := HKeep.out w8 (T7.out.trans t8); have T8 := hide (T7.out.trans t8); have D8 := hide h8; clear h8 t8)
                | (go_at_call 27; refine (HStk.out _ _ D8.out).mono ?_; rintro e9 w9 ⟨rfl, h9, t9⟩; rw [HSS.out] at h9; obtain ⟨v1, v2, v3, v4, v5, v6⟩ := HKeep.out w9 (T8.out.trans t9); have T9 := hide (T8.out.trans t9); have D9 := hide h9; clear h9 t9)
                | (go_at_call 24; refine (steps_mem p q l (s + 3) w9 D9.out.mem).mono ?_; rintro e9 wq ⟨rfl, hwq⟩; rw [hwq]; clear hwq wq))
            clear A1 A2 A3 A4 A5 A6 HBot HStk HKeep HSS z1 z2 z3 z4 z5 z6 y1 y2 y3 y4 y5 y6 v1 v2 v3 v4 v5 v6 T7 T8 D7 D8 w1' w3' ws' b0' b1' b3' n0' n3' t1' t3'
            have TN9 := hide (HTU.out.trans_new T9.out (fun c hc => by have := HO.out; simp at hc; right; rcases hc with rfl | rfl <;> omega))
            have R9 := hide (BO.out.rdq.turned T9.out (by have := HO.out; simp; omega) (by have := HO.out; simp; omega) (by have := HO.out; simp; omega))
            clear T9 BO HTU
            go_wp2_with fail
            refine (HItm.out _ _ D9.out).mono ?_
            rintro e9 wa ⟨va, rfl, ⟨na, hra⟩, ta⟩
            obtain ⟨hna, aa, ca, rfl, hca⟩ := ownsInts_any hra
            have HCA := hide hca
            have RA := hide (R9.out.turned ta (by simp) (by simp) (by simp))
            have MA := hide (D9.out.mem.turned ta (by simp) (by simp))
            have TA := hide (TN9.out.trans ta)
            have HLna := hide hna
            clear hra hca ta D9 TN9 R9 HItm hna
            go_wp2_with fail
            refine (HRItm.out _ _ RA.out).mono ?_
            rintro e9 wb ⟨vb, rfl, ⟨nb, hrb⟩, tb⟩
            obtain ⟨hnb, ab, cb, rfl, hcb⟩ := ownsInts_any hrb
            have hnn : na = nb := HLna.out.symm.trans hnb
            subst hnn
            have HCA2 := hide (show ∀ i x, its[i]? = some x → ∃ g, aa = some ⟨g, 0, none⟩ ∧ wb.cell? ⟨g, i, none⟩ = some (.int .i64 x) from fun i x hx => by
              obtain ⟨g, hg, _, hlt, hc, _⟩ := HCA.out i x hx
              exact ⟨g, hg, by rw [tb.cell (p := ⟨g, i, none⟩) hlt (by simp)]; exact hc⟩)
            have HCB2 := hide (show ∀ i x, its[i]? = some x → ∃ g, ab = some ⟨g, 0, none⟩ ∧ wb.cell? ⟨g, i, none⟩ = some (.int .i64 x) from fun i x hx => by
              obtain ⟨g, hg, _, hlt, hc, _⟩ := hcb i x hx
              exact ⟨g, hg, hc⟩)
            have MB := hide (MA.out.turned tb (by simp) (by simp))
            have RB2 := hide (RA.out.turned tb (by simp) (by simp) (by simp))
            have TB := hide (TA.out.trans tb)
            have hnle : na ≤ 9223372036854775807 := by have := HIL.out; have := HLna.out; omega
            clear hrb hcb tb hnb HCA RA MA TA HRItm
            go_wp2_with fail
            go_loopw [25] (fun i wr => ∃ (k m : Nat), k ≤ na ∧ i = .int .i64 k ∧ Hid (wr = wb.drewN m)) (fun i _ => na - (intOf i).toNat)
            case atStart => exact ⟨0, 0, Nat.zero_le _, rfl, rfl⟩
            case round =>
              obtain ⟨k2, m2, hk2, rfl, HW⟩ := hrel
              have hw := HW.out
              clear HW
              subst hw
              by_cases hlt2 : k2 < na
              · obtain ⟨x2, hx2⟩ : ∃ x, its[k2]? = some x := ⟨_, List.getElem?_eq_getElem (by rw [HLna.out]; exact hlt2)⟩
                obtain ⟨g1, rfl, hc1⟩ := HCA2.out k2 x2 hx2
                obtain ⟨g2, rfl, hc2⟩ := HCB2.out k2 x2 hx2
                have hki : (k2 : Int) < na := by omega
                clear hx2
                go_wp2_with fail
                go_quiet (fail)
                go_wp2_with fail
                go_roundw
                case rel => exact ⟨k2 + 1, _, by omega, by go_num, rfl⟩
                case measure => simp [intOf]; omega
              · go_wp2_with fail
                refine (words_mem p q l (s + 3) 0 300 (wb.drewN m2) (by rw [HLL.out]; omega) (MB.out.turned ((Turned.refl [] _).drewN m2) (by simp) (by simp))).mono ?_
                rw [words300 l HLL.out]
                rintro e9 wx ⟨vw, rfl, hown, tw⟩
                obtain ⟨-, aw, cw, rfl, hcl⟩ := ownsInts_any hown
                have HCW := hide hcl
                have RB3 := hide (RB2.out.turned (((Turned.refl [] wb).drewN m2).trans tw) (by simp) (by simp) (by simp))
                have TX := hide (TB.out.trans (((Turned.refl [] wb).drewN m2).trans tw))
                rw [HLL.out]
                clear hown tw hcl HCA2 HCB2 MB RB2 TB HLna hlt2 hk2
                go_wp2_with fail
                go_loopw [27] (fun i wr => ∃ (k m : Nat), k ≤ 300 ∧ i = .int .i64 k ∧ Hid (wr = wx.drewN m)) (fun i _ => 300 - (intOf i).toNat)
                case atStart => exact ⟨0, 0, Nat.zero_le _, rfl, rfl⟩
                case round =>
                  obtain ⟨k3, m3, hk3, rfl, HW⟩ := hrel
                  have hw := HW.out
                  clear HW
                  subst hw
                  by_cases hlt3 : k3 < 300
                  · obtain ⟨x3, hx3⟩ : ∃ x, l[k3]? = some x := ⟨_, List.getElem?_eq_getElem (by rw [HLL.out]; exact hlt3)⟩
                    obtain ⟨g3, rfl, -, -, hc3, -⟩ := HCW.out k3 x3 hx3
                    have hr3 := RB3.out.mem.word hx3
                    have hh3 := RB3.out.mem.c0
                    rw [HLL.out] at hh3
                    have hki3 : (k3 : Int) < 300 := by omega
                    have hkj3 : decide ((300 : Int) ≤ (k3 : Int)) = false := decide_eq_false (by omega)
                    have hkn3 : decide (300 ≤ k3) = false := decide_eq_false (by omega)
                    clear hx3
                    go_wp2_with fail
                    go_quiet (fail)
                    go_wp2_with fail
                    go_roundw
                    case rel => exact ⟨k3 + 1, _, by omega, by go_num, rfl⟩
                    case measure => simp [intOf]; omega
                  · go_wp2_with fail
                    go_ret
                    exact ⟨rfl, TX.out.drewN _⟩
        · have e1 : ¬ (i : Int) < (len : Int) := by omega
          as_aux_lemma =>
            go_wp2_with fail
            go_region_held3 (fun w' => w'.cell? ⟨rp, 0, none⟩ = some (.slice (some ⟨rq, 0, none⟩) 300 300) ∧ w'.cell? ⟨rp, 1, none⟩ = some (.int .i64 s) ∧ w'.cell? ⟨e, 1, none⟩ = some (.int .i64 (bs : Int)) ∧ w'.cell? ⟨rq, bs, none⟩ = some (.int .i64 vT) ∧ w'.cell? ⟨rq, bs + 1, none⟩ = some (.int .i64 vB) ∧ w'.cell? ⟨rq, bs + 3, none⟩ = some (.int .i64 vN)) (go_keep)
              (first
                | (go_at_call 25; refine HTop.out.mono ?_; rintro e9 w7 ⟨rfl, h7, t7⟩; obtain ⟨z1, z2, z3, z4, z5, z6⟩ := HKeep.out w7 ((Turned.refl [p, q] wr).drew.trans t7); have T7 := hide ((Turned.refl [p, q] wr).drew.trans t7); have D7 := hide h7; clear h7 t7 HTop)
                | (go_at_call 26; refine (HBot.out _ _ D7.out).mono ?_; rintro e9 w8 ⟨rfl, h8, t8⟩; obtain ⟨y1, y2, y3, y4, y5, y6⟩ := HKeep.out w8 (T7.out.trans t8); have T8 := hide (T7.out.trans t8); have D8 := hide h8; clear h8 t8)
                | (go_at_call 27; refine (HStk.out _ _ D8.out).mono ?_; rintro e9 w9 ⟨rfl, h9, t9⟩; rw [HSS.out] at h9; obtain ⟨v1, v2, v3, v4, v5, v6⟩ := HKeep.out w9 (T8.out.trans t9); have T9 := hide (T8.out.trans t9); have D9 := hide h9; clear h9 t9)
                | (go_at_call 24; refine (steps_mem p q l (s + 3) w9 D9.out.mem).mono ?_; rintro e9 wq ⟨rfl, hwq⟩; rw [hwq]; clear hwq wq))
            clear A1 A2 A3 A4 A5 A6 HBot HStk HKeep HSS z1 z2 z3 z4 z5 z6 y1 y2 y3 y4 y5 y6 v1 v2 v3 v4 v5 v6 T7 T8 D7 D8 w1' w3' ws' b0' b1' b3' n0' n3' t1' t3'
            have TN9 := hide (HTU.out.trans_new T9.out (fun c hc => by have := HO.out; simp at hc; right; rcases hc with rfl | rfl <;> omega))
            have R9 := hide (BO.out.rdq.turned T9.out (by have := HO.out; simp; omega) (by have := HO.out; simp; omega) (by have := HO.out; simp; omega))
            clear T9 BO HTU
            go_wp2_with fail
            refine (HItm.out _ _ D9.out).mono ?_
            rintro e9 wa ⟨va, rfl, ⟨na, hra⟩, ta⟩
            obtain ⟨hna, aa, ca, rfl, hca⟩ := ownsInts_any hra
            have HCA := hide hca
            have RA := hide (R9.out.turned ta (by simp) (by simp) (by simp))
            have MA := hide (D9.out.mem.turned ta (by simp) (by simp))
            have TA := hide (TN9.out.trans ta)
            have HLna := hide hna
            clear hra hca ta D9 TN9 R9 HItm hna
            go_wp2_with fail
            refine (HRItm.out _ _ RA.out).mono ?_
            rintro e9 wb ⟨vb, rfl, ⟨nb, hrb⟩, tb⟩
            obtain ⟨hnb, ab, cb, rfl, hcb⟩ := ownsInts_any hrb
            have hnn : na = nb := HLna.out.symm.trans hnb
            subst hnn
            have HCA2 := hide (show ∀ i x, its[i]? = some x → ∃ g, aa = some ⟨g, 0, none⟩ ∧ wb.cell? ⟨g, i, none⟩ = some (.int .i64 x) from fun i x hx => by
              obtain ⟨g, hg, _, hlt, hc, _⟩ := HCA.out i x hx
              exact ⟨g, hg, by rw [tb.cell (p := ⟨g, i, none⟩) hlt (by simp)]; exact hc⟩)
            have HCB2 := hide (show ∀ i x, its[i]? = some x → ∃ g, ab = some ⟨g, 0, none⟩ ∧ wb.cell? ⟨g, i, none⟩ = some (.int .i64 x) from fun i x hx => by
              obtain ⟨g, hg, _, hlt, hc, _⟩ := hcb i x hx
              exact ⟨g, hg, hc⟩)
            have MB := hide (MA.out.turned tb (by simp) (by simp))
            have RB2 := hide (RA.out.turned tb (by simp) (by simp) (by simp))
            have TB := hide (TA.out.trans tb)
            have hnle : na ≤ 9223372036854775807 := by have := HIL.out; have := HLna.out; omega
            clear hrb hcb tb hnb HCA RA MA TA HRItm
            go_wp2_with fail
            go_loopw [25] (fun i wr => ∃ (k m : Nat), k ≤ na ∧ i = .int .i64 k ∧ Hid (wr = wb.drewN m)) (fun i _ => na - (intOf i).toNat)
            case atStart => exact ⟨0, 0, Nat.zero_le _, rfl, rfl⟩
            case round =>
              obtain ⟨k2, m2, hk2, rfl, HW⟩ := hrel
              have hw := HW.out
              clear HW
              subst hw
              by_cases hlt2 : k2 < na
              · obtain ⟨x2, hx2⟩ : ∃ x, its[k2]? = some x := ⟨_, List.getElem?_eq_getElem (by rw [HLna.out]; exact hlt2)⟩
                obtain ⟨g1, rfl, hc1⟩ := HCA2.out k2 x2 hx2
                obtain ⟨g2, rfl, hc2⟩ := HCB2.out k2 x2 hx2
                have hki : (k2 : Int) < na := by omega
                clear hx2
                go_wp2_with fail
                go_quiet (fail)
                go_wp2_with fail
                go_roundw
                case rel => exact ⟨k2 + 1, _, by omega, by go_num, rfl⟩
                case measure => simp [intOf]; omega
              · go_wp2_with fail
                refine (words_mem p q l (s + 3) 0 300 (wb.drewN m2) (by rw [HLL.out]; omega) (MB.out.turned ((Turned.refl [] _).drewN m2) (by simp) (by simp))).mono ?_
                rw [words300 l HLL.out]
                rintro e9 wx ⟨vw, rfl, hown, tw⟩
                obtain ⟨-, aw, cw, rfl, hcl⟩ := ownsInts_any hown
                have HCW := hide hcl
                have RB3 := hide (RB2.out.turned (((Turned.refl [] wb).drewN m2).trans tw) (by simp) (by simp) (by simp))
                have TX := hide (TB.out.trans (((Turned.refl [] wb).drewN m2).trans tw))
                rw [HLL.out]
                clear hown tw hcl HCA2 HCB2 MB RB2 TB HLna hlt2 hk2
                go_wp2_with fail
                go_loopw [27] (fun i wr => ∃ (k m : Nat), k ≤ 300 ∧ i = .int .i64 k ∧ Hid (wr = wx.drewN m)) (fun i _ => 300 - (intOf i).toNat)
                case atStart => exact ⟨0, 0, Nat.zero_le _, rfl, rfl⟩
                case round =>
                  obtain ⟨k3, m3, hk3, rfl, HW⟩ := hrel
                  have hw := HW.out
                  clear HW
                  subst hw
                  by_cases hlt3 : k3 < 300
                  · obtain ⟨x3, hx3⟩ : ∃ x, l[k3]? = some x := ⟨_, List.getElem?_eq_getElem (by rw [HLL.out]; exact hlt3)⟩
                    obtain ⟨g3, rfl, -, -, hc3, -⟩ := HCW.out k3 x3 hx3
                    have hr3 := RB3.out.mem.word hx3
                    have hh3 := RB3.out.mem.c0
                    rw [HLL.out] at hh3
                    have hki3 : (k3 : Int) < 300 := by omega
                    have hkj3 : decide ((300 : Int) ≤ (k3 : Int)) = false := decide_eq_false (by omega)
                    have hkn3 : decide (300 ≤ k3) = false := decide_eq_false (by omega)
                    clear hx3
                    go_wp2_with fail
                    go_quiet (fail)
                    go_wp2_with fail
                    go_roundw
                    case rel => exact ⟨k3 + 1, _, by omega, by go_num, rfl⟩
                    case measure => simp [intOf]; omega
                  · go_wp2_with fail
                    go_ret
                    exact ⟨rfl, TX.out.drewN _⟩


set_option maxRecDepth 100000 in
theorem dequePlays_lifted (os : Os) (started : os.Started) (H : Type) (enc : TypeId × Value → H) :
    ReturnsInHanded {} Try.checked os 3 .any (Rows.dequePlaysSpec.pre6 enc Try.prog Try.f3 Rows.dequePlaysRow.domain false) (Rows.dequePlaysSpec.post enc Try.prog Try.f3 false true false false) := by
  refine returnsInHanded_of_change (C := Try.checked) own started (by kernel_rfl) Try.func3
    (ChangeSpec.witness6 (enc := enc) (C := Try.checked) false ⟨#[], #[.agg #[.int .i64 0, .int .i64 0, .int .i64 0], .slice none 0 0], []⟩ 8 (by kernel_rfl) (by kernel_rfl) (by kernel_rfl) (by kernel_rfl)) ?_
  intro W base args ds gs before hval0 hW hcnd _
  have hval : ∀ (j : Nat) t v, Try.f3.params[j]? = some t → args[j]? = some v → Value.okWide Try.prog W .any base t v := hval0
  have hW' := hW
  obtain ⟨p, q, hA0, hV, rfl, hfz, hnd⟩ := hW
  have hA : DataW.TrodAll enc Try.prog W 0 (fun _ => true) true Try.f3.params.toList args.toList ds p := hA0
  rw [Try.params3] at hA hval
  obtain ⟨v0, vs0, d0, ds0, p0, q0, hargs, rfl, rfl, h0, r0⟩ := trodAll_cons hA
  obtain ⟨v1, vs1, d1, ds1, p1, q1, rfl, rfl, rfl, h1, r1⟩ := trodAll_cons r0
  obtain ⟨rfl, rfl, rfl⟩ := trodAll_nil r1
  obtain rfl : args = #[v0, v1] := by cases args; simp_all
  obtain ⟨rfl, rfl⟩ := trodVars_none hV
  have k0 := h0
  have lt0 : ∀ x ∈ p0, x.block < W.heap.size := by obtain ⟨m, hm⟩ := k0; exact DataW.trod_lt m _ _ _ hm
  obtain ⟨a00, a01, a02, rfl, w0⟩ := open_triple (hval 0 22 v0 rfl rfl) h0
  obtain ⟨a1, len1, cap1, rfl⟩ := okWide_slice Try.underlying23 (hval 1 23 v1 rfl rfl)
  have k1 := h1
  have lt1 : ∀ x ∈ p1, x.block < W.heap.size := by obtain ⟨m, hm⟩ := k1; exact DataW.trod_lt m _ _ _ hm
  obtain ⟨z1, w1⟩ := open_ops h1
  clear hA0 hval0
  refine (dequePlays_walk a00 a01 a02 a1 len1 cap1 z1 W w0 w1).mono fun e W' ⟨he, ht⟩ => ?_
  subst he
  have bel : Below W.heap.size W W' := ht.below0
  exact ⟨_, rfl, _, _, _, [], _, [], hW', trodAll_mk1 (shut_bool Try.underlying4 _), (trodAll_cons_mk (Below.trod laidOut (by kernel_rfl) (of_decide_eq_true (by kernel_rfl)) k0 bel lt0) (trodAll_cons_mk (Below.trod laidOut (by kernel_rfl) (of_decide_eq_true (by kernel_rfl)) k1 bel lt1) trodAll_mk0)), rfl, bel.frame _, fun h => by cases h⟩

theorem dequePlays_over : Rows.dequePlaysRow.holds Try.pinned (OpenSpec.ofChange Rows.dequePlaysSpec) :=
  OpenClaim.holds_of_wide 3 Try.f3 rfl rfl rfl rfl rfl rfl rfl ⟨rfl, rfl, rfl, rfl, rfl⟩ rfl rfl rfl rfl rfl (by kernel_rfl) Try.func3 (by kernel_rfl)
    (of_decide_eq_true (by kernel_rfl)) (by unfold Func.isWrapper; first | (rw [if_pos (by decide +kernel)]; kernel_rfl) | (rw [if_neg (by decide +kernel)]; exact ⟨rfl, rfl⟩))
    (fun os started H enc _ => dequePlays_lifted os started H enc)

theorem dequePlays_holds : Rows.DequePlaysSaid := dequePlays_over
end Go.Proofs.Ytdhfggdmlhgdoaa
