/-
  Texts of the proof, several in one: MarkAwake, MarkHelp, MarkBd.
-/
import Derived.Test.YtgbclfhgpkmcnaaGreatDoorPack37
import Derived.Test.YtgbclfhgpkmcnaaGreatDoorPack27
import Derived.Test.YtgbclfhgpkmcnaaGreatDoorPack34
import Derived.Test.YtgbclfhgpkmcnaaGreatDoorPack35
import Derived.Test.YtgbclfhgpkmcnaaGreatDoorPack24
import Derived.Test.YtgbclfhgpkmcnaaGreatDoorPack15
import Derived.Test.YtgbclfhgpkmcnaaGreatDoorPack1
import Derived.Test.YtgbclfhgpkmcnaaGreatDoorPack36
/-
  awake of the statements of layer 11 tells true.
-/
namespace Go.Proofs.YtgbclfhgpkmcnaaGreatDoor
open Go.RowKit
set_option linter.unusedVariables false

theorem aw11_told : Bt.szI (it11 39).sz 1 = 4 ∧ Bt.szI (it11 39).sz 5 = 3 ∧ Bt.cntIn (Bt.begs (it11 39).sz) 0 11 = 2 := by decide +kernel
theorem p11_len : P11.hw.length = 11 := by show H11.1.length = 11; rw [h11_is]; rfl
def two11 : List Th := [⟨0, 0, [1]⟩, ⟨2, 2, []⟩]
theorem h11_two : heapOf two11 11 = H11 := rfl
theorem thr_two (w : World) (g h : Nat) (hg : w.heap[g]? = some (.cells #[.int .i64 1] 3)) (hh : w.heap[h]? = some (.cells #[.int .i64 0, .int .i64 0, .slice (some ⟨g, 0, none⟩) 1 1, .int .i64 2, .int .i64 2, .slice none 0 0] 71)) : ThR w (some ⟨h, 0, none⟩) two11 := by
  refine ⟨by decide, fun i t ht => ?_⟩
  match i, ht with
  | 0, ht =>
    simp [two11] at ht
    subst ht
    refine ⟨h, 0, some ⟨g, 0, none⟩, 1, rfl, by rw [cell_of_heap hh]; rfl, by rw [cell_of_heap hh]; rfl, by rw [cell_of_heap hh]; rfl, ⟨rfl, by decide, fun i x hx => ⟨g, 0, rfl, ?_⟩, fun x hx => by simp at hx; subst hx; unfold In64; omega⟩⟩
    have hi : i = 0 := by have := (List.getElem?_eq_some_iff.1 hx).1; simpa using this
    subst hi
    simp at hx
    subst hx
    rw [cell_of_heap hg]; rfl
  | 1, ht =>
    simp [two11] at ht
    subst ht
    exact ⟨h, 0, none, 0, rfl, by rw [cell_of_heap hh]; rfl, by rw [cell_of_heap hh]; rfl, by rw [cell_of_heap hh]; rfl, ⟨rfl, by decide, fun i x hx => by simp at hx, fun x hx => by simp at hx⟩⟩
  | i + 2, ht => simp [two11] at ht

set_option maxRecDepth 100000 in
set_option maxHeartbeats 4000000 in
theorem awake11 (w : World) (hT : Bt.Tab w) :
    Calls Tryz.prog 9 #[] w fun e w' => e = .returned (.bool true) ∧ Turned [] w w' := by
  have hw0 : 0 < w.heap.size := by have := block_lt (hT 0 (by omega)); simpa using this
  have hbs : ∀ (w : World) (g : Nat), (Instr.buildSlice 22 2 #[(0, .agg #[.int .i64 0, .int .i64 0, .slice (some ⟨g, 0, none⟩) 1 1]), (1, .agg #[.int .i64 2, .int .i64 2, .slice none 0 0])]).run Tryz.prog w = .ok (.slice (some ⟨w.heap.size, 0, none⟩) 2 2) (w.alloc (.cells #[.int .i64 0, .int .i64 0, .slice (some ⟨g, 0, none⟩) 1 1, .int .i64 2, .int .i64 2, .slice none 0 0] 71)) := fun _ _ => by kernel_rfl
  have HW := hide hw0
  have HT := hide hT
  clear hw0 hT
  obtain ⟨wA, hwA⟩ : ∃ wA, wA = (w.alloc (.cells #[.int .i64 1] 3)).alloc (.cells #[.int .i64 0, .int .i64 0, .slice (some ⟨w.heap.size, 0, none⟩) 1 1, .int .i64 2, .int .i64 2, .slice none 0 0] 71) := ⟨_, rfl⟩
  have hg : wA.heap[w.heap.size]? = some (.cells #[.int .i64 1] 3) := by rw [hwA, Below.heap_alloc _ _ _ (by simp), heap_alloc_new]
  have hh : wA.heap[w.heap.size + 1]? = some (.cells #[.int .i64 0, .int .i64 0, .slice (some ⟨w.heap.size, 0, none⟩) 1 1, .int .i64 2, .int .i64 2, .slice none 0 0] 71) := by
    have := heap_alloc_new (w.alloc (.cells #[.int .i64 1] 3)) (.cells #[.int .i64 0, .int .i64 0, .slice (some ⟨w.heap.size, 0, none⟩) 1 1, .int .i64 2, .int .i64 2, .slice none 0 0] 71)
    rw [hwA]
    simpa using this
  have TA := hide (show Turned [] w wA by rw [hwA]; exact ((Turned.refl [] w).alloc _).alloc _)
  have hzA : wA.heap.size = w.heap.size + 2 := by rw [hwA]; simp
  have HH := hide (lheap_any (some ⟨w.heap.size + 1, 0, none⟩) 2 11 two11 wA (thr_two wA _ _ hg hh) (by omega) (by decide) (by rw [h11_two, h11_is]; rfl))
  rw [h11_two, show two11.length = 2 from rfl, show ((11 : Nat) : Int) = 11 from rfl] at HH
  have HWA := hide hwA
  clear hg hh hwA
  go_enter Tryz.func9, Tryz.ntmps9
  go_wp2_with fail
  rw [← HWA.out]
  clear HWA hbs
  refine HH.out.mono ?_
  rintro e w1 ⟨p, q, d, v, rfl, hM, hH, hp, hq, hdp, hdq⟩
  have M1 := hide hM
  have hq1 := hM.ltq
  have hp1 := hM.ltp
  have H1 := hide hH
  have T1 := hide (show Turned [] w w1 from TA.out.trans hH.t)
  have hz1 := hH.t.size
  clear hM hH HH TA
  have HB := hide (Bt.new_any 11 w1 (by unfold Bt.In64; omega) (HT.out.turned T1.out (by simp)))
  rw [show Bt.kp 65536 11 = 11 from rfl] at HB
  go_wp2_with fail
  refine HB.out.mono ?_
  rintro e w2 ⟨pb, qb, rfl, hb, hpb, hqb, t2⟩
  have B2 := hide hb
  have T2 := hide (T1.out.trans t2)
  have M2 := hide (M1.out.turned t2 (by simp) (by simp))
  have H2 := hide (H1.out.keep t2)
  have hz2 := t2.size
  clear hb t2 HB M1 H1 T1
  have HF := hide (four_any w2)
  go_wp2_with fail
  refine HF.out.mono ?_
  rintro e w3 ⟨g, rfl, hc, t3, hg⟩
  have C3 := hide hc
  have HN := hide (mneed_ok 1 2 2 (by omega) (by omega) (by omega) w3)
  rw [show ((1 : Nat) : Int) = 1 from rfl, show ((2 : Nat) : Int) = 2 from rfl, show ((1 + 1 * (4 + 2 + 2) : Nat) : Int) = 9 from rfl] at HN
  have T3 := hide t3
  clear hc t3 HF
  go_wp2_with fail
  refine HN.out.mono ?_
  rintro e w4 ⟨rfl, rfl⟩
  have HC := hide (new_any 9 w4)
  rw [show (min (max (9 : Int) 0) 65536).toNat = 9 by decide] at HC
  clear HN
  go_wp2_with fail
  refine HC.out.mono ?_
  rintro e w5 ⟨rfl, hM5, t5, -⟩
  have T25 := hide (T3.out.trans t5)
  have M5 := hide hM5
  have C5 := hide (C3.out.turned0 t5)
  have T5 := hide (T2.out.trans T25.out)
  have hz4 := T3.out.size
  have hz5 := t5.size
  have hlp := M2.out.ltp
  have hlq := M2.out.ltq
  have hlb := B2.out.ltq
  have HNew := hide (mnew_ok P11 w5 p q pb qb (w4.heap.size + 1) w4.heap.size g 0 4 4 (List.replicate 9 0) (fun _ => 0) 0 0 (by decide) (by decide) (by decide) (by decide) (by decide) (M2.out.turned T25.out (by simp) (by simp)) (by show H11.1.length ≤ 65536; rw [h11_is]; decide) C5.out (by omega) (by show Bt.Bts w5 pb qb H11.1.length _; rw [h11_is]; exact B2.out.turned0 T25.out) (by show Bt.Bl H11.1.length _; exact Bt.Bl.none _) M5.out ⟨by omega, by omega⟩ (by have := HW.out; have := T5.out.size; omega) (by have := HW.out; simp; omega))
  rw [show ((P11.n : Nat) : Int) = 1 from rfl, show ((P11.cap : Nat) : Int) = 2 from rfl, show ((P11.over : Nat) : Int) = 2 from rfl] at HNew
  have hcell : w5.cell? ⟨d, 2, none⟩ = some (.int .i64 5) := (H2.out.keep T25.out).doc.word (by rw [h11_is]; rfl)
  have hdb : d < w5.heap.size := block_lt hcell
  have hd5 := H2.out.doc.ltq
  obtain ⟨va, vc, hv, -⟩ := H2.out.at
  rw [show H11.2.length = 2 by rw [h11_is]; rfl] at hv
  subst hv
  clear HC t5 M2 H2 B2 M5 C5 hM5 C3 T2
  go_wp2_with fail
  refine HNew.out.mono ?_
  rintro e w6 ⟨M, len, cp, a, gw, cw, co, ds, ws, rfl, hMz, hk⟩
  obtain ⟨I, hI⟩ : ∃ I : Ids, I = ⟨M, p, q, len, cp, co, pb, qb, a, gw, P11.n, cw, w4.heap.size + 1, w4.heap.size, 0⟩ := ⟨_, rfl⟩
  have HK := hide (hk.keep0 ((Turned.refl [] w6).alloc (.cells #[.int .i64 1, .int .i64 0] 2)))
  have HR := hide (mroot_any (I := I) 0 [1, 0] (some ⟨w6.heap.size, 0, none⟩) 2 (by rw [hI]; exact HK.out) (by decide) (fun k hk => rfl) (fun k hk => Nat.zero_le _) (fun i x hx => by
    refine ⟨w6.heap.size, 0, #[.int .i64 1, .int .i64 0], (0, 0), rfl, heap_alloc_new _ _, ?_, fun j hj => by simp⟩
    match i, hx with
    | 0, hx => simp at hx; subst hx; rfl
    | 1, hx => simp at hx; subst hx; rfl
    | i + 2, hx => simp at hx))
  have HIM := hide (show I.M = M by rw [hI])
  have HIF := hide (show ∀ y, y ∈ I.five → w.heap.size ≤ y ∧ y ≠ d from fun y hy => by
    rw [hI] at hy
    simp only [Ids.five, List.mem_cons, List.not_mem_nil, or_false] at hy
    have hz0 := hzA
    rcases hy with rfl | rfl | rfl | rfl | rfl <;> omega)
  have HIB := hide (show I.pb = pb by rw [hI])
  rw [HIM.out] at HR
  clear hk HK HNew hI hMz
  go_wp2_with fail
  refine HR.out.mono ?_
  rintro e w7 ⟨rfl, Bs7, hk7⟩
  obtain ⟨I2, hI2⟩ : ∃ I2 : Ids, I2 = { I with M := M, roots := ((0 + ([1, 0] : List Int).length : Nat) : Int) } := ⟨_, rfl⟩
  have K7 := hide (show Mk P11 I2 w5 w7 ds ws (it11 0) Bs7 from by rw [hI2]; exact hk7)
  clear hk7 HR
  have E1 := hide (show I2.M = M by rw [hI2])
  have E2 := hide (show I2.five = I.five by rw [hI2]; rfl)
  have E3 := hide (show I2.pb = pb by rw [hI2]; exact HIB.out)
  clear hI2
  go_wp2_with fail
  go_loopw [7] (fun i wr => ∃ (j : Nat) (Bs : Nat → List Nat), i = .int .i64 j ∧ j < 39 ∧ Hid (Mk P11 I2 w5 wr ds ws (it11 j) Bs)) (fun i _ => 200 - (intOf i).toNat)
  case atStart => exact ⟨0, Bs7, rfl, by omega, K7⟩
  case round =>
    obtain ⟨j, Bs, rfl, hj, K⟩ := hrel
    clear K7
    have hjz : (j : Int) < 200 := by omega
    obtain ⟨hmay, hen⟩ := aw11 j hj
    have HST := hide (mstep_any (k := 0) (hk := by decide) (h := K.out) (hm := hmay))
    rw [E1.out, show stepM P11 (it11 j) 0 = it11 (j + 1) from rfl, hen, show ((0 : Nat) : Int) = 0 from rfl] at HST
    clear hmay hen K
    by_cases h39 : j + 1 = 39
    · rw [decide_eq_true h39, if_pos rfl, h39] at HST
      go_wp2_with fail
      refine HST.out.mono ?_
      rintro e w8 ⟨rfl, Bs8, k8⟩
      have K8 := hide k8
      have HSe := hide (mseen_any (h := k8))
      rw [E1.out, show P11.n = 1 from rfl] at HSe
      clear k8 HST
      go_wp2_with fail
      refine HSe.out.mono ?_
      rintro e w9 ⟨gs, cs, rfl, hgs, hrow, hcs, hsee, t9⟩
      have K9 := hide (K8.out.keep0 t9)
      have hs0 := hsee 0 (by omega)
      rw [aw11_end.2.1] at hs0
      have xs : w9.cell? ⟨gs, 0, none⟩ = some (.int .i64 2) := by rw [cell_of_heap hrow]; exact hs0
      clear hrow hcs hsee hs0 t9 HSe K8
      have HDo := hide (mdone_any (h := K9.out) (m := 0))
      rw [E1.out, show allE (it11 39) P11.n = true by decide +kernel] at HDo
      go_wp2_with fail
      refine HDo.out.mono ?_
      rintro e w10 ⟨rfl, hw10⟩
      obtain rfl : w10 = w9 := hw10
      clear HDo
      have HBt := hide (show ∀ w', Turned [] w10 w' → Bt.Brd w' (some ⟨pb, 0, none⟩) 11 (Bt.sidesOf (it11 39).sz) from fun w' t => by
        have h1 := (K9.out.keep0 t).bt.brd
        rw [E3.out, p11_len] at h1
        exact h1)
      have HBl := hide (show Bt.Bl 11 (it11 39).sz from by have := K9.out.bl; rw [p11_len] at this; exact this)
      have HS1 := hide (Bt.size_any (some ⟨pb, 0, none⟩) 11 (it11 39).sz 1 w10 (HBt.out _ (Turned.refl _ _)) HBl.out)
      rw [aw11_told.1, show ((4 : Nat) : Int) = 4 from rfl] at HS1
      go_wp2_with fail
      refine HS1.out.mono ?_
      rintro e w11 ⟨rfl, m11, hm11⟩
      have T11 := hide (show Turned [] w10 w11 by rw [hm11]; exact (Turned.refl _ _).drewN m11)
      clear hm11 HS1
      have HS5 := hide (Bt.size_any (some ⟨pb, 0, none⟩) 11 (it11 39).sz 5 w11 (HBt.out _ T11.out) HBl.out)
      rw [aw11_told.2.1, show ((3 : Nat) : Int) = 3 from rfl] at HS5
      go_wp2_with fail
      refine HS5.out.mono ?_
      rintro e w12 ⟨rfl, m12, hm12⟩
      have T12 := hide (show Turned [] w10 w12 by rw [hm12]; exact T11.out.drewN m12)
      clear hm12 HS5 T11
      have HCo := hide (Bt.count_any (some ⟨pb, 0, none⟩) 11 (Bt.sidesOf (it11 39).sz) 0 11 w12 (HBt.out _ T12.out))
      rw [show Bt.cntIn (Bt.sidesOf (it11 39).sz 0) (Bt.kp 11 0) (Bt.kp 11 11) = 2 from aw11_told.2.2, show ((2 : Nat) : Int) = 2 from rfl] at HCo
      go_wp2_with fail
      refine HCo.out.mono ?_
      rintro e w13 ⟨rfl, m13, hm13⟩
      have T13 := hide (show Turned [] w10 w13 by rw [hm13]; exact T12.out.drewN m13)
      clear hm13 HCo T12 HBt HBl
      have K13 := hide (K9.out.keep0 T13.out)
      have xs13 : w13.cell? ⟨gs, 0, none⟩ = some (.int .i64 2) := by rw [T13.out.cell (block_lt xs) (by simp)]; exact xs
      have HFa := hide (mfault_any (h := K13.out) (m := 0))
      rw [E1.out, aw11_end.2.2.1] at HFa
      have xd : w13.cell? ⟨d, 2, none⟩ = some (.int .i64 5) := by
        rw [K13.out.tu.cell hdb (fun hm => (HIF.out d (E2.out ▸ hm)).2 rfl)]
        exact hcell
      have TF := hide (show Turned [] w w13 from T5.out.trans_new K13.out.tu (fun i hi => .inr (HIF.out i (E2.out ▸ hi)).1))
      clear xs hcell K9 T13 K13
      go_wp2_with fail
      refine HFa.out.mono ?_
      rintro e w14 ⟨rfl, hw14⟩
      obtain rfl : w14 = w13 := hw14
      clear HFa
      go_wp2_with fail
      go_ret
      exact ⟨rfl, TF.out⟩
    · rw [decide_eq_false h39, if_neg (by simp)] at HST
      go_wp2_with fail
      refine HST.out.mono ?_
      rintro e w8 ⟨rfl, Bs8, k8⟩
      have K8 := hide k8
      clear k8 HST
      go_wp2_with fail
      go_roundw
      case rel => exact ⟨j + 1, Bs8, by go_num, by omega, K8⟩
      case measure => simp [intOf]; omega
end Go.Proofs.YtgbclfhgpkmcnaaGreatDoor

/-
  What the statements of layer 11 share: pick, the roots by raw numbers, the heap's words are as many as asked and may be.
-/
namespace Go.Proofs.YtgbclfhgpkmcnaaGreatDoor
open Go.RowKit
set_option linter.unusedVariables false
set_option linter.unusedSimpArgs false

theorem pick11 (c : Int) (n : Nat) (w : World) (hc : In64 c) (hn : 0 < n ∧ n ≤ 1000000) :
    Calls Tryz.prog 18 #[.int .i64 c, .int .i64 n] w fun e w' => (∃ r : Nat, e = .returned (.int .i64 r) ∧ r < n) ∧ w' = w := by
  have hr := hc
  unfold In64 at hr
  have hz : ¬ ((n : Int) = 0) := by omega
  have hm1 : ¬ ((n : Int) = -1) := by omega
  have key : ∀ x : Int, 0 ≤ x → ∃ r : Nat, (.int .i64 (x.tmod n) : Value) = .int .i64 (r : Int) ∧ r < n := by
    intro x hx
    refine ⟨(x.tmod n).toNat, ?_, ?_⟩
    · have := Int.tmod_nonneg (n : Int) hx
      rw [Int.toNat_of_nonneg this]
    · have h1 := Int.tmod_nonneg (n : Int) hx
      have h2 := Int.tmod_lt_of_pos x (b := (n : Int)) (by omega)
      omega
  have KEY := hide key
  clear key hc
  by_cases hneg : c < 0
  · go_enter Tryz.func18, Tryz.ntmps18
    go_wp2_with fail
    go_ret
    obtain ⟨r, h1, h2⟩ := KEY.out (-(c + 1)) (by omega)
    refine ⟨⟨r, ?_, h2⟩, rfl⟩
    rw [← h1, Int.neg_tmod]
    rfl
  · go_enter Tryz.func18, Tryz.ntmps18
    go_wp2_with fail
    go_ret
    obtain ⟨r, h1, h2⟩ := KEY.out c (by omega)
    refine ⟨⟨r, ?_, h2⟩, rfl⟩
    rw [← h1, Int.tmod_eq_emod_of_nonneg (by omega)]
    rfl

/-- A row of one's own as roots. -/
theorem row_roots {w : World} {B : Nat} {v : Value} {T : List Int} (n : Nat) (h : w.ownsRow B 2 1 v T.length (T.map (Value.int .i64))) : ∃ ao cap, v = .slice ao T.length cap ∧ ∀ Bs : Nat → List Nat, (∀ j y, j < n → y ∈ Bs j → y < B) → RootRd w ao T n Bs := by
  by_cases h0 : 0 < T.length
  · obtain ⟨g, cap, hv, hB, hg, hcap, hcell, -, c, hc⟩ := ownsRow_open h h0
    refine ⟨_, cap, hv, fun Bs hBs i x hx => ⟨g, 0, c, (0, 0), rfl, hc, ?_, fun j hj hm => by have := hBs j g hj hm; omega⟩⟩
    have h1 := hcell i (.int .i64 x) (by rw [List.getElem?_map, hx]; rfl)
    rw [cell_of_heap hc] at h1
    rw [Nat.zero_add]
    exact h1
  · have hT : T = [] := by cases T; rfl; simp at h0
    subst hT
    obtain ⟨-, ao, cap, hv, -⟩ := ownsRow_any h
    exact ⟨ao, cap, hv, fun Bs hBs i x hx => by simp at hx⟩
theorem Bm.more {P : MP} {H H' : Nat} {M : Int} {S : MS} (h : Bm P H M S) (hH : H ≤ H') : Bm P H' M S :=
  ⟨h.m0, h.hs, h.cs, h.l, fun k hk => by have w := h.w k hk; exact ⟨w.seen, Nat.le_trans w.hl hH, w.hin, w.kl, w.kin, w.pl, w.pin, w.act⟩⟩
end Go.Proofs.YtgbclfhgpkmcnaaGreatDoor

/-
  ballastlaw11.bound: how many steps marking takes at most, by turns.
-/
namespace Go.Proofs.YtgbclfhgpkmcnaaGreatDoor
open Go.RowKit
set_option linter.unusedVariables false
set_option linter.unusedSimpArgs false
theorem bound11 (n w : Nat) (hn : n ≤ 4) (hw : w ≤ 65536) (W : World) :
    Calls Tryz.prog 22 #[.int .i64 n, .int .i64 w] W fun e w' => e = .returned (.int .i64 (((n + 2) * (n + 2) * (100 + 40 * w) : Nat) : Int)) ∧ w' = W := by
  have h : wrap64 (wrap64 (((n : Int) + 2) * ((n : Int) + 2)) * (100 + 40 * (w : Int))) = (((n + 2) * (n + 2) * (100 + 40 * w) : Nat) : Int) := by
    have : n = 0 ∨ n = 1 ∨ n = 2 ∨ n = 3 ∨ n = 4 := by omega
    rcases this with rfl | rfl | rfl | rfl | rfl <;> (unfold wrap64; omega)
  go_enter Tryz.func22, Tryz.ntmps22
  go_wp2_with fail
  go_ret
  refine ⟨?_, rfl⟩
  rw [← h]
  rfl
end Go.Proofs.YtgbclfhgpkmcnaaGreatDoor
