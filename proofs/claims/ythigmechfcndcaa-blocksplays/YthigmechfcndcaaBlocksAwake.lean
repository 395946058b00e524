/-
  The chapter's examples hold: awake tells true.
-/
import Derived.Test.YthigmechfcndcaaBlocksIn
namespace Go.Proofs.Ythigmechfcndcaa
open Go.RowKit Go.Maps
set_option linter.unusedVariables false

def aw0 : List Int := List.replicate 11 0
def aw1 : List Int := layL aw0 threeCs 1 1 0
def aw2 : List Int := layL aw1 threeCs 5 3 2
def aw3 : List Int := fillL aw2 8 11
def aw4 : List Int := putL aw3 2 [5]
def awB : List Blk := [⟨1, 1, 0, 4⟩, ⟨5, 3, 2, 3⟩, ⟨8, 0, 2, 3⟩]
theorem aw1_told : layS aw0 threeCs 1 1 0 = 4 ∧ layE aw0 threeCs 1 1 0 = 0 := by decide +kernel
theorem aw2_told : layS aw1 threeCs 5 3 2 = 3 ∧ layE aw1 threeCs 5 3 2 = 0 := by decide +kernel
theorem aw3_told : fillE aw2 8 11 = 0 := by decide +kernel
theorem aw3_walk : walkOf aw3 threeCs 11 1 = some awB := by decide +kernel
theorem aw4_put : putE aw3 2 [5] = 0 := by decide +kernel
theorem aw4_walk : walkOf aw4 threeCs 11 1 = some awB := by decide +kernel
theorem aw4_short : walkOf aw4 threeCs 10 1 = none := by decide +kernel
theorem aw_len : aw0.length = 11 ∧ aw1.length = 11 ∧ aw2.length = 11 ∧ aw3.length = 11 ∧ aw4.length = 11 := by decide +kernel
theorem aw4_in : AllIn aw4 := (((((allIn_zeros 11).lay _ _ _ _).lay _ _ _ _).fill _ _).put (fun x hx => by simp at hx; subst hx; unfold In64; omega) _)
theorem aw4_refs : refWords aw4 threeCs ⟨1, 1, 0, 4⟩ = [5, 0] ∧ refWords aw4 threeCs ⟨5, 3, 2, 3⟩ = [] := by decide +kernel
theorem aw_obj1 : objOf awB 1 = some ⟨1, 1, 0, 4⟩ ∧ objOf awB 5 = some ⟨5, 3, 2, 3⟩ ∧ objOf awB 8 = none := by decide +kernel
theorem aw_closed {x : Int} (h : Rch (objOf awB) (refWords aw4 threeCs) [1] x) : x = 1 ∨ x = 5 := by
  refine rch_closed (fun x => x = 1 ∨ x = 5) (fun r hr _ => .inl (by simpa using hr)) (fun x b hx hb y hy h0 => ?_) h
  rcases hx with rfl | rfl
  · rw [aw_obj1.1] at hb
    injection hb with hb
    subst hb
    rw [aw4_refs.1] at hy
    simp at hy
    rcases hy with rfl | rfl
    · exact .inr rfl
    · exact absurd rfl h0
  · rw [aw_obj1.2.1] at hb
    injection hb with hb
    subst hb
    rw [aw4_refs.2] at hy
    simp at hy
theorem aw_reach {R : List Int} (h : ∀ x, x ∈ R ↔ Rch (objOf awB) (refWords aw4 threeCs) [1] x) : toldOf awB R = [1, 5] := by
  have h1 : (1 : Int) ∈ R := (h 1).2 (.root (by simp) (by decide))
  have h5 : (5 : Int) ∈ R := (h 5).2 (.next ((h 1).1 h1) aw_obj1.1 (by rw [aw4_refs.1]; simp) (by decide))
  have h8 : ¬ (8 : Int) ∈ R := fun h8 => by rcases aw_closed ((h 8).1 h8) with e | e <;> simp at e
  simp [toldOf, awB, h1, h5, h8]
theorem aw_found : ¬ Lost (objOf awB) (refWords aw4 threeCs) [1] := fun ⟨x, h1, h2⟩ => by
  rcases aw_closed h1 with rfl | rfl
  · rw [aw_obj1.1] at h2; cases h2
  · rw [aw_obj1.2.1] at h2; cases h2
theorem aw_lost : Lost (objOf awB) (refWords aw4 threeCs) [8] := ⟨8, .root (by simp) (by decide), aw_obj1.2.2⟩

theorem in64_small {n : Int} (h : -100000 ≤ n ∧ n ≤ 100000) : In64 n := by unfold In64; omega
theorem ird_one (w : World) (x : Int) (hx : In64 x) : IRd (w.alloc (.cells #[.int .i64 x] 2)) (some ⟨w.heap.size, 0, none⟩) 1 [x] := by
  refine ⟨rfl, by omega, fun i y hy => ⟨_, 0, rfl, ?_⟩, fun y hy => by simp at hy; subst hy; exact hx⟩
  rw [cell_of_heap (heap_alloc_new _ _)]
  match i, hy with
  | 0, hy => simp at hy; subst hy; rfl
  | i + 1, hy => simp at hy
theorem isRow_one (w : World) (x : Int) (hx : In64 x) : IsRow .i64 (w.alloc (.cells #[.int .i64 x] 2)) (some ⟨w.heap.size, 0, none⟩) 1 1 [x] := by
  refine .inr ⟨_, rfl, Nat.le_refl _, by unfold maxLen; omega, rfl, fun i hi => ?_, fun y hy => ?_⟩
  · have h0 : i = 0 := by simp at hi; omega
    subst h0
    rw [show Addr.add ⟨w.heap.size, 0, none⟩ 0 = ⟨w.heap.size, 0, none⟩ by simp [Addr.add], cell_of_heap (heap_alloc_new _ _)]
    rfl
  · simp at hy
    subst hy
    exact WalkArith.wf_i64 hx

set_option maxRecDepth 100000 in
theorem awake_true (w : World) :
    Calls Try.prog 4 #[] w fun e w' => e = .returned (.bool true) ∧ Turned [] w w' := by
  have hN := new_any 11 w
  rw [show (List.replicate (min (max 11 0) 65536 : Int).toNat (0 : Int)) = aw0 from by decide] at hN
  have HN := hide hN
  clear hN
  go_enter Try.func4, Try.ntmps4
  go_wp2_with fail
  refine (HN.out).mono ?_
  rintro e w1 ⟨rfl, hm, ht, -⟩
  have HM := hide hm
  have HT := hide ht
  have hp : w.heap.size ≤ w.heap.size + 1 := by omega
  have hq : w.heap.size ≤ w.heap.size := by omega
  clear hm ht HN
  generalize w.heap.size + 1 = p at *
  generalize hqq : w.heap.size = q at HM
  have hq : w.heap.size ≤ q := by omega
  clear hqq
  -- Lay(c, three(), 1, 1, 0)
  go_wp2_with fail
  refine (three_any _).mono ?_
  rintro e w2 ⟨g, rfl, hc, ht, -⟩
  have HC := hide hc
  have HM2 := hide (HM.out.turned ht (by simp) (by simp))
  have HT2 := hide (HT.out.trans ht)
  clear hc ht HM HT
  go_wp2_with fail
  refine (blay_mem p q aw0 0 _ 3 3 threeCs 1 1 0 w2 (by rw [aw_len.1]; omega) (in64_small (by omega)) HM2.out HC.out).mono ?_
  rw [aw1_told.1, aw1_told.2]
  rintro e w3 ⟨rfl, hm, ht⟩
  have HM3 : Hid (Mem w3 p q aw1 0) := hm
  have HT3 := hide (HT2.out.trans_new ht (by simp; omega))
  clear hm ht HM2 HT2 HC
  -- Lay(c, three(), 5, 3, 2)
  go_wp2_with fail
  refine (three_any _).mono ?_
  rintro e w4 ⟨g2, rfl, hc, ht, -⟩
  have HC := hide hc
  have HM2 := hide (HM3.out.turned ht (by simp) (by simp))
  have HT2 := hide (HT3.out.trans ht)
  clear hc ht HM3 HT3
  go_wp2_with fail
  refine (blay_mem p q aw1 0 _ 3 3 threeCs 5 3 2 w4 (by rw [aw_len.2.1]; omega) (in64_small (by omega)) HM2.out HC.out).mono ?_
  rw [aw2_told.1, aw2_told.2]
  rintro e w5 ⟨rfl, hm, ht⟩
  have HM3 : Hid (Mem w5 p q aw2 0) := hm
  have HT3 := hide (HT2.out.trans_new ht (by simp; omega))
  clear hm ht HM2 HT2 HC
  -- Fill(c, 8, 11)
  go_wp2_with fail
  refine (bfill_mem p q aw2 0 8 11 w5 (by rw [aw_len.2.2.1]; omega) HM3.out).mono ?_
  rw [aw3_told]
  rintro e w6 ⟨rfl, hm, ht⟩
  have HM2 : Hid (Mem w6 p q aw3 0) := hm
  have HT2 := hide (HT3.out.trans_new ht (by simp; omega))
  clear hm ht HM3 HT3
  -- Walk(c, three(), 1, 11)
  go_wp2_with fail
  refine (three_any _).mono ?_
  rintro e w7 ⟨g3, rfl, hc, ht, -⟩
  have HC := hide hc
  have HM3 := hide (HM2.out.turned ht (by simp) (by simp))
  have HT3 := hide (HT2.out.trans ht)
  clear hc ht HM2 HT2
  go_wp2_with fail
  refine (walk_in _ aw3 _ 3 3 threeCs 1 11 w7 (by rw [aw_len.2.2.2.1]; omega) HM3.out.any HC.out (by rw [aw_len.2.2.2.1]; omega)).mono ?_
  rw [aw3_walk]
  rintro e w8 ⟨vl, rfl, hown, ht⟩
  obtain ⟨bo, bcap, rfl, hbr⟩ := ownsRow_blks hown
  obtain ⟨gb, off, rfl, k0, k1, k2, k3⟩ := hbr.cell 1 ⟨5, 3, 2, 3⟩ rfl
  have hgb := (hown.lt gb rfl).1
  have hz8 := HM3.out.ltp
  have hz9 := HM3.out.ltq
  have HM2 := hide (HM3.out.turned ht (by simp) (by simp))
  have HT2 := hide (HT3.out.trans ht)
  have HK : Hid (∀ w', Turned [p, q] w8 w' → w'.cell? ⟨gb, off + 1 * 4, none⟩ = some (.int .i64 5) ∧ w'.cell? ⟨gb, off + 1 * 4 + 1, none⟩ = some (.int .i64 3) ∧ w'.cell? ⟨gb, off + 1 * 4 + 2, none⟩ = some (.int .i64 2) ∧ w'.cell? ⟨gb, off + 1 * 4 + 3, none⟩ = some (.int .i64 3)) := by
    intro w' ht'
    have hn : gb ∉ [p, q] := by simp; omega
    exact ⟨by rw [ht'.cell (block_lt k0) hn]; exact k0, by rw [ht'.cell (block_lt k1) hn]; exact k1, by rw [ht'.cell (block_lt k2) hn]; exact k2, by rw [ht'.cell (block_lt k3) hn]; exact k3⟩
  clear hown ht HM3 HT3 HC hbr k0 k1 k2 k3
  simp only [Option.getD_some, Option.isNone_some]
  rw [show awB.length = 3 from rfl]
  -- Put(2, 5)
  go_wp2_with fail
  refine (put_any p q aw3 0 2 _ 1 1 [5] _ (by rw [aw_len.2.2.2.1]; omega) (HM2.out.alloc _) (isRow_one w8 5 (in64_small (by omega)))).mono ?_
  rw [show ([5] : List Int).take 1 = [5] from rfl, aw4_put]
  rintro e w9 ⟨rfl, hm, ht⟩
  have HM3 : Hid (Mem w9 p q aw4 0) := hm
  have ht89 := ((Turned.refl [p, q] w8).alloc (.cells #[.int .i64 5] 2)).trans ht
  have HT3 := hide (HT2.out.trans_new ht89 (by simp; omega))
  have HK9 := hide ht89
  clear hm ht HM2 HT2 ht89
  -- Reach(c, three(), 1, 11, 1)
  go_wp2_with fail
  refine (three_any _).mono ?_
  rintro e w10 ⟨g4, rfl, hc, ht, -⟩
  have ht2 := ht.alloc (.cells #[.int .i64 1] 2)
  have HC := hide (hc.turned ((Turned.refl [] w10).alloc (.cells #[.int .i64 1] 2)))
  have HM2 := hide (HM3.out.turned ht2 (by simp) (by simp))
  have HT2 := hide (HT3.out.trans ht2)
  have HK10 := hide (HK9.out.trans (ht2.mono (T := [p, q]) (by simp)))
  clear hc ht ht2 HM3 HT3 HK9
  go_wp2_with fail
  refine (reach_in _ aw4 _ 3 3 threeCs 1 11 _ 1 1 [1] awB _ (by rw [aw_len.2.2.2.2]; omega) aw4_in HM2.out.any HC.out (ird_one w10 1 (in64_small (by omega))) (by rw [aw_len.2.2.2.2]; omega) aw4_walk).mono ?_
  rintro e w11 ⟨ht, ⟨-, hlo⟩ | ⟨vr, R, rfl, hown, hR, -⟩⟩
  · exact absurd hlo aw_found
  rw [aw_reach hR] at hown
  obtain ⟨g5, cap5, rfl, hg5, -, -, hc5, -⟩ := ownsRow_open hown (by decide)
  have m1 := hc5 1 _ rfl
  have HM3 := hide (HM2.out.turned ht (by simp) (by simp))
  have HT3 := hide (HT2.out.trans ht)
  have HK11 := hide (HK10.out.trans (ht.mono (T := [p, q]) (by simp)))
  have HM1 : Hid (∀ w', Turned [] w11 w' → w'.cell? ⟨g5, 1, none⟩ = some (.int .i64 5)) := fun w' ht' => by rw [ht'.cell (block_lt m1) (by simp)]; exact m1
  clear hown hR hc5 m1 ht HM2 HT2 HK10 HC
  rw [show ([1, 5] : List Int).length = 2 from rfl]
  -- Reach(c, three(), 1, 11, 8)
  go_wp2_with fail
  refine (three_any _).mono ?_
  rintro e w12 ⟨g6, rfl, hc, ht, -⟩
  have ht2 := ht.alloc (.cells #[.int .i64 8] 2)
  have HC := hide (hc.turned ((Turned.refl [] w12).alloc (.cells #[.int .i64 8] 2)))
  have HM2 := hide (HM3.out.turned ht2 (by simp) (by simp))
  have HT2 := hide (HT3.out.trans ht2)
  have HL12 := hide ht2
  clear hc ht ht2 HM3 HT3
  go_wp2_with fail
  refine (reach_in _ aw4 _ 3 3 threeCs 1 11 _ 1 1 [8] awB _ (by rw [aw_len.2.2.2.2]; omega) aw4_in HM2.out.any HC.out (ird_one w12 8 (in64_small (by omega))) (by rw [aw_len.2.2.2.2]; omega) aw4_walk).mono ?_
  rintro e w13 ⟨ht, ⟨rfl, -⟩ | ⟨vr, R, -, -, -, hno⟩⟩
  case inr => exact absurd aw_lost hno
  have HM3 := hide (HM2.out.turned ht (by simp) (by simp))
  have HT3 := hide (HT2.out.trans ht)
  have HL13 := hide (HL12.out.trans ht)
  clear ht HM2 HT2 HL12 HC
  -- Walk(c, three(), 1, 10)
  go_wp2_with fail
  refine (three_any _).mono ?_
  rintro e w14 ⟨g7, rfl, hc, ht, -⟩
  have HC := hide hc
  have HM2 := hide (HM3.out.turned ht (by simp) (by simp))
  have HT2 := hide (HT3.out.trans ht)
  have HL14 := hide (HL13.out.trans ht)
  clear hc ht HM3 HT3 HL13
  go_wp2_with fail
  refine (walk_in _ aw4 _ 3 3 threeCs 1 10 w14 (by rw [aw_len.2.2.2.2]; omega) HM2.out.any HC.out (by rw [aw_len.2.2.2.2]; omega)).mono ?_
  rw [aw4_short]
  rintro e w15 ⟨vw, rfl, -, ht⟩
  simp only [Option.isNone_none, if_true]
  have HT3 := hide (HT2.out.trans ht)
  have hL := HL14.out.trans ht
  have y1 := HM1.out _ hL
  obtain ⟨z0, z1, z2, z3⟩ := HK.out _ (HK11.out.trans (hL.mono (T := [p, q]) (by simp)))
  clear ht hL HM2 HT2 HL14 HK HK11 HM1 HC
  go_wp2_with fail
  go_ret
  exact ⟨rfl, HT3.out⟩
end Go.Proofs.Ythigmechfcndcaa
