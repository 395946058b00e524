/-
  What the law of CellsApart does, walked: for every list of words, every place and every two words the law returns true and the list reads as before; no condition.
-/
import Derived.Test.YthkdikdhceibnaaCellsAwake
import Derived.Test.YthkdikdhceibnaaCellsPutAny
import Derived.Deep.QuietTactic
import Derived.BigQuiet
namespace Go.Proofs.Ythkdikdhceibnaa
open Go.RowKit Go.ChangeShapes Go.WideShapes Go.ChangeAt
set_option linter.unusedVariables false

theorem Turned.drewN {S : List Nat} {a w : World} (h : Turned S a w) (n : Nat) : Turned S a (w.drewN n) := h.trans ⟨rfl, rfl, rfl, Nat.le_refl _, fun _ _ _ => rfl⟩

theorem words_30 (l : List Int) (h : l.length = 30) : ((l.take (min (max 30 0) (l.length : Int)).toNat).drop (min (max 0 0) (l.length : Int)).toNat) = l := by
  rw [show (min (max 30 0) (l.length : Int)).toNat = l.length by omega, show (min (max 0 0) (l.length : Int)).toNat = 0 by omega]
  simp

set_option maxRecDepth 100000 in
theorem apart_ns (t v0 v1 : Int) (a : Option Addr) (len cap : Nat) (zs : List Int) (w : World) (hlen : len ≤ 9223372036854775807) (hl3 : ¬ 30 < len) (h : IsRow .i64 w a len cap zs) (hcap : len ≤ cap) (hcap2 : cap ≤ 9223372036854775807) (hf : t < 0) (ht1 : -9223372036854775808 ≤ t) (ht2 : t ≤ 9223372036854775807) :
    Calls Try.prog 7 #[.slice a len cap, .int .i64 t, .agg #[.int .i64 v0, .int .i64 v1]] w fun e w' => e = .returned (.bool true) ∧ Turned [] w w' := by
  have HR := hide (h.below ((Turned.refl [] w).alloc (.cells #[.int .i64 v0, .int .i64 v1] 56)).below0)
  clear h
  obtain ⟨k, HK, hk⟩ : ∃ k : Nat, Hid (-(t + 1).tmod 30 = k) ∧ k < 30 := ⟨((-(t + 1)) % 30).toNat, by show _ = _; rw [← Int.neg_tmod, Int.tmod_eq_emod_of_nonneg (by omega)]; omega, by omega⟩
  have HV0 : Hid ((w.alloc (.cells #[.int .i64 v0, .int .i64 v1] 56)).cell? ⟨w.heap.size, 0, none⟩ = some (.int .i64 v0)) := by show _ = _; rw [cell_of_heap (heap_alloc_new _ _)]; rfl
  have HV1 : Hid ((w.alloc (.cells #[.int .i64 v0, .int .i64 v1] 56)).cell? ⟨w.heap.size, 1, none⟩ = some (.int .i64 v1)) := by show _ = _; rw [cell_of_heap (heap_alloc_new _ _)]; rfl
  have HTW := hide ((Turned.refl [] w).alloc (.cells #[.int .i64 v0, .int .i64 v1] 56))
  have hsz : w.heap.size < (w.alloc (.cells #[.int .i64 v0, .int .i64 v1] 56)).heap.size := by simp
  have HSZ := hide hsz
  clear hsz
  go_enter Try.func7, Try.ntmps7
  go_wp2_with fail
  generalize w.alloc (.cells #[.int .i64 v0, .int .i64 v1] 56) = W0 at *
  refine (awake_true _).mono ?_
  rintro e w1 ⟨rfl, ht⟩
  have HT1 := hide ht
  clear ht
  go_wp2_with fail
  refine (new_any 30 _).mono ?_
  rw [show (min (max 30 0) 65536 : Int).toNat = 30 by decide]
  rintro e w2 ⟨rfl, hm, ht, -⟩
  have HM2 := hide hm
  have HT2 := hide (HT1.out.trans ht)
  have hp0 := HT1.out.size
  have hp : W0.heap.size ≤ w1.heap.size + 1 := by omega
  have hq : w1.heap.size + 1 ≠ w1.heap.size := by omega
  clear hm ht HT1
  generalize w1.heap.size + 1 = p at *
  generalize w1.heap.size = q at *
  go_wp2_with fail
  refine (put_any p q _ 0 0 a len cap zs w2 (by simp) HM2.out (HR.out.below HT2.out.below0)).mono ?_
  have hL : Hid ((putL (List.replicate 30 0) 0 (zs.take len)).length = 30) := by show _ = _; rw [putL_length]; simp
  generalize putL (List.replicate 30 0) 0 (zs.take len) = L at *
  rintro e w3 ⟨rfl, hm, ht⟩
  have HM3 := hide hm
  have HT3 := hide (HT2.out.trans_new ht (by simp; omega))
  have hv0 : w3.cell? ⟨w.heap.size, 0, none⟩ = some (.int .i64 v0) := by rw [HT3.out.cell HSZ.out (by simp)]; exact HV0.out
  have hv1 : w3.cell? ⟨w.heap.size, 1, none⟩ = some (.int .i64 v1) := by rw [HT3.out.cell HSZ.out (by simp)]; exact HV1.out
  clear hm ht HM2
  go_wp2_with fail
  refine (words_mem p q L _ 0 30 w3 (by rw [hL.out]; omega) HM3.out).mono ?_
  rw [words_30 L hL.out]
  rintro e w4 ⟨v, rfl, hown, ht⟩
  obtain ⟨-, ao, c4, rfl, hcl⟩ := ownsRow_any hown
  have HC4 := hide hcl
  have HM4 := hide (HM3.out.turned ht (by simp) (by simp))
  rw [hL.out]
  have HT4 := hide (HT3.out.trans ht)
  have hv0 : w4.cell? ⟨w.heap.size, 0, none⟩ = some (.int .i64 v0) := by rw [HT4.out.cell HSZ.out (by simp)]; exact HV0.out
  have hv1 : w4.cell? ⟨w.heap.size, 1, none⟩ = some (.int .i64 v1) := by rw [HT4.out.cell HSZ.out (by simp)]; exact HV1.out
  have HU4 := hide (Turned.refl [p, q] w4)
  have hpl := HM3.out.ltp
  have hql := HM3.out.ltq
  clear hown ht hcl HM3
  obtain ⟨x, hx⟩ : ∃ x, L[k]? = some x := ⟨_, List.getElem?_eq_getElem (by rw [hL.out]; exact hk)⟩
  have hs : ∀ y, (L.set k y)[k]? = some y := fun y => by rw [List.getElem?_set_self (by rw [hL.out]; exact hk)]
  have HX := hide hx
  have HS := hide hs
  clear hx hs
  go_wp2_with fail
  rw [HK.out]
  refine (store_in p q L _ w4 k x v0 HX.out HM4.out).mono ?_
  rintro e w5 ⟨rfl, hm, ht⟩
  have HM5 := hide hm
  have HT5 := hide (HT4.out.trans_new ht (by simp; omega))
  have hv0 : w5.cell? ⟨w.heap.size, 0, none⟩ = some (.int .i64 v0) := by rw [HT5.out.cell HSZ.out (by simp)]; exact HV0.out
  have hv1 : w5.cell? ⟨w.heap.size, 1, none⟩ = some (.int .i64 v1) := by rw [HT5.out.cell HSZ.out (by simp)]; exact HV1.out
  have HU5 := hide (HU4.out.trans ht)
  clear hm ht HM4 HU4
  go_wp2_with fail
  refine (swap_hit p q (L.set k v0) _ w5 k v0 v1 (HS.out v0) HM5.out).mono ?_
  rintro e w6 ⟨rfl, hm, ht⟩
  rw [List.set_set] at hm
  have HM6 := hide hm
  have HT6 := hide (HT5.out.trans_new ht (by simp; omega))
  have hv0 : w6.cell? ⟨w.heap.size, 0, none⟩ = some (.int .i64 v0) := by rw [HT6.out.cell HSZ.out (by simp)]; exact HV0.out
  have hv1 : w6.cell? ⟨w.heap.size, 1, none⟩ = some (.int .i64 v1) := by rw [HT6.out.cell HSZ.out (by simp)]; exact HV1.out
  have HU6 := hide (HU5.out.trans ht)
  clear hm ht HM5 HU5
  go_wp2_with fail
  refine (add_in p q (L.set k v1) _ w6 k v1 v0 (HS.out v1) HM6.out).mono ?_
  rintro e w7 ⟨rfl, hm, ht⟩
  rw [List.set_set] at hm
  have HM7 := hide hm
  have HT7 := hide (HT6.out.trans_new ht (by simp; omega))
  have hv0 : w7.cell? ⟨w.heap.size, 0, none⟩ = some (.int .i64 v0) := by rw [HT7.out.cell HSZ.out (by simp)]; exact HV0.out
  have hv1 : w7.cell? ⟨w.heap.size, 1, none⟩ = some (.int .i64 v1) := by rw [HT7.out.cell HSZ.out (by simp)]; exact HV1.out
  have HU7 := hide (HU6.out.trans ht)
  clear hm ht HM6 HU6
  go_wp2_with fail
  refine (load_in p q (L.set k (wrap64 (v1 + v0))) _ w7 k (wrap64 (v1 + v0)) (HS.out _) HM7.out).mono ?_
  rintro e w8 ⟨rfl, hm, ht⟩
  have HM8 := hide hm
  have HT8 := hide (HT7.out.trans_new ht (by simp; omega))
  have hv0 : w8.cell? ⟨w.heap.size, 0, none⟩ = some (.int .i64 v0) := by rw [HT8.out.cell HSZ.out (by simp)]; exact HV0.out
  have hv1 : w8.cell? ⟨w.heap.size, 1, none⟩ = some (.int .i64 v1) := by rw [HT8.out.cell HSZ.out (by simp)]; exact HV1.out
  have HU8 := hide (HU7.out.trans ht)
  clear hm ht HM7 HU7
  have hL2 : Hid ((L.set k (wrap64 (v1 + v0))).length = 30) := by show _ = _; rw [List.length_set, hL.out]
  go_wp2_with fail
  refine (words_mem p q (L.set k (wrap64 (v1 + v0))) _ 0 30 w8 (by rw [hL2.out]; omega) HM8.out).mono ?_
  rw [words_30 (L.set k (wrap64 (v1 + v0))) hL2.out]
  rintro e w9 ⟨v, rfl, hown, ht⟩
  obtain ⟨-, an, c9, rfl, hcm⟩ := ownsRow_any hown
  have HC9 := hide hcm
  have HM9 := hide (HM8.out.turned ht (by simp) (by simp))
  rw [hL2.out]
  have HT9 := hide (HT8.out.trans ht)
  have hv0 : w9.cell? ⟨w.heap.size, 0, none⟩ = some (.int .i64 v0) := by rw [HT9.out.cell HSZ.out (by simp)]; exact HV0.out
  have hv1 : w9.cell? ⟨w.heap.size, 1, none⟩ = some (.int .i64 v1) := by rw [HT9.out.cell HSZ.out (by simp)]; exact HV1.out
  have HU9 := hide (HU8.out.trans (ht.mono (T := [p, q]) (by simp)))
  clear hown ht hcm HM8
  obtain ⟨g, rfl, -, -, hck, -⟩ := HC9.out k _ (HS.out _)
  have hki : (k : Int) < 30 := by omega
  go_wp2_with fail
  go_quiet (fail)
  go_wp2_with fail
  go_loopw [12] (fun i wr => ∃ (j m : Nat), j ≤ 30 ∧ i = .int .i64 j ∧ Hid (wr = w9.drewN m)) (fun i _ => 30 - (intOf i).toNat)
  case atStart => exact ⟨0, _, Nat.zero_le _, rfl, rfl⟩
  case round =>
    obtain ⟨j, m, hj, rfl, HW⟩ := hrel
    have hw := HW.out
    clear HW
    subst hw
    by_cases hlt : j < 30
    · have hji : (j : Int) < 30 := by omega
      by_cases hjk : j = k
      · subst hjk
        have hd : ((j : Int) != (j : Int)) = false := by simp
        go_wp2_with fail
        go_quiet (fail)
        go_wp2_with fail
        go_roundw
        case rel => exact ⟨j + 1, _, by omega, by go_num, rfl⟩
        case measure => simp [intOf]; omega
      · have hd : ((j : Int) != (k : Int)) = true := by rw [bne_iff_ne]; omega
        obtain ⟨z, hz⟩ : ∃ z, L[j]? = some z := ⟨_, List.getElem?_eq_getElem (by rw [hL.out]; exact hlt)⟩
        have hz2 : (L.set k (wrap64 (v1 + v0)))[j]? = some z := by rw [List.getElem?_set_ne (by omega)]; exact hz
        obtain ⟨g4, rfl, hg1, hg2, hc4, -⟩ := HC4.out j z hz
        obtain ⟨g9, hge, -, -, hc9, -⟩ := HC9.out j z hz2
        simp only [Option.some.injEq, Addr.mk.injEq, and_true] at hge
        subst hge
        have hc49 : w9.cell? ⟨g4, j, none⟩ = some (.int .i64 z) := by rw [HU9.out.cell hg2 (by simp; omega)]; exact hc4
        clear hz hz2 hc4 hg1 hg2
        go_wp2_with fail
        go_quiet (fail)
        go_wp2_with fail
        go_roundw
        case rel => exact ⟨j + 1, _, by omega, by go_num, rfl⟩
        case measure => simp [intOf]; omega
    · go_wp2_with fail
      go_ret
      exact ⟨rfl, (HTW.out.trans HT9.out).drewN _⟩

set_option maxRecDepth 100000 in
theorem apart_nb (t v0 v1 : Int) (a : Option Addr) (len cap : Nat) (zs : List Int) (w : World) (hlen : len ≤ 9223372036854775807) (hl3 : 30 < len) (h : IsRow .i64 w a 30 cap zs) (hcap : len ≤ cap) (hcap2 : cap ≤ 9223372036854775807) (hf : t < 0) (ht1 : -9223372036854775808 ≤ t) (ht2 : t ≤ 9223372036854775807) :
    Calls Try.prog 7 #[.slice a len cap, .int .i64 t, .agg #[.int .i64 v0, .int .i64 v1]] w fun e w' => e = .returned (.bool true) ∧ Turned [] w w' := by
  have HR := hide (h.below ((Turned.refl [] w).alloc (.cells #[.int .i64 v0, .int .i64 v1] 56)).below0)
  clear h
  obtain ⟨k, HK, hk⟩ : ∃ k : Nat, Hid (-(t + 1).tmod 30 = k) ∧ k < 30 := ⟨((-(t + 1)) % 30).toNat, by show _ = _; rw [← Int.neg_tmod, Int.tmod_eq_emod_of_nonneg (by omega)]; omega, by omega⟩
  have HV0 : Hid ((w.alloc (.cells #[.int .i64 v0, .int .i64 v1] 56)).cell? ⟨w.heap.size, 0, none⟩ = some (.int .i64 v0)) := by show _ = _; rw [cell_of_heap (heap_alloc_new _ _)]; rfl
  have HV1 : Hid ((w.alloc (.cells #[.int .i64 v0, .int .i64 v1] 56)).cell? ⟨w.heap.size, 1, none⟩ = some (.int .i64 v1)) := by show _ = _; rw [cell_of_heap (heap_alloc_new _ _)]; rfl
  have HTW := hide ((Turned.refl [] w).alloc (.cells #[.int .i64 v0, .int .i64 v1] 56))
  have hsz : w.heap.size < (w.alloc (.cells #[.int .i64 v0, .int .i64 v1] 56)).heap.size := by simp
  have HSZ := hide hsz
  clear hsz
  go_enter Try.func7, Try.ntmps7
  go_wp2_with fail
  generalize w.alloc (.cells #[.int .i64 v0, .int .i64 v1] 56) = W0 at *
  refine (awake_true _).mono ?_
  rintro e w1 ⟨rfl, ht⟩
  have HT1 := hide ht
  clear ht
  go_wp2_with fail
  refine (new_any 30 _).mono ?_
  rw [show (min (max 30 0) 65536 : Int).toNat = 30 by decide]
  rintro e w2 ⟨rfl, hm, ht, -⟩
  have HM2 := hide hm
  have HT2 := hide (HT1.out.trans ht)
  have hp0 := HT1.out.size
  have hp : W0.heap.size ≤ w1.heap.size + 1 := by omega
  have hq : w1.heap.size + 1 ≠ w1.heap.size := by omega
  clear hm ht HT1
  generalize w1.heap.size + 1 = p at *
  generalize w1.heap.size = q at *
  go_wp2_with fail
  refine (put_any p q _ 0 0 a 30 cap zs w2 (by simp) HM2.out (HR.out.below HT2.out.below0)).mono ?_
  have hL : Hid ((putL (List.replicate 30 0) 0 (zs.take 30)).length = 30) := by show _ = _; rw [putL_length]; simp
  generalize putL (List.replicate 30 0) 0 (zs.take 30) = L at *
  rintro e w3 ⟨rfl, hm, ht⟩
  have HM3 := hide hm
  have HT3 := hide (HT2.out.trans_new ht (by simp; omega))
  have hv0 : w3.cell? ⟨w.heap.size, 0, none⟩ = some (.int .i64 v0) := by rw [HT3.out.cell HSZ.out (by simp)]; exact HV0.out
  have hv1 : w3.cell? ⟨w.heap.size, 1, none⟩ = some (.int .i64 v1) := by rw [HT3.out.cell HSZ.out (by simp)]; exact HV1.out
  clear hm ht HM2
  go_wp2_with fail
  refine (words_mem p q L _ 0 30 w3 (by rw [hL.out]; omega) HM3.out).mono ?_
  rw [words_30 L hL.out]
  rintro e w4 ⟨v, rfl, hown, ht⟩
  obtain ⟨-, ao, c4, rfl, hcl⟩ := ownsRow_any hown
  have HC4 := hide hcl
  have HM4 := hide (HM3.out.turned ht (by simp) (by simp))
  rw [hL.out]
  have HT4 := hide (HT3.out.trans ht)
  have hv0 : w4.cell? ⟨w.heap.size, 0, none⟩ = some (.int .i64 v0) := by rw [HT4.out.cell HSZ.out (by simp)]; exact HV0.out
  have hv1 : w4.cell? ⟨w.heap.size, 1, none⟩ = some (.int .i64 v1) := by rw [HT4.out.cell HSZ.out (by simp)]; exact HV1.out
  have HU4 := hide (Turned.refl [p, q] w4)
  have hpl := HM3.out.ltp
  have hql := HM3.out.ltq
  clear hown ht hcl HM3
  obtain ⟨x, hx⟩ : ∃ x, L[k]? = some x := ⟨_, List.getElem?_eq_getElem (by rw [hL.out]; exact hk)⟩
  have hs : ∀ y, (L.set k y)[k]? = some y := fun y => by rw [List.getElem?_set_self (by rw [hL.out]; exact hk)]
  have HX := hide hx
  have HS := hide hs
  clear hx hs
  go_wp2_with fail
  rw [HK.out]
  refine (store_in p q L _ w4 k x v0 HX.out HM4.out).mono ?_
  rintro e w5 ⟨rfl, hm, ht⟩
  have HM5 := hide hm
  have HT5 := hide (HT4.out.trans_new ht (by simp; omega))
  have hv0 : w5.cell? ⟨w.heap.size, 0, none⟩ = some (.int .i64 v0) := by rw [HT5.out.cell HSZ.out (by simp)]; exact HV0.out
  have hv1 : w5.cell? ⟨w.heap.size, 1, none⟩ = some (.int .i64 v1) := by rw [HT5.out.cell HSZ.out (by simp)]; exact HV1.out
  have HU5 := hide (HU4.out.trans ht)
  clear hm ht HM4 HU4
  go_wp2_with fail
  refine (swap_hit p q (L.set k v0) _ w5 k v0 v1 (HS.out v0) HM5.out).mono ?_
  rintro e w6 ⟨rfl, hm, ht⟩
  rw [List.set_set] at hm
  have HM6 := hide hm
  have HT6 := hide (HT5.out.trans_new ht (by simp; omega))
  have hv0 : w6.cell? ⟨w.heap.size, 0, none⟩ = some (.int .i64 v0) := by rw [HT6.out.cell HSZ.out (by simp)]; exact HV0.out
  have hv1 : w6.cell? ⟨w.heap.size, 1, none⟩ = some (.int .i64 v1) := by rw [HT6.out.cell HSZ.out (by simp)]; exact HV1.out
  have HU6 := hide (HU5.out.trans ht)
  clear hm ht HM5 HU5
  go_wp2_with fail
  refine (add_in p q (L.set k v1) _ w6 k v1 v0 (HS.out v1) HM6.out).mono ?_
  rintro e w7 ⟨rfl, hm, ht⟩
  rw [List.set_set] at hm
  have HM7 := hide hm
  have HT7 := hide (HT6.out.trans_new ht (by simp; omega))
  have hv0 : w7.cell? ⟨w.heap.size, 0, none⟩ = some (.int .i64 v0) := by rw [HT7.out.cell HSZ.out (by simp)]; exact HV0.out
  have hv1 : w7.cell? ⟨w.heap.size, 1, none⟩ = some (.int .i64 v1) := by rw [HT7.out.cell HSZ.out (by simp)]; exact HV1.out
  have HU7 := hide (HU6.out.trans ht)
  clear hm ht HM6 HU6
  go_wp2_with fail
  refine (load_in p q (L.set k (wrap64 (v1 + v0))) _ w7 k (wrap64 (v1 + v0)) (HS.out _) HM7.out).mono ?_
  rintro e w8 ⟨rfl, hm, ht⟩
  have HM8 := hide hm
  have HT8 := hide (HT7.out.trans_new ht (by simp; omega))
  have hv0 : w8.cell? ⟨w.heap.size, 0, none⟩ = some (.int .i64 v0) := by rw [HT8.out.cell HSZ.out (by simp)]; exact HV0.out
  have hv1 : w8.cell? ⟨w.heap.size, 1, none⟩ = some (.int .i64 v1) := by rw [HT8.out.cell HSZ.out (by simp)]; exact HV1.out
  have HU8 := hide (HU7.out.trans ht)
  clear hm ht HM7 HU7
  have hL2 : Hid ((L.set k (wrap64 (v1 + v0))).length = 30) := by show _ = _; rw [List.length_set, hL.out]
  go_wp2_with fail
  refine (words_mem p q (L.set k (wrap64 (v1 + v0))) _ 0 30 w8 (by rw [hL2.out]; omega) HM8.out).mono ?_
  rw [words_30 (L.set k (wrap64 (v1 + v0))) hL2.out]
  rintro e w9 ⟨v, rfl, hown, ht⟩
  obtain ⟨-, an, c9, rfl, hcm⟩ := ownsRow_any hown
  have HC9 := hide hcm
  have HM9 := hide (HM8.out.turned ht (by simp) (by simp))
  rw [hL2.out]
  have HT9 := hide (HT8.out.trans ht)
  have hv0 : w9.cell? ⟨w.heap.size, 0, none⟩ = some (.int .i64 v0) := by rw [HT9.out.cell HSZ.out (by simp)]; exact HV0.out
  have hv1 : w9.cell? ⟨w.heap.size, 1, none⟩ = some (.int .i64 v1) := by rw [HT9.out.cell HSZ.out (by simp)]; exact HV1.out
  have HU9 := hide (HU8.out.trans (ht.mono (T := [p, q]) (by simp)))
  clear hown ht hcm HM8
  obtain ⟨g, rfl, -, -, hck, -⟩ := HC9.out k _ (HS.out _)
  have hki : (k : Int) < 30 := by omega
  go_wp2_with fail
  go_quiet (fail)
  go_wp2_with fail
  go_loopw [12] (fun i wr => ∃ (j m : Nat), j ≤ 30 ∧ i = .int .i64 j ∧ Hid (wr = w9.drewN m)) (fun i _ => 30 - (intOf i).toNat)
  case atStart => exact ⟨0, _, Nat.zero_le _, rfl, rfl⟩
  case round =>
    obtain ⟨j, m, hj, rfl, HW⟩ := hrel
    have hw := HW.out
    clear HW
    subst hw
    by_cases hlt : j < 30
    · have hji : (j : Int) < 30 := by omega
      by_cases hjk : j = k
      · subst hjk
        have hd : ((j : Int) != (j : Int)) = false := by simp
        go_wp2_with fail
        go_quiet (fail)
        go_wp2_with fail
        go_roundw
        case rel => exact ⟨j + 1, _, by omega, by go_num, rfl⟩
        case measure => simp [intOf]; omega
      · have hd : ((j : Int) != (k : Int)) = true := by rw [bne_iff_ne]; omega
        obtain ⟨z, hz⟩ : ∃ z, L[j]? = some z := ⟨_, List.getElem?_eq_getElem (by rw [hL.out]; exact hlt)⟩
        have hz2 : (L.set k (wrap64 (v1 + v0)))[j]? = some z := by rw [List.getElem?_set_ne (by omega)]; exact hz
        obtain ⟨g4, rfl, hg1, hg2, hc4, -⟩ := HC4.out j z hz
        obtain ⟨g9, hge, -, -, hc9, -⟩ := HC9.out j z hz2
        simp only [Option.some.injEq, Addr.mk.injEq, and_true] at hge
        subst hge
        have hc49 : w9.cell? ⟨g4, j, none⟩ = some (.int .i64 z) := by rw [HU9.out.cell hg2 (by simp; omega)]; exact hc4
        clear hz hz2 hc4 hg1 hg2
        go_wp2_with fail
        go_quiet (fail)
        go_wp2_with fail
        go_roundw
        case rel => exact ⟨j + 1, _, by omega, by go_num, rfl⟩
        case measure => simp [intOf]; omega
    · go_wp2_with fail
      go_ret
      exact ⟨rfl, (HTW.out.trans HT9.out).drewN _⟩

set_option maxRecDepth 100000 in
theorem apart_ps (t v0 v1 : Int) (a : Option Addr) (len cap : Nat) (zs : List Int) (w : World) (hlen : len ≤ 9223372036854775807) (hl3 : ¬ 30 < len) (h : IsRow .i64 w a len cap zs) (hcap : len ≤ cap) (hcap2 : cap ≤ 9223372036854775807) (hf : ¬ t < 0) (ht1 : -9223372036854775808 ≤ t) (ht2 : t ≤ 9223372036854775807) :
    Calls Try.prog 7 #[.slice a len cap, .int .i64 t, .agg #[.int .i64 v0, .int .i64 v1]] w fun e w' => e = .returned (.bool true) ∧ Turned [] w w' := by
  have HR := hide (h.below ((Turned.refl [] w).alloc (.cells #[.int .i64 v0, .int .i64 v1] 56)).below0)
  clear h
  obtain ⟨k, HK, hk⟩ : ∃ k : Nat, Hid (t % 30 = k) ∧ k < 30 := ⟨(t % 30).toNat, by show _ = _; omega, by omega⟩
  have HV0 : Hid ((w.alloc (.cells #[.int .i64 v0, .int .i64 v1] 56)).cell? ⟨w.heap.size, 0, none⟩ = some (.int .i64 v0)) := by show _ = _; rw [cell_of_heap (heap_alloc_new _ _)]; rfl
  have HV1 : Hid ((w.alloc (.cells #[.int .i64 v0, .int .i64 v1] 56)).cell? ⟨w.heap.size, 1, none⟩ = some (.int .i64 v1)) := by show _ = _; rw [cell_of_heap (heap_alloc_new _ _)]; rfl
  have HTW := hide ((Turned.refl [] w).alloc (.cells #[.int .i64 v0, .int .i64 v1] 56))
  have hsz : w.heap.size < (w.alloc (.cells #[.int .i64 v0, .int .i64 v1] 56)).heap.size := by simp
  have HSZ := hide hsz
  clear hsz
  go_enter Try.func7, Try.ntmps7
  go_wp2_with fail
  generalize w.alloc (.cells #[.int .i64 v0, .int .i64 v1] 56) = W0 at *
  refine (awake_true _).mono ?_
  rintro e w1 ⟨rfl, ht⟩
  have HT1 := hide ht
  clear ht
  go_wp2_with fail
  refine (new_any 30 _).mono ?_
  rw [show (min (max 30 0) 65536 : Int).toNat = 30 by decide]
  rintro e w2 ⟨rfl, hm, ht, -⟩
  have HM2 := hide hm
  have HT2 := hide (HT1.out.trans ht)
  have hp0 := HT1.out.size
  have hp : W0.heap.size ≤ w1.heap.size + 1 := by omega
  have hq : w1.heap.size + 1 ≠ w1.heap.size := by omega
  clear hm ht HT1
  generalize w1.heap.size + 1 = p at *
  generalize w1.heap.size = q at *
  go_wp2_with fail
  refine (put_any p q _ 0 0 a len cap zs w2 (by simp) HM2.out (HR.out.below HT2.out.below0)).mono ?_
  have hL : Hid ((putL (List.replicate 30 0) 0 (zs.take len)).length = 30) := by show _ = _; rw [putL_length]; simp
  generalize putL (List.replicate 30 0) 0 (zs.take len) = L at *
  rintro e w3 ⟨rfl, hm, ht⟩
  have HM3 := hide hm
  have HT3 := hide (HT2.out.trans_new ht (by simp; omega))
  have hv0 : w3.cell? ⟨w.heap.size, 0, none⟩ = some (.int .i64 v0) := by rw [HT3.out.cell HSZ.out (by simp)]; exact HV0.out
  have hv1 : w3.cell? ⟨w.heap.size, 1, none⟩ = some (.int .i64 v1) := by rw [HT3.out.cell HSZ.out (by simp)]; exact HV1.out
  clear hm ht HM2
  go_wp2_with fail
  refine (words_mem p q L _ 0 30 w3 (by rw [hL.out]; omega) HM3.out).mono ?_
  rw [words_30 L hL.out]
  rintro e w4 ⟨v, rfl, hown, ht⟩
  obtain ⟨-, ao, c4, rfl, hcl⟩ := ownsRow_any hown
  have HC4 := hide hcl
  have HM4 := hide (HM3.out.turned ht (by simp) (by simp))
  rw [hL.out]
  have HT4 := hide (HT3.out.trans ht)
  have hv0 : w4.cell? ⟨w.heap.size, 0, none⟩ = some (.int .i64 v0) := by rw [HT4.out.cell HSZ.out (by simp)]; exact HV0.out
  have hv1 : w4.cell? ⟨w.heap.size, 1, none⟩ = some (.int .i64 v1) := by rw [HT4.out.cell HSZ.out (by simp)]; exact HV1.out
  have HU4 := hide (Turned.refl [p, q] w4)
  have hpl := HM3.out.ltp
  have hql := HM3.out.ltq
  clear hown ht hcl HM3
  obtain ⟨x, hx⟩ : ∃ x, L[k]? = some x := ⟨_, List.getElem?_eq_getElem (by rw [hL.out]; exact hk)⟩
  have hs : ∀ y, (L.set k y)[k]? = some y := fun y => by rw [List.getElem?_set_self (by rw [hL.out]; exact hk)]
  have HX := hide hx
  have HS := hide hs
  clear hx hs
  go_wp2_with fail
  rw [HK.out]
  refine (store_in p q L _ w4 k x v0 HX.out HM4.out).mono ?_
  rintro e w5 ⟨rfl, hm, ht⟩
  have HM5 := hide hm
  have HT5 := hide (HT4.out.trans_new ht (by simp; omega))
  have hv0 : w5.cell? ⟨w.heap.size, 0, none⟩ = some (.int .i64 v0) := by rw [HT5.out.cell HSZ.out (by simp)]; exact HV0.out
  have hv1 : w5.cell? ⟨w.heap.size, 1, none⟩ = some (.int .i64 v1) := by rw [HT5.out.cell HSZ.out (by simp)]; exact HV1.out
  have HU5 := hide (HU4.out.trans ht)
  clear hm ht HM4 HU4
  go_wp2_with fail
  refine (swap_hit p q (L.set k v0) _ w5 k v0 v1 (HS.out v0) HM5.out).mono ?_
  rintro e w6 ⟨rfl, hm, ht⟩
  rw [List.set_set] at hm
  have HM6 := hide hm
  have HT6 := hide (HT5.out.trans_new ht (by simp; omega))
  have hv0 : w6.cell? ⟨w.heap.size, 0, none⟩ = some (.int .i64 v0) := by rw [HT6.out.cell HSZ.out (by simp)]; exact HV0.out
  have hv1 : w6.cell? ⟨w.heap.size, 1, none⟩ = some (.int .i64 v1) := by rw [HT6.out.cell HSZ.out (by simp)]; exact HV1.out
  have HU6 := hide (HU5.out.trans ht)
  clear hm ht HM5 HU5
  go_wp2_with fail
  refine (add_in p q (L.set k v1) _ w6 k v1 v0 (HS.out v1) HM6.out).mono ?_
  rintro e w7 ⟨rfl, hm, ht⟩
  rw [List.set_set] at hm
  have HM7 := hide hm
  have HT7 := hide (HT6.out.trans_new ht (by simp; omega))
  have hv0 : w7.cell? ⟨w.heap.size, 0, none⟩ = some (.int .i64 v0) := by rw [HT7.out.cell HSZ.out (by simp)]; exact HV0.out
  have hv1 : w7.cell? ⟨w.heap.size, 1, none⟩ = some (.int .i64 v1) := by rw [HT7.out.cell HSZ.out (by simp)]; exact HV1.out
  have HU7 := hide (HU6.out.trans ht)
  clear hm ht HM6 HU6
  go_wp2_with fail
  refine (load_in p q (L.set k (wrap64 (v1 + v0))) _ w7 k (wrap64 (v1 + v0)) (HS.out _) HM7.out).mono ?_
  rintro e w8 ⟨rfl, hm, ht⟩
  have HM8 := hide hm
  have HT8 := hide (HT7.out.trans_new ht (by simp; omega))
  have hv0 : w8.cell? ⟨w.heap.size, 0, none⟩ = some (.int .i64 v0) := by rw [HT8.out.cell HSZ.out (by simp)]; exact HV0.out
  have hv1 : w8.cell? ⟨w.heap.size, 1, none⟩ = some (.int .i64 v1) := by rw [HT8.out.cell HSZ.out (by simp)]; exact HV1.out
  have HU8 := hide (HU7.out.trans ht)
  clear hm ht HM7 HU7
  have hL2 : Hid ((L.set k (wrap64 (v1 + v0))).length = 30) := by show _ = _; rw [List.length_set, hL.out]
  go_wp2_with fail
  refine (words_mem p q (L.set k (wrap64 (v1 + v0))) _ 0 30 w8 (by rw [hL2.out]; omega) HM8.out).mono ?_
  rw [words_30 (L.set k (wrap64 (v1 + v0))) hL2.out]
  rintro e w9 ⟨v, rfl, hown, ht⟩
  obtain ⟨-, an, c9, rfl, hcm⟩ := ownsRow_any hown
  have HC9 := hide hcm
  have HM9 := hide (HM8.out.turned ht (by simp) (by simp))
  rw [hL2.out]
  have HT9 := hide (HT8.out.trans ht)
  have hv0 : w9.cell? ⟨w.heap.size, 0, none⟩ = some (.int .i64 v0) := by rw [HT9.out.cell HSZ.out (by simp)]; exact HV0.out
  have hv1 : w9.cell? ⟨w.heap.size, 1, none⟩ = some (.int .i64 v1) := by rw [HT9.out.cell HSZ.out (by simp)]; exact HV1.out
  have HU9 := hide (HU8.out.trans (ht.mono (T := [p, q]) (by simp)))
  clear hown ht hcm HM8
  obtain ⟨g, rfl, -, -, hck, -⟩ := HC9.out k _ (HS.out _)
  have hki : (k : Int) < 30 := by omega
  go_wp2_with fail
  go_quiet (fail)
  go_wp2_with fail
  go_loopw [12] (fun i wr => ∃ (j m : Nat), j ≤ 30 ∧ i = .int .i64 j ∧ Hid (wr = w9.drewN m)) (fun i _ => 30 - (intOf i).toNat)
  case atStart => exact ⟨0, _, Nat.zero_le _, rfl, rfl⟩
  case round =>
    obtain ⟨j, m, hj, rfl, HW⟩ := hrel
    have hw := HW.out
    clear HW
    subst hw
    by_cases hlt : j < 30
    · have hji : (j : Int) < 30 := by omega
      by_cases hjk : j = k
      · subst hjk
        have hd : ((j : Int) != (j : Int)) = false := by simp
        go_wp2_with fail
        go_quiet (fail)
        go_wp2_with fail
        go_roundw
        case rel => exact ⟨j + 1, _, by omega, by go_num, rfl⟩
        case measure => simp [intOf]; omega
      · have hd : ((j : Int) != (k : Int)) = true := by rw [bne_iff_ne]; omega
        obtain ⟨z, hz⟩ : ∃ z, L[j]? = some z := ⟨_, List.getElem?_eq_getElem (by rw [hL.out]; exact hlt)⟩
        have hz2 : (L.set k (wrap64 (v1 + v0)))[j]? = some z := by rw [List.getElem?_set_ne (by omega)]; exact hz
        obtain ⟨g4, rfl, hg1, hg2, hc4, -⟩ := HC4.out j z hz
        obtain ⟨g9, hge, -, -, hc9, -⟩ := HC9.out j z hz2
        simp only [Option.some.injEq, Addr.mk.injEq, and_true] at hge
        subst hge
        have hc49 : w9.cell? ⟨g4, j, none⟩ = some (.int .i64 z) := by rw [HU9.out.cell hg2 (by simp; omega)]; exact hc4
        clear hz hz2 hc4 hg1 hg2
        go_wp2_with fail
        go_quiet (fail)
        go_wp2_with fail
        go_roundw
        case rel => exact ⟨j + 1, _, by omega, by go_num, rfl⟩
        case measure => simp [intOf]; omega
    · go_wp2_with fail
      go_ret
      exact ⟨rfl, (HTW.out.trans HT9.out).drewN _⟩

set_option maxRecDepth 100000 in
theorem apart_pb (t v0 v1 : Int) (a : Option Addr) (len cap : Nat) (zs : List Int) (w : World) (hlen : len ≤ 9223372036854775807) (hl3 : 30 < len) (h : IsRow .i64 w a 30 cap zs) (hcap : len ≤ cap) (hcap2 : cap ≤ 9223372036854775807) (hf : ¬ t < 0) (ht1 : -9223372036854775808 ≤ t) (ht2 : t ≤ 9223372036854775807) :
    Calls Try.prog 7 #[.slice a len cap, .int .i64 t, .agg #[.int .i64 v0, .int .i64 v1]] w fun e w' => e = .returned (.bool true) ∧ Turned [] w w' := by
  have HR := hide (h.below ((Turned.refl [] w).alloc (.cells #[.int .i64 v0, .int .i64 v1] 56)).below0)
  clear h
  obtain ⟨k, HK, hk⟩ : ∃ k : Nat, Hid (t % 30 = k) ∧ k < 30 := ⟨(t % 30).toNat, by show _ = _; omega, by omega⟩
  have HV0 : Hid ((w.alloc (.cells #[.int .i64 v0, .int .i64 v1] 56)).cell? ⟨w.heap.size, 0, none⟩ = some (.int .i64 v0)) := by show _ = _; rw [cell_of_heap (heap_alloc_new _ _)]; rfl
  have HV1 : Hid ((w.alloc (.cells #[.int .i64 v0, .int .i64 v1] 56)).cell? ⟨w.heap.size, 1, none⟩ = some (.int .i64 v1)) := by show _ = _; rw [cell_of_heap (heap_alloc_new _ _)]; rfl
  have HTW := hide ((Turned.refl [] w).alloc (.cells #[.int .i64 v0, .int .i64 v1] 56))
  have hsz : w.heap.size < (w.alloc (.cells #[.int .i64 v0, .int .i64 v1] 56)).heap.size := by simp
  have HSZ := hide hsz
  clear hsz
  go_enter Try.func7, Try.ntmps7
  go_wp2_with fail
  generalize w.alloc (.cells #[.int .i64 v0, .int .i64 v1] 56) = W0 at *
  refine (awake_true _).mono ?_
  rintro e w1 ⟨rfl, ht⟩
  have HT1 := hide ht
  clear ht
  go_wp2_with fail
  refine (new_any 30 _).mono ?_
  rw [show (min (max 30 0) 65536 : Int).toNat = 30 by decide]
  rintro e w2 ⟨rfl, hm, ht, -⟩
  have HM2 := hide hm
  have HT2 := hide (HT1.out.trans ht)
  have hp0 := HT1.out.size
  have hp : W0.heap.size ≤ w1.heap.size + 1 := by omega
  have hq : w1.heap.size + 1 ≠ w1.heap.size := by omega
  clear hm ht HT1
  generalize w1.heap.size + 1 = p at *
  generalize w1.heap.size = q at *
  go_wp2_with fail
  refine (put_any p q _ 0 0 a 30 cap zs w2 (by simp) HM2.out (HR.out.below HT2.out.below0)).mono ?_
  have hL : Hid ((putL (List.replicate 30 0) 0 (zs.take 30)).length = 30) := by show _ = _; rw [putL_length]; simp
  generalize putL (List.replicate 30 0) 0 (zs.take 30) = L at *
  rintro e w3 ⟨rfl, hm, ht⟩
  have HM3 := hide hm
  have HT3 := hide (HT2.out.trans_new ht (by simp; omega))
  have hv0 : w3.cell? ⟨w.heap.size, 0, none⟩ = some (.int .i64 v0) := by rw [HT3.out.cell HSZ.out (by simp)]; exact HV0.out
  have hv1 : w3.cell? ⟨w.heap.size, 1, none⟩ = some (.int .i64 v1) := by rw [HT3.out.cell HSZ.out (by simp)]; exact HV1.out
  clear hm ht HM2
  go_wp2_with fail
  refine (words_mem p q L _ 0 30 w3 (by rw [hL.out]; omega) HM3.out).mono ?_
  rw [words_30 L hL.out]
  rintro e w4 ⟨v, rfl, hown, ht⟩
  obtain ⟨-, ao, c4, rfl, hcl⟩ := ownsRow_any hown
  have HC4 := hide hcl
  have HM4 := hide (HM3.out.turned ht (by simp) (by simp))
  rw [hL.out]
  have HT4 := hide (HT3.out.trans ht)
  have hv0 : w4.cell? ⟨w.heap.size, 0, none⟩ = some (.int .i64 v0) := by rw [HT4.out.cell HSZ.out (by simp)]; exact HV0.out
  have hv1 : w4.cell? ⟨w.heap.size, 1, none⟩ = some (.int .i64 v1) := by rw [HT4.out.cell HSZ.out (by simp)]; exact HV1.out
  have HU4 := hide (Turned.refl [p, q] w4)
  have hpl := HM3.out.ltp
  have hql := HM3.out.ltq
  clear hown ht hcl HM3
  obtain ⟨x, hx⟩ : ∃ x, L[k]? = some x := ⟨_, List.getElem?_eq_getElem (by rw [hL.out]; exact hk)⟩
  have hs : ∀ y, (L.set k y)[k]? = some y := fun y => by rw [List.getElem?_set_self (by rw [hL.out]; exact hk)]
  have HX := hide hx
  have HS := hide hs
  clear hx hs
  go_wp2_with fail
  rw [HK.out]
  refine (store_in p q L _ w4 k x v0 HX.out HM4.out).mono ?_
  rintro e w5 ⟨rfl, hm, ht⟩
  have HM5 := hide hm
  have HT5 := hide (HT4.out.trans_new ht (by simp; omega))
  have hv0 : w5.cell? ⟨w.heap.size, 0, none⟩ = some (.int .i64 v0) := by rw [HT5.out.cell HSZ.out (by simp)]; exact HV0.out
  have hv1 : w5.cell? ⟨w.heap.size, 1, none⟩ = some (.int .i64 v1) := by rw [HT5.out.cell HSZ.out (by simp)]; exact HV1.out
  have HU5 := hide (HU4.out.trans ht)
  clear hm ht HM4 HU4
  go_wp2_with fail
  refine (swap_hit p q (L.set k v0) _ w5 k v0 v1 (HS.out v0) HM5.out).mono ?_
  rintro e w6 ⟨rfl, hm, ht⟩
  rw [List.set_set] at hm
  have HM6 := hide hm
  have HT6 := hide (HT5.out.trans_new ht (by simp; omega))
  have hv0 : w6.cell? ⟨w.heap.size, 0, none⟩ = some (.int .i64 v0) := by rw [HT6.out.cell HSZ.out (by simp)]; exact HV0.out
  have hv1 : w6.cell? ⟨w.heap.size, 1, none⟩ = some (.int .i64 v1) := by rw [HT6.out.cell HSZ.out (by simp)]; exact HV1.out
  have HU6 := hide (HU5.out.trans ht)
  clear hm ht HM5 HU5
  go_wp2_with fail
  refine (add_in p q (L.set k v1) _ w6 k v1 v0 (HS.out v1) HM6.out).mono ?_
  rintro e w7 ⟨rfl, hm, ht⟩
  rw [List.set_set] at hm
  have HM7 := hide hm
  have HT7 := hide (HT6.out.trans_new ht (by simp; omega))
  have hv0 : w7.cell? ⟨w.heap.size, 0, none⟩ = some (.int .i64 v0) := by rw [HT7.out.cell HSZ.out (by simp)]; exact HV0.out
  have hv1 : w7.cell? ⟨w.heap.size, 1, none⟩ = some (.int .i64 v1) := by rw [HT7.out.cell HSZ.out (by simp)]; exact HV1.out
  have HU7 := hide (HU6.out.trans ht)
  clear hm ht HM6 HU6
  go_wp2_with fail
  refine (load_in p q (L.set k (wrap64 (v1 + v0))) _ w7 k (wrap64 (v1 + v0)) (HS.out _) HM7.out).mono ?_
  rintro e w8 ⟨rfl, hm, ht⟩
  have HM8 := hide hm
  have HT8 := hide (HT7.out.trans_new ht (by simp; omega))
  have hv0 : w8.cell? ⟨w.heap.size, 0, none⟩ = some (.int .i64 v0) := by rw [HT8.out.cell HSZ.out (by simp)]; exact HV0.out
  have hv1 : w8.cell? ⟨w.heap.size, 1, none⟩ = some (.int .i64 v1) := by rw [HT8.out.cell HSZ.out (by simp)]; exact HV1.out
  have HU8 := hide (HU7.out.trans ht)
  clear hm ht HM7 HU7
  have hL2 : Hid ((L.set k (wrap64 (v1 + v0))).length = 30) := by show _ = _; rw [List.length_set, hL.out]
  go_wp2_with fail
  refine (words_mem p q (L.set k (wrap64 (v1 + v0))) _ 0 30 w8 (by rw [hL2.out]; omega) HM8.out).mono ?_
  rw [words_30 (L.set k (wrap64 (v1 + v0))) hL2.out]
  rintro e w9 ⟨v, rfl, hown, ht⟩
  obtain ⟨-, an, c9, rfl, hcm⟩ := ownsRow_any hown
  have HC9 := hide hcm
  have HM9 := hide (HM8.out.turned ht (by simp) (by simp))
  rw [hL2.out]
  have HT9 := hide (HT8.out.trans ht)
  have hv0 : w9.cell? ⟨w.heap.size, 0, none⟩ = some (.int .i64 v0) := by rw [HT9.out.cell HSZ.out (by simp)]; exact HV0.out
  have hv1 : w9.cell? ⟨w.heap.size, 1, none⟩ = some (.int .i64 v1) := by rw [HT9.out.cell HSZ.out (by simp)]; exact HV1.out
  have HU9 := hide (HU8.out.trans (ht.mono (T := [p, q]) (by simp)))
  clear hown ht hcm HM8
  obtain ⟨g, rfl, -, -, hck, -⟩ := HC9.out k _ (HS.out _)
  have hki : (k : Int) < 30 := by omega
  go_wp2_with fail
  go_quiet (fail)
  go_wp2_with fail
  go_loopw [12] (fun i wr => ∃ (j m : Nat), j ≤ 30 ∧ i = .int .i64 j ∧ Hid (wr = w9.drewN m)) (fun i _ => 30 - (intOf i).toNat)
  case atStart => exact ⟨0, _, Nat.zero_le _, rfl, rfl⟩
  case round =>
    obtain ⟨j, m, hj, rfl, HW⟩ := hrel
    have hw := HW.out
    clear HW
    subst hw
    by_cases hlt : j < 30
    · have hji : (j : Int) < 30 := by omega
      by_cases hjk : j = k
      · subst hjk
        have hd : ((j : Int) != (j : Int)) = false := by simp
        go_wp2_with fail
        go_quiet (fail)
        go_wp2_with fail
        go_roundw
        case rel => exact ⟨j + 1, _, by omega, by go_num, rfl⟩
        case measure => simp [intOf]; omega
      · have hd : ((j : Int) != (k : Int)) = true := by rw [bne_iff_ne]; omega
        obtain ⟨z, hz⟩ : ∃ z, L[j]? = some z := ⟨_, List.getElem?_eq_getElem (by rw [hL.out]; exact hlt)⟩
        have hz2 : (L.set k (wrap64 (v1 + v0)))[j]? = some z := by rw [List.getElem?_set_ne (by omega)]; exact hz
        obtain ⟨g4, rfl, hg1, hg2, hc4, -⟩ := HC4.out j z hz
        obtain ⟨g9, hge, -, -, hc9, -⟩ := HC9.out j z hz2
        simp only [Option.some.injEq, Addr.mk.injEq, and_true] at hge
        subst hge
        have hc49 : w9.cell? ⟨g4, j, none⟩ = some (.int .i64 z) := by rw [HU9.out.cell hg2 (by simp; omega)]; exact hc4
        clear hz hz2 hc4 hg1 hg2
        go_wp2_with fail
        go_quiet (fail)
        go_wp2_with fail
        go_roundw
        case rel => exact ⟨j + 1, _, by omega, by go_num, rfl⟩
        case measure => simp [intOf]; omega
    · go_wp2_with fail
      go_ret
      exact ⟨rfl, (HTW.out.trans HT9.out).drewN _⟩

theorem cellsApart_walk (a : Option Addr) (len cap : Nat) (zs : List Int) (t v0 v1 : Int) (w : World) (h : IsRow .i64 w a len cap zs) (wt : (Lit.int .i64 t).wf = true) :
    Calls Try.prog 7 #[.slice a len cap, .int .i64 t, .agg #[.int .i64 v0, .int .i64 v1]] w fun e w' => e = .returned (.bool true) ∧ Turned [] w w' := by
  have hcap : len ≤ cap ∧ cap ≤ 9223372036854775807 := by
    rcases h with ⟨_, h1, h2, _⟩ | ⟨_, _, h1, h2, _⟩
    · omega
    · unfold maxLen at h2; omega
  have hb := bounds_i64 wt
  have h30 : 30 < len → IsRow .i64 w a 30 cap zs := by
    intro hl
    rcases h with ⟨_, h1, _, _⟩ | ⟨x, h1, h2, h3⟩
    · omega
    · exact .inr ⟨x, h1, by omega, h3⟩
  by_cases c1 : t < 0
  · by_cases c2 : 30 < len
    · exact apart_nb t v0 v1 a len cap zs w (by omega) c2 (h30 c2) hcap.1 hcap.2 c1 hb.1 hb.2
    · exact apart_ns t v0 v1 a len cap zs w (by omega) c2 h hcap.1 hcap.2 c1 hb.1 hb.2
  · by_cases c2 : 30 < len
    · exact apart_pb t v0 v1 a len cap zs w (by omega) c2 (h30 c2) hcap.1 hcap.2 c1 hb.1 hb.2
    · exact apart_ps t v0 v1 a len cap zs w (by omega) c2 h hcap.1 hcap.2 c1 hb.1 hb.2
end Go.Proofs.Ythkdikdhceibnaa
