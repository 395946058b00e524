/-
  The statement CellsPuts is proved: for every number of cells, every place and every list of words the law returns true and the list reads as before; no condition.
-/
import Derived.Test.YthkdikdhceibnaaCellsAwake
import Derived.Test.YthkdikdhceibnaaCellsPutAny
namespace Go.Proofs.Ythkdikdhceibnaa
open Go.RowKit Go.ChangeShapes Go.WideShapes Go.ChangeAt
set_option linter.unusedVariables false

theorem tmod41 (x : Int) : -40 ≤ x.tmod 41 ∧ x.tmod 41 ≤ 40 := by
  have h1 := Int.tmod_lt_of_pos x (show (0 : Int) < 41 by decide)
  have h2 := Int.lt_tmod_of_pos x (show (0 : Int) < 41 by decide)
  omega
theorem words_all (l : List Int) (n : Nat) (h : l.length = n) : ((l.take (min (max (n : Int) 0) l.length).toNat).drop (min (max 0 0) (l.length : Int)).toNat) = l := by
  rw [show (min (max (n : Int) 0) l.length).toNat = l.length by omega, show (min (max 0 0) (l.length : Int)).toNat = 0 by omega]
  simp
theorem putL_zeros (n : Nat) (t : Int) (m : List Int) (i : Nat) (x : Int) (h : (putL (List.replicate n 0) t m)[i]? = some x) :
    x = if 0 ≤ t ∧ t + m.length ≤ n ∧ t ≤ i ∧ (i : Int) < t + m.length then m.getD (i - t.toNat) 0 else 0 := by
  have hn : (putL (List.replicate n 0) t m).length = n := by rw [putL_length]; simp
  have hi : i < n := by have := (List.getElem?_eq_some_iff.1 h).1; omega
  unfold putL at h
  rw [List.length_replicate] at h
  split at h
  · rename_i hf
    rw [over_get _ _ _ (by simp; omega)] at h
    split at h
    · rw [if_pos (by omega), List.getD_eq_getElem?_getD, h]
      rfl
    · rw [if_neg (by omega)]
      rw [List.getElem?_replicate, if_pos hi] at h
      injection h with h
      exact h.symm
  · rw [if_neg (by omega)]
    rw [List.getElem?_replicate, if_pos hi] at h
    injection h with h
    exact h.symm

set_option maxRecDepth 100000 in
theorem puts_na (words : Int) (t : Int) (n : Nat) (a : Option Addr) (len cap : Nat) (zs : List Int) (w : World) (hn2 : n ≤ 40) (hlen : len ≤ 9223372036854775807) (hzl : (zs.take len).length = len) (h : IsRow .i64 w a len cap zs) (hw : words.tmod 41 < 0) (hn1 : Hid (wrap64 (-words.tmod 41) = n)) (hf : t < 0) :
    Calls Try.prog 8 #[.int .i64 words, .int .i64 t, .slice a len cap] w fun e w' => e = .returned (.bool true) ∧ Turned [] w w' := by
  have HR := hide h
  have HZL := hide hzl
  clear h hzl
  go_enter Try.func8, Try.ntmps8
  go_wp2_with fail
  refine (awake_true _).mono ?_
  rintro e w1 ⟨rfl, ht1⟩
  have HT := hide ht1
  clear ht1
  go_wp2_with fail
  rw [hn1.out]
  refine (new_any _ _).mono ?_
  rw [show min (max (n : Int) 0) 65536 = n by omega, Int.toNat_natCast]
  rintro e w2 ⟨rfl, hm, ht, -⟩
  have HM := hide hm
  have HT2 := hide (HT.out.trans ht)
  have hp := HT.out.size
  have hq : w1.heap.size + 1 ≠ w1.heap.size := by omega
  have hpp : w.heap.size ≤ w1.heap.size + 1 := by omega
  clear hm ht HT
  generalize w1.heap.size + 1 = p at *
  generalize w1.heap.size = q at *
  clear w1
  go_wp2_with fail
  refine (put_any p q _ 0 t a len cap zs w2 (by simp; omega) HM.out (HR.out.below HT2.out.below0)).mono ?_
  have he : Hid (putE (List.replicate n 0) t (zs.take len) = 10) := by show _ = _; unfold putE; rw [List.length_replicate, HZL.out, if_neg (by omega)]
  have hL : Hid ((putL (List.replicate n 0) t (zs.take len)).length = n) := by show _ = _; rw [putL_length]; simp
  have HX := hide (putL_zeros n t (zs.take len))
  rw [he.out]
  generalize putL (List.replicate n 0) t (zs.take len) = L at *
  rintro e w3 ⟨rfl, hm, ht⟩
  have HM3 := hide hm
  have HT3 := hide (HT2.out.trans_new ht (by simp; omega))
  clear hm ht HM HT2 he
  go_wp2_with fail
  refine (words_mem p q L 0 0 n w3 (by rw [hL.out]; omega) HM3.out).mono ?_
  rw [words_all L n hL.out]
  rintro e w4 ⟨v, rfl, hown, ht⟩
  obtain ⟨-, ao, c2, rfl, hcl⟩ := ownsRow_any hown
  have HC := hide hcl
  have HM4 := hide (HM3.out.turned ht (by simp) (by simp))
  have HT4 := hide (HT3.out.trans ht)
  rw [hL.out]
  clear hown ht hcl HM3 HT3
  go_wp2_with (go_at_call 26; refine (steps_mem _ _ _ _ _ HM4.out).mono ?_; rintro e wx ⟨rfl, rfl⟩)
  go_loop [13] (fun i => ∃ k : Nat, k ≤ n ∧ i = .int .i64 k) (fun i => n - (intOf i).toNat)
  case atStart => exact ⟨0, Nat.zero_le _, rfl⟩
  case round =>
    obtain ⟨k, hk, rfl⟩ := hrel
    by_cases hlt : k < n
    · obtain ⟨x, hx⟩ : ∃ x, L[k]? = some x := ⟨_, List.getElem?_eq_getElem (by rw [hL.out]; exact hlt)⟩
      have HV := hide (HX.out k x hx)
      obtain ⟨g, rfl, hg1, hg2, hc, -⟩ := HC.out k x hx
      clear hx hg1 hg2
      have hx0 : Hid (x = 0) := by show _ = _; rw [HV.out, if_neg (by rw [HZL.out]; omega)]
      rw [hx0.out] at hc
      go_wp2
      go_round
      case rel => exact ⟨k + 1, by omega, by go_num⟩
      case measure => simp [intOf]; omega
    · go_wp2
      go_ret
      exact ⟨rfl, HT4.out⟩

set_option maxRecDepth 100000 in
theorem puts_nb (words : Int) (t : Int) (n : Nat) (a : Option Addr) (len cap : Nat) (zs : List Int) (w : World) (hn2 : n ≤ 40) (hlen : len ≤ 9223372036854775807) (hzl : (zs.take len).length = len) (h : IsRow .i64 w a len cap zs) (hw : words.tmod 41 < 0) (hn1 : Hid (wrap64 (-words.tmod 41) = n)) (hf0 : 0 ≤ t) (hf : (n : Int) < t) :
    Calls Try.prog 8 #[.int .i64 words, .int .i64 t, .slice a len cap] w fun e w' => e = .returned (.bool true) ∧ Turned [] w w' := by
  have HR := hide h
  have HZL := hide hzl
  clear h hzl
  go_enter Try.func8, Try.ntmps8
  go_wp2_with fail
  refine (awake_true _).mono ?_
  rintro e w1 ⟨rfl, ht1⟩
  have HT := hide ht1
  clear ht1
  go_wp2_with fail
  rw [hn1.out]
  refine (new_any _ _).mono ?_
  rw [show min (max (n : Int) 0) 65536 = n by omega, Int.toNat_natCast]
  rintro e w2 ⟨rfl, hm, ht, -⟩
  have HM := hide hm
  have HT2 := hide (HT.out.trans ht)
  have hp := HT.out.size
  have hq : w1.heap.size + 1 ≠ w1.heap.size := by omega
  have hpp : w.heap.size ≤ w1.heap.size + 1 := by omega
  clear hm ht HT
  generalize w1.heap.size + 1 = p at *
  generalize w1.heap.size = q at *
  clear w1
  go_wp2_with fail
  refine (put_any p q _ 0 t a len cap zs w2 (by simp; omega) HM.out (HR.out.below HT2.out.below0)).mono ?_
  have he : Hid (putE (List.replicate n 0) t (zs.take len) = 10) := by show _ = _; unfold putE; rw [List.length_replicate, HZL.out, if_neg (by omega)]
  have hL : Hid ((putL (List.replicate n 0) t (zs.take len)).length = n) := by show _ = _; rw [putL_length]; simp
  have HX := hide (putL_zeros n t (zs.take len))
  rw [he.out]
  generalize putL (List.replicate n 0) t (zs.take len) = L at *
  rintro e w3 ⟨rfl, hm, ht⟩
  have HM3 := hide hm
  have HT3 := hide (HT2.out.trans_new ht (by simp; omega))
  clear hm ht HM HT2 he
  go_wp2_with fail
  refine (words_mem p q L 0 0 n w3 (by rw [hL.out]; omega) HM3.out).mono ?_
  rw [words_all L n hL.out]
  rintro e w4 ⟨v, rfl, hown, ht⟩
  obtain ⟨-, ao, c2, rfl, hcl⟩ := ownsRow_any hown
  have HC := hide hcl
  have HM4 := hide (HM3.out.turned ht (by simp) (by simp))
  have HT4 := hide (HT3.out.trans ht)
  rw [hL.out]
  clear hown ht hcl HM3 HT3
  go_wp2_with (go_at_call 26; refine (steps_mem _ _ _ _ _ HM4.out).mono ?_; rintro e wx ⟨rfl, rfl⟩)
  go_loop [13] (fun i => ∃ k : Nat, k ≤ n ∧ i = .int .i64 k) (fun i => n - (intOf i).toNat)
  case atStart => exact ⟨0, Nat.zero_le _, rfl⟩
  case round =>
    obtain ⟨k, hk, rfl⟩ := hrel
    by_cases hlt : k < n
    · obtain ⟨x, hx⟩ : ∃ x, L[k]? = some x := ⟨_, List.getElem?_eq_getElem (by rw [hL.out]; exact hlt)⟩
      have HV := hide (HX.out k x hx)
      obtain ⟨g, rfl, hg1, hg2, hc, -⟩ := HC.out k x hx
      clear hx hg1 hg2
      have hx0 : Hid (x = 0) := by show _ = _; rw [HV.out, if_neg (by rw [HZL.out]; omega)]
      rw [hx0.out] at hc
      go_wp2
      go_round
      case rel => exact ⟨k + 1, by omega, by go_num⟩
      case measure => simp [intOf]; omega
    · go_wp2
      go_ret
      exact ⟨rfl, HT4.out⟩

set_option maxRecDepth 100000 in
theorem puts_nc (words : Int) (t : Int) (n : Nat) (a : Option Addr) (len cap : Nat) (zs : List Int) (w : World) (hn2 : n ≤ 40) (hlen : len ≤ 9223372036854775807) (hzl : (zs.take len).length = len) (h : IsRow .i64 w a len cap zs) (hw : words.tmod 41 < 0) (hn1 : Hid (wrap64 (-words.tmod 41) = n)) (hf0 : 0 ≤ t) (hf1 : t ≤ n) (hf : (n : Int) - t < len) :
    Calls Try.prog 8 #[.int .i64 words, .int .i64 t, .slice a len cap] w fun e w' => e = .returned (.bool true) ∧ Turned [] w w' := by
  have HR := hide h
  have HZL := hide hzl
  clear h hzl
  go_enter Try.func8, Try.ntmps8
  go_wp2_with fail
  refine (awake_true _).mono ?_
  rintro e w1 ⟨rfl, ht1⟩
  have HT := hide ht1
  clear ht1
  go_wp2_with fail
  rw [hn1.out]
  refine (new_any _ _).mono ?_
  rw [show min (max (n : Int) 0) 65536 = n by omega, Int.toNat_natCast]
  rintro e w2 ⟨rfl, hm, ht, -⟩
  have HM := hide hm
  have HT2 := hide (HT.out.trans ht)
  have hp := HT.out.size
  have hq : w1.heap.size + 1 ≠ w1.heap.size := by omega
  have hpp : w.heap.size ≤ w1.heap.size + 1 := by omega
  clear hm ht HT
  generalize w1.heap.size + 1 = p at *
  generalize w1.heap.size = q at *
  clear w1
  go_wp2_with fail
  refine (put_any p q _ 0 t a len cap zs w2 (by simp; omega) HM.out (HR.out.below HT2.out.below0)).mono ?_
  have he : Hid (putE (List.replicate n 0) t (zs.take len) = 10) := by show _ = _; unfold putE; rw [List.length_replicate, HZL.out, if_neg (by omega)]
  have hL : Hid ((putL (List.replicate n 0) t (zs.take len)).length = n) := by show _ = _; rw [putL_length]; simp
  have HX := hide (putL_zeros n t (zs.take len))
  rw [he.out]
  generalize putL (List.replicate n 0) t (zs.take len) = L at *
  rintro e w3 ⟨rfl, hm, ht⟩
  have HM3 := hide hm
  have HT3 := hide (HT2.out.trans_new ht (by simp; omega))
  clear hm ht HM HT2 he
  go_wp2_with fail
  refine (words_mem p q L 0 0 n w3 (by rw [hL.out]; omega) HM3.out).mono ?_
  rw [words_all L n hL.out]
  rintro e w4 ⟨v, rfl, hown, ht⟩
  obtain ⟨-, ao, c2, rfl, hcl⟩ := ownsRow_any hown
  have HC := hide hcl
  have HM4 := hide (HM3.out.turned ht (by simp) (by simp))
  have HT4 := hide (HT3.out.trans ht)
  rw [hL.out]
  clear hown ht hcl HM3 HT3
  go_wp2_with (go_at_call 26; refine (steps_mem _ _ _ _ _ HM4.out).mono ?_; rintro e wx ⟨rfl, rfl⟩)
  go_loop [13] (fun i => ∃ k : Nat, k ≤ n ∧ i = .int .i64 k) (fun i => n - (intOf i).toNat)
  case atStart => exact ⟨0, Nat.zero_le _, rfl⟩
  case round =>
    obtain ⟨k, hk, rfl⟩ := hrel
    by_cases hlt : k < n
    · obtain ⟨x, hx⟩ : ∃ x, L[k]? = some x := ⟨_, List.getElem?_eq_getElem (by rw [hL.out]; exact hlt)⟩
      have HV := hide (HX.out k x hx)
      obtain ⟨g, rfl, hg1, hg2, hc, -⟩ := HC.out k x hx
      clear hx hg1 hg2
      have hx0 : Hid (x = 0) := by show _ = _; rw [HV.out, if_neg (by rw [HZL.out]; omega)]
      rw [hx0.out] at hc
      go_wp2
      go_round
      case rel => exact ⟨k + 1, by omega, by go_num⟩
      case measure => simp [intOf]; omega
    · go_wp2
      go_ret
      exact ⟨rfl, HT4.out⟩

set_option maxRecDepth 100000 in
theorem puts_nd (words : Int) (tn : Nat) (n : Nat) (a : Option Addr) (len cap : Nat) (zs : List Int) (w : World) (hn2 : n ≤ 40) (hlen : len ≤ 9223372036854775807) (hzl : (zs.take len).length = len) (h : IsRow .i64 w a len cap zs) (hw : words.tmod 41 < 0) (hn1 : Hid (wrap64 (-words.tmod 41) = n)) (hf1 : (tn : Int) ≤ n) (hf : (len : Int) ≤ n - tn) :
    Calls Try.prog 8 #[.int .i64 words, .int .i64 (tn : Int), .slice a len cap] w fun e w' => e = .returned (.bool true) ∧ Turned [] w w' := by
  have HR := hide h
  have HZL := hide hzl
  clear h hzl
  go_enter Try.func8, Try.ntmps8
  go_wp2_with fail
  refine (awake_true _).mono ?_
  rintro e w1 ⟨rfl, ht1⟩
  have HT := hide ht1
  clear ht1
  go_wp2_with fail
  rw [hn1.out]
  refine (new_any _ _).mono ?_
  rw [show min (max (n : Int) 0) 65536 = n by omega, Int.toNat_natCast]
  rintro e w2 ⟨rfl, hm, ht, -⟩
  have HM := hide hm
  have HT2 := hide (HT.out.trans ht)
  have hp := HT.out.size
  have hq : w1.heap.size + 1 ≠ w1.heap.size := by omega
  have hpp : w.heap.size ≤ w1.heap.size + 1 := by omega
  clear hm ht HT
  generalize w1.heap.size + 1 = p at *
  generalize w1.heap.size = q at *
  clear w1
  go_wp2_with fail
  refine (put_any p q _ 0 (tn : Int) a len cap zs w2 (by simp; omega) HM.out (HR.out.below HT2.out.below0)).mono ?_
  have he : Hid (putE (List.replicate n 0) (tn : Int) (zs.take len) = 0) := by show _ = _; unfold putE; rw [List.length_replicate, HZL.out, if_pos (by omega)]
  have hL : Hid ((putL (List.replicate n 0) (tn : Int) (zs.take len)).length = n) := by show _ = _; rw [putL_length]; simp
  have HX := hide (putL_zeros n (tn : Int) (zs.take len))
  rw [he.out]
  generalize putL (List.replicate n 0) (tn : Int) (zs.take len) = L at *
  rintro e w3 ⟨rfl, hm, ht⟩
  have HM3 := hide hm
  have HT3 := hide (HT2.out.trans_new ht (by simp; omega))
  clear hm ht HM HT2 he
  go_wp2_with fail
  refine (words_mem p q L 0 0 n w3 (by rw [hL.out]; omega) HM3.out).mono ?_
  rw [words_all L n hL.out]
  rintro e w4 ⟨v, rfl, hown, ht⟩
  obtain ⟨-, ao, c2, rfl, hcl⟩ := ownsRow_any hown
  have HC := hide hcl
  have HM4 := hide (HM3.out.turned ht (by simp) (by simp))
  have HT4 := hide (HT3.out.trans ht)
  rw [hL.out]
  clear hown ht hcl HM3 HT3
  go_wp2_with (go_at_call 26; refine (steps_mem _ _ _ _ _ HM4.out).mono ?_; rintro e wx ⟨rfl, rfl⟩)
  go_loop [13] (fun i => ∃ k : Nat, k ≤ n ∧ i = .int .i64 k) (fun i => n - (intOf i).toNat)
  case atStart => exact ⟨0, Nat.zero_le _, rfl⟩
  case round =>
    obtain ⟨k, hk, rfl⟩ := hrel
    by_cases hlt : k < n
    · obtain ⟨x, hx⟩ : ∃ x, L[k]? = some x := ⟨_, List.getElem?_eq_getElem (by rw [hL.out]; exact hlt)⟩
      have HV := hide (HX.out k x hx)
      obtain ⟨g, rfl, hg1, hg2, hc, -⟩ := HC.out k x hx
      clear hx hg1 hg2
      by_cases hin : tn ≤ k ∧ k < tn + len
      · obtain ⟨h1, h2⟩ := hin
        have hin1 : (tn : Int) ≤ k := by omega
        have hin2 : (k : Int) < tn + len := by omega
        have hx0 : Hid (x = zs.getD (k - tn) 0) := by
          show _ = _
          rw [HV.out, if_pos (by rw [HZL.out]; omega), Int.toNat_natCast, List.getD_eq_getElem?_getD, List.getD_eq_getElem?_getD, List.getElem?_take_of_lt (by omega)]
        rcases HR.out.cases with h0 | ⟨b, off, rfl, _, _, hb, hcr, _⟩
        · exfalso; omega
        have hcr1 : wx.cell? ⟨b, off + (k - tn), none⟩ = some (.int .i64 x) := by
          rw [HT4.out.cell hb (by simp), hcr _ (by omega), hx0.out]
        clear hcr
        go_wp2
        go_round
        case rel => exact ⟨k + 1, by omega, by go_num⟩
        case measure => simp [intOf]; omega
      · by_cases h1 : tn ≤ k
        · have hin1 : (tn : Int) ≤ k := by omega
          have hin2 : ¬ (k : Int) < tn + len := by omega
          have hx0 : Hid (x = 0) := by show _ = _; rw [HV.out, if_neg (by rw [HZL.out]; omega)]
          rw [hx0.out] at hc
          go_wp2
          go_round
          case rel => exact ⟨k + 1, by omega, by go_num⟩
          case measure => simp [intOf]; omega
        · have hin1 : ¬ (tn : Int) ≤ k := by omega
          have hx0 : Hid (x = 0) := by show _ = _; rw [HV.out, if_neg (by rw [HZL.out]; omega)]
          rw [hx0.out] at hc
          go_wp2
          go_round
          case rel => exact ⟨k + 1, by omega, by go_num⟩
          case measure => simp [intOf]; omega
    · go_wp2
      go_ret
      exact ⟨rfl, HT4.out⟩

set_option maxRecDepth 100000 in
theorem puts_pa (words : Int) (t : Int) (n : Nat) (a : Option Addr) (len cap : Nat) (zs : List Int) (w : World) (hn2 : n ≤ 40) (hlen : len ≤ 9223372036854775807) (hzl : (zs.take len).length = len) (h : IsRow .i64 w a len cap zs) (hw : ¬ words.tmod 41 < 0) (hn1 : Hid (words.tmod 41 = n)) (hf : t < 0) :
    Calls Try.prog 8 #[.int .i64 words, .int .i64 t, .slice a len cap] w fun e w' => e = .returned (.bool true) ∧ Turned [] w w' := by
  have HR := hide h
  have HZL := hide hzl
  clear h hzl
  go_enter Try.func8, Try.ntmps8
  go_wp2_with fail
  refine (awake_true _).mono ?_
  rintro e w1 ⟨rfl, ht1⟩
  have HT := hide ht1
  clear ht1
  go_wp2_with fail
  rw [hn1.out]
  refine (new_any _ _).mono ?_
  rw [show min (max (n : Int) 0) 65536 = n by omega, Int.toNat_natCast]
  rintro e w2 ⟨rfl, hm, ht, -⟩
  have HM := hide hm
  have HT2 := hide (HT.out.trans ht)
  have hp := HT.out.size
  have hq : w1.heap.size + 1 ≠ w1.heap.size := by omega
  have hpp : w.heap.size ≤ w1.heap.size + 1 := by omega
  clear hm ht HT
  generalize w1.heap.size + 1 = p at *
  generalize w1.heap.size = q at *
  clear w1
  go_wp2_with fail
  refine (put_any p q _ 0 t a len cap zs w2 (by simp; omega) HM.out (HR.out.below HT2.out.below0)).mono ?_
  have he : Hid (putE (List.replicate n 0) t (zs.take len) = 10) := by show _ = _; unfold putE; rw [List.length_replicate, HZL.out, if_neg (by omega)]
  have hL : Hid ((putL (List.replicate n 0) t (zs.take len)).length = n) := by show _ = _; rw [putL_length]; simp
  have HX := hide (putL_zeros n t (zs.take len))
  rw [he.out]
  generalize putL (List.replicate n 0) t (zs.take len) = L at *
  rintro e w3 ⟨rfl, hm, ht⟩
  have HM3 := hide hm
  have HT3 := hide (HT2.out.trans_new ht (by simp; omega))
  clear hm ht HM HT2 he
  go_wp2_with fail
  refine (words_mem p q L 0 0 n w3 (by rw [hL.out]; omega) HM3.out).mono ?_
  rw [words_all L n hL.out]
  rintro e w4 ⟨v, rfl, hown, ht⟩
  obtain ⟨-, ao, c2, rfl, hcl⟩ := ownsRow_any hown
  have HC := hide hcl
  have HM4 := hide (HM3.out.turned ht (by simp) (by simp))
  have HT4 := hide (HT3.out.trans ht)
  rw [hL.out]
  clear hown ht hcl HM3 HT3
  go_wp2_with (go_at_call 26; refine (steps_mem _ _ _ _ _ HM4.out).mono ?_; rintro e wx ⟨rfl, rfl⟩)
  go_loop [13] (fun i => ∃ k : Nat, k ≤ n ∧ i = .int .i64 k) (fun i => n - (intOf i).toNat)
  case atStart => exact ⟨0, Nat.zero_le _, rfl⟩
  case round =>
    obtain ⟨k, hk, rfl⟩ := hrel
    by_cases hlt : k < n
    · obtain ⟨x, hx⟩ : ∃ x, L[k]? = some x := ⟨_, List.getElem?_eq_getElem (by rw [hL.out]; exact hlt)⟩
      have HV := hide (HX.out k x hx)
      obtain ⟨g, rfl, hg1, hg2, hc, -⟩ := HC.out k x hx
      clear hx hg1 hg2
      have hx0 : Hid (x = 0) := by show _ = _; rw [HV.out, if_neg (by rw [HZL.out]; omega)]
      rw [hx0.out] at hc
      go_wp2
      go_round
      case rel => exact ⟨k + 1, by omega, by go_num⟩
      case measure => simp [intOf]; omega
    · go_wp2
      go_ret
      exact ⟨rfl, HT4.out⟩

set_option maxRecDepth 100000 in
theorem puts_pb (words : Int) (t : Int) (n : Nat) (a : Option Addr) (len cap : Nat) (zs : List Int) (w : World) (hn2 : n ≤ 40) (hlen : len ≤ 9223372036854775807) (hzl : (zs.take len).length = len) (h : IsRow .i64 w a len cap zs) (hw : ¬ words.tmod 41 < 0) (hn1 : Hid (words.tmod 41 = n)) (hf0 : 0 ≤ t) (hf : (n : Int) < t) :
    Calls Try.prog 8 #[.int .i64 words, .int .i64 t, .slice a len cap] w fun e w' => e = .returned (.bool true) ∧ Turned [] w w' := by
  have HR := hide h
  have HZL := hide hzl
  clear h hzl
  go_enter Try.func8, Try.ntmps8
  go_wp2_with fail
  refine (awake_true _).mono ?_
  rintro e w1 ⟨rfl, ht1⟩
  have HT := hide ht1
  clear ht1
  go_wp2_with fail
  rw [hn1.out]
  refine (new_any _ _).mono ?_
  rw [show min (max (n : Int) 0) 65536 = n by omega, Int.toNat_natCast]
  rintro e w2 ⟨rfl, hm, ht, -⟩
  have HM := hide hm
  have HT2 := hide (HT.out.trans ht)
  have hp := HT.out.size
  have hq : w1.heap.size + 1 ≠ w1.heap.size := by omega
  have hpp : w.heap.size ≤ w1.heap.size + 1 := by omega
  clear hm ht HT
  generalize w1.heap.size + 1 = p at *
  generalize w1.heap.size = q at *
  clear w1
  go_wp2_with fail
  refine (put_any p q _ 0 t a len cap zs w2 (by simp; omega) HM.out (HR.out.below HT2.out.below0)).mono ?_
  have he : Hid (putE (List.replicate n 0) t (zs.take len) = 10) := by show _ = _; unfold putE; rw [List.length_replicate, HZL.out, if_neg (by omega)]
  have hL : Hid ((putL (List.replicate n 0) t (zs.take len)).length = n) := by show _ = _; rw [putL_length]; simp
  have HX := hide (putL_zeros n t (zs.take len))
  rw [he.out]
  generalize putL (List.replicate n 0) t (zs.take len) = L at *
  rintro e w3 ⟨rfl, hm, ht⟩
  have HM3 := hide hm
  have HT3 := hide (HT2.out.trans_new ht (by simp; omega))
  clear hm ht HM HT2 he
  go_wp2_with fail
  refine (words_mem p q L 0 0 n w3 (by rw [hL.out]; omega) HM3.out).mono ?_
  rw [words_all L n hL.out]
  rintro e w4 ⟨v, rfl, hown, ht⟩
  obtain ⟨-, ao, c2, rfl, hcl⟩ := ownsRow_any hown
  have HC := hide hcl
  have HM4 := hide (HM3.out.turned ht (by simp) (by simp))
  have HT4 := hide (HT3.out.trans ht)
  rw [hL.out]
  clear hown ht hcl HM3 HT3
  go_wp2_with (go_at_call 26; refine (steps_mem _ _ _ _ _ HM4.out).mono ?_; rintro e wx ⟨rfl, rfl⟩)
  go_loop [13] (fun i => ∃ k : Nat, k ≤ n ∧ i = .int .i64 k) (fun i => n - (intOf i).toNat)
  case atStart => exact ⟨0, Nat.zero_le _, rfl⟩
  case round =>
    obtain ⟨k, hk, rfl⟩ := hrel
    by_cases hlt : k < n
    · obtain ⟨x, hx⟩ : ∃ x, L[k]? = some x := ⟨_, List.getElem?_eq_getElem (by rw [hL.out]; exact hlt)⟩
      have HV := hide (HX.out k x hx)
      obtain ⟨g, rfl, hg1, hg2, hc, -⟩ := HC.out k x hx
      clear hx hg1 hg2
      have hx0 : Hid (x = 0) := by show _ = _; rw [HV.out, if_neg (by rw [HZL.out]; omega)]
      rw [hx0.out] at hc
      go_wp2
      go_round
      case rel => exact ⟨k + 1, by omega, by go_num⟩
      case measure => simp [intOf]; omega
    · go_wp2
      go_ret
      exact ⟨rfl, HT4.out⟩

set_option maxRecDepth 100000 in
theorem puts_pc (words : Int) (t : Int) (n : Nat) (a : Option Addr) (len cap : Nat) (zs : List Int) (w : World) (hn2 : n ≤ 40) (hlen : len ≤ 9223372036854775807) (hzl : (zs.take len).length = len) (h : IsRow .i64 w a len cap zs) (hw : ¬ words.tmod 41 < 0) (hn1 : Hid (words.tmod 41 = n)) (hf0 : 0 ≤ t) (hf1 : t ≤ n) (hf : (n : Int) - t < len) :
    Calls Try.prog 8 #[.int .i64 words, .int .i64 t, .slice a len cap] w fun e w' => e = .returned (.bool true) ∧ Turned [] w w' := by
  have HR := hide h
  have HZL := hide hzl
  clear h hzl
  go_enter Try.func8, Try.ntmps8
  go_wp2_with fail
  refine (awake_true _).mono ?_
  rintro e w1 ⟨rfl, ht1⟩
  have HT := hide ht1
  clear ht1
  go_wp2_with fail
  rw [hn1.out]
  refine (new_any _ _).mono ?_
  rw [show min (max (n : Int) 0) 65536 = n by omega, Int.toNat_natCast]
  rintro e w2 ⟨rfl, hm, ht, -⟩
  have HM := hide hm
  have HT2 := hide (HT.out.trans ht)
  have hp := HT.out.size
  have hq : w1.heap.size + 1 ≠ w1.heap.size := by omega
  have hpp : w.heap.size ≤ w1.heap.size + 1 := by omega
  clear hm ht HT
  generalize w1.heap.size + 1 = p at *
  generalize w1.heap.size = q at *
  clear w1
  go_wp2_with fail
  refine (put_any p q _ 0 t a len cap zs w2 (by simp; omega) HM.out (HR.out.below HT2.out.below0)).mono ?_
  have he : Hid (putE (List.replicate n 0) t (zs.take len) = 10) := by show _ = _; unfold putE; rw [List.length_replicate, HZL.out, if_neg (by omega)]
  have hL : Hid ((putL (List.replicate n 0) t (zs.take len)).length = n) := by show _ = _; rw [putL_length]; simp
  have HX := hide (putL_zeros n t (zs.take len))
  rw [he.out]
  generalize putL (List.replicate n 0) t (zs.take len) = L at *
  rintro e w3 ⟨rfl, hm, ht⟩
  have HM3 := hide hm
  have HT3 := hide (HT2.out.trans_new ht (by simp; omega))
  clear hm ht HM HT2 he
  go_wp2_with fail
  refine (words_mem p q L 0 0 n w3 (by rw [hL.out]; omega) HM3.out).mono ?_
  rw [words_all L n hL.out]
  rintro e w4 ⟨v, rfl, hown, ht⟩
  obtain ⟨-, ao, c2, rfl, hcl⟩ := ownsRow_any hown
  have HC := hide hcl
  have HM4 := hide (HM3.out.turned ht (by simp) (by simp))
  have HT4 := hide (HT3.out.trans ht)
  rw [hL.out]
  clear hown ht hcl HM3 HT3
  go_wp2_with (go_at_call 26; refine (steps_mem _ _ _ _ _ HM4.out).mono ?_; rintro e wx ⟨rfl, rfl⟩)
  go_loop [13] (fun i => ∃ k : Nat, k ≤ n ∧ i = .int .i64 k) (fun i => n - (intOf i).toNat)
  case atStart => exact ⟨0, Nat.zero_le _, rfl⟩
  case round =>
    obtain ⟨k, hk, rfl⟩ := hrel
    by_cases hlt : k < n
    · obtain ⟨x, hx⟩ : ∃ x, L[k]? = some x := ⟨_, List.getElem?_eq_getElem (by rw [hL.out]; exact hlt)⟩
      have HV := hide (HX.out k x hx)
      obtain ⟨g, rfl, hg1, hg2, hc, -⟩ := HC.out k x hx
      clear hx hg1 hg2
      have hx0 : Hid (x = 0) := by show _ = _; rw [HV.out, if_neg (by rw [HZL.out]; omega)]
      rw [hx0.out] at hc
      go_wp2
      go_round
      case rel => exact ⟨k + 1, by omega, by go_num⟩
      case measure => simp [intOf]; omega
    · go_wp2
      go_ret
      exact ⟨rfl, HT4.out⟩

set_option maxRecDepth 100000 in
theorem puts_pd (words : Int) (tn : Nat) (n : Nat) (a : Option Addr) (len cap : Nat) (zs : List Int) (w : World) (hn2 : n ≤ 40) (hlen : len ≤ 9223372036854775807) (hzl : (zs.take len).length = len) (h : IsRow .i64 w a len cap zs) (hw : ¬ words.tmod 41 < 0) (hn1 : Hid (words.tmod 41 = n)) (hf1 : (tn : Int) ≤ n) (hf : (len : Int) ≤ n - tn) :
    Calls Try.prog 8 #[.int .i64 words, .int .i64 (tn : Int), .slice a len cap] w fun e w' => e = .returned (.bool true) ∧ Turned [] w w' := by
  have HR := hide h
  have HZL := hide hzl
  clear h hzl
  go_enter Try.func8, Try.ntmps8
  go_wp2_with fail
  refine (awake_true _).mono ?_
  rintro e w1 ⟨rfl, ht1⟩
  have HT := hide ht1
  clear ht1
  go_wp2_with fail
  rw [hn1.out]
  refine (new_any _ _).mono ?_
  rw [show min (max (n : Int) 0) 65536 = n by omega, Int.toNat_natCast]
  rintro e w2 ⟨rfl, hm, ht, -⟩
  have HM := hide hm
  have HT2 := hide (HT.out.trans ht)
  have hp := HT.out.size
  have hq : w1.heap.size + 1 ≠ w1.heap.size := by omega
  have hpp : w.heap.size ≤ w1.heap.size + 1 := by omega
  clear hm ht HT
  generalize w1.heap.size + 1 = p at *
  generalize w1.heap.size = q at *
  clear w1
  go_wp2_with fail
  refine (put_any p q _ 0 (tn : Int) a len cap zs w2 (by simp; omega) HM.out (HR.out.below HT2.out.below0)).mono ?_
  have he : Hid (putE (List.replicate n 0) (tn : Int) (zs.take len) = 0) := by show _ = _; unfold putE; rw [List.length_replicate, HZL.out, if_pos (by omega)]
  have hL : Hid ((putL (List.replicate n 0) (tn : Int) (zs.take len)).length = n) := by show _ = _; rw [putL_length]; simp
  have HX := hide (putL_zeros n (tn : Int) (zs.take len))
  rw [he.out]
  generalize putL (List.replicate n 0) (tn : Int) (zs.take len) = L at *
  rintro e w3 ⟨rfl, hm, ht⟩
  have HM3 := hide hm
  have HT3 := hide (HT2.out.trans_new ht (by simp; omega))
  clear hm ht HM HT2 he
  go_wp2_with fail
  refine (words_mem p q L 0 0 n w3 (by rw [hL.out]; omega) HM3.out).mono ?_
  rw [words_all L n hL.out]
  rintro e w4 ⟨v, rfl, hown, ht⟩
  obtain ⟨-, ao, c2, rfl, hcl⟩ := ownsRow_any hown
  have HC := hide hcl
  have HM4 := hide (HM3.out.turned ht (by simp) (by simp))
  have HT4 := hide (HT3.out.trans ht)
  rw [hL.out]
  clear hown ht hcl HM3 HT3
  go_wp2_with (go_at_call 26; refine (steps_mem _ _ _ _ _ HM4.out).mono ?_; rintro e wx ⟨rfl, rfl⟩)
  go_loop [13] (fun i => ∃ k : Nat, k ≤ n ∧ i = .int .i64 k) (fun i => n - (intOf i).toNat)
  case atStart => exact ⟨0, Nat.zero_le _, rfl⟩
  case round =>
    obtain ⟨k, hk, rfl⟩ := hrel
    by_cases hlt : k < n
    · obtain ⟨x, hx⟩ : ∃ x, L[k]? = some x := ⟨_, List.getElem?_eq_getElem (by rw [hL.out]; exact hlt)⟩
      have HV := hide (HX.out k x hx)
      obtain ⟨g, rfl, hg1, hg2, hc, -⟩ := HC.out k x hx
      clear hx hg1 hg2
      by_cases hin : tn ≤ k ∧ k < tn + len
      · obtain ⟨h1, h2⟩ := hin
        have hin1 : (tn : Int) ≤ k := by omega
        have hin2 : (k : Int) < tn + len := by omega
        have hx0 : Hid (x = zs.getD (k - tn) 0) := by
          show _ = _
          rw [HV.out, if_pos (by rw [HZL.out]; omega), Int.toNat_natCast, List.getD_eq_getElem?_getD, List.getD_eq_getElem?_getD, List.getElem?_take_of_lt (by omega)]
        rcases HR.out.cases with h0 | ⟨b, off, rfl, _, _, hb, hcr, _⟩
        · exfalso; omega
        have hcr1 : wx.cell? ⟨b, off + (k - tn), none⟩ = some (.int .i64 x) := by
          rw [HT4.out.cell hb (by simp), hcr _ (by omega), hx0.out]
        clear hcr
        go_wp2
        go_round
        case rel => exact ⟨k + 1, by omega, by go_num⟩
        case measure => simp [intOf]; omega
      · by_cases h1 : tn ≤ k
        · have hin1 : (tn : Int) ≤ k := by omega
          have hin2 : ¬ (k : Int) < tn + len := by omega
          have hx0 : Hid (x = 0) := by show _ = _; rw [HV.out, if_neg (by rw [HZL.out]; omega)]
          rw [hx0.out] at hc
          go_wp2
          go_round
          case rel => exact ⟨k + 1, by omega, by go_num⟩
          case measure => simp [intOf]; omega
        · have hin1 : ¬ (tn : Int) ≤ k := by omega
          have hx0 : Hid (x = 0) := by show _ = _; rw [HV.out, if_neg (by rw [HZL.out]; omega)]
          rw [hx0.out] at hc
          go_wp2
          go_round
          case rel => exact ⟨k + 1, by omega, by go_num⟩
          case measure => simp [intOf]; omega
    · go_wp2
      go_ret
      exact ⟨rfl, HT4.out⟩

theorem cellsPuts_walk (words t : Int) (a : Option Addr) (len cap : Nat) (zs : List Int) (w : World) (_ : (Lit.int .i64 words).wf = true) (_ : (Lit.int .i64 t).wf = true) (h : IsRow .i64 w a len cap zs) :
    Calls Try.prog 8 #[.int .i64 words, .int .i64 t, .slice a len cap] w fun e w' => e = .returned (.bool true) ∧ Turned [] w w' := by
  have hm := tmod41 words
  have hzl : (zs.take len).length = len := by
    rcases h with ⟨_, h1, _, h2⟩ | ⟨x, _, h1, _, h2, _⟩
    · simp [h1]
    · simp; omega
  have hlen : len ≤ 9223372036854775807 := by
    rcases h.cases with h0 | ⟨_, _, _, _, h0, _⟩
    · omega
    · exact h0
  by_cases hw : words.tmod 41 < 0
  · obtain ⟨n, hn1, hn2⟩ : ∃ n : Nat, Hid (wrap64 (-words.tmod 41) = n) ∧ n ≤ 40 := by
      refine ⟨(-words.tmod 41).toNat, ?_, by omega⟩
      show _ = _
      unfold wrap64
      omega
    by_cases c1 : t < 0
    · exact puts_na words t n a len cap zs w hn2 hlen hzl h hw hn1 c1
    by_cases c2 : (n : Int) < t
    · exact puts_nb words t n a len cap zs w hn2 hlen hzl h hw hn1 (by omega) c2
    by_cases c3 : (n : Int) - t < len
    · exact puts_nc words t n a len cap zs w hn2 hlen hzl h hw hn1 (by omega) (by omega) c3
    obtain ⟨k, rfl⟩ := Int.eq_ofNat_of_zero_le (show 0 ≤ t by omega)
    exact puts_nd words k n a len cap zs w hn2 hlen hzl h hw hn1 (by omega) (by omega)
  · obtain ⟨n, hn1, hn2⟩ : ∃ n : Nat, Hid (words.tmod 41 = n) ∧ n ≤ 40 := by
      refine ⟨(words.tmod 41).toNat, ?_, by omega⟩
      show _ = _
      omega
    by_cases c1 : t < 0
    · exact puts_pa words t n a len cap zs w hn2 hlen hzl h hw hn1 c1
    by_cases c2 : (n : Int) < t
    · exact puts_pb words t n a len cap zs w hn2 hlen hzl h hw hn1 (by omega) c2
    by_cases c3 : (n : Int) - t < len
    · exact puts_pc words t n a len cap zs w hn2 hlen hzl h hw hn1 (by omega) (by omega) c3
    obtain ⟨k, rfl⟩ := Int.eq_ofNat_of_zero_le (show 0 ≤ t by omega)
    exact puts_pd words k n a len cap zs w hn2 hlen hzl h hw hn1 (by omega) (by omega)

set_option maxRecDepth 100000 in
theorem cellsPuts_lifted (os : Os) (started : os.Started) (H : Type) (enc : TypeId × Value → H) :
    ReturnsInHanded {} Try.checked os 8 .any (Rows.cellsPutsSpec.pre6 enc Try.prog Try.f8 Rows.cellsPutsRow.domain false) (Rows.cellsPutsSpec.post enc Try.prog Try.f8 false true false false) := by
  refine returnsInHanded_of_change (C := Try.checked) own started (by kernel_rfl) Try.func8
    (ChangeSpec.witness6 (enc := enc) (C := Try.checked) false ⟨#[], #[.int .i64 0, .int .i64 0, .slice none 0 0], []⟩ 8 (by kernel_rfl) (by kernel_rfl) (by kernel_rfl) (by kernel_rfl)) ?_
  intro W base args ds gs before hval0 hW hcnd _
  have hval : ∀ (j : Nat) t v, Try.f8.params[j]? = some t → args[j]? = some v → Value.okWide Try.prog W .any base t v := hval0
  have hW' := hW
  obtain ⟨p, q, hA0, hV, rfl, hfz, hnd⟩ := hW
  have hA : DataW.TrodAll enc Try.prog W 0 (fun _ => true) true Try.f8.params.toList args.toList ds p := hA0
  rw [Try.params8] at hA hval
  obtain ⟨v0, vs0, d0, ds0, p0, q0, hargs, rfl, rfl, h0, r0⟩ := trodAll_cons hA
  obtain ⟨v1, vs1, d1, ds1, p1, q1, rfl, rfl, rfl, h1, r1⟩ := trodAll_cons r0
  obtain ⟨v2, vs2, d2, ds2, p2, q2, rfl, rfl, rfl, h2, r2⟩ := trodAll_cons r1
  obtain ⟨rfl, rfl, rfl⟩ := trodAll_nil r2
  obtain rfl : args = #[v0, v1, v2] := by cases args; simp_all
  obtain ⟨rfl, rfl⟩ := trodVars_none hV
  obtain ⟨a0, rfl, rfl, rfl, w0⟩ := open_int Try.underlying3 (hval 0 3 v0 rfl rfl) h0
  obtain ⟨a1, rfl, rfl, rfl, w1⟩ := open_int Try.underlying3 (hval 1 3 v1 rfl rfl) h1
  obtain ⟨a2, len2, cap2, rfl⟩ := okWide_slice Try.underlying29 (hval 2 29 v2 rfl rfl)
  have k2 := h2
  have lt2 : ∀ x ∈ p2, x.block < W.heap.size := by obtain ⟨m, hm⟩ := k2; exact DataW.trod_lt m _ _ _ hm
  obtain ⟨z2, w2⟩ : ∃ zs, IsRow .i64 W a2 len2 cap2 zs := by
    obtain ⟨fuel, hf⟩ := h2
    rcases open_ints Try.underlying29 Try.underlying2 (by kernel_rfl) hf with ⟨hcs, _⟩ | ⟨x, l, c, zs, hcs, _, hl, hm, hz, _, hcell, hwz⟩
    · simp [Value.cells] at hcs
      obtain ⟨rfl, rfl, rfl⟩ := hcs
      exact ⟨[], .inl ⟨rfl, rfl, rfl, rfl⟩⟩
    · simp [Value.cells] at hcs
      obtain ⟨rfl, rfl, rfl⟩ := hcs
      exact ⟨zs, .inr ⟨_, rfl, hl, hm, by simpa using hz, hcell, hwz⟩⟩
  clear hA0 hval0
  refine (cellsPuts_walk a0 a1 a2 len2 cap2 z2 W w0 w1 w2).mono fun e W' ⟨he, ht⟩ => ?_
  subst he
  have bel : Below W.heap.size W W' := ht.below0
  exact ⟨_, rfl, _, _, _, [], _, [], hW', trodAll_mk1 (shut_bool Try.underlying4 _), (trodAll_cons_mk (shut_int Try.underlying3 w0) (trodAll_cons_mk (shut_int Try.underlying3 w1) (trodAll_cons_mk (Below.trod laidOut (by kernel_rfl) (of_decide_eq_true (by kernel_rfl)) k2 bel lt2) trodAll_mk0))), rfl, bel.frame _, fun h => by cases h⟩

theorem cellsPuts_over : Rows.cellsPutsRow.holds Try.pinned (OpenSpec.ofChange Rows.cellsPutsSpec) :=
  OpenClaim.holds_of_wide 8 Try.f8 rfl rfl rfl rfl rfl rfl rfl ⟨rfl, rfl, rfl, rfl, rfl⟩ rfl rfl rfl rfl rfl (by kernel_rfl) Try.func8 (by kernel_rfl)
    (of_decide_eq_true (by kernel_rfl)) (by unfold Func.isWrapper; first | (rw [if_pos (by decide +kernel)]; kernel_rfl) | (rw [if_neg (by decide +kernel)]; exact ⟨rfl, rfl⟩))
    (fun os started H enc _ => cellsPuts_lifted os started H enc)

theorem cellsPuts_holds : Rows.CellsPutsSaid := cellsPuts_over
end Go.Proofs.Ythkdikdhceibnaa
