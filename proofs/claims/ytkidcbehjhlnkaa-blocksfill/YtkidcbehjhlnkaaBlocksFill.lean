/-
  The statement BlocksFill is proved: for every two places and every word the law returns true and its arguments read as before; no condition.
-/
import Derived.Test.YtkidcbehjhlnkaaBlocksAwake
import Derived.Test.YtkidcbehjhlnkaaBlocksLaid
namespace Go.Proofs.Ytkidcbehjhlnkaa
open Go.RowKit Go.ChangeShapes Go.WideShapes Go.ChangeAt Go.Maps
set_option linter.unusedVariables false

/-- The first k of n words are x, the others 0. -/
def upTo (n k : Nat) (x : Int) : List Int := List.replicate k x ++ List.replicate (n - k) 0
theorem upTo_length {n k : Nat} (x : Int) (h : k ≤ n) : (upTo n k x).length = n := by simp [upTo]; omega
theorem upTo_put {n k : Nat} (x : Int) (h : k < n) : putL (upTo n k x) k [x] = upTo n (k + 1) x := by
  unfold putL
  rw [if_pos (by rw [upTo_length x (by omega)]; simp; omega), Int.toNat_natCast]
  obtain ⟨j, hj⟩ : ∃ j, n - k = j + 1 := ⟨n - k - 1, by omega⟩
  unfold over upTo
  rw [hj, show n - (k + 1) = j by omega, List.take_append_of_le_length (by simp), List.take_of_length_le (by simp), List.drop_append, List.drop_eq_nil_of_le (by simp)]
  rw [List.replicate_succ, List.replicate_succ']
  simp
theorem upTo_done (n : Nat) (x : Int) : upTo n n x = List.replicate n x := by simp [upTo]
theorem upTo_put_ok {n k : Nat} (x : Int) (h : k < n) : putE (upTo n k x) k [x] = 0 := by
  unfold putE
  rw [if_pos (by rw [upTo_length x (by omega)]; simp; omega)]
theorem words_full (l : List Int) (n : Nat) (h : l.length = n) : ((l.take (min (max (n : Int) 0) l.length).toNat).drop (min (max 0 0) (l.length : Int)).toNat) = l := by
  rw [show (min (max (n : Int) 0) l.length).toNat = l.length by omega, show (min (max 0 0) (l.length : Int)).toNat = 0 by omega]
  simp

set_option maxRecDepth 100000 in
theorem fill_a (f g x : Int) (w : World) (hx : In64 x) (h1 : f < 0) :
    Calls Try.prog 7 #[.int .i64 f, .int .i64 g, .int .i64 x] w fun e w' => e = .returned (.bool true) ∧ Turned [] w w' := by
  have heq : fillL (List.replicate 60 x) f g = List.replicate 60 x := by unfold fillL; rw [if_neg (by rw [List.length_replicate]; omega)]
  have HLen : Hid ((List.replicate 60 x).length = 60) := by show _ = _; simp
  have HWd : Hid (∀ (j : Nat) (y : Int), (List.replicate 60 x)[j]? = some y → y = x) := fun j y hy => by
    rw [List.getElem?_replicate] at hy
    split at hy
    · injection hy with hy; exact hy.symm
    · cases hy
  have HEq := hide heq
  clear heq
  have hN := new_any 60
  rw [show (List.replicate (min (max 60 0) 65536 : Int).toNat (0 : Int)) = upTo 60 0 x from by simp [upTo]; decide] at hN
  have HN := hide hN
  have HX := hide hx
  clear hN hx
  go_enter Try.func7, Try.ntmps7
  go_wp2_with fail
  refine (awake_true _).mono ?_
  rintro e w1 ⟨rfl, ht1⟩
  have HT1 := hide ht1
  clear ht1
  go_wp2_with fail
  refine (HN.out w1).mono ?_
  rintro e w2 ⟨rfl, hm, ht, -⟩
  have HM := hide hm
  have HT2 := hide (HT1.out.trans ht)
  have hs1 := HT1.out.size
  clear hm ht HN HT1
  have hp : w.heap.size ≤ w1.heap.size + 1 := by omega
  generalize w1.heap.size + 1 = p at *
  generalize w1.heap.size = q at *
  clear w1
  go_wp2_with fail
  go_loopw [9] (fun i wr => ∃ k : Nat, k ≤ 60 ∧ i = .int .i64 k ∧ Hid (Mem wr p q (upTo 60 k x) 0) ∧ Hid (Turned [] w wr)) (fun i _ => 60 - (intOf i).toNat)
  case atStart => exact ⟨0, Nat.zero_le _, rfl, HM, HT2⟩
  case round =>
    clear HM HT2
    obtain ⟨k, hk, rfl, HM, HT⟩ := hrel
    by_cases hlt : k < 60
    · have HP := hide (put_any p q (upTo 60 k x) 0 k _ 1 1 [x] (wr.alloc (.cells #[.int .i64 x] 2)) (by rw [upTo_length x hk]; omega) (HM.out.alloc _) (isRow_one wr x HX.out))
      rw [show ([x] : List Int).take 1 = [x] from rfl, upTo_put x hlt, upTo_put_ok x hlt] at HP
      have HTa := hide (HT.out.alloc (.cells #[.int .i64 x] 2))
      clear HM HT
      go_wp2_with fail
      refine HP.out.mono ?_
      rintro e w3 ⟨rfl, hm3, ht3⟩
      have HM3 := hide hm3
      have HT3 := hide (HTa.out.trans_new ht3 (by simp; omega))
      clear hm3 ht3 HTa HP
      go_wp2_with fail
      go_roundw
      case rel => exact ⟨k + 1, by omega, by go_num, HM3, HT3⟩
      case measure => simp [intOf]; omega
    · have hk60 : k = 60 := by omega
      subst hk60
      rw [upTo_done] at HM
      have HF := hide (bfill_mem p q (List.replicate 60 x) 0 f g wr (by simp) HM.out)
      rw [show fillE (List.replicate 60 x) f g = 10 by unfold fillE; rw [if_neg (by rw [List.length_replicate]; omega)], HEq.out] at HF
      clear HM
      go_wp2_with fail
      refine HF.out.mono ?_
      rintro e w3 ⟨rfl, hm3, ht3⟩
      have HM3 := hide hm3
      have HT3 := hide (HT.out.trans_new ht3 (by simp; omega))
      clear hm3 ht3 HT HF
      go_wp2_with fail
      refine (words_mem p q _ 0 0 60 w3 (by rw [HLen.out]; omega) HM3.out).mono ?_
      rw [show (60 : Int) = ((60 : Nat) : Int) from rfl, words_full _ 60 HLen.out]
      rintro e w4 ⟨v, rfl, hown, ht⟩
      obtain ⟨-, ao, c2, rfl, hcl⟩ := ownsInts_any hown
      have HC := hide hcl
      have HM4 := hide (HM3.out.turned ht (by simp) (by simp))
      have HT4 := hide (HT3.out.trans ht)
      rw [HLen.out]
      clear hown ht hcl HM3 HT3
      go_wp2_with fail
      go_loop [13] (fun i => ∃ k : Nat, k ≤ 60 ∧ i = .int .i64 k) (fun i => 60 - (intOf i).toNat)
      case atStart => exact ⟨0, Nat.zero_le _, rfl⟩
      case round =>
        obtain ⟨j, hj, rfl⟩ := hrel
        by_cases hlt2 : j < 60
        · obtain ⟨y, hy⟩ : ∃ y, (List.replicate 60 x)[j]? = some y := ⟨_, List.getElem?_eq_getElem (by rw [HLen.out]; exact hlt2)⟩
          obtain ⟨gg, rfl, -, -, hc, -⟩ := HC.out j y hy
          have HV := hide (HWd.out j y hy)
          clear hy
          have hv : y = x := HV.out 
          subst hv
          go_wp2_with fail
          go_round
          case rel => exact ⟨j + 1, by omega, by go_num⟩
          case measure => simp [intOf]; omega

        · go_wp2_with fail
          go_ret
          exact ⟨rfl, HT4.out⟩

set_option maxRecDepth 100000 in
theorem fill_b (f g x : Int) (w : World) (hx : In64 x) (h1 : 0 ≤ f) (h2 : g < f) :
    Calls Try.prog 7 #[.int .i64 f, .int .i64 g, .int .i64 x] w fun e w' => e = .returned (.bool true) ∧ Turned [] w w' := by
  have heq : fillL (List.replicate 60 x) f g = List.replicate 60 x := by unfold fillL; rw [if_neg (by rw [List.length_replicate]; omega)]
  have HLen : Hid ((List.replicate 60 x).length = 60) := by show _ = _; simp
  have HWd : Hid (∀ (j : Nat) (y : Int), (List.replicate 60 x)[j]? = some y → y = x) := fun j y hy => by
    rw [List.getElem?_replicate] at hy
    split at hy
    · injection hy with hy; exact hy.symm
    · cases hy
  have HEq := hide heq
  clear heq
  have hN := new_any 60
  rw [show (List.replicate (min (max 60 0) 65536 : Int).toNat (0 : Int)) = upTo 60 0 x from by simp [upTo]; decide] at hN
  have HN := hide hN
  have HX := hide hx
  clear hN hx
  go_enter Try.func7, Try.ntmps7
  go_wp2_with fail
  refine (awake_true _).mono ?_
  rintro e w1 ⟨rfl, ht1⟩
  have HT1 := hide ht1
  clear ht1
  go_wp2_with fail
  refine (HN.out w1).mono ?_
  rintro e w2 ⟨rfl, hm, ht, -⟩
  have HM := hide hm
  have HT2 := hide (HT1.out.trans ht)
  have hs1 := HT1.out.size
  clear hm ht HN HT1
  have hp : w.heap.size ≤ w1.heap.size + 1 := by omega
  generalize w1.heap.size + 1 = p at *
  generalize w1.heap.size = q at *
  clear w1
  go_wp2_with fail
  go_loopw [9] (fun i wr => ∃ k : Nat, k ≤ 60 ∧ i = .int .i64 k ∧ Hid (Mem wr p q (upTo 60 k x) 0) ∧ Hid (Turned [] w wr)) (fun i _ => 60 - (intOf i).toNat)
  case atStart => exact ⟨0, Nat.zero_le _, rfl, HM, HT2⟩
  case round =>
    clear HM HT2
    obtain ⟨k, hk, rfl, HM, HT⟩ := hrel
    by_cases hlt : k < 60
    · have HP := hide (put_any p q (upTo 60 k x) 0 k _ 1 1 [x] (wr.alloc (.cells #[.int .i64 x] 2)) (by rw [upTo_length x hk]; omega) (HM.out.alloc _) (isRow_one wr x HX.out))
      rw [show ([x] : List Int).take 1 = [x] from rfl, upTo_put x hlt, upTo_put_ok x hlt] at HP
      have HTa := hide (HT.out.alloc (.cells #[.int .i64 x] 2))
      clear HM HT
      go_wp2_with fail
      refine HP.out.mono ?_
      rintro e w3 ⟨rfl, hm3, ht3⟩
      have HM3 := hide hm3
      have HT3 := hide (HTa.out.trans_new ht3 (by simp; omega))
      clear hm3 ht3 HTa HP
      go_wp2_with fail
      go_roundw
      case rel => exact ⟨k + 1, by omega, by go_num, HM3, HT3⟩
      case measure => simp [intOf]; omega
    · have hk60 : k = 60 := by omega
      subst hk60
      rw [upTo_done] at HM
      have HF := hide (bfill_mem p q (List.replicate 60 x) 0 f g wr (by simp) HM.out)
      rw [show fillE (List.replicate 60 x) f g = 10 by unfold fillE; rw [if_neg (by rw [List.length_replicate]; omega)], HEq.out] at HF
      clear HM
      go_wp2_with fail
      refine HF.out.mono ?_
      rintro e w3 ⟨rfl, hm3, ht3⟩
      have HM3 := hide hm3
      have HT3 := hide (HT.out.trans_new ht3 (by simp; omega))
      clear hm3 ht3 HT HF
      go_wp2_with fail
      refine (words_mem p q _ 0 0 60 w3 (by rw [HLen.out]; omega) HM3.out).mono ?_
      rw [show (60 : Int) = ((60 : Nat) : Int) from rfl, words_full _ 60 HLen.out]
      rintro e w4 ⟨v, rfl, hown, ht⟩
      obtain ⟨-, ao, c2, rfl, hcl⟩ := ownsInts_any hown
      have HC := hide hcl
      have HM4 := hide (HM3.out.turned ht (by simp) (by simp))
      have HT4 := hide (HT3.out.trans ht)
      rw [HLen.out]
      clear hown ht hcl HM3 HT3
      go_wp2_with fail
      go_loop [13] (fun i => ∃ k : Nat, k ≤ 60 ∧ i = .int .i64 k) (fun i => 60 - (intOf i).toNat)
      case atStart => exact ⟨0, Nat.zero_le _, rfl⟩
      case round =>
        obtain ⟨j, hj, rfl⟩ := hrel
        by_cases hlt2 : j < 60
        · obtain ⟨y, hy⟩ : ∃ y, (List.replicate 60 x)[j]? = some y := ⟨_, List.getElem?_eq_getElem (by rw [HLen.out]; exact hlt2)⟩
          obtain ⟨gg, rfl, -, -, hc, -⟩ := HC.out j y hy
          have HV := hide (HWd.out j y hy)
          clear hy
          have hv : y = x := HV.out 
          subst hv
          go_wp2_with fail
          go_round
          case rel => exact ⟨j + 1, by omega, by go_num⟩
          case measure => simp [intOf]; omega

        · go_wp2_with fail
          go_ret
          exact ⟨rfl, HT4.out⟩

set_option maxRecDepth 100000 in
theorem fill_c (f g x : Int) (w : World) (hx : In64 x) (h1 : 0 ≤ f) (h2 : f ≤ g) (h3 : 60 < g) :
    Calls Try.prog 7 #[.int .i64 f, .int .i64 g, .int .i64 x] w fun e w' => e = .returned (.bool true) ∧ Turned [] w w' := by
  have heq : fillL (List.replicate 60 x) f g = List.replicate 60 x := by unfold fillL; rw [if_neg (by rw [List.length_replicate]; omega)]
  have HLen : Hid ((List.replicate 60 x).length = 60) := by show _ = _; simp
  have HWd : Hid (∀ (j : Nat) (y : Int), (List.replicate 60 x)[j]? = some y → y = x) := fun j y hy => by
    rw [List.getElem?_replicate] at hy
    split at hy
    · injection hy with hy; exact hy.symm
    · cases hy
  have HEq := hide heq
  clear heq
  have hN := new_any 60
  rw [show (List.replicate (min (max 60 0) 65536 : Int).toNat (0 : Int)) = upTo 60 0 x from by simp [upTo]; decide] at hN
  have HN := hide hN
  have HX := hide hx
  clear hN hx
  go_enter Try.func7, Try.ntmps7
  go_wp2_with fail
  refine (awake_true _).mono ?_
  rintro e w1 ⟨rfl, ht1⟩
  have HT1 := hide ht1
  clear ht1
  go_wp2_with fail
  refine (HN.out w1).mono ?_
  rintro e w2 ⟨rfl, hm, ht, -⟩
  have HM := hide hm
  have HT2 := hide (HT1.out.trans ht)
  have hs1 := HT1.out.size
  clear hm ht HN HT1
  have hp : w.heap.size ≤ w1.heap.size + 1 := by omega
  generalize w1.heap.size + 1 = p at *
  generalize w1.heap.size = q at *
  clear w1
  go_wp2_with fail
  go_loopw [9] (fun i wr => ∃ k : Nat, k ≤ 60 ∧ i = .int .i64 k ∧ Hid (Mem wr p q (upTo 60 k x) 0) ∧ Hid (Turned [] w wr)) (fun i _ => 60 - (intOf i).toNat)
  case atStart => exact ⟨0, Nat.zero_le _, rfl, HM, HT2⟩
  case round =>
    clear HM HT2
    obtain ⟨k, hk, rfl, HM, HT⟩ := hrel
    by_cases hlt : k < 60
    · have HP := hide (put_any p q (upTo 60 k x) 0 k _ 1 1 [x] (wr.alloc (.cells #[.int .i64 x] 2)) (by rw [upTo_length x hk]; omega) (HM.out.alloc _) (isRow_one wr x HX.out))
      rw [show ([x] : List Int).take 1 = [x] from rfl, upTo_put x hlt, upTo_put_ok x hlt] at HP
      have HTa := hide (HT.out.alloc (.cells #[.int .i64 x] 2))
      clear HM HT
      go_wp2_with fail
      refine HP.out.mono ?_
      rintro e w3 ⟨rfl, hm3, ht3⟩
      have HM3 := hide hm3
      have HT3 := hide (HTa.out.trans_new ht3 (by simp; omega))
      clear hm3 ht3 HTa HP
      go_wp2_with fail
      go_roundw
      case rel => exact ⟨k + 1, by omega, by go_num, HM3, HT3⟩
      case measure => simp [intOf]; omega
    · have hk60 : k = 60 := by omega
      subst hk60
      rw [upTo_done] at HM
      have HF := hide (bfill_mem p q (List.replicate 60 x) 0 f g wr (by simp) HM.out)
      rw [show fillE (List.replicate 60 x) f g = 10 by unfold fillE; rw [if_neg (by rw [List.length_replicate]; omega)], HEq.out] at HF
      clear HM
      go_wp2_with fail
      refine HF.out.mono ?_
      rintro e w3 ⟨rfl, hm3, ht3⟩
      have HM3 := hide hm3
      have HT3 := hide (HT.out.trans_new ht3 (by simp; omega))
      clear hm3 ht3 HT HF
      go_wp2_with fail
      refine (words_mem p q _ 0 0 60 w3 (by rw [HLen.out]; omega) HM3.out).mono ?_
      rw [show (60 : Int) = ((60 : Nat) : Int) from rfl, words_full _ 60 HLen.out]
      rintro e w4 ⟨v, rfl, hown, ht⟩
      obtain ⟨-, ao, c2, rfl, hcl⟩ := ownsInts_any hown
      have HC := hide hcl
      have HM4 := hide (HM3.out.turned ht (by simp) (by simp))
      have HT4 := hide (HT3.out.trans ht)
      rw [HLen.out]
      clear hown ht hcl HM3 HT3
      go_wp2_with fail
      go_loop [13] (fun i => ∃ k : Nat, k ≤ 60 ∧ i = .int .i64 k) (fun i => 60 - (intOf i).toNat)
      case atStart => exact ⟨0, Nat.zero_le _, rfl⟩
      case round =>
        obtain ⟨j, hj, rfl⟩ := hrel
        by_cases hlt2 : j < 60
        · obtain ⟨y, hy⟩ : ∃ y, (List.replicate 60 x)[j]? = some y := ⟨_, List.getElem?_eq_getElem (by rw [HLen.out]; exact hlt2)⟩
          obtain ⟨gg, rfl, -, -, hc, -⟩ := HC.out j y hy
          have HV := hide (HWd.out j y hy)
          clear hy
          have hv : y = x := HV.out 
          subst hv
          go_wp2_with fail
          go_round
          case rel => exact ⟨j + 1, by omega, by go_num⟩
          case measure => simp [intOf]; omega

        · go_wp2_with fail
          go_ret
          exact ⟨rfl, HT4.out⟩

set_option maxRecDepth 100000 in
theorem fill_d (f x : Int) (w : World) (hx : In64 x) (h1 : 0 ≤ f) (h3 : f ≤ 60) :
    Calls Try.prog 7 #[.int .i64 f, .int .i64 f, .int .i64 x] w fun e w' => e = .returned (.bool true) ∧ Turned [] w w' := by
  have heq : fillL (List.replicate 60 x) f f = List.replicate 60 x := by unfold fillL; rw [if_neg (by rw [List.length_replicate]; omega)]
  have HLen : Hid ((List.replicate 60 x).length = 60) := by show _ = _; simp
  have HWd : Hid (∀ (j : Nat) (y : Int), (List.replicate 60 x)[j]? = some y → y = x) := fun j y hy => by
    rw [List.getElem?_replicate] at hy
    split at hy
    · injection hy with hy; exact hy.symm
    · cases hy
  have HEq := hide heq
  clear heq
  have hN := new_any 60
  rw [show (List.replicate (min (max 60 0) 65536 : Int).toNat (0 : Int)) = upTo 60 0 x from by simp [upTo]; decide] at hN
  have HN := hide hN
  have HX := hide hx
  clear hN hx
  go_enter Try.func7, Try.ntmps7
  go_wp2_with fail
  refine (awake_true _).mono ?_
  rintro e w1 ⟨rfl, ht1⟩
  have HT1 := hide ht1
  clear ht1
  go_wp2_with fail
  refine (HN.out w1).mono ?_
  rintro e w2 ⟨rfl, hm, ht, -⟩
  have HM := hide hm
  have HT2 := hide (HT1.out.trans ht)
  have hs1 := HT1.out.size
  clear hm ht HN HT1
  have hp : w.heap.size ≤ w1.heap.size + 1 := by omega
  generalize w1.heap.size + 1 = p at *
  generalize w1.heap.size = q at *
  clear w1
  go_wp2_with fail
  go_loopw [9] (fun i wr => ∃ k : Nat, k ≤ 60 ∧ i = .int .i64 k ∧ Hid (Mem wr p q (upTo 60 k x) 0) ∧ Hid (Turned [] w wr)) (fun i _ => 60 - (intOf i).toNat)
  case atStart => exact ⟨0, Nat.zero_le _, rfl, HM, HT2⟩
  case round =>
    clear HM HT2
    obtain ⟨k, hk, rfl, HM, HT⟩ := hrel
    by_cases hlt : k < 60
    · have HP := hide (put_any p q (upTo 60 k x) 0 k _ 1 1 [x] (wr.alloc (.cells #[.int .i64 x] 2)) (by rw [upTo_length x hk]; omega) (HM.out.alloc _) (isRow_one wr x HX.out))
      rw [show ([x] : List Int).take 1 = [x] from rfl, upTo_put x hlt, upTo_put_ok x hlt] at HP
      have HTa := hide (HT.out.alloc (.cells #[.int .i64 x] 2))
      clear HM HT
      go_wp2_with fail
      refine HP.out.mono ?_
      rintro e w3 ⟨rfl, hm3, ht3⟩
      have HM3 := hide hm3
      have HT3 := hide (HTa.out.trans_new ht3 (by simp; omega))
      clear hm3 ht3 HTa HP
      go_wp2_with fail
      go_roundw
      case rel => exact ⟨k + 1, by omega, by go_num, HM3, HT3⟩
      case measure => simp [intOf]; omega
    · have hk60 : k = 60 := by omega
      subst hk60
      rw [upTo_done] at HM
      have HF := hide (bfill_mem p q (List.replicate 60 x) 0 f f wr (by simp) HM.out)
      rw [show fillE (List.replicate 60 x) f f = 0 by unfold fillE; rw [if_pos (by rw [List.length_replicate]; omega)], HEq.out] at HF
      clear HM
      go_wp2_with fail
      refine HF.out.mono ?_
      rintro e w3 ⟨rfl, hm3, ht3⟩
      have HM3 := hide hm3
      have HT3 := hide (HT.out.trans_new ht3 (by simp; omega))
      clear hm3 ht3 HT HF
      go_wp2_with fail
      refine (words_mem p q _ 0 0 60 w3 (by rw [HLen.out]; omega) HM3.out).mono ?_
      rw [show (60 : Int) = ((60 : Nat) : Int) from rfl, words_full _ 60 HLen.out]
      rintro e w4 ⟨v, rfl, hown, ht⟩
      obtain ⟨-, ao, c2, rfl, hcl⟩ := ownsInts_any hown
      have HC := hide hcl
      have HM4 := hide (HM3.out.turned ht (by simp) (by simp))
      have HT4 := hide (HT3.out.trans ht)
      rw [HLen.out]
      clear hown ht hcl HM3 HT3
      go_wp2_with fail
      go_loop [13] (fun i => ∃ k : Nat, k ≤ 60 ∧ i = .int .i64 k) (fun i => 60 - (intOf i).toNat)
      case atStart => exact ⟨0, Nat.zero_le _, rfl⟩
      case round =>
        obtain ⟨j, hj, rfl⟩ := hrel
        by_cases hlt2 : j < 60
        · obtain ⟨y, hy⟩ : ∃ y, (List.replicate 60 x)[j]? = some y := ⟨_, List.getElem?_eq_getElem (by rw [HLen.out]; exact hlt2)⟩
          obtain ⟨gg, rfl, -, -, hc, -⟩ := HC.out j y hy
          have HV := hide (HWd.out j y hy)
          clear hy
          by_cases hf : (j : Int) < f
          · have hv : y = x := HV.out 
            subst hv
            go_wp2_with fail
            go_round
            case rel => exact ⟨j + 1, by omega, by go_num⟩
            case measure => simp [intOf]; omega
          · have hv : y = x := HV.out 
            subst hv
            go_wp2_with fail
            go_round
            case rel => exact ⟨j + 1, by omega, by go_num⟩
            case measure => simp [intOf]; omega
        · go_wp2_with fail
          go_ret
          exact ⟨rfl, HT4.out⟩

set_option maxRecDepth 100000 in
theorem fill_e (f g x : Int) (w : World) (hx : In64 x) (h1 : 0 ≤ f) (h2 : f < g) (h3 : g ≤ 60) :
    Calls Try.prog 7 #[.int .i64 f, .int .i64 g, .int .i64 x] w fun e w' => e = .returned (.bool true) ∧ Turned [] w w' := by
  have HLen : Hid ((fillL (List.replicate 60 x) f g).length = 60) := by show _ = _; rw [fillL_length]; simp
  have HWd : Hid (∀ (j : Nat) (y : Int), (fillL (List.replicate 60 x) f g)[j]? = some y → ((j : Int) < f ∨ g ≤ (j : Int)) → y = x) := fun j y hy hj => by
    have h5 := fill_word (l := List.replicate 60 x) (f := f) (g := g) (j : Int) (.inr hj)
    rw [wordAt_nat, wordAt_nat, hy, List.getElem?_replicate] at h5
    split at h5
    · injection h5
    · cases h5
  have HRd := hide (read_fill (l := List.replicate 60 x) (cs := []) (f := f) (g := g) (by simp; omega) (by simp))
  have hN := new_any 60
  rw [show (List.replicate (min (max 60 0) 65536 : Int).toNat (0 : Int)) = upTo 60 0 x from by simp [upTo]; decide] at hN
  have HN := hide hN
  have HX := hide hx
  clear hN hx
  go_enter Try.func7, Try.ntmps7
  go_wp2_with fail
  refine (awake_true _).mono ?_
  rintro e w1 ⟨rfl, ht1⟩
  have HT1 := hide ht1
  clear ht1
  go_wp2_with fail
  refine (HN.out w1).mono ?_
  rintro e w2 ⟨rfl, hm, ht, -⟩
  have HM := hide hm
  have HT2 := hide (HT1.out.trans ht)
  have hs1 := HT1.out.size
  clear hm ht HN HT1
  have hp : w.heap.size ≤ w1.heap.size + 1 := by omega
  generalize w1.heap.size + 1 = p at *
  generalize w1.heap.size = q at *
  clear w1
  go_wp2_with fail
  go_loopw [9] (fun i wr => ∃ k : Nat, k ≤ 60 ∧ i = .int .i64 k ∧ Hid (Mem wr p q (upTo 60 k x) 0) ∧ Hid (Turned [] w wr)) (fun i _ => 60 - (intOf i).toNat)
  case atStart => exact ⟨0, Nat.zero_le _, rfl, HM, HT2⟩
  case round =>
    clear HM HT2
    obtain ⟨k, hk, rfl, HM, HT⟩ := hrel
    by_cases hlt : k < 60
    · have HP := hide (put_any p q (upTo 60 k x) 0 k _ 1 1 [x] (wr.alloc (.cells #[.int .i64 x] 2)) (by rw [upTo_length x hk]; omega) (HM.out.alloc _) (isRow_one wr x HX.out))
      rw [show ([x] : List Int).take 1 = [x] from rfl, upTo_put x hlt, upTo_put_ok x hlt] at HP
      have HTa := hide (HT.out.alloc (.cells #[.int .i64 x] 2))
      clear HM HT
      go_wp2_with fail
      refine HP.out.mono ?_
      rintro e w3 ⟨rfl, hm3, ht3⟩
      have HM3 := hide hm3
      have HT3 := hide (HTa.out.trans_new ht3 (by simp; omega))
      clear hm3 ht3 HTa HP
      go_wp2_with fail
      go_roundw
      case rel => exact ⟨k + 1, by omega, by go_num, HM3, HT3⟩
      case measure => simp [intOf]; omega
    · have hk60 : k = 60 := by omega
      subst hk60
      rw [upTo_done] at HM
      have HF := hide (bfill_mem p q (List.replicate 60 x) 0 f g wr (by simp) HM.out)
      rw [show fillE (List.replicate 60 x) f g = 0 by unfold fillE; rw [if_pos (by rw [List.length_replicate]; omega)], show fillL (List.replicate 60 x) f g = fillL (List.replicate 60 x) f g from rfl] at HF
      clear HM
      go_wp2_with fail
      refine HF.out.mono ?_
      rintro e w3 ⟨rfl, hm3, ht3⟩
      have HM3 := hide hm3
      have HT3 := hide (HT.out.trans_new ht3 (by simp; omega))
      clear hm3 ht3 HT HF
      go_wp2_with fail
      refine (words_mem p q _ 0 0 60 w3 (by rw [HLen.out]; omega) HM3.out).mono ?_
      rw [show (60 : Int) = ((60 : Nat) : Int) from rfl, words_full _ 60 HLen.out]
      rintro e w4 ⟨v, rfl, hown, ht⟩
      obtain ⟨-, ao, c2, rfl, hcl⟩ := ownsInts_any hown
      have HC := hide hcl
      have HM4 := hide (HM3.out.turned ht (by simp) (by simp))
      have HT4 := hide (HT3.out.trans ht)
      rw [HLen.out]
      clear hown ht hcl HM3 HT3
      go_wp2_with fail
      go_loop [13] (fun i => ∃ k : Nat, k ≤ 60 ∧ i = .int .i64 k) (fun i => 60 - (intOf i).toNat)
      case atStart => exact ⟨0, Nat.zero_le _, rfl⟩
      case round =>
        obtain ⟨j, hj, rfl⟩ := hrel
        by_cases hlt2 : j < 60
        · obtain ⟨y, hy⟩ : ∃ y, (fillL (List.replicate 60 x) f g)[j]? = some y := ⟨_, List.getElem?_eq_getElem (by rw [HLen.out]; exact hlt2)⟩
          obtain ⟨gg, rfl, -, -, hc, -⟩ := HC.out j y hy
          have HV := hide (HWd.out j y hy)
          clear hy
          by_cases hf : (j : Int) < f
          · have hv : y = x := HV.out (.inl hf)
            subst hv
            go_wp2_with fail
            go_round
            case rel => exact ⟨j + 1, by omega, by go_num⟩
            case measure => simp [intOf]; omega
          · by_cases hg : g ≤ (j : Int)
            · have hv : y = x := HV.out (.inr hg)
              subst hv
              go_wp2_with fail
              go_round
              case rel => exact ⟨j + 1, by omega, by go_num⟩
              case measure => simp [intOf]; omega
            · go_wp2_with fail
              go_round
              case rel => exact ⟨j + 1, by omega, by go_num⟩
              case measure => simp [intOf]; omega

        · have HWk := hide (walk_in _ (fillL (List.replicate 60 x) f g) none 0 0 [] f g w4 (by rw [HLen.out]; omega) HM4.out.any (crd_nil _) (by rw [HLen.out]; omega))
          rw [walk_one HRd.out (by simp only; omega)] at HWk
          simp only [Option.isNone_some, Option.getD_some] at HWk
          rw [show ([⟨f, 0, g - f - 1, g - f⟩] : List Blk).length = 1 from rfl] at HWk
          go_wp2_with fail
          refine HWk.out.mono ?_
          rintro e w5 ⟨v5, rfl, hown5, ht5⟩
          obtain ⟨bo, bcap, rfl, hbr⟩ := ownsRow_blks hown5
          obtain ⟨gb, off, rfl, k0, k1, k2, k3⟩ := hbr.cell 0 ⟨f, 0, g - f - 1, g - f⟩ rfl
          have HT5 := hide (HT4.out.trans ht5)
          clear hown5 ht5 hbr HWk
          simp only [Nat.zero_mul, Nat.add_zero] at k0 k1 k2 k3
          go_wp2_with fail
          go_ret
          exact ⟨rfl, HT5.out⟩

theorem blocksFill_walk (f g x : Int) (w : World) (_ : (Lit.int .i64 f).wf = true) (_ : (Lit.int .i64 g).wf = true) (hx : (Lit.int .i64 x).wf = true) :
    Calls Try.prog 7 #[.int .i64 f, .int .i64 g, .int .i64 x] w fun e w' => e = .returned (.bool true) ∧ Turned [] w w' := by
  have h64 : In64 x := wf_range hx
  by_cases h1 : f < 0
  · exact fill_a f g x w h64 h1
  · by_cases h2 : g < f
    · exact fill_b f g x w h64 (by omega) h2
    · by_cases h3 : 60 < g
      · exact fill_c f g x w h64 (by omega) (by omega) h3
      · by_cases h4 : f = g
        · subst h4
          exact fill_d f x w h64 (by omega) (by omega)
        · exact fill_e f g x w h64 (by omega) (by omega) (by omega)

set_option maxRecDepth 100000 in
theorem blocksFill_lifted (os : Os) (started : os.Started) (H : Type) (enc : TypeId × Value → H) :
    ReturnsInHanded {} Try.checked os 7 .any (Rows.blocksFillSpec.pre6 enc Try.prog Try.f7 Rows.blocksFillRow.domain false) (Rows.blocksFillSpec.post enc Try.prog Try.f7 false true false false) := by
  refine returnsInHanded_of_change (C := Try.checked) own started (by kernel_rfl) Try.func7
    (ChangeSpec.witness6 (enc := enc) (C := Try.checked) false ⟨#[], #[.int .i64 0, .int .i64 0, .int .i64 0], []⟩ 8 (by kernel_rfl) (by kernel_rfl) (by kernel_rfl) (by kernel_rfl)) ?_
  intro W base args ds gs before hval0 hW hcnd _
  have hval : ∀ (j : Nat) t v, Try.f7.params[j]? = some t → args[j]? = some v → Value.okWide Try.prog W .any base t v := hval0
  have hW' := hW
  obtain ⟨p, q, hA0, hV, rfl, hfz, hnd⟩ := hW
  have hA : DataW.TrodAll enc Try.prog W 0 (fun _ => true) true Try.f7.params.toList args.toList ds p := hA0
  rw [Try.params7] at hA hval
  obtain ⟨v0, vs0, d0, ds0, p0, q0, hargs, rfl, rfl, h0, r0⟩ := trodAll_cons hA
  obtain ⟨v1, vs1, d1, ds1, p1, q1, rfl, rfl, rfl, h1, r1⟩ := trodAll_cons r0
  obtain ⟨v2, vs2, d2, ds2, p2, q2, rfl, rfl, rfl, h2, r2⟩ := trodAll_cons r1
  obtain ⟨rfl, rfl, rfl⟩ := trodAll_nil r2
  obtain rfl : args = #[v0, v1, v2] := by cases args; simp_all
  obtain ⟨rfl, rfl⟩ := trodVars_none hV
  obtain ⟨a0, rfl, rfl, rfl, w0⟩ := open_int Try.underlying3 (hval 0 3 v0 rfl rfl) h0
  obtain ⟨a1, rfl, rfl, rfl, w1⟩ := open_int Try.underlying3 (hval 1 3 v1 rfl rfl) h1
  obtain ⟨a2, rfl, rfl, rfl, w2⟩ := open_int Try.underlying2 (hval 2 2 v2 rfl rfl) h2
  clear hA0 hval0
  refine (blocksFill_walk a0 a1 a2 W w0 w1 w2).mono fun e W' ⟨he, ht⟩ => ?_
  subst he
  have bel : Below W.heap.size W W' := ht.below0
  exact ⟨_, rfl, _, _, _, [], _, [], hW', trodAll_mk1 (shut_bool Try.underlying4 _), (trodAll_cons_mk (shut_int Try.underlying3 w0) (trodAll_cons_mk (shut_int Try.underlying3 w1) (trodAll_cons_mk (shut_int Try.underlying2 w2) trodAll_mk0))), rfl, bel.frame _, fun h => by cases h⟩

theorem blocksFill_over : Rows.blocksFillRow.holds Try.pinned (OpenSpec.ofChange Rows.blocksFillSpec) :=
  OpenClaim.holds_of_wide 7 Try.f7 rfl rfl rfl rfl rfl rfl rfl ⟨rfl, rfl, rfl, rfl, rfl⟩ rfl rfl rfl rfl rfl (by kernel_rfl) Try.func7 (by kernel_rfl)
    (of_decide_eq_true (by kernel_rfl)) (by unfold Func.isWrapper; first | (rw [if_pos (by decide +kernel)]; kernel_rfl) | (rw [if_neg (by decide +kernel)]; exact ⟨rfl, rfl⟩))
    (fun os started H enc _ => blocksFill_lifted os started H enc)

theorem blocksFill_holds : Rows.BlocksFillSaid := blocksFill_over
end Go.Proofs.Ytkidcbehjhlnkaa
