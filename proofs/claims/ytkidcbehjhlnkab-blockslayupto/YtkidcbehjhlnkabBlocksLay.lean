/-
  The statement BlocksLay's second form is proved: for all classes, every class, length, place and word (of at most 1048576 values together) the law returns true and its arguments read as before.
-/
import Derived.Test.YtkidcbehjhlnkabBlocksAwake
import Derived.Test.YtkidcbehjhlnkabBlocksLaid
import Derived.Test.YtkidcbehjhlnkabOpenTriple
import Derived.Test.YtkidcbehjhlnkabBulk
namespace Go.Proofs.Ytkidcbehjhlnkab
open Go.RowKit Go.ChangeShapes Go.WideShapes Go.ChangeAt Go.Maps
set_option linter.unusedVariables false
/-- The first k of n words are x, the others 0. -/
def upTo (n k : Nat) (x : Int) : List Int := List.replicate k x ++ List.replicate (n - k) 0
theorem upTo_length {n k : Nat} (x : Int) (h : k ≤ n) : (upTo n k x).length = n := by simp [upTo]; omega
theorem upTo_put {n k : Nat} (x : Int) (h : k < n) : putL (upTo n k x) k [x] = upTo n (k + 1) x := by
  unfold putL
  rw [if_pos (by rw [upTo_length x (by omega)]; simp; omega), Int.toNat_natCast]
  obtain ⟨j, hj⟩ : ∃ j, n - k = j + 1 := ⟨n - k - 1, by omega⟩
  unfold over upTo
  rw [hj, show n - (k + 1) = j by omega, List.take_append_of_le_length (by simp), List.take_of_length_le (by simp), List.drop_append, List.drop_eq_nil_of_le (by simp)]
  rw [List.replicate_succ, List.replicate_succ']
  simp
theorem upTo_done (n : Nat) (x : Int) : upTo n n x = List.replicate n x := by simp [upTo]
theorem upTo_put_ok {n k : Nat} (x : Int) (h : k < n) : putE (upTo n k x) k [x] = 0 := by
  unfold putE
  rw [if_pos (by rw [upTo_length x (by omega)]; simp; omega)]
theorem words_full (l : List Int) (n : Nat) (h : l.length = n) : ((l.take (min (max (n : Int) 0) l.length).toNat).drop (min (max 0 0) (l.length : Int)).toNat) = l := by
  rw [show (min (max (n : Int) 0) l.length).toNat = l.length by omega, show (min (max 0 0) (l.length : Int)).toNat = 0 by omega]
  simp

/-- The three numbers, laid into block b; and nothing that was there has turned. -/
structure At3 (w W : World) (b : Nat) (x y z : Int) : Prop where
  t : Turned [] w W
  h : W.heap[b]? = some (.cells #[.int .i64 x, .int .i64 y, .int .i64 z] 23)
theorem At3.next {w W W' : World} {b : Nat} {x y z : Int} {S : List Nat} (h : At3 w W b x y z) (ht : Turned S W W') (hb : b ∉ S) (hS : ∀ i, i ∈ S → w.heap.size ≤ i) : At3 w W' b x y z :=
  ⟨h.t.trans_new ht (fun i hi => .inr (hS i hi)), by rw [ht.block b (lt_of_heap h.h) hb]; exact h.h⟩
theorem At3.cells {w W : World} {b : Nat} {x y z : Int} (h : At3 w W b x y z) : W.cell? ⟨b, 0, none⟩ = some (.int .i64 x) ∧ W.cell? ⟨b, 1, none⟩ = some (.int .i64 y) ∧ W.cell? ⟨b, 2, none⟩ = some (.int .i64 z) :=
  ⟨by rw [cell_of_heap h.h]; rfl, by rw [cell_of_heap h.h]; rfl, by rw [cell_of_heap h.h]; rfl⟩
theorem at3_new (w : World) (x y z : Int) : At3 w (w.alloc (.cells #[.int .i64 x, .int .i64 y, .int .i64 z] 23)) w.heap.size x y z := ⟨(Turned.refl [] w).alloc _, heap_alloc_new _ _⟩

theorem sizeOf_range {cs : List Cls} {k n : Int} (h : (sizeOf cs k n).2 = 0) : 0 ≤ k ∧ k ≤ cs.length ∧ 0 ≤ n ∧ n ≤ 65535 := by
  unfold sizeOf told at h
  split at h
  · simp at h
  · rename_i c hc
    split at h
    · rename_i hn
      have hm : c.most ≤ 65535 := by unfold Cls.most; repeat' split; all_goals omega
      rcases clsAt_may hc with ⟨_, hk⟩ | ⟨_, hk, hg⟩
      · omega
      · have := (List.getElem?_eq_some_iff.1 hg).1
        omega
    · simp at h
theorem lay_told {L : List Int} {cs : List Cls} {t k n : Int} : layE L cs t k n = 0 ∧ (∃ m : Int, sizeOf cs k n = (m, 0) ∧ 1 ≤ m ∧ m ≤ 65536 ∧ 0 ≤ t ∧ t + m ≤ L.length ∧ layS L cs t k n = m ∧ layL L cs t k n = putL L t (laid k n m.toNat)) ∨ ¬ layE L cs t k n = 0 ∧ layS L cs t k n = 0 ∧ layL L cs t k n = L := by
  by_cases he : (sizeOf cs k n).2 = 0
  · have hs := sizeOf_ok he
    have hm : sizeOf cs k n = ((sizeOf cs k n).1, 0) := by rw [← he]
    by_cases hf : 0 ≤ t ∧ t + (sizeOf cs k n).1 ≤ L.length
    · left
      have hl : (laid k n (sizeOf cs k n).1.toNat).length = (sizeOf cs k n).1.toNat := laid_length _ _ _ (by omega)
      refine ⟨?_, _, hm, hs.1, hs.2, hf.1, hf.2, ?_, ?_⟩
      · unfold layE putE; rw [if_pos he, if_pos (by omega)]
      · unfold layS; rw [if_pos ⟨he, hf⟩]
      · unfold layL; rw [if_pos he]
    · right
      have hl : (laid k n (sizeOf cs k n).1.toNat).length = (sizeOf cs k n).1.toNat := laid_length _ _ _ (by omega)
      refine ⟨?_, ?_, ?_⟩
      · unfold layE putE; rw [if_pos he, if_neg (by omega)]; decide
      · unfold layS; rw [if_neg (fun h => hf h.2)]
      · unfold layL putL; rw [if_pos he, if_neg (by omega)]
  · right
    refine ⟨?_, ?_, ?_⟩
    · unfold layE; rw [if_neg he]; exact he
    · unfold layS; rw [if_neg (fun h => he h.1)]
    · unfold layL; rw [if_neg he]

set_option maxRecDepth 100000 in
set_option maxHeartbeats 1000000 in
theorem lay_err (ao : Option Addr) (len cap : Nat) (cs : List Cls) (t k n x : Int) (w : World) (h : CRd w ao len cs) (hn : In64 n) (hx : In64 x) (hE : ¬ layE (List.replicate 80 x) cs t k n = 0) (hS : layS (List.replicate 80 x) cs t k n = 0) (hL : layL (List.replicate 80 x) cs t k n = List.replicate 80 x) :
    Calls Try.prog 3 #[.slice ao len cap, .agg #[.int .i64 t, .int .i64 k, .int .i64 n], .int .i64 x] w fun e w' => e = .returned (.bool true) ∧ Turned [] w w' := by
  have HlS : Hid (layS (List.replicate 80 x) cs t k n = 0) := hS
  have HlL : Hid (layL (List.replicate 80 x) cs t k n = List.replicate 80 x) := hL
  obtain ⟨E, hEE⟩ : ∃ E, layE (List.replicate 80 x) cs t k n = E := ⟨_, rfl⟩
  have HlE := hide hEE
  rw [hEE] at hE
  have HE := hide hE
  have HLen : Hid ((List.replicate 80 x).length = 80) := by show _ = _; exact List.length_replicate
  have HWd : Hid (∀ (j : Nat) (y : Int), (List.replicate 80 x)[j]? = some y → y = x) := fun j y hy => by
    rw [List.getElem?_replicate] at hy
    split at hy
    · injection hy with hy; exact hy.symm
    · cases hy
  clear hS hL hE hEE
  have hN := new_any 80
  rw [show (List.replicate (min (max 80 0) 65536 : Int).toNat (0 : Int)) = upTo 80 0 x from by simp [upTo]; decide] at hN
  have HN := hide hN
  have HX := hide hx
  have HCr := hide h
  have HNn := hide hn
  have HA := hide (at3_new w t k n)
  clear hN hx h hn
  go_enter Try.func3, Try.ntmps3
  go_wp2_with fail
  refine (awake_true _).mono ?_
  rintro e w1 ⟨rfl, ht1⟩
  have HA1 := hide (HA.out.next ht1 (by simp) (by simp))
  clear ht1 HA
  go_wp2_with fail
  refine (HN.out w1).mono ?_
  rintro e w2 ⟨rfl, hm, ht, -⟩
  have HM := hide hm
  have HA2 := hide (HA1.out.next ht (by simp) (by simp))
  have hs1 := HA1.out.t.size
  have hs2 := lt_of_heap HA1.out.h
  clear hm ht HN HA1
  obtain ⟨b, hb⟩ : ∃ b, b = w.heap.size := ⟨_, rfl⟩
  rw [← hb] at HA2 hs2 ⊢
  have hbp : b ≠ w1.heap.size + 1 ∧ w.heap.size ≤ w1.heap.size + 1 := by omega
  have hbq : b ≠ w1.heap.size ∧ w.heap.size ≤ w1.heap.size := by omega
  clear hs1 hs2 hb
  generalize w1.heap.size + 1 = p at *
  generalize w1.heap.size = q at *
  clear w1
  go_wp2_with fail
  go_loopw [9] (fun i wr => ∃ j : Nat, j ≤ 80 ∧ i = .int .i64 j ∧ Hid (Mem wr p q (upTo 80 j x) 0) ∧ Hid (At3 w wr b t k n)) (fun i _ => 80 - (intOf i).toNat)
  case atStart => exact ⟨0, Nat.zero_le _, rfl, HM, HA2⟩
  case round =>
    clear HM HA2
    obtain ⟨j, hj, rfl, HM, HA⟩ := hrel
    by_cases hlt : j < 80
    · have HP := hide (put_any p q (upTo 80 j x) 0 j _ 1 1 [x] (wr.alloc (.cells #[.int .i64 x] 2)) (by rw [upTo_length x hj]; omega) (HM.out.alloc _) (isRow_one wr x HX.out))
      rw [show ([x] : List Int).take 1 = [x] from rfl, upTo_put x hlt, upTo_put_ok x hlt] at HP
      have HAa := hide (HA.out.next ((Turned.refl [] wr).alloc (.cells #[.int .i64 x] 2)) (by simp) (by simp))
      clear HM HA
      go_wp2_with fail
      refine HP.out.mono ?_
      rintro e w3 ⟨rfl, hm3, ht3⟩
      have HM3 := hide hm3
      have HA3 := hide (HAa.out.next ht3 (by simp; omega) (by simp; omega))
      clear hm3 ht3 HAa HP
      go_wp2_with fail
      go_roundw
      case rel => exact ⟨j + 1, by omega, by go_num, HM3, HA3⟩
      case measure => simp [intOf]; omega
    · have hk80 : j = 80 := by omega
      subst hk80
      rw [upTo_done] at HM
      have HF := hide (blay_mem p q (List.replicate 80 x) 0 ao len cap cs t k n wr (by rw [List.length_replicate]; omega) HNn.out HM.out (HCr.out.turned HA.out.t))
      rw [HlS.out, HlL.out, HlE.out] at HF
      obtain ⟨c0, c1, c2⟩ := HA.out.cells
      clear HM
      go_wp2_with fail
      refine HF.out.mono ?_
      rintro e w3 ⟨rfl, hm3, ht3⟩
      have HM3 := hide hm3
      have HA3 := hide (HA.out.next ht3 (by simp; omega) (by simp; omega))
      clear hm3 ht3 HA HF c0 c1 c2
      have hE := HE.out
      have hE2 : (E == 0) = false := by simpa using hE
      have hE3 : (E != 0) = true := by simpa using hE
      go_wp2_with fail
      refine (words_mem p q _ 0 0 80 w3 (by rw [HLen.out]; omega) HM3.out).mono ?_
      rw [show (80 : Int) = ((80 : Nat) : Int) from rfl, words_full _ 80 HLen.out]
      rintro e w4 ⟨v, rfl, hown, ht⟩
      obtain ⟨-, aw, c2, rfl, hcl⟩ := ownsInts_any hown
      have HC := hide hcl
      have HM4 := hide (HM3.out.turned ht (by simp) (by simp))
      have HA4 := hide (HA3.out.next ht (by simp) (by simp))
      rw [HLen.out]
      obtain ⟨c0, -, -⟩ := HA4.out.cells
      clear hown ht hcl HM3 HA3
      go_wp2_with fail
      clear hE hE2 hE3
      go_loopw [13, 14] (fun i _ wr => ∃ j : Nat, j ≤ 80 ∧ i = .int .i64 j ∧ Hid (wr = w4)) (fun i _ _ => 80 - (intOf i).toNat)
      case atStart => exact ⟨0, Nat.zero_le _, rfl, rfl⟩
      case round =>
        obtain ⟨j, hj, rfl, HW4⟩ := hrel
        have hW4 := HW4.out
        subst hW4
        have hE := HE.out
        have hE2 : (E == 0) = false := by simpa using hE
        have hE3 : (E != 0) = true := by simpa using hE
        by_cases hlt2 : j < 80
        · obtain ⟨y, hy⟩ : ∃ y, (List.replicate 80 x)[j]? = some y := ⟨_, List.getElem?_eq_getElem (by rw [HLen.out]; exact hlt2)⟩
          obtain ⟨gg, rfl, -, -, hc, -⟩ := HC.out j y hy
          have HV := hide (HWd.out j y hy)
          clear hy
          have hv : y = x := HV.out
          subst hv
          go_wp2_with fail
          go_roundw
          case rel => exact ⟨j + 1, by omega, by go_num, by first | exact rfl | exact trivial⟩
          case measure => simp [intOf]; omega
        · go_wp2_with fail
          go_ret
          exact ⟨rfl, HA4.out.t⟩

set_option maxRecDepth 100000 in
set_option maxHeartbeats 1000000 in
theorem lay_ok (ao : Option Addr) (len cap : Nat) (cs : List Cls) (t k n x : Int) (w : World) (h : CRd w ao len cs) (hn : In64 n) (hx : In64 x) (m : Int) (hm : 1 ≤ m ∧ m ≤ 80) (ht : 0 ≤ t ∧ t + m ≤ 80) (hs : sizeOf cs k n = (m, 0)) (hk : 0 ≤ k ∧ k < 16777216) (hn0 : 0 ≤ n ∧ n < 4294967296) (hE : layE (List.replicate 80 x) cs t k n = 0) (hS : layS (List.replicate 80 x) cs t k n = m) (hL : layL (List.replicate 80 x) cs t k n = putL (List.replicate 80 x) t (laid k n m.toNat)) :
    Calls Try.prog 3 #[.slice ao len cap, .agg #[.int .i64 t, .int .i64 k, .int .i64 n], .int .i64 x] w fun e w' => e = .returned (.bool true) ∧ Turned [] w w' := by
  have HlS := hide hS
  have HlL := hide hL
  have HlE := hide hE
  have HLen : Hid ((putL (List.replicate 80 x) t (laid k n m.toNat)).length = 80) := by show _ = _; rw [putL_length]; exact List.length_replicate
  have hll : (laid k n m.toNat).length = m.toNat := laid_length _ _ _ (by omega)
  have HWd : Hid (∀ (j : Nat) (y : Int), (putL (List.replicate 80 x) t (laid k n m.toNat))[j]? = some y → (((j : Int) < t ∨ t + m ≤ (j : Int)) → y = x) ∧ (t < (j : Int) → (j : Int) < t + m → y = 0)) := fun j y hy => by
    have h5 := put_word (l := List.replicate 80 x) (m := laid k n m.toNat) (t := t) (by rw [List.length_replicate]; omega) (j : Int)
    rw [wordAt_nat, wordAt_nat, hy] at h5
    refine ⟨fun hj => ?_, fun h6 h7 => ?_⟩
    · rw [if_neg (by omega), List.getElem?_replicate] at h5
      split at h5
      · injection h5
      · cases h5
    · rw [if_pos (by omega), laid_word (by omega) _ (by omega), if_neg (by omega)] at h5
      injection h5
  have HRd := hide (read_laid (l := List.replicate 80 x) hs hk hn0 (t := t) (by rw [List.length_replicate]; omega))
  clear hS hL hE hll hs
  have hN := new_any 80
  rw [show (List.replicate (min (max 80 0) 65536 : Int).toNat (0 : Int)) = upTo 80 0 x from by simp [upTo]; decide] at hN
  have HN := hide hN
  have HX := hide hx
  have HCr := hide h
  have HNn := hide hn
  have HA := hide (at3_new w t k n)
  clear hN hx h hn
  go_enter Try.func3, Try.ntmps3
  go_wp2_with fail
  refine (awake_true _).mono ?_
  rintro e w1 ⟨rfl, ht1⟩
  have HA1 := hide (HA.out.next ht1 (by simp) (by simp))
  clear ht1 HA
  go_wp2_with fail
  refine (HN.out w1).mono ?_
  rintro e w2 ⟨rfl, hm, ht, -⟩
  have HM := hide hm
  have HA2 := hide (HA1.out.next ht (by simp) (by simp))
  have hs1 := HA1.out.t.size
  have hs2 := lt_of_heap HA1.out.h
  clear hm ht HN HA1
  obtain ⟨b, hb⟩ : ∃ b, b = w.heap.size := ⟨_, rfl⟩
  rw [← hb] at HA2 hs2 ⊢
  have hbp : b ≠ w1.heap.size + 1 ∧ w.heap.size ≤ w1.heap.size + 1 := by omega
  have hbq : b ≠ w1.heap.size ∧ w.heap.size ≤ w1.heap.size := by omega
  clear hs1 hs2 hb
  generalize w1.heap.size + 1 = p at *
  generalize w1.heap.size = q at *
  clear w1
  go_wp2_with fail
  go_loopw [9] (fun i wr => ∃ j : Nat, j ≤ 80 ∧ i = .int .i64 j ∧ Hid (Mem wr p q (upTo 80 j x) 0) ∧ Hid (At3 w wr b t k n)) (fun i _ => 80 - (intOf i).toNat)
  case atStart => exact ⟨0, Nat.zero_le _, rfl, HM, HA2⟩
  case round =>
    clear HM HA2
    obtain ⟨j, hj, rfl, HM, HA⟩ := hrel
    by_cases hlt : j < 80
    · have HP := hide (put_any p q (upTo 80 j x) 0 j _ 1 1 [x] (wr.alloc (.cells #[.int .i64 x] 2)) (by rw [upTo_length x hj]; omega) (HM.out.alloc _) (isRow_one wr x HX.out))
      rw [show ([x] : List Int).take 1 = [x] from rfl, upTo_put x hlt, upTo_put_ok x hlt] at HP
      have HAa := hide (HA.out.next ((Turned.refl [] wr).alloc (.cells #[.int .i64 x] 2)) (by simp) (by simp))
      clear HM HA
      go_wp2_with fail
      refine HP.out.mono ?_
      rintro e w3 ⟨rfl, hm3, ht3⟩
      have HM3 := hide hm3
      have HA3 := hide (HAa.out.next ht3 (by simp; omega) (by simp; omega))
      clear hm3 ht3 HAa HP
      go_wp2_with fail
      go_roundw
      case rel => exact ⟨j + 1, by omega, by go_num, HM3, HA3⟩
      case measure => simp [intOf]; omega
    · have hk80 : j = 80 := by omega
      subst hk80
      rw [upTo_done] at HM
      have HF := hide (blay_mem p q (List.replicate 80 x) 0 ao len cap cs t k n wr (by rw [List.length_replicate]; omega) HNn.out HM.out (HCr.out.turned HA.out.t))
      rw [HlS.out, HlL.out, HlE.out] at HF
      obtain ⟨c0, c1, c2⟩ := HA.out.cells
      clear HM
      go_wp2_with fail
      refine HF.out.mono ?_
      rintro e w3 ⟨rfl, hm3, ht3⟩
      have HM3 := hide hm3
      have HA3 := hide (HA.out.next ht3 (by simp; omega) (by simp; omega))
      clear hm3 ht3 HA HF c0 c1 c2

      go_wp2_with fail
      refine (words_mem p q _ 0 0 80 w3 (by rw [HLen.out]; omega) HM3.out).mono ?_
      rw [show (80 : Int) = ((80 : Nat) : Int) from rfl, words_full _ 80 HLen.out]
      rintro e w4 ⟨v, rfl, hown, ht⟩
      obtain ⟨-, aw, c2, rfl, hcl⟩ := ownsInts_any hown
      have HC := hide hcl
      have HM4 := hide (HM3.out.turned ht (by simp) (by simp))
      have HA4 := hide (HA3.out.next ht (by simp) (by simp))
      rw [HLen.out]
      obtain ⟨c0, -, -⟩ := HA4.out.cells
      clear hown ht hcl HM3 HA3
      go_wp2_with fail
      go_loopw [13, 14] (fun i _ wr => ∃ j : Nat, j ≤ 80 ∧ i = .int .i64 j ∧ Hid (wr = w4)) (fun i _ _ => 80 - (intOf i).toNat)
      case atStart => exact ⟨0, Nat.zero_le _, rfl, rfl⟩
      case round =>
        obtain ⟨j, hj, rfl, HW4⟩ := hrel
        have hW4 := HW4.out
        subst hW4
        by_cases hlt2 : j < 80
        · obtain ⟨y, hy⟩ : ∃ y, (putL (List.replicate 80 x) t (laid k n m.toNat))[j]? = some y := ⟨_, List.getElem?_eq_getElem (by rw [HLen.out]; exact hlt2)⟩
          obtain ⟨gg, rfl, -, -, hc, -⟩ := HC.out j y hy
          have HV := hide (HWd.out j y hy)
          clear hy
          by_cases h1 : (j : Int) < t
          · have hv : y = x := HV.out.1 (.inl h1)
            subst hv
            go_wp2_with fail
            go_roundw
            case rel => exact ⟨j + 1, by omega, by go_num, by first | exact rfl | exact trivial⟩
            case measure => simp [intOf]; omega
          · by_cases h2 : t + m ≤ (j : Int)
            · have hv : y = x := HV.out.1 (.inr h2)
              subst hv
              go_wp2_with fail
              go_roundw
              case rel => exact ⟨j + 1, by omega, by go_num, by first | exact rfl | exact trivial⟩
              case measure => simp [intOf]; omega
            · by_cases h3 : t < (j : Int)
              · have hv : y = 0 := HV.out.2 h3 (by omega)
                subst hv
                go_wp2_with fail
                go_roundw
                case rel => exact ⟨j + 1, by omega, by go_num, by first | exact rfl | exact trivial⟩
                case measure => simp [intOf]; omega
              · go_wp2_with fail
                go_roundw
                case rel => exact ⟨j + 1, by omega, by go_num, by first | exact rfl | exact trivial⟩
                case measure => simp [intOf]; omega
        · have HWk := hide (read_some _ (putL (List.replicate 80 x) t (laid k n m.toNat)) ao len cap cs t ⟨t, k, n, m⟩ wr (by rw [HLen.out]; omega) HM4.out.any (HCr.out.turned HA4.out.t) HRd.out)
          go_wp2_with fail
          refine HWk.out.mono ?_
          rintro e w5 ⟨rfl, ht5⟩
          have HA5 := hide ((HA4.out.next ht5 (by simp) (by simp)).next ((Turned.refl [] w5).alloc (.cells #[.int .i64 t, .int .i64 k, .int .i64 n, .int .i64 m] 34)) (by simp) (by simp))
          obtain ⟨d0, d1, d2⟩ := HA5.out.cells
          clear ht5 HWk c0
          go_wp2_with fail
          go_ret
          exact ⟨rfl, HA5.out.t⟩

theorem blocksLay_walk (ao : Option Addr) (len cap : Nat) (cs : List Cls) (t k n x : Int) (w : World) (h : CRd w ao len cs) (hi : In64 t ∧ In64 k ∧ In64 n) (hx : (Lit.int .i64 x).wf = true) (hlen : len ≤ 1048576) :
    Calls Try.prog 3 #[.slice ao len cap, .agg #[.int .i64 t, .int .i64 k, .int .i64 n], .int .i64 x] w fun e w' => e = .returned (.bool true) ∧ Turned [] w w' := by
  have h64 : In64 x := wf_range hx
  rcases lay_told (L := List.replicate 80 x) (cs := cs) (t := t) (k := k) (n := n) with ⟨hE, m, hs, h1, h2, h3, h4, hS, hL⟩ | ⟨hE, hS, hL⟩
  · rw [List.length_replicate] at h4
    have hr := sizeOf_range (cs := cs) (k := k) (n := n) (by rw [hs])
    have hz := h.size
    exact lay_ok ao len cap cs t k n x w h hi.2.2 h64 m (by omega) (by omega) hs (by omega) (by omega) hE hS hL
  · exact lay_err ao len cap cs t k n x w h hi.2.2 h64 hE hS hL

set_option maxRecDepth 100000 in
theorem blocksLay_lifted (os : Os) (started : os.Started) (H : Type) (enc : TypeId × Value → H) (F : Stop.Interp) :
    ReturnsInHanded {} Try.checked os 3 .any ((Rows.OpenSpec.upto Rows.blocksLaySpec).pre6 enc Try.prog Try.f3 Rows.blocksLayUptoRow.domain false) (((Rows.OpenSpec.upto Rows.blocksLaySpec).at F).post enc Try.prog Try.f3 false true false false) := by
  refine returnsInHanded_of_cond (C := Try.checked) (s := Rows.OpenSpec.upto Rows.blocksLaySpec) (k := Rows.uptoSmall) rfl own started (by kernel_rfl) Try.func3
    (OpenSpec.witness (enc := enc) (C := Try.checked) (s := Rows.OpenSpec.upto Rows.blocksLaySpec) (k := Rows.uptoSmall) rfl false ⟨#[], #[.slice none 0 0, .agg #[.int .i64 0, .int .i64 0, .int .i64 0], .int .i64 0], []⟩ 8 (by kernel_rfl) (by kernel_rfl) (by kernel_rfl)
      (x := ([.nil, .agg [.lit (.int .i64 0), .lit (.int .i64 0), .lit (.int .i64 0)], .lit (.int .i64 0)], [], [])) (by kernel_rfl) rfl (by kernel_rfl)) ?_
  intro W base args ds gs before hval0 hW _ hk _
  have hval : ∀ (j : Nat) t v, Try.f3.params[j]? = some t → args[j]? = some v → Value.okWide Try.prog W .any base t v := hval0
  have hW' := hW
  obtain ⟨p, q, hA0, hV, rfl, hfz, hnd⟩ := hW
  have hA : DataW.TrodAll enc Try.prog W 0 (fun _ => true) true Try.f3.params.toList args.toList ds p := hA0
  rw [Try.params3] at hA hval
  obtain ⟨v0, vs0, d0, ds0, p0, q0, hargs, rfl, rfl, h0, r0⟩ := trodAll_cons hA
  obtain ⟨v1, vs1, d1, ds1, p1, q1, rfl, rfl, rfl, h1, r1⟩ := trodAll_cons r0
  obtain ⟨v2, vs2, d2, ds2, p2, q2, rfl, rfl, rfl, h2, r2⟩ := trodAll_cons r1
  obtain ⟨rfl, rfl, rfl⟩ := trodAll_nil r2
  obtain rfl : args = #[v0, v1, v2] := by cases args; simp_all
  obtain ⟨rfl, rfl⟩ := trodVars_none hV
  have hbulk := bulk_small hk
  simp only [List.append_nil, Rows.uptoBulkAll] at hbulk hW'
  obtain ⟨a0, len0, cap0, rfl⟩ := okWide_slice Try.underlying22 (hval 0 22 v0 rfl rfl)
  have k0 := h0
  have lt0 : ∀ x ∈ p0, x.block < W.heap.size := by obtain ⟨m, hm⟩ := k0; exact DataW.trod_lt m _ _ _ hm
  obtain ⟨z0, w0⟩ := open_classes h0
  have k1 := h1
  have lt1 : ∀ x ∈ p1, x.block < W.heap.size := by obtain ⟨m, hm⟩ := k1; exact DataW.trod_lt m _ _ _ hm
  obtain ⟨a10, a11, a12, rfl, w1⟩ := open_triple (hval 1 23 v1 rfl rfl) h1
  obtain ⟨a2, rfl, rfl, rfl, w2⟩ := open_int Try.underlying2 (hval 2 2 v2 rfl rfl) h2
  have b0 : len0 ≤ 1048576 := by have := slice_few Try.underlying22 k0; omega
  clear hA0 hval0
  refine (blocksLay_walk a0 len0 cap0 z0 a10 a11 a12 a2 W w0 w1 w2 b0).mono fun e W' ⟨he, ht⟩ => ?_
  subst he
  have bel : Below W.heap.size W W' := ht.below0
  exact ⟨_, rfl, _, _, _, [], _, [], hW', trodAll_mk1 (shut_bool Try.underlying4 _), (trodAll_cons_mk (Below.trod laidOut (by kernel_rfl) (of_decide_eq_true (by kernel_rfl)) k0 bel lt0) (trodAll_cons_mk (Below.trod laidOut (by kernel_rfl) (of_decide_eq_true (by kernel_rfl)) k1 bel lt1) (trodAll_cons_mk (shut_int Try.underlying2 w2) trodAll_mk0))), rfl, bel.frame _, fun h => by cases h⟩

theorem blocksLay_over : Rows.blocksLayUptoRow.holds Try.pinned (Rows.OpenSpec.upto Rows.blocksLaySpec) :=
  OpenClaim.holds_of_cond 3 Try.f3 rfl rfl rfl rfl rfl rfl rfl ⟨rfl, rfl, rfl, rfl, rfl⟩ rfl rfl rfl rfl rfl (by kernel_rfl) Try.func3 (by kernel_rfl)
    (of_decide_eq_true (by kernel_rfl)) (by unfold Func.isWrapper; first | (rw [if_pos (by decide +kernel)]; kernel_rfl) | (rw [if_neg (by decide +kernel)]; exact ⟨rfl, rfl⟩))
    (fun os started H enc _ F => blocksLay_lifted os started H enc F)

theorem blocksLay_holds : Rows.BlocksLayUptoSaid := blocksLay_over
end Go.Proofs.Ytkidcbehjhlnkab
