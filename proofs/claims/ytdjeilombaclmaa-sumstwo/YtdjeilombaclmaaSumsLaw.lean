/-
  Sums through a law ('Sl'): what New, Step, Done and Result leave; 'pick'; the document's Plain.
-/
import Derived.Test.YtdjeilombaclmaaSumsTurn
import Derived.Test.YtdjeilombaclmaaSumsNew12
import Derived.Test.YtdjeilombaclmaaLawKit
namespace Go.Proofs.Ytdjeilombaclmaa
open Go.RowKit
set_option linter.unusedVariables false

/-- Sums newer than a law's first world; at most so many accesses. -/
structure Sl (w0 w : World) (I : SIds) (P : SP) (S : SS) (A : Nat) : Prop where
  sm : Sm w I P S
  ok : P.ok
  inv : Inv P S
  acc : S.acc ≤ A
  turn : Turned [] w0 w
  hot : ∀ i, i ∈ I.all → w0.heap.size ≤ i
  lt : ∀ i, i ∈ I.all → i < w.heap.size
theorem hot_all {I : SIds} {i : Nat} (h : i ∈ I.hot) : i ∈ I.all := by simp [SIds.all, h]
section
variable {w0 w w' : World} {I : SIds} {P : SP} {S : SS} {A : Nat}
theorem Sl.next (h : Sl w0 w I P S A) (t : Turned [] w w') : Sl w0 w' I P S A := ⟨h.sm.next t, h.ok, h.inv, h.acc, h.turn.trans t, h.hot, fun i hi => Nat.lt_of_lt_of_le (h.lt i hi) t.size⟩
theorem Sl.far (h : Sl w0 w I P S A) {T : List Nat} (t : Turned T w w') (hT : ∀ i, i ∈ T → i ∉ I.all) (h0 : ∀ i, i ∈ T → w0.heap.size ≤ i) : Sl w0 w' I P S A := ⟨h.sm.far t hT, h.ok, h.inv, h.acc, h.turn.trans_new t (fun i hi => .inr (h0 i hi)), h.hot, fun i hi => Nat.lt_of_lt_of_le (h.lt i hi) t.size⟩
theorem Sl.ph (h : Sl w0 w I P S A) : S.ph ≤ 3 := by cases h.inv.how <;> omega
theorem sl_new (hT : Turned [] w0 w) (w1 : World) (hM : Mem w1 (w.heap.size + 1) w.heap.size [0] 0) (ht1 : Turned [] w w1) (ao : Option Addr) (n c : Nat) (vals : List Int) (hv : IRd w1 ao n vals) (hva : 0 < n → ∀ g off, ao = some ⟨g, off, none⟩ → g ≠ w.heap.size + 1 ∧ g ≠ w.heap.size) (hn : n ≤ 65536) (h0 : ao = none → c = 0) (k : Nat) (bk : Int) (hk0 : 0 < k) (hk : k ≤ 64) (hb : 1 ≤ bk) (hb2 : bk ≤ 9223372036854775807) :
    Calls Try.prog 13 #[.pointer (some ⟨w.heap.size + 1, 0, none⟩), .slice ao n c, .int .i64 (k : Int), .int .i64 bk] w1 fun e w' => ∃ I, e = .returned (.tuple #[.pointer (some ⟨I.s, 0, none⟩), .int .i64 0]) ∧ Sl w0 w' I ⟨vals, szOf n bk, k⟩ (SS.fresh ⟨vals, szOf n bk, k⟩) 0 ∧ I.sp = w.heap.size + 1 ∧ I.sq = w.heap.size ∧ I.tl = [] ∧ Turned [w.heap.size + 1, w.heap.size] w1 w' ∧ ∀ i, i ∈ I.all → i = w.heap.size + 1 ∨ i = w.heap.size ∨ w1.heap.size ≤ i := by
  have hz := hT.size
  have hz1 := ht1.size
  refine (snew_ok12 w1 (w.heap.size + 1) w.heap.size 0 [] hM (by simp) ao n c vals hv hn h0 hva k bk hk0 hk hb hb2).mono ?_
  rintro e w' ⟨I, rfl, h1, h2, h3, h4, h5, h8, h6⟩
  refine ⟨I, rfl, ⟨h1, ⟨by show vals.length ≤ _; rw [hv.size]; exact hn, szOf_pos n hb, szOf_le n hb hn, hk0, hk⟩, Inv.fresh (szOf_pos n hb) hk0, by simp [SS.fresh], (hT.trans ht1).trans_new h6 (fun i hi => by simp at hi; right; omega), fun i hi => by have := h5 i hi; omega, h8⟩, h2, h3, h4, h6, h5⟩

theorem old_ne {w w1 : World} {ao : Option Addr} {n : Nat} {l : List Int} (h : IRd w ao n l) : 0 < n → ∀ g off, ao = some ⟨g, off, none⟩ → g ≠ w.heap.size + 1 ∧ g ≠ w.heap.size := fun hp g off hg => by
  obtain ⟨x, hx⟩ : ∃ x, l[0]? = some x := ⟨_, List.getElem?_eq_getElem (by rw [h.size]; exact hp)⟩
  obtain ⟨g', off', e, hc⟩ := h.cell 0 x hx
  rw [hg] at e
  cases e
  have h1 := block_lt hc
  simp only at h1
  omega
theorem sl_step (h : Sl w0 w I P S A) (hA : A < 100000000) (k : Int) (hk : -9223372036854775808 ≤ k ∧ k ≤ 9223372036854775807) :
    Calls Try.prog 17 #[.pointer (some ⟨I.s, 0, none⟩), .int .i64 k] w fun e w' => e = .returned (.int .i64 (if (S.next P k).ended P k then 2 else 0)) ∧ Sl w0 w' I P (S.next P k) (A + 1) ∧ Turned I.hot w w' := by
  refine (sstep_any w I P S h.sm h.ok h.inv k hk (by have := h.acc; omega)).mono ?_
  rintro e w' ⟨rfl, h1, h2⟩
  obtain ⟨i1, i2, i3⟩ := h.inv.next k
  exact ⟨rfl, ⟨h1, h.ok, i1, by have := h.acc; omega, h.turn.trans_new h2 (fun i hi => .inr (h.hot i (hot_all hi))), h.hot, fun i hi => Nat.lt_of_lt_of_le (h.lt i hi) h2.size⟩, h2⟩
theorem sl_done (h : Sl w0 w I P S A) :
    Calls Try.prog 19 #[.pointer (some ⟨I.s, 0, none⟩)] w fun e w' => e = .returned (.bool (decide (S.ph = 3))) ∧ Sl w0 w' I P S A ∧ Turned [] w w' := by
  refine (sdone_any w I P S h.sm h.ok h.ph).mono ?_
  rintro e w' ⟨rfl, h1⟩
  exact ⟨rfl, h.next h1, h1⟩
theorem sl_not (h : Sl w0 w I P S A) (h3 : S.ph ≠ 3) :
    Calls Try.prog 18 #[.pointer (some ⟨I.s, 0, none⟩)] w fun e w' => e = .returned (.tuple #[.slice none 0 0, .int .i64 0, .int .i64 16]) ∧ Sl w0 w' I P S A ∧ Turned [] w w' := by
  refine (sresult_any w I P S h.sm h.ok h.inv).mono ?_
  rintro e w' ⟨⟨_, h1⟩ | ⟨h1, _⟩, t⟩
  · exact ⟨h1, h.next t, t⟩
  · exact absurd h1 h3
theorem sl_result (h : Sl w0 w I P S A) (h3 : S.ph = 3) :
    Calls Try.prog 18 #[.pointer (some ⟨I.s, 0, none⟩)] w fun e w' => ∃ ao c, e = .returned (.tuple #[.slice ao P.len c, .int .i64 (wrap64 (pre P.vals P.len)), .int .i64 0]) ∧ IRd w' ao P.len (preL P.vals) ∧ New w' w.heap.size ao ∧ Sl w0 w' I P S A ∧ Turned [] w w' := by
  refine (sresult_any w I P S h.sm h.ok h.inv).mono ?_
  rintro e w' ⟨⟨h1, _⟩ | ⟨_, ao, c, rfl, h1, h2⟩, t⟩
  · exact absurd h3 h1
  · exact ⟨ao, c, rfl, h1, h2, h.next t, t⟩
end

theorem pick12 (c : Int) (n : Nat) (w : World) (hr : -9223372036854775808 ≤ c ∧ c ≤ 9223372036854775807) (hn : 0 < n ∧ n ≤ 1000000) :
    Calls Try.prog 15 #[.int .i64 c, .int .i64 n] w fun e w' => (∃ r : Nat, e = .returned (.int .i64 r) ∧ r < n) ∧ w' = w := by
  have hz : ¬ ((n : Int) = 0) := by omega
  have hm1 : ¬ ((n : Int) = -1) := by omega
  have key : ∀ x : Int, 0 ≤ x → ∃ r : Nat, (.int .i64 (x.tmod n) : Value) = .int .i64 (r : Int) ∧ r < n := by
    intro x hx
    refine ⟨(x.tmod n).toNat, ?_, ?_⟩
    · have := Int.tmod_nonneg (n : Int) hx
      rw [Int.toNat_of_nonneg this]
    · have h1 := Int.tmod_nonneg (n : Int) hx
      have h2 := Int.tmod_lt_of_pos x (b := (n : Int)) (by omega)
      omega
  have KEY := hide key
  clear key
  by_cases hneg : c < 0
  · go_enter Try.func15, Try.ntmps15
    go_wp2_with fail
    go_ret
    obtain ⟨r, h1, h2⟩ := KEY.out (-(c + 1)) (by omega)
    refine ⟨⟨r, ?_, h2⟩, rfl⟩
    rw [← h1, Int.neg_tmod]
    rfl
  · go_enter Try.func15, Try.ntmps15
    go_wp2_with fail
    go_ret
    obtain ⟨r, h1, h2⟩ := KEY.out c (by omega)
    refine ⟨⟨r, ?_, h2⟩, rfl⟩
    rw [← h1, Int.tmod_eq_emod_of_nonneg (by omega)]
    rfl

set_option maxRecDepth 100000 in
theorem rplain_any (w : World) (ao : Option Addr) (n c : Nat) (l : List Int) (h : IRd w ao n l) (hn : n ≤ 65536) :
    Calls Try.prog 11 #[.slice ao n c] w fun e w' => ∃ ao' c', e = .returned (.tuple #[.slice ao' n c', .int .i64 (wrap64 (pre l n))]) ∧ IRd w' ao' n (preL l) ∧ New w' w.heap.size ao' ∧ Turned [] w w' := by
  have HS := hide h.size
  have HR := hide h
  clear h
  have HRd := hide (fun w' (t : Turned [] w w') (j : Nat) (hj : j < n) => (HR.out.turned0 t).cell j _ (getD_some (show j < l.length by have := HS.out; omega)))
  go_enter Try.func11, Try.ntmps11
  go_wp2_with fail
  go_loopw [4, 5] (fun v i wr => ∃ (j : Nat), j ≤ n ∧ i = .int .i64 j ∧ Hid (Rw wr w.heap.size v ((preL l).take j)) ∧ Hid (Turned [] w wr)) (fun _ i _ => n - (intOf i).toNat)
  case atStart => exact ⟨0, Nat.zero_le _, rfl, World.ownsRow_nil _ _ _ _, Turned.refl _ _⟩
  case round =>
    obtain ⟨j, hj, rfl, HO, HT⟩ := hrel
    by_cases hlt : j < n
    · have hjz : (j : Int) < (n : Int) := by omega
      go_wp2_with fail
      go_loopw [6, 7] (fun s i wq => ∃ (k : Nat), k ≤ j ∧ i = .int .i64 k ∧ s = .int .i64 (wrap64 (pre l k)) ∧ Hid (wq = wr)) (fun _ i _ => j - (intOf i).toNat)
      case atStart => exact ⟨0, Nat.zero_le _, rfl, by rw [pre_zero, wrap0], by first | exact rfl | exact trivial⟩
      case round =>
        obtain ⟨k, hk, rfl, rfl, HW⟩ := hrel
        have hw := HW.out
        clear HW
        subst hw
        by_cases hlt2 : k < j
        · obtain ⟨b, off, rfl, c0⟩ := HRd.out _ HT.out k (by omega)
          have HX := hide (pre_succ (getD_some (show k < l.length by have := HS.out; omega)))
          generalize l.getD k 0 = x at *
          have e1 := wrap_add (pre l k) x
          rw [← HX.out] at e1
          have E1 := hide e1
          have hr := wrap64_range (pre l k)
          have hkz : (k : Int) < (j : Int) := by omega
          clear e1 HX
          generalize wrap64 (pre l k) = sj at *
          go_wp2_with fail
          go_roundw
          case rel => exact ⟨k + 1, by omega, by go_num, by rw [← E1.out], by first | exact rfl | exact trivial⟩
          case measure => simp [intOf]; omega
        · have hkj : k = j := by omega
          subst hkj
          have hkz : ¬ (k : Int) < (k : Int) := by omega
          have hjl : (preL l)[k]? = some (wrap64 (pre l k)) := preL_get (by have := HS.out; omega)
          have HJ := hide hjl
          have hlen : ((preL l).take k).length = k := by rw [List.length_take, preL_len]; have := HS.out; omega
          have HLen := hide hlen
          clear hjl hlen
          generalize wrap64 (pre l k) = s at *
          have HB := hide (show IRd (wr.alloc (.cells #[.int .i64 s] 2)) (some ⟨wr.heap.size, 0, none⟩) 1 [s] from ⟨rfl, fun i x hx => ⟨wr.heap.size, 0, rfl, by
            have hi : i = 0 := by have := (List.getElem?_eq_some_iff.1 hx).1; simpa using this
            subst hi
            simp at hx
            subst hx
            rw [cell_of_heap (heap_alloc_new _ _)]; rfl⟩⟩)
          have HO2 := hide (show Rw (wr.alloc (.cells #[.int .i64 s] 2)) w.heap.size u4 ((preL l).take k) from ownsRow_keep HO.out (fun q hq => Below.heap_alloc _ _ _ (ownsRow_lt HO.out q hq).2.1))
          have hsz := HT.out.size
          go_wp2_with (at_builtin; refine wpList_append64 rfl _ _ rfl w.heap.size u4 ((preL l).take k) rfl HO2.out (some ⟨wr.heap.size, 0, none⟩) 1 1 [s] rfl HB.out (fun h => by cases h) (by rw [HLen.out]; omega) (by simp; omega) ?_; intro v' w3 hown hgr)
          have hown2 : Rw w3 w.heap.size v' ((preL l).take (k + 1)) := by rw [take_snoc HJ.out]; exact hown
          have ht3 : Turned [] w w3 := (HT.out.alloc _).grown hgr (fun q hq => .inr (ownsRow_lt HO.out q hq).1)
          go_roundw
          case rel => exact ⟨k + 1, by omega, by go_num, hown2, ht3⟩
          case measure => simp [intOf]; omega
    · have hjk : j = n := by omega
      subst hjk
      have hjz : ¬ (j : Int) < (j : Int) := by omega
      go_wp2_with fail
      go_loopw [8, 9] (fun s i wq => ∃ (k : Nat), k ≤ j ∧ i = .int .i64 k ∧ s = .int .i64 (wrap64 (pre l k)) ∧ Hid (wq = wr)) (fun _ i _ => j - (intOf i).toNat)
      case atStart => exact ⟨0, Nat.zero_le _, rfl, by rw [pre_zero, wrap0], by first | exact rfl | exact trivial⟩
      case round =>
        obtain ⟨k, hk, rfl, rfl, HW⟩ := hrel
        have hw := HW.out
        clear HW
        subst hw
        by_cases hlt2 : k < j
        · obtain ⟨b, off, rfl, c0⟩ := HRd.out _ HT.out k (by omega)
          have HX := hide (pre_succ (getD_some (show k < l.length by have := HS.out; omega)))
          generalize l.getD k 0 = x at *
          have e1 := wrap_add (pre l k) x
          rw [← HX.out] at e1
          have E1 := hide e1
          have hr := wrap64_range (pre l k)
          have hkz : (k : Int) < (j : Int) := by omega
          clear e1 HX
          generalize wrap64 (pre l k) = sj at *
          go_wp2_with fail
          go_roundw
          case rel => exact ⟨k + 1, by omega, by go_num, by rw [← E1.out], by first | exact rfl | exact trivial⟩
          case measure => simp [intOf]; omega
        · have hkj : k = j := by omega
          subst hkj
          go_wp2_with fail
          go_ret2
          have ho := HO.out
          rw [List.take_of_length_le (by rw [preL_len, HS.out]; exact Nat.le_refl _)] at ho
          obtain ⟨ao', c', hv, h1, h2, h3⟩ := ho.rd
          rw [preL_len, HS.out] at hv h1
          exact ⟨ao', c', by rw [hv]; rfl, h1, h2, HT.out⟩
end Go.Proofs.Ytdjeilombaclmaa
