/-
  The statement CellsSums is proved: for every list of numbers the law returns true and the list reads as before; no condition.
-/
import Derived.Test.YthkdikdhceibnaaCellsAwake
import Derived.Test.YthkdikdhceibnaaLawKit
namespace Go.Proofs.Ythkdikdhceibnaa
open Go.RowKit Go.ChangeShapes Go.WideShapes Go.ChangeAt
set_option linter.unusedVariables false

def sumW (l : List Int) : Int := l.foldl (fun a v => wrap64 (a + v)) 0
theorem wrap64_range (x : Int) : -9223372036854775808 ≤ wrap64 x ∧ wrap64 x ≤ 9223372036854775807 := by unfold wrap64; omega
theorem sumW_range (l : List Int) : -9223372036854775808 ≤ sumW l ∧ sumW l ≤ 9223372036854775807 := by
  unfold sumW
  rcases List.eq_nil_or_concat l with rfl | ⟨l', x, rfl⟩
  · simp
  · simp only [List.concat_eq_append, List.foldl_append, List.foldl_cons, List.foldl_nil]; exact wrap64_range _
theorem wrap64_back (x v : Int) (h : -9223372036854775808 ≤ x ∧ x ≤ 9223372036854775807) : wrap64 (wrap64 (x + v) - v) = x := by unfold wrap64; omega
theorem sumW_snoc (l : List Int) (k : Nat) (h : k < l.length) : sumW (l.take (k + 1)) = wrap64 (sumW (l.take k) + l.getD k 0) := by
  rw [List.take_succ_eq_append_getElem h]
  unfold sumW
  rw [List.foldl_append]
  simp [List.getD_eq_getElem?_getD, h]

set_option maxRecDepth 100000 in
theorem sums_some (b off len cap : Nat) (zs : List Int) (w : World) (hl : len ≤ zs.length) (hlen : len ≤ 9223372036854775807) (hb : b < w.heap.size)
    (hcell : ∀ i, i < len → w.cell? ⟨b, off + i, none⟩ = some (.int .i64 (zs.getD i 0))) :
    Calls Try.prog 5 #[.slice (some ⟨b, off, none⟩) len cap] w fun e w' => e = .returned (.bool true) ∧ Turned [] w w' := by
  have HC := hide hcell
  clear hcell
  go_enter Try.func5, Try.ntmps5
  go_wp2_with fail
  refine (awake_true _).mono ?_
  rintro e w1 ⟨rfl, ht1⟩
  have HT := hide ht1
  clear ht1
  go_wp2_with fail
  refine (new_any 2 _).mono ?_
  rw [show (List.replicate (min (max 2 0) 65536 : Int).toNat (0 : Int)) = [0, 0] from by decide]
  rintro e w2 ⟨rfl, hm, ht, -⟩
  have HM := hide hm
  have HT2 := hide (HT.out.trans ht)
  have hp := HT.out.size
  have hq : w1.heap.size + 1 ≠ w1.heap.size := by omega
  have hpp : w.heap.size ≤ w1.heap.size + 1 := by omega
  clear hm ht HT
  generalize w1.heap.size + 1 = p at *
  generalize w1.heap.size = q at *
  clear w1
  go_wp2_with fail
  go_loopw [5, 6] (fun t i wr => ∃ (k : Nat) (x : Int), k ≤ len ∧ k ≤ 100 ∧ i = .int .i64 k ∧ t = .int .i64 x ∧ Hid (x = sumW (zs.take k)) ∧ (∃ s, Hid (Mem wr p q [0, x] s)) ∧ Hid (Turned [] w wr)) (fun _ i _ => 100 - (intOf i).toNat)
  case atStart => exact ⟨0, 0, Nat.zero_le _, Nat.zero_le _, rfl, rfl, rfl, ⟨0, HM⟩, HT2⟩
  case round =>
    obtain ⟨k, x, hk, hk2, rfl, rfl, HX, ⟨s, HMr⟩, HTr⟩ := hrel
    by_cases hlt : k < len
    · by_cases hlt2 : k < 100
      · have hcw : wr.cell? ⟨b, off + k, none⟩ = some (.int .i64 (zs.getD k 0)) := by rw [HTr.out.cell hb (by simp)]; exact HC.out k hlt
        have HS := hide (sumW_snoc zs k (by omega))
        have HR := hide (sumW_range (zs.take k))
        generalize zs.getD k 0 = z at *
        have HB : Hid (wrap64 (wrap64 (x + z) - z) = x) := by rw [HX.out]; exact wrap64_back _ _ HR.out
        go_wp2_with fail
        refine (add_in p q [0, x] s wr 1 x z rfl HMr.out).mono ?_
        rw [HB.out]
        rintro e w3 ⟨rfl, hm, ht⟩
        have hcw3 : w3.cell? ⟨b, off + k, none⟩ = some (.int .i64 z) := by rw [ht.cell (by have := HTr.out.size; exact Nat.lt_of_lt_of_le hb this) (by simp; omega)]; exact hcw
        have HT3 := hide (HTr.out.trans_new ht (by simp; omega))
        have HM3 := hide hm
        clear hm ht
        go_wp2_with fail
        go_roundw
        case rel => exact ⟨k + 1, wrap64 (x + z), by omega, by omega, by go_num, rfl, by show _ = _; rw [HS.out, HX.out], ⟨_, HM3⟩, HT3⟩
        case measure => simp [intOf]; omega
      · go_wp2_with fail
        refine (load_in p q [0, x] s wr 1 x rfl HMr.out).mono ?_
        rintro e w3 ⟨rfl, hm, ht⟩
        have HT3 := hide (HTr.out.trans_new ht (by simp; omega))
        have HM3 := hide hm
        clear hm ht
        go_wp2_with fail
        refine (load_in p q [0, x] _ w3 0 0 rfl HM3.out).mono ?_
        rintro e w4 ⟨rfl, hm, ht⟩
        have HT4 := hide (HT3.out.trans_new ht (by simp; omega))
        clear hm ht
        go_wp2_with fail
        go_ret
        exact ⟨rfl, HT4.out⟩
    · go_wp2_with fail
      refine (load_in p q [0, x] s wr 1 x rfl HMr.out).mono ?_
      rintro e w3 ⟨rfl, hm, ht⟩
      have HT3 := hide (HTr.out.trans_new ht (by simp; omega))
      have HM3 := hide hm
      clear hm ht
      go_wp2_with fail
      refine (load_in p q [0, x] _ w3 0 0 rfl HM3.out).mono ?_
      rintro e w4 ⟨rfl, hm, ht⟩
      have HT4 := hide (HT3.out.trans_new ht (by simp; omega))
      clear hm ht
      go_wp2_with fail
      go_ret
      exact ⟨rfl, HT4.out⟩
set_option maxRecDepth 100000 in
theorem sums_zero (a : Option Addr) (cap : Nat) (w : World) :
    Calls Try.prog 5 #[.slice a 0 cap] w fun e w' => e = .returned (.bool true) ∧ Turned [] w w' := by
  go_enter Try.func5, Try.ntmps5
  go_wp2_with fail
  refine (awake_true _).mono ?_
  rintro e w1 ⟨rfl, ht1⟩
  have HT := hide ht1
  clear ht1
  go_wp2_with fail
  refine (new_any 2 _).mono ?_
  rw [show (List.replicate (min (max 2 0) 65536 : Int).toNat (0 : Int)) = [0, 0] from by decide]
  rintro e w2 ⟨rfl, hm, ht, -⟩
  have HM := hide hm
  have HT2 := hide (HT.out.trans ht)
  have hp := HT.out.size
  have hq : w1.heap.size + 1 ≠ w1.heap.size := by omega
  have hpp : w.heap.size ≤ w1.heap.size + 1 := by omega
  clear hm ht HT
  generalize w1.heap.size + 1 = p at *
  generalize w1.heap.size = q at *
  clear w1
  go_wp2_with fail
  go_loopw [5, 6] (fun t i wr => i = .int .i64 0 ∧ t = .int .i64 0 ∧ (∃ s, Hid (Mem wr p q [0, 0] s)) ∧ Hid (Turned [] w wr)) (fun _ i _ => 100 - (intOf i).toNat)
  case atStart => exact ⟨rfl, rfl, ⟨0, HM⟩, HT2⟩
  case round =>
    obtain ⟨rfl, rfl, ⟨s, HMr⟩, HTr⟩ := hrel
    go_wp2_with fail
    refine (load_in p q [0, 0] s wr 1 0 rfl HMr.out).mono ?_
    rintro e w3 ⟨rfl, hm, ht⟩
    have HT3 := hide (HTr.out.trans_new ht (by simp; omega))
    have HM3 := hide hm
    clear hm ht
    go_wp2_with fail
    refine (load_in p q [0, 0] _ w3 0 0 rfl HM3.out).mono ?_
    rintro e w4 ⟨rfl, hm, ht⟩
    have HT4 := hide (HT3.out.trans_new ht (by simp; omega))
    clear hm ht
    go_wp2_with fail
    go_ret
    exact ⟨rfl, HT4.out⟩

theorem cellsSums_walk (a : Option Addr) (len cap : Nat) (zs : List Int) (w : World) (h : IsRow .i64 w a len cap zs) :
    Calls Try.prog 5 #[.slice a len cap] w fun e w' => e = .returned (.bool true) ∧ Turned [] w w' := by
  rcases h.cases with rfl | ⟨b, off, rfl, hl, hn, hb, hc, _⟩
  · exact sums_zero a cap w
  · exact sums_some b off len cap zs w hl hn hb hc

set_option maxRecDepth 100000 in
theorem cellsSums_lifted (os : Os) (started : os.Started) (H : Type) (enc : TypeId × Value → H) :
    ReturnsInHanded {} Try.checked os 5 .any (Rows.cellsSumsSpec.pre6 enc Try.prog Try.f5 Rows.cellsSumsRow.domain false) (Rows.cellsSumsSpec.post enc Try.prog Try.f5 false true false false) := by
  refine returnsInHanded_of_change (C := Try.checked) own started (by kernel_rfl) Try.func5
    (ChangeSpec.witness6 (enc := enc) (C := Try.checked) false ⟨#[], #[.slice none 0 0], []⟩ 8 (by kernel_rfl) (by kernel_rfl) (by kernel_rfl) (by kernel_rfl)) ?_
  intro W base args ds gs before hval0 hW hcnd _
  have hval : ∀ (j : Nat) t v, Try.f5.params[j]? = some t → args[j]? = some v → Value.okWide Try.prog W .any base t v := hval0
  have hW' := hW
  obtain ⟨p, q, hA0, hV, rfl, hfz, hnd⟩ := hW
  have hA : DataW.TrodAll enc Try.prog W 0 (fun _ => true) true Try.f5.params.toList args.toList ds p := hA0
  rw [Try.params5] at hA hval
  obtain ⟨v0, vs0, d0, ds0, p0, q0, hargs, rfl, rfl, h0, r0⟩ := trodAll_cons hA
  obtain ⟨rfl, rfl, rfl⟩ := trodAll_nil r0
  obtain rfl : args = #[v0] := by cases args; simp_all
  obtain ⟨rfl, rfl⟩ := trodVars_none hV
  obtain ⟨a0, len0, cap0, rfl⟩ := okWide_slice Try.underlying29 (hval 0 29 v0 rfl rfl)
  have k0 := h0
  have lt0 : ∀ x ∈ p0, x.block < W.heap.size := by obtain ⟨m, hm⟩ := k0; exact DataW.trod_lt m _ _ _ hm
  obtain ⟨z0, w0⟩ : ∃ zs, IsRow .i64 W a0 len0 cap0 zs := by
    obtain ⟨fuel, hf⟩ := h0
    rcases open_ints Try.underlying29 Try.underlying2 (by kernel_rfl) hf with ⟨hcs, _⟩ | ⟨x, l, c, zs, hcs, _, hl, hm, hz, _, hcell, hwz⟩
    · simp [Value.cells] at hcs
      obtain ⟨rfl, rfl, rfl⟩ := hcs
      exact ⟨[], .inl ⟨rfl, rfl, rfl, rfl⟩⟩
    · simp [Value.cells] at hcs
      obtain ⟨rfl, rfl, rfl⟩ := hcs
      exact ⟨zs, .inr ⟨_, rfl, hl, hm, by simpa using hz, hcell, hwz⟩⟩
  clear hA0 hval0
  refine (cellsSums_walk a0 len0 cap0 z0 W w0).mono fun e W' ⟨he, ht⟩ => ?_
  subst he
  have bel : Below W.heap.size W W' := ht.below0
  exact ⟨_, rfl, _, _, _, [], _, [], hW', trodAll_mk1 (shut_bool Try.underlying4 _), (trodAll_cons_mk (Below.trod laidOut (by kernel_rfl) (of_decide_eq_true (by kernel_rfl)) k0 bel lt0) trodAll_mk0), rfl, bel.frame _, fun h => by cases h⟩

theorem cellsSums_over : Rows.cellsSumsRow.holds Try.pinned (OpenSpec.ofChange Rows.cellsSumsSpec) :=
  OpenClaim.holds_of_wide 5 Try.f5 rfl rfl rfl rfl rfl rfl rfl ⟨rfl, rfl, rfl, rfl, rfl⟩ rfl rfl rfl rfl rfl (by kernel_rfl) Try.func5 (by kernel_rfl)
    (of_decide_eq_true (by kernel_rfl)) (by unfold Func.isWrapper; first | (rw [if_pos (by decide +kernel)]; kernel_rfl) | (rw [if_neg (by decide +kernel)]; exact ⟨rfl, rfl⟩))
    (fun os started H enc _ => cellsSums_lifted os started H enc)

theorem cellsSums_holds : Rows.CellsSumsSaid := cellsSums_over
end Go.Proofs.Ythkdikdhceibnaa
