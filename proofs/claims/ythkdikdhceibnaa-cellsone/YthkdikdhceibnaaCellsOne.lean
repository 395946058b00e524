/-
  The statement CellsOne is proved: for every first word and every list of words the law returns true and both read as before; no condition.
-/
import Derived.Test.YthkdikdhceibnaaCellsAwake
import Derived.Test.YthkdikdhceibnaaLawKit
namespace Go.Proofs.Ythkdikdhceibnaa
open Go.RowKit Go.ChangeShapes Go.WideShapes Go.ChangeAt
set_option linter.unusedVariables false

set_option maxRecDepth 100000 in
theorem one_some (first : Int) (b off len cap : Nat) (zs : List Int) (w : World) (hl : len ≤ zs.length) (hlen : len ≤ 9223372036854775807) (hb : b < w.heap.size)
    (hcell : ∀ i, i < len → w.cell? ⟨b, off + i, none⟩ = some (.int .i64 (zs.getD i 0))) :
    Calls Try.prog 4 #[.int .i64 first, .slice (some ⟨b, off, none⟩) len cap] w fun e w' => e = .returned (.bool true) ∧ Turned [] w w' := by
  have HC := hide hcell
  clear hcell
  go_enter Try.func4, Try.ntmps4
  go_wp2_with fail
  refine (awake_true _).mono ?_
  rintro e w1 ⟨rfl, ht1⟩
  have HT := hide ht1
  clear ht1
  go_wp2_with fail
  refine (new_any 1 _).mono ?_
  rw [show (List.replicate (min (max 1 0) 65536 : Int).toNat (0 : Int)) = [0] from by decide]
  rintro e w2 ⟨rfl, hm, ht, -⟩
  have HM := hide hm
  have HT2 := hide (HT.out.trans ht)
  have hp := HT.out.size
  have hq : w1.heap.size + 1 ≠ w1.heap.size := by omega
  have hpp : w.heap.size ≤ w1.heap.size + 1 := by omega
  clear hm ht HT
  generalize w1.heap.size + 1 = p at *
  generalize w1.heap.size = q at *
  clear w1
  go_wp2_with fail
  refine (store_in p q [0] 0 w2 0 0 first rfl HM.out).mono ?_
  rintro e w3 ⟨rfl, hm, ht⟩
  have HM3 : Hid (Mem w3 p q [first] _) := hm
  have HT3 := hide (HT2.out.trans_new ht (by simp; omega))
  clear hm ht HM HT2 w2
  go_wp2_with fail
  go_loopw [7, 8, 9] (fun n t i wr => ∃ (k : Nat) (y : Int), k ≤ len ∧ k ≤ 50 ∧ i = .int .i64 k ∧ t = .int .i64 y ∧ ((n = .int .i64 0 ∧ y = first) ∨ (n = .int .i64 1 ∧ ¬ y = first)) ∧ (∃ s, Hid (Mem wr p q [y] s)) ∧ Hid (Turned [] w wr)) (fun _ _ i _ => 50 - (intOf i).toNat)
  case atStart => exact ⟨0, first, Nat.zero_le _, Nat.zero_le _, rfl, rfl, .inl ⟨rfl, rfl⟩, ⟨_, HM3⟩, HT3⟩
  case round =>
    obtain ⟨k, y, hk, hk2, rfl, rfl, hcase, ⟨s, HMr⟩, HTr⟩ := hrel
    by_cases hlt : k < len
    · by_cases hlt2 : k < 50
      · have hcw : wr.cell? ⟨b, off + k, none⟩ = some (.int .i64 (zs.getD k 0)) := by rw [HTr.out.cell hb (by simp)]; exact HC.out k hlt
        generalize zs.getD k 0 = z at *
        by_cases hz : z = first
        · have hz2 : (z == first) = true := by simp [hz]
          have HZ := hide hz
          clear hz
          have HH := hide hcase
          clear hcase
          go_wp2_with fail
          go_roundw
          case rel => exact ⟨k + 1, y, by omega, by omega, by go_num, rfl, HH.out, ⟨_, HMr⟩, HTr⟩
          case measure => simp [intOf]; omega
        · have hz2 : (z == first) = false := by simp [hz]
          have HZ := hide hz
          clear hz
          rcases hcase with ⟨rfl, rfl⟩ | ⟨rfl, hy⟩
          · go_wp2_with fail
            refine (swap_hit p q [y] s wr 0 y z rfl HMr.out).mono ?_
            rintro e w5 ⟨rfl, hm, ht⟩
            have hcw3 : w5.cell? ⟨b, off + k, none⟩ = some (.int .i64 z) := by rw [ht.cell (by have := HTr.out.size; exact Nat.lt_of_lt_of_le hb this) (by simp; omega)]; exact hcw
            have HT5 := hide (HTr.out.trans_new ht (by simp; omega))
            have HM5 := hide hm
            clear hm ht
            go_wp2_with fail
            go_roundw
            case rel => exact ⟨k + 1, z, by omega, by omega, by go_num, rfl, .inr ⟨rfl, HZ.out⟩, ⟨_, HM5⟩, HT5⟩
            case measure => simp [intOf]; omega
          · have HY := hide hy
            clear hy
            go_wp2_with fail
            refine (swap_miss p q [y] s wr 0 y first z rfl HY.out HMr.out).mono ?_
            rintro e w5 ⟨rfl, hm, ht⟩
            have hcw3 : w5.cell? ⟨b, off + k, none⟩ = some (.int .i64 z) := by rw [ht.cell (by have := HTr.out.size; exact Nat.lt_of_lt_of_le hb this) (by simp; omega)]; exact hcw
            have HT5 := hide (HTr.out.trans_new ht (by simp; omega))
            have HM5 := hide hm
            clear hm ht
            go_wp2_with fail
            go_roundw
            case rel => exact ⟨k + 1, y, by omega, by omega, by go_num, rfl, .inr ⟨rfl, HY.out⟩, ⟨_, HM5⟩, HT5⟩
            case measure => simp [intOf]; omega
      · have HH := hide hcase
        clear hcase
        go_wp2_with fail
        refine (load_in p q [y] s wr 0 y rfl HMr.out).mono ?_
        rintro e w3 ⟨rfl, hm, ht⟩
        have HT3 := hide (HTr.out.trans_new ht (by simp; omega))
        clear hm ht
        go_wp2_with fail
        go_ret
        exact ⟨rfl, HT3.out⟩
    · have HH := hide hcase
      clear hcase
      go_wp2_with fail
      refine (load_in p q [y] s wr 0 y rfl HMr.out).mono ?_
      rintro e w3 ⟨rfl, hm, ht⟩
      have HT3 := hide (HTr.out.trans_new ht (by simp; omega))
      clear hm ht
      go_wp2_with fail
      go_ret
      exact ⟨rfl, HT3.out⟩

set_option maxRecDepth 100000 in
theorem one_zero (first : Int) (a : Option Addr) (cap : Nat) (w : World) :
    Calls Try.prog 4 #[.int .i64 first, .slice a 0 cap] w fun e w' => e = .returned (.bool true) ∧ Turned [] w w' := by
  go_enter Try.func4, Try.ntmps4
  go_wp2_with fail
  refine (awake_true _).mono ?_
  rintro e w1 ⟨rfl, ht1⟩
  have HT := hide ht1
  clear ht1
  go_wp2_with fail
  refine (new_any 1 _).mono ?_
  rw [show (List.replicate (min (max 1 0) 65536 : Int).toNat (0 : Int)) = [0] from by decide]
  rintro e w2 ⟨rfl, hm, ht, -⟩
  have HM := hide hm
  have HT2 := hide (HT.out.trans ht)
  have hp := HT.out.size
  have hq : w1.heap.size + 1 ≠ w1.heap.size := by omega
  have hpp : w.heap.size ≤ w1.heap.size + 1 := by omega
  clear hm ht HT
  generalize w1.heap.size + 1 = p at *
  generalize w1.heap.size = q at *
  clear w1
  go_wp2_with fail
  refine (store_in p q [0] 0 w2 0 0 first rfl HM.out).mono ?_
  rintro e w3 ⟨rfl, hm, ht⟩
  have HM3 : Hid (Mem w3 p q [first] _) := hm
  have HT3 := hide (HT2.out.trans_new ht (by simp; omega))
  clear hm ht HM HT2 w2
  go_wp2_with fail
  go_loopw [7, 8, 9] (fun n t i wr => i = .int .i64 0 ∧ t = .int .i64 first ∧ n = .int .i64 0 ∧ (∃ s, Hid (Mem wr p q [first] s)) ∧ Hid (Turned [] w wr)) (fun _ _ i _ => 50 - (intOf i).toNat)
  case atStart => exact ⟨rfl, rfl, rfl, ⟨_, HM3⟩, HT3⟩
  case round =>
    obtain ⟨rfl, rfl, rfl, ⟨s, HMr⟩, HTr⟩ := hrel
    go_wp2_with fail
    refine (load_in p q [first] s wr 0 first rfl HMr.out).mono ?_
    rintro e w3 ⟨rfl, hm, ht⟩
    have HT3 := hide (HTr.out.trans_new ht (by simp; omega))
    clear hm ht
    go_wp2_with fail
    go_ret
    exact ⟨rfl, HT3.out⟩

theorem cellsOne_walk (first : Int) (a : Option Addr) (len cap : Nat) (zs : List Int) (w : World) (_ : (Lit.int .i64 first).wf = true) (h : IsRow .i64 w a len cap zs) :
    Calls Try.prog 4 #[.int .i64 first, .slice a len cap] w fun e w' => e = .returned (.bool true) ∧ Turned [] w w' := by
  rcases h.cases with rfl | ⟨b, off, rfl, hl, hn, hb, hc, _⟩
  · exact one_zero first a cap w
  · exact one_some first b off len cap zs w hl hn hb hc

set_option maxRecDepth 100000 in
theorem cellsOne_lifted (os : Os) (started : os.Started) (H : Type) (enc : TypeId × Value → H) :
    ReturnsInHanded {} Try.checked os 4 .any (Rows.cellsOneSpec.pre6 enc Try.prog Try.f4 Rows.cellsOneRow.domain false) (Rows.cellsOneSpec.post enc Try.prog Try.f4 false true false false) := by
  refine returnsInHanded_of_change (C := Try.checked) own started (by kernel_rfl) Try.func4
    (ChangeSpec.witness6 (enc := enc) (C := Try.checked) false ⟨#[], #[.int .i64 0, .slice none 0 0], []⟩ 8 (by kernel_rfl) (by kernel_rfl) (by kernel_rfl) (by kernel_rfl)) ?_
  intro W base args ds gs before hval0 hW hcnd _
  have hval : ∀ (j : Nat) t v, Try.f4.params[j]? = some t → args[j]? = some v → Value.okWide Try.prog W .any base t v := hval0
  have hW' := hW
  obtain ⟨p, q, hA0, hV, rfl, hfz, hnd⟩ := hW
  have hA : DataW.TrodAll enc Try.prog W 0 (fun _ => true) true Try.f4.params.toList args.toList ds p := hA0
  rw [Try.params4] at hA hval
  obtain ⟨v0, vs0, d0, ds0, p0, q0, hargs, rfl, rfl, h0, r0⟩ := trodAll_cons hA
  obtain ⟨v1, vs1, d1, ds1, p1, q1, rfl, rfl, rfl, h1, r1⟩ := trodAll_cons r0
  obtain ⟨rfl, rfl, rfl⟩ := trodAll_nil r1
  obtain rfl : args = #[v0, v1] := by cases args; simp_all
  obtain ⟨rfl, rfl⟩ := trodVars_none hV
  obtain ⟨a0, rfl, rfl, rfl, w0⟩ := open_int Try.underlying2 (hval 0 2 v0 rfl rfl) h0
  obtain ⟨a1, len1, cap1, rfl⟩ := okWide_slice Try.underlying29 (hval 1 29 v1 rfl rfl)
  have k1 := h1
  have lt1 : ∀ x ∈ p1, x.block < W.heap.size := by obtain ⟨m, hm⟩ := k1; exact DataW.trod_lt m _ _ _ hm
  obtain ⟨z1, w1⟩ : ∃ zs, IsRow .i64 W a1 len1 cap1 zs := by
    obtain ⟨fuel, hf⟩ := h1
    rcases open_ints Try.underlying29 Try.underlying2 (by kernel_rfl) hf with ⟨hcs, _⟩ | ⟨x, l, c, zs, hcs, _, hl, hm, hz, _, hcell, hwz⟩
    · simp [Value.cells] at hcs
      obtain ⟨rfl, rfl, rfl⟩ := hcs
      exact ⟨[], .inl ⟨rfl, rfl, rfl, rfl⟩⟩
    · simp [Value.cells] at hcs
      obtain ⟨rfl, rfl, rfl⟩ := hcs
      exact ⟨zs, .inr ⟨_, rfl, hl, hm, by simpa using hz, hcell, hwz⟩⟩
  clear hA0 hval0
  refine (cellsOne_walk a0 a1 len1 cap1 z1 W w0 w1).mono fun e W' ⟨he, ht⟩ => ?_
  subst he
  have bel : Below W.heap.size W W' := ht.below0
  exact ⟨_, rfl, _, _, _, [], _, [], hW', trodAll_mk1 (shut_bool Try.underlying4 _), (trodAll_cons_mk (shut_int Try.underlying2 w0) (trodAll_cons_mk (Below.trod laidOut (by kernel_rfl) (of_decide_eq_true (by kernel_rfl)) k1 bel lt1) trodAll_mk0)), rfl, bel.frame _, fun h => by cases h⟩

theorem cellsOne_over : Rows.cellsOneRow.holds Try.pinned (OpenSpec.ofChange Rows.cellsOneSpec) :=
  OpenClaim.holds_of_wide 4 Try.f4 rfl rfl rfl rfl rfl rfl rfl ⟨rfl, rfl, rfl, rfl, rfl⟩ rfl rfl rfl rfl rfl (by kernel_rfl) Try.func4 (by kernel_rfl)
    (of_decide_eq_true (by kernel_rfl)) (by unfold Func.isWrapper; first | (rw [if_pos (by decide +kernel)]; kernel_rfl) | (rw [if_neg (by decide +kernel)]; exact ⟨rfl, rfl⟩))
    (fun os started H enc _ => cellsOne_lifted os started H enc)

theorem cellsOne_holds : Rows.CellsOneSaid := cellsOne_over
end Go.Proofs.Ythkdikdhceibnaa
