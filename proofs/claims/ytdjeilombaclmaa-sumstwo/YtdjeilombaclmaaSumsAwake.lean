/-
  awake tells true.
-/
import Derived.Test.YtdjeilombaclmaaSumsLaw
namespace Go.Proofs.Ytdjeilombaclmaa
open Go.RowKit
set_option linter.unusedVariables false

theorem turn_f (n : Nat) (hn : 0 < n) (j k : Nat) (hk : k < n) : ∃ d, d < n ∧ (j + d) % n = k := by
  have h1 := Nat.mod_lt j hn
  by_cases h : j % n ≤ k
  · refine ⟨k - j % n, by omega, ?_⟩
    rw [Nat.add_mod, Nat.mod_eq_of_lt (show k - j % n < n by omega), show j % n + (k - j % n) = k by omega, Nat.mod_eq_of_lt hk]
  · refine ⟨n - j % n + k, by omega, ?_⟩
    have h3 := Nat.div_add_mod j n
    rw [show j + (n - j % n + k) = k + n * (j / n + 1) by rw [Nat.mul_add, Nat.mul_one]; omega, Nat.add_mul_mod_self_left, Nat.mod_eq_of_lt hk]

theorem Tn.le {P : SP} {S : SS} {f : Nat → Nat} {j K : Nat} (h : Tn P S f j K) (h3 : S.ph ≠ 3) : j ≤ K := by
  obtain ⟨d, _, _, h1⟩ := h.resolve_left h3
  omega

def P3 : SP := ⟨[3, 1, 4], 2, 2⟩
theorem p3_pre : wrap64 (pre [3, 1, 4] 3) = 8 ∧ preL [3, 1, 4] = [0, 3, 4] := by decide +kernel
theorem p3_nb : P3.nb = 2 := by decide +kernel

theorem ird3 (w : World) : IRd (w.alloc (.cells #[.int .i64 3, .int .i64 1, .int .i64 4] 2)) (some ⟨w.heap.size, 0, none⟩) 3 [3, 1, 4] :=
  ⟨rfl, fun i y hy => ⟨w.heap.size, 0, rfl, by
    rw [Nat.zero_add, cell_of_heap (heap_alloc_new w _)]
    have hi := (List.getElem?_eq_some_iff.1 hy).1
    simp at hi
    match i, hi, hy with
    | 0, _, hy => simp at hy; subst hy; rfl
    | 1, _, hy => simp at hy; subst hy; rfl
    | 2, _, hy => simp at hy; subst hy; rfl⟩⟩

set_option maxRecDepth 100000 in
theorem awake12 (w : World) : Calls Try.prog 9 #[] w fun e w' => e = .returned (.bool true) ∧ Turned [] w w' := by
  obtain ⟨hq1, hq2⟩ := p3_pre
  have HP1 := hide (splain_any (w.alloc (.cells #[.int .i64 3, .int .i64 1, .int .i64 4] 2)) (some ⟨w.heap.size, 0, none⟩) 3 3 [3, 1, 4] (ird3 w) (by omega))
  rw [hq1, hq2] at HP1
  go_enter Try.func9, Try.ntmps9
  go_wp2_with fail
  refine HP1.out.mono ?_
  rintro e w1 ⟨rfl, r1, t1⟩
  have R1 := hide r1
  have T1 := hide (show Turned [] w w1 from ((Turned.refl [] w).alloc _).trans t1)
  clear r1 t1 HP1
  generalize (w.alloc (.cells #[.int .i64 3, .int .i64 1, .int .i64 4] 2)).heap.size = g at *
  have hg1 : g < w1.heap.size := by
    obtain ⟨g', off', e, hc⟩ := R1.out.cell 0 0 rfl
    cases e
    exact block_lt hc
  have HC := hide (new_any 1 w1)
  rw [show (min (max (1 : Int) 0) 65536).toNat = 1 by decide] at HC
  go_wp2_with fail
  refine HC.out.mono ?_
  rintro e w2 ⟨rfl, hM, t2, -⟩
  have HN := hide (sl_new (w0 := w) (w := w1) T1.out (w2.alloc (.cells #[.int .i64 3, .int .i64 1, .int .i64 4] 2)) (hM.alloc _) (t2.alloc _) (some ⟨w2.heap.size, 0, none⟩) 3 3 [3, 1, 4] (ird3 w2) (fun _ g off h => by
    cases h
    have h1 := hM.ltp
    have h2 := hM.ltq
    omega) (by omega) (fun h => by cases h) 2 2 (by omega) (by omega) (by omega) (by omega))
  rw [show szOf 3 2 = 2 from rfl, show (⟨[3, 1, 4], 2, 2⟩ : SP) = P3 from rfl] at HN
  have hz2 := t2.size
  have R2 := hide ((R1.out.turned0 t2).turned0 ((Turned.refl [] w2).alloc (.cells #[.int .i64 3, .int .i64 1, .int .i64 4] 2)))
  clear hM t2 HC R1
  have hcp : w1.heap.size < w1.heap.size + 1 := by omega
  generalize w1.heap.size + 1 = cp at *
  generalize w1.heap.size = cq at *
  go_wp2_with fail
  refine HN.out.mono ?_
  rintro e w3 ⟨I, rfl, h3, h4, h5, h6, t3, h7⟩
  have HG := hide (show g ∉ I.hot from fun hm => by
    have := h7 g (hot_all hm)
    simp at this
    omega)
  have R3 := hide (show IRd w3 (some ⟨g, 0, none⟩) 3 [0, 3, 4] from R2.out.turnedP t3 (fun _ g' off e hm => by
    cases e
    simp at hm
    omega))
  have H3 := hide h3
  clear h3 h4 h5 h6 h7 t3 HN R2 T1
  have HF := hide (sl_not H3.out (show (SS.fresh P3).ph ≠ 3 by decide))
  go_wp2_with fail
  refine HF.out.mono ?_
  rintro e w4 ⟨rfl, h4, t4⟩
  have H4 := hide h4
  have R4 := hide (R3.out.turned0 t4)
  have HTn := hide (show Tn P3 (SS.fresh P3) (fun j => j % 2) 0 50 from Tn.start h4.inv (fun k hk => turn_f 2 (by omega) 0 k hk) (by
    have := left_fresh (P := P3) (by decide) (by decide)
    have h2 : P3.len = 3 := rfl
    have h3 : P3.n = 2 := rfl
    rw [p3_nb, h2, h3] at this
    rw [h3]
    omega))
  clear h4 t4 H3 R3 HF hg1 hcp hz2
  generalize SS.fresh P3 = S0 at *
  go_wp2_with fail
  go_loopw [8] (fun i wr => ∃ (j : Nat) (S : SS), i = .int .i64 j ∧ j ≤ 51 ∧ Hid (Sl w wr I P3 S j) ∧ Hid (Tn P3 S (fun j => j % 2) j 50) ∧ Hid (IRd wr (some ⟨g, 0, none⟩) 3 [0, 3, 4])) (fun i _ => 100 - (intOf i).toNat)
  case atStart => exact ⟨0, S0, rfl, by omega, H4, HTn, R4⟩
  case round =>
    obtain ⟨j, S, rfl, hj, H5, TN, R5⟩ := hrel
    clear H4 HTn R4
    have hjz : (j : Int) < 100 := by omega
    have HD := hide (sl_done H5.out)
    by_cases h3 : S.ph = 3
    · rw [decide_eq_true h3] at HD
      go_wp2_with fail
      refine HD.out.mono ?_
      rintro e w6 ⟨rfl, h6, t6⟩
      have HR := hide (sl_result h6 h3)
      rw [show P3.vals = [3, 1, 4] from rfl, show P3.len = 3 from rfl, hq1, hq2] at HR
      have R6 := hide (R5.out.turned0 t6)
      clear h6 t6 HD H5 R5 TN
      go_wp2_with fail
      refine HR.out.mono ?_
      rintro e w7 ⟨ao, c, rfl, r7, -, h7, t7⟩
      have R7 := hide (R6.out.turned0 t7)
      have HS := hide (same12 w7 (some ⟨g, 0, none⟩) ao 3 c [0, 3, 4] 3 (by omega) R7.out r7)
      have T7 := hide h7.turn
      clear r7 h7 t7 R6 HR
      go_wp2_with fail
      refine HS.out.mono ?_
      rintro e w8 ⟨rfl, t8⟩
      have R8 := hide (R7.out.turned0 t8)
      have T8 := hide (T7.out.trans t8)
      clear t8 R7 T7 HS
      have x1 : w8.cell? ⟨g, 1, none⟩ = some (.int .i64 3) := by
        obtain ⟨g', off', e, hc⟩ := R8.out.cell 1 3 rfl
        cases e
        simpa using hc
      have x2 : w8.cell? ⟨g, 2, none⟩ = some (.int .i64 4) := by
        obtain ⟨g', off', e, hc⟩ := R8.out.cell 2 4 rfl
        cases e
        simpa using hc
      go_wp2_with fail
      go_ret
      exact ⟨rfl, T8.out⟩
    · rw [decide_eq_false h3] at HD
      have hj50 := TN.out.le h3
      go_wp2_with fail
      refine HD.out.mono ?_
      rintro e w6 ⟨rfl, h6, t6⟩
      have HST := hide (sl_step h6 (by omega) ((j % 2 : Nat) : Int) (by omega))
      have R6 := hide (R5.out.turned0 t6)
      have TN2 := hide (show Tn P3 (S.next P3 ((j % 2 : Nat) : Int)) (fun j => j % 2) (j + 1) 50 from Tn.step (f := fun j => j % 2) h6.inv h3 (Nat.mod_lt j (by decide)) (fun k hk => turn_f 2 (by omega) (j + 1) k hk) TN.out)
      have hm : ((j : Int) % 2) = ((j % 2 : Nat) : Int) := by omega
      have HM := hide hm
      clear h6 t6 HD H5 R5 TN hm
      generalize ((j % 2 : Nat) : Int) = m at *
      go_wp2_with fail
      rw [HM.out]
      refine HST.out.mono ?_
      rintro e w7 ⟨rfl, h7, t7⟩
      have R7 := hide (R6.out.turnedP t7 (fun _ g' off e hm => by
        cases e
        exact HG.out hm))
      have H7 := hide h7
      clear h7 t7 HST R6 HM
      go_wp2_with fail
      go_roundw
      case rel => exact ⟨j + 1, _, by go_num, by omega, H7, TN2, R7⟩
      case measure => simp [intOf]; omega
end Go.Proofs.Ytdjeilombaclmaa
