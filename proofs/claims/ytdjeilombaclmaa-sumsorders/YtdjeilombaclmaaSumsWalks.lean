/-
  The small calls of sums: phases, none, ended, Done, and the phases' own steps.
-/
import Derived.Test.YtdjeilombaclmaaSumsBase
import Derived.Deep.QuietTactic
import Derived.BigQuiet
import Derived.BigRegion
import Derived.Deep.RegionHeld3
import Derived.Laws.EntriesVeiled
namespace Go.Proofs.Ytdjeilombaclmaa
open Go.RowKit
set_option linter.unusedVariables false

def phasesV : Value := .agg #[.func (.func 37) #[] #[], .func (.func 38) #[] #[], .func (.func 39) #[] #[]]

theorem phases_any (w : World) : Calls Try.prog 31 #[] w fun e w' => e = .returned phasesV ∧ Turned [] w w' := by
  obtain ⟨w1, hw1⟩ : ∃ w1, w1 = w.alloc (.cells #[.nilFunc, .nilFunc, .nilFunc] 70) := ⟨_, rfl⟩
  have T0 := hide (show Turned [] w w1 by rw [hw1]; exact (Turned.refl [] w).alloc _)
  have h0 : w1.heap[w.heap.size]? = some (.cells #[.nilFunc, .nilFunc, .nilFunc] 70) := by rw [hw1]; exact heap_alloc_new _ _
  have x0 : w1.cell? ⟨w.heap.size, 0, none⟩ = some .nilFunc := by rw [cell_of_heap h0]; rfl
  have x1 : w1.cell? ⟨w.heap.size, 1, none⟩ = some .nilFunc := by rw [cell_of_heap h0]; rfl
  have x2 : w1.cell? ⟨w.heap.size, 2, none⟩ = some .nilFunc := by rw [cell_of_heap h0]; rfl
  have xf := fun i => show World.frozen? w1 ⟨w.heap.size, i, none⟩ = false by simp [World.frozen?, h0]
  have xf0 := xf 0
  have xf1 := xf 1
  have xf2 := xf 2
  clear xf h0
  subst hw1
  go_enter Try.func31, Try.ntmps31
  go_wp2_with fail
  refine bodyPost_ret (v := phasesV) (by simp [results, Try.results31, go_sem, phasesV]) rfl ⟨rfl, ?_⟩
  exact (Turned.refl [] w).alloc _

set_option maxRecDepth 100000 in
theorem snone_sums (w : World) (I : SIds) (P : SP) (S : SS) (h : Sm w I P S) (hP : P.ok) :
    Calls Try.prog 29 #[ptr I.s] w fun e w' => e = .returned (.bool false) ∧ w' = w := by
  have c2 := h.c2
  have hn := hP.n0
  have hn2 := hP.n
  generalize P.n = n at *
  clear h
  unfold ptr
  go_enter Try.func29, Try.ntmps29
  go_wp2_with fail
  go_ret
  have hd : decide ((n : Int) = 0) = false := decide_eq_false (by omega)
  exact ⟨by first | rfl | (congr 2; simp; omega), rfl⟩
set_option maxRecDepth 100000 in
theorem snone_none (w : World) :
    Calls Try.prog 29 #[.pointer none] w fun e w' => e = .returned (.bool true) ∧ w' = w := by
  go_enter Try.func29, Try.ntmps29
  go_wp2_with fail
  go_ret
  exact ⟨rfl, rfl⟩

set_option maxRecDepth 100000 in
theorem sended_any (w : World) (I : SIds) (P : SP) (S : SS) (h : Sm w I P S) (hP : P.ok) (hph : S.ph ≤ 3) (k : Int) (hk : -9223372036854775808 ≤ k ∧ k ≤ 9223372036854775807) :
    Calls Try.prog 26 #[ptr I.s, .int .i64 k] w fun e w' => e = .returned (.bool (S.ended P k)) ∧ Turned [] w w' := by
  have HN := hide (snone_sums w I P S h hP)
  have HF := hide (fun w => phases_any w)
  have HG := hide (fun w' (t : Turned [] w w') => gphase_any w' I.gp I.gq _ _ _ (h.next t).gang)
  have HO := hide (fun w' (t : Turned [] w w') => ggoes_any w' I.gp I.gq _ _ _ k (h.next t).gang)
  have HC := hide (fun w' (t : Turned [] w w') => (h.next t).c0)
  have c0 := h.c0
  have c2 := h.c2
  have hn := hP.n0
  have hn2 := hP.n
  have HE := hide (show S.ended P k = (decide (k < 0) || decide ((P.n : Int) ≤ k) || decide (S.ph = 3) || (decide (S.ph = 2) && !decide (k ∈ S.ws.drop S.came))) from rfl)
  generalize S.ended P k = b at *
  generalize P.n = n at *
  clear h
  unfold ptr at *
  by_cases h0 : k < 0
  · have hb : b = true := by rw [HE.out]; simp [h0]
    subst hb
    go_enter Try.func26, Try.ntmps26
    go_wp2_with fail
    refine HN.out.mono ?_
    rintro e w1 ⟨rfl, rfl⟩
    go_wp2_with fail
    go_ret
    exact ⟨rfl, Turned.refl _ _⟩
  by_cases h1 : (n : Int) ≤ k
  · have hb : b = true := by rw [HE.out]; simp [h1]
    subst hb
    go_enter Try.func26, Try.ntmps26
    go_wp2_with fail
    refine HN.out.mono ?_
    rintro e w1 ⟨rfl, rfl⟩
    go_wp2_with fail
    go_ret
    exact ⟨rfl, Turned.refl _ _⟩
  have HE2 := hide (show b = (decide (S.ph = 3) || (decide (S.ph = 2) && !decide (k ∈ S.ws.drop S.came))) by rw [HE.out]; simp [h0, h1])
  clear HE
  generalize decide (k ∈ S.ws.drop S.came) = go at *
  generalize S.ph = ph at *
  go_enter Try.func26, Try.ntmps26
  go_wp2_with fail
  refine HN.out.mono ?_
  rintro e w1 ⟨rfl, rfl⟩
  clear HN
  go_wp2_with fail
  go_region_held3 (fun w' => w'.cell? ⟨I.s, 0, none⟩ = some (.pointer (some ⟨I.gp, 0, none⟩))) (go_keep)
    (first
      | (go_at_call 31; refine (HF.out _).mono ?_; rintro e w2 ⟨rfl, t2⟩; have T2 := hide ((Turned.refl [] w1).drew.trans t2); have i0 := HC.out _ T2.out; clear t2)
      | (go_at_call 30; refine (HG.out _ T2.out).mono ?_; rintro e w3 ⟨rfl, rfl⟩))
  clear HF HG HC c0 c2
  by_cases h3 : ph = 3
  · have hb : b = true := by rw [HE2.out]; simp [h3]
    subst hb h3
    go_wp2_with fail
    go_ret
    exact ⟨rfl, T2.out⟩
  by_cases h2 : ph = 2
  · have hb : b = !go := by rw [HE2.out]; simp [h2]
    subst hb h2
    have HO2 := hide (HO.out _ T2.out)
    clear HO
    go_wp2_with fail
    refine HO2.out.mono ?_
    rintro e w4 ⟨rfl, m, hm⟩
    have T4 := hide (show Turned [] w1 w4 by rw [hm]; exact T2.out.drewN m)
    clear hm T2 HO2
    go_wp2_with fail
    go_ret
    exact ⟨rfl, T4.out⟩
  · have hb : b = false := by rw [HE2.out]; simp [h3, h2]
    subst hb
    have hz : ¬ (3 - (ph : Int) = 0) := by omega
    have hz1 : ¬ (3 - (ph : Int) = 1) := by omega
    go_wp2_with fail
    go_ret
    refine ⟨?_, T2.out⟩
    show Ending.returned (.bool (3 - (ph : Int) == 0)) = _
    rw [show (3 - (ph : Int) == 0) = false by simpa using hz]

set_option maxRecDepth 100000 in
theorem sdone_any (w : World) (I : SIds) (P : SP) (S : SS) (h : Sm w I P S) (hP : P.ok) (hph : S.ph ≤ 3) :
    Calls Try.prog 19 #[ptr I.s] w fun e w' => e = .returned (.bool (decide (S.ph = 3))) ∧ Turned [] w w' := by
  have HN := hide (snone_sums w I P S h hP)
  have HF := hide (phases_any w)
  have HG := hide (gphase_any w I.gp I.gq _ _ _ h.gang)
  have c0 := h.c0
  clear h
  generalize S.ph = ph at *
  unfold ptr at *
  go_enter Try.func19, Try.ntmps19
  go_wp2_with fail
  refine HN.out.mono ?_
  rintro e w1 ⟨rfl, rfl⟩
  go_wp2_with fail
  refine HG.out.mono ?_
  rintro e w1 ⟨rfl, rfl⟩
  go_wp2_with fail
  refine HF.out.mono ?_
  rintro e w2 ⟨rfl, t2⟩
  have T2 := hide t2
  clear t2 HF HG HN c0
  go_wp2_with fail
  go_ret
  refine ⟨?_, T2.out⟩
  show Ending.returned (.bool ((ph : Int) == 3)) = _
  congr 2
  by_cases e : ph = 3
  · subst e; rfl
  · rw [decide_eq_false e]
    simp
    omega

theorem sdone_nil (w : World) :
    Calls Try.prog 19 #[.pointer none] w fun e w' => e = .returned (.bool true) ∧ w' = w := by
  have HN := hide (snone_none w)
  go_enter Try.func19, Try.ntmps19
  go_wp2_with fail
  refine HN.out.mono ?_
  rintro e w1 ⟨rfl, rfl⟩
  go_wp2_with fail
  go_ret
  exact ⟨rfl, rfl⟩
theorem sended_nil (w : World) (k : Int) :
    Calls Try.prog 26 #[.pointer none, .int .i64 k] w fun e w' => e = .returned (.bool true) ∧ w' = w := by
  have HN := hide (snone_none w)
  go_enter Try.func26, Try.ntmps26
  go_wp2_with fail
  refine HN.out.mono ?_
  rintro e w1 ⟨rfl, rfl⟩
  go_wp2_with fail
  go_ret
  exact ⟨rfl, rfl⟩
theorem sstep_nil (w : World) (k : Int) :
    Calls Try.prog 17 #[.pointer none, .int .i64 k] w fun e w' => e = .returned (.int .i64 2) ∧ w' = w := by
  have HN := hide (sended_nil w k)
  go_enter Try.func17, Try.ntmps17
  go_wp2_with fail
  refine HN.out.mono ?_
  rintro e w1 ⟨rfl, rfl⟩
  go_wp2_with fail
  go_ret
  exact ⟨rfl, rfl⟩
theorem sresult_nil (w : World) :
    Calls Try.prog 18 #[.pointer none] w fun e w' => e = .returned (.tuple #[.slice none 0 0, .int .i64 0, .int .i64 1]) ∧ w' = w := by
  have HN := hide (snone_none w)
  go_enter Try.func18, Try.ntmps18
  go_wp2_with fail
  refine HN.out.mono ?_
  rintro e w1 ⟨rfl, rfl⟩
  go_wp2_with fail
  go_ret3
  exact ⟨rfl, rfl⟩
end Go.Proofs.Ytdjeilombaclmaa
