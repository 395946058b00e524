/-
  The statement TurnsEven is proved: for every two numbers the law returns true and its arguments read as before; no condition.
-/
import Derived.Test.YtihoffaolonfhaaTurnsCount
namespace Go.Proofs.Ytihoffaolonfhaa
open Go.RowKit Go.ChangeShapes Go.WideShapes Go.ChangeAt
set_option linter.unusedVariables false

/-- So many counters that have not begun. -/
def Fresh (j : Nat) (ts : List Task) : Prop := ts.length = j ∧ ∀ t, t ∈ ts → IsCt 1000 t ∧ t.st = 0 ∧ t.n = 0
theorem Fresh.nil : Fresh 0 [] := ⟨rfl, by simp⟩
theorem Fresh.snoc {j : Nat} {ts : List Task} (h : Fresh j ts) (b x : Nat) : Fresh (j + 1) (ts ++ [ct b x 1000 0 0]) := by
  refine ⟨by simp [h.1], fun t ht => ?_⟩
  rcases List.mem_append.1 ht with ht | ht
  · exact h.2 t ht
  · simp at ht; subst ht; exact ⟨rfl, rfl, rfl⟩
theorem Fresh.allGo {n : Nat} {ts : List Task} (h : Fresh n ts) (hn : 0 < n) : AllGo n 0 ts := by
  refine ⟨h.1, fun i t ht => ?_⟩
  obtain ⟨a1, a2, a3⟩ := h.2 t (List.mem_of_getElem? ht)
  exact ⟨a1, a2, by rw [a3]; simp⟩
theorem Fresh.lim {n : Nat} {ts : List Task} (h : Fresh n ts) : Lim 0 ts := fun t ht => by have := (h.2 t ht).2.2; omega

theorem quo_w (k j q : Nat) (hk : k ≤ 65536) (hq : k / j = q) : wrap64 ((k : Int) / (j : Int)) = (q : Int) := by
  have h1 : (k : Int) / (j : Int) = (q : Int) := by rw [← hq]; simp
  have h3 : q ≤ k := by rw [← hq]; exact Nat.div_le_self k j
  rw [h1]
  clear h1 hq
  unfold wrap64
  omega

set_option maxRecDepth 100000 in
set_option maxHeartbeats 4000000 in
theorem turnsEven_walk (a b : Int) (w : World) (hwa : (Lit.int .i64 a).wf = true) (hwb : (Lit.int .i64 b).wf = true) :
    Calls Try.prog 7 #[.int .i64 a, .int .i64 b] w fun e w' => e = .returned (.bool true) ∧ Turned [] w w' := by
  have hmf : ∀ (fn : Fn) (first cap : Array Value) (w : World), (Instr.makeFunc fn first cap).run Try.prog w = .ok (.func fn first cap) w := fun _ _ _ _ => rfl
  have hra := wf_range hwa
  have hrb := wf_range hwb
  clear hwa hwb
  go_enter Try.func7, Try.ntmps7
  go_wp2_with fail
  refine (awake_true _).mono ?_
  rintro e w1 ⟨rfl, ht1⟩
  have HT1 := hide ht1
  clear ht1
  go_wp2_with fail
  refine (new_tur w.heap.size w1 HT1.out.size).mono ?_
  rintro e w2 ⟨rfl, hm, ht, -⟩
  generalize w1.heap.size = p at *
  have HM := hide hm
  have HT := hide (HT1.out.trans ht)
  clear hm ht HT1
  go_wp2_with fail
  all_goals as_aux_lemma =>
    have ta : -20 < a.tmod 20 ∧ a.tmod 20 < 20 := tmod_bounds a 20 (by omega)
    have tb : -200 < b.tmod 200 ∧ b.tmod 200 < 200 := tmod_bounds b 200 (by omega)
    obtain ⟨nI, hnI⟩ : ∃ nI, nI = (if a.tmod 20 < 0 then wrap64 (wrap64 (-a.tmod 20) + 1) else wrap64 (a.tmod 20 + 1)) := ⟨_, rfl⟩
    obtain ⟨kI, hkI⟩ : ∃ kI, kI = (if b.tmod 200 < 0 then wrap64 (-b.tmod 200) else b.tmod 200) := ⟨_, rfl⟩
    have hn12 : 1 ≤ nI ∧ nI ≤ 20 := by rw [hnI]; unfold wrap64; split <;> omega
    have hk12 : 0 ≤ kI ∧ kI < 200 := by rw [hkI]; unfold wrap64; split <;> omega
    obtain ⟨n, rfl⟩ := Int.eq_ofNat_of_zero_le (show 0 ≤ nI by omega)
    obtain ⟨k, rfl⟩ := Int.eq_ofNat_of_zero_le hk12.1
    first
      | (have e1 : wrap64 (wrap64 (-a.tmod 20) + 1) = (n : Int) := by rw [hnI, if_pos (by assumption)]); rw [e1]
      | (have e1 : wrap64 (a.tmod 20 + 1) = (n : Int) := by rw [hnI, if_neg (by omega)]); rw [e1]
    first
      | (have e2 : wrap64 (-b.tmod 200) = (k : Int) := by rw [hkI, if_pos (by assumption)]); rw [e2]
      | (have e2 : b.tmod 200 = (k : Int) := by rw [hkI, if_neg (by omega)]); rw [e2]
    clear e1 e2 hnI hkI ta tb
    try generalize decide (a.tmod 20 < 0) = bA
    try generalize decide (b.tmod 200 < 0) = bB
    try generalize decide ((k : Int) < 0) = bC
    try generalize wrap64 (-a.tmod 20) = bD
    try generalize a.tmod 20 = bE at *
    try generalize b.tmod 200 = bG at *
    go_loopw [9, 10] (fun i _ wr => ∃ (j : Nat) (F : List Nat) (ts : List Task), j ≤ n ∧ i = .int .i64 j ∧ Hid (Tur w.heap.size wr p F ts) ∧ Hid (Fresh j ts) ∧ Hid (Turned [] w wr)) (fun i _ _ => n - (intOf i).toNat)
    case atStart => exact ⟨0, [p], [], Nat.zero_le _, rfl, HM, Fresh.nil, HT⟩
    case round =>
      obtain ⟨j, F, ts, hj, rfl, HMr, HFr, HTr⟩ := hrel
      by_cases hlt : j < n
      · have HA := hide (add_counter w.heap.size wr p F ts 1000 (by omega) (by have := HFr.out.1; omega) HMr.out)
        have hlow := HMr.out.trn.lo
        have HF2 := hide (fun b x => HFr.out.snoc b x)
        have HLow := hide hlow
        clear hlow
        have e3 : wrap64 ((j : Int) + 1) = (j : Int) + 1 := by unfold wrap64; omega
        go_wp2_with fail
        refine HA.out.mono ?_
        rintro e w3 ⟨rfl, F3, b3, hm3, ht3⟩
        have HM3 := hide hm3
        have HT3 := hide (HTr.out.trans_new ht3 (fun k hk => .inr (HLow.out k hk).1))
        have HF3 := hide (HF2.out b3 wr.heap.size)
        clear hm3 ht3 HA HMr HFr HTr HF2 HLow
        go_wp2_with fail
        go_roundw
        case rel => exact ⟨j + 1, F3, _, by omega, by go_num, HM3, HF3, HT3⟩
        case measure => simp [intOf]; omega
      · have hjn : j = n := by omega
        subst hjn
        obtain ⟨r1, r2⟩ := allGo_run (n := j) (by omega) k 0 ts (HFr.out.allGo (by omega)) (by omega)
        have HR := hide (run_tur w.heap.size wr p F ts none 0 0 [] k k 0 (by omega) (by omega) (by omega) (by omega) (by intro x hx; simp at hx) ⟨rfl, by simp⟩ HFr.out.lim HMr.out)
        rw [show ((0 : Nat) : Int) = 0 from rfl] at r1 r2
        rw [r1] at HR
        have HG := hide r2
        have HLow := hide HMr.out.trn.lo
        clear r1 r2
        generalize (runOf k [] 0 ts).2 = us at *
        go_wp2_with fail
        refine HR.out.mono ?_
        rintro e w3 ⟨rfl, hm3, ht3⟩
        have HM3 := hide hm3
        have HT3 := hide (HTr.out.trans_new ht3 (fun k hk => .inr (HLow.out k hk).1))
        clear hm3 ht3 HR HMr HFr HTr HLow
        go_wp2_with fail
        obtain ⟨q, hq⟩ : ∃ q : Nat, k / j = q := ⟨_, rfl⟩
        obtain ⟨r, hr⟩ : ∃ r : Nat, k % j = r := ⟨_, rfl⟩
        have HQ : Hid (wrap64 ((k : Int) / (j : Int)) = (q : Int)) := quo_w k j q (by omega) hq
        have HRm : Hid ((k : Int) % (j : Int) = (r : Int)) := by show _ = _; rw [← hr]; simp
        have hqk : q ≤ k := by rw [← hq]; exact Nat.div_le_self _ _
        have hjz : ¬ ((j : Int) = 0) := by omega
        have HG2 : Hid (∀ (i : Nat) t, us[i]? = some t → t.n = ((q + if i < r then 1 else 0 : Nat) : Int)) := fun i t ht => by
          have h1 := (HG.out.2 i t ht).2.2
          rw [Nat.zero_add, hq, hr] at h1
          exact h1
        have HUL := hide HG.out.1
        clear HG hq hr
        go_loopw [11, 12] (fun i _ wr => ∃ (m : Nat), m ≤ j ∧ i = .int .i64 ((m : Int) + 1) ∧ Hid (wr = w3)) (fun i _ _ => j + 1 - (intOf i).toNat)
        case atStart => exact ⟨0, Nat.zero_le _, rfl, rfl⟩
        case round =>
          obtain ⟨m, hm, rfl, HW⟩ := hrel
          have hW : wr = w3 := HW.out
          subst hW
          have e4 : wrap64 ((m : Int) + 1 + 1) = (m : Int) + 1 + 1 := by unfold wrap64; omega
          by_cases hmj : m < j
          · obtain ⟨t, ht⟩ : ∃ t, us[m]? = some t := ⟨_, List.getElem?_eq_getElem (by have := HUL.out; omega)⟩
            have HS := hide (steps_in w.heap.size _ p F us m t ht HM3.out.trn)
            have htn := HG2.out m t ht
            clear ht
            have htnA : m < r → t.n = wrap64 (wrap64 ((k : Int) / (j : Int)) + 1) := fun h => by
              rw [if_pos h] at htn
              rw [HQ.out, htn]
              clear htn
              unfold wrap64
              omega
            have htnB : ¬ m < r → t.n = wrap64 ((k : Int) / (j : Int)) := fun h => by
              rw [if_neg h] at htn
              rw [HQ.out, htn]
              rfl
            have HtA := hide htnA
            have HtB := hide htnB
            clear htn htnA htnB
            go_wp2_with fail
            · have hmr : (m : Int) + 1 ≤ (k : Int) % (j : Int) := by assumption
              have hmr2 : m < r := by have h := HRm.out; rw [h] at hmr; omega
              rw [HtA.out hmr2] at HS
              clear hmr hmr2
              refine HS.out.mono ?_
              rintro e wx ⟨rfl, rfl⟩
              clear HS
              go_wp2_with fail
              go_roundw
              case rel => exact ⟨m + 1, by omega, by go_num, by first | exact rfl | exact trivial⟩
              case measure => simp [intOf]; omega
            · have hmr2 : ¬ m < r := fun h2 => by
                have h := HRm.out
                have hmr : ¬ ((m : Int) + 1 ≤ (k : Int) % (j : Int)) := by first | assumption | (intro h3; omega)
                rw [h] at hmr
                omega
              rw [HtB.out hmr2] at HS
              clear hmr2
              refine HS.out.mono ?_
              rintro e wx ⟨rfl, rfl⟩
              clear HS
              go_wp2_with fail
              go_roundw
              case rel => exact ⟨m + 1, by omega, by go_num, by first | exact rfl | exact trivial⟩
              case measure => simp [intOf]; omega
          · go_wp2_with fail
            go_ret
            exact ⟨rfl, HT3.out⟩

set_option maxRecDepth 100000 in
theorem turnsEven_lifted (os : Os) (started : os.Started) (H : Type) (enc : TypeId × Value → H) :
    ReturnsInHanded {} Try.checked os 7 .any (Rows.turnsEvenSpec.pre6 enc Try.prog Try.f7 Rows.turnsEvenRow.domain false) (Rows.turnsEvenSpec.post enc Try.prog Try.f7 false true false false) := by
  refine returnsInHanded_of_change (C := Try.checked) own started (by kernel_rfl) Try.func7
    (ChangeSpec.witness6 (enc := enc) (C := Try.checked) false ⟨#[], #[.int .i64 0, .int .i64 0], []⟩ 8 (by kernel_rfl) (by kernel_rfl) (by kernel_rfl) (by kernel_rfl)) ?_
  intro W base args ds gs before hval0 hW hcnd _
  have hval : ∀ (j : Nat) t v, Try.f7.params[j]? = some t → args[j]? = some v → Value.okWide Try.prog W .any base t v := hval0
  have hW' := hW
  obtain ⟨p, q, hA0, hV, rfl, hfz, hnd⟩ := hW
  have hA : DataW.TrodAll enc Try.prog W 0 (fun _ => true) true Try.f7.params.toList args.toList ds p := hA0
  rw [Try.params7] at hA hval
  obtain ⟨v0, vs0, d0, ds0, p0, q0, hargs, rfl, rfl, h0, r0⟩ := trodAll_cons hA
  obtain ⟨v1, vs1, d1, ds1, p1, q1, rfl, rfl, rfl, h1, r1⟩ := trodAll_cons r0
  obtain ⟨rfl, rfl, rfl⟩ := trodAll_nil r1
  obtain rfl : args = #[v0, v1] := by cases args; simp_all
  obtain ⟨rfl, rfl⟩ := trodVars_none hV
  obtain ⟨a0, rfl, rfl, rfl, w0⟩ := open_int Try.underlying3 (hval 0 3 v0 rfl rfl) h0
  obtain ⟨a1, rfl, rfl, rfl, w1⟩ := open_int Try.underlying3 (hval 1 3 v1 rfl rfl) h1
  clear hA0 hval0
  refine (turnsEven_walk a0 a1 W w0 w1).mono fun e W' ⟨he, ht⟩ => ?_
  subst he
  have bel : Below W.heap.size W W' := ht.below0
  exact ⟨_, rfl, _, _, _, [], _, [], hW', trodAll_mk1 (shut_bool Try.underlying4 _), (trodAll_cons_mk (shut_int Try.underlying3 w0) (trodAll_cons_mk (shut_int Try.underlying3 w1) trodAll_mk0)), rfl, bel.frame _, fun h => by cases h⟩

theorem turnsEven_over : Rows.turnsEvenRow.holds Try.pinned (OpenSpec.ofChange Rows.turnsEvenSpec) :=
  OpenClaim.holds_of_wide 7 Try.f7 rfl rfl rfl rfl rfl rfl rfl ⟨rfl, rfl, rfl, rfl, rfl⟩ rfl rfl rfl rfl rfl (by kernel_rfl) Try.func7 (by kernel_rfl)
    (of_decide_eq_true (by kernel_rfl)) (by unfold Func.isWrapper; first | (rw [if_pos (by decide +kernel)]; kernel_rfl) | (rw [if_neg (by decide +kernel)]; exact ⟨rfl, rfl⟩))
    (fun os started H enc _ => turnsEven_lifted os started H enc)

theorem turnsEven_holds : Rows.TurnsEvenSaid := turnsEven_over
end Go.Proofs.Ytihoffaolonfhaa
