/-
  The statement TurnsFair is proved: for every slice of numbers the law returns true and its argument reads as before; no condition.
-/
import Derived.Test.YtihoffaolonfhaaTurnsFairP
import Derived.Test.YtihoffaolonfhaaTurnsCount
namespace Go.Proofs.Ytihoffaolonfhaa
open Go.RowKit Go.ChangeShapes Go.WideShapes Go.ChangeAt
set_option linter.unusedVariables false

/-- Counters that have not begun. -/
def FF (cs : Nat → Int) (j : Nat) (ts : List Task) : Prop := ts.length = j ∧ ∀ (i : Nat) t, ts[i]? = some t → FI cs i t ∧ t.st = 0 ∧ t.n = 0

theorem FF.snoc {cs : Nat → Int} {j : Nat} {ts : List Task} (h : FF cs j ts) (b x : Nat) (c : Int) (hc : 1 ≤ c ∧ c ≤ 30) :
    FF (fun i => if i = j then c else cs i) (j + 1) (ts ++ [ct b x c 0 0]) ∧ totI (FL (fun i => if i = j then c else cs i)) 0 (ts ++ [ct b x c 0 0]) = totI (FL cs) 0 ts + c.toNat := by
  refine ⟨⟨by simp [h.1], fun i t ht => ?_⟩, ?_⟩
  · rw [List.getElem?_append] at ht
    split at ht
    · rename_i hi
      obtain ⟨a1, a2, a3⟩ := h.2 i t ht
      have hne : i ≠ j := by have := h.1; omega
      refine ⟨?_, a2, a3⟩
      unfold FI at a1 ⊢
      simp only [hne, if_false]
      exact a1
    · have h1 := List.mem_of_getElem? ht
      have h2 := (List.getElem?_eq_some_iff.1 ht).1
      simp at h1 h2
      subst h1
      have e : i = j := by have := h.1; omega
      refine ⟨?_, rfl, rfl⟩
      unfold FI
      simp only [e, if_true]
      exact ⟨hc.1, hc.2, rfl, Int.le_refl _, .inl ⟨rfl, by show (0 : Int) < c; omega⟩⟩
  · rw [totI_snoc, totI_congr _ (FL cs)]
    · congr 1
      unfold FL
      simp [h.1, ct]
    · intro i t ht
      have hi := (List.getElem?_eq_some_iff.1 ht).1
      have hne : 0 + i ≠ j := by have := h.1; omega
      unfold FL
      simp only [hne, if_false]
theorem FF.lim {cs : Nat → Int} {j : Nat} {ts : List Task} (h : FF cs j ts) : Lim 0 ts := fun t ht => by
  obtain ⟨i, hi⟩ := List.mem_iff_getElem?.1 ht
  have := (h.2 i t hi).2.2
  omega
theorem FI.lim {cs : Nat → Int} {ts : List Task} (h : ∀ i t, ts[i]? = some t → FI cs i t) : Lim 30 ts := fun t ht => by
  obtain ⟨i, hi⟩ := List.mem_iff_getElem?.1 ht
  obtain ⟨a1, a2, a3, a4, a5⟩ := h i t hi
  rcases a5 with h | h <;> omega
theorem FF.tot {cs : Nat → Int} {j : Nat} {ts : List Task} (h : FF cs j ts) : totI (FL cs) 0 ts ≤ j * 30 := by
  rw [← h.1]
  refine totI_le _ _ _ _ (fun i t ht => ?_)
  obtain ⟨⟨_, a2, _⟩, a3, a4⟩ := h.2 i t ht
  rw [Nat.zero_add]
  unfold FL
  rw [a3, a4]
  simp
  omega

/-- What the law's two runs do. -/
theorem fair_runs {cs : Nat → Int} {j : Nat} {ts : List Task} (h : FF cs j ts) :
    ∃ c1 us c2 vs, runOf j [] 0 ts = (c1, us) ∧ runOf 100000 [] 0 us = (c2, vs) ∧ Lim 30 us ∧ us.length = j ∧ (j ≤ 40 → c1 + c2 = totI (FL cs) 0 ts) ∧ c1 ≤ j * 30 ∧ c2 ≤ 100000 ∧
      ((readyOf us).length = j → ∀ (i : Nat) t, us[i]? = some t → 1 ≤ t.n) ∧ (j ≤ 40 → readyOf vs = [] ∧ thatOf 1 (states vs) 0 = []) := by
  obtain ⟨a1, a2, a3, a4⟩ := run_leftI (FI cs) (FL cs) (FI_step cs) (FI_end cs) j [] 0 ts (fun i t ht => (h.2 i t ht).1)
  have hit := run_hit j 0 ts (by have := h.1; omega) (fun t ht => (h.lim t ht).1) (fun _ i t _ hi => by omega)
  rw [Nat.zero_add] at hit
  have hT := h.tot
  have e1 : runOf j [] 0 ts = ((runOf j [] 0 ts).1, (runOf j [] 0 ts).2) := rfl
  have hit2 : Hit j (runOf j [] 0 ts).2 := hit
  generalize (runOf j [] 0 ts).1 = c1 at *
  generalize (runOf j [] 0 ts).2 = us at *
  obtain ⟨b1, b2, b3, b4⟩ := run_leftI (FI cs) (FL cs) (FI_step cs) (FI_end cs) 100000 [] 0 us a2
  have e2 : runOf 100000 [] 0 us = ((runOf 100000 [] 0 us).1, (runOf 100000 [] 0 us).2) := rfl
  generalize (runOf 100000 [] 0 us).1 = c2 at *
  generalize (runOf 100000 [] 0 us).2 = vs at *
  rw [h.1] at a4
  refine ⟨c1, us, c2, vs, e1, e2, FI.lim a2, a4, fun hj => by omega, by omega, by omega, fun hr i t ht => ?_, fun hj => ?_⟩
  · exact hit2 (all_of_ready (by rw [hr, a4])) i t ht (by have := (List.getElem?_eq_some_iff.1 ht).1; omega)
  · have hd := run_done (FI_step cs) b2 (by omega)
    refine ⟨ready_nil_of hd, that_nil_of (fun t ht e => ?_)⟩
    obtain ⟨i, hi⟩ := List.mem_iff_getElem?.1 ht
    obtain ⟨_, _, _, _, a5⟩ := b2 i t hi
    rcases a5 with a5 | a5
    · exact hd t ht a5.1
    · omega

set_option maxRecDepth 100000 in
set_option maxHeartbeats 8000000 in
theorem turnsFair_walk (a : Option Addr) (len cap : Nat) (zs : List Int) (w : World) (hrow : IsRow .i64 w a len cap zs) :
    Calls Try.prog 4 #[.slice a len cap] w fun e w' => e = .returned (.bool true) ∧ Turned [] w w' := by
  have hmf : ∀ (fn : Fn) (first cap : Array Value) (w : World), (Instr.makeFunc fn first cap).run Try.prog w = .ok (.func fn first cap) w := fun _ _ _ _ => rfl
  obtain ⟨hrd, hrg, hlen⟩ := isRow_rd hrow
  generalize zs.take len = l at *
  have HR0 := hide hrd
  have hll : l.length = len := hrd.1
  clear hrow hrd hrg
  go_enter Try.func4, Try.ntmps4
  go_wp2_with fail
  refine (awake_true _).mono ?_
  rintro e w1 ⟨rfl, ht1⟩
  have HT1 := hide ht1
  clear ht1
  go_wp2_with fail
  refine (new_tur w.heap.size w1 HT1.out.size).mono ?_
  rintro e w2 ⟨rfl, hm, ht, -⟩
  generalize w1.heap.size = p at *
  have HM := hide hm
  have HT := hide (HT1.out.trans ht)
  clear hm ht HT1
  go_wp2_with fail
  go_loopw [5, 6, 7, 8, 9, 10, 11] (fun n al i _ _ _ _ wr => ∃ (j : Nat) (F : List Nat) (ts : List Task) (cs : Nat → Int) (T : Nat), j ≤ 40 ∧ j ≤ len ∧ n = .int .i64 j ∧ i = .int .i64 j ∧ al = .int .i64 T ∧ T ≤ j * 30 ∧ Hid (T = totI (FL cs) 0 ts) ∧ Hid (Tur w.heap.size wr p F ts) ∧ Hid (FF cs j ts) ∧ Hid (Turned [] w wr)) (fun _ _ i _ _ _ _ _ => 40 - (intOf i).toNat)
  case atStart => exact ⟨0, [p], [], fun _ => 1, 0, Nat.zero_le _, Nat.zero_le _, rfl, rfl, rfl, Nat.zero_le _, rfl, HM, ⟨rfl, by simp⟩, HT⟩
  case round =>
    obtain ⟨j, F, ts, cs, T, hj, hjl, rfl, rfl, rfl, hTj, HTT, HMr, HFr, HTr⟩ := hrel
    have HLow := hide HMr.out.trn.lo
    by_cases hlt : j < len
    · by_cases hlt2 : j < 40
      · obtain ⟨x, hx⟩ : ∃ x, l[j]? = some x := ⟨_, List.getElem?_eq_getElem (by omega)⟩
        obtain ⟨g, off, rfl, -, hc⟩ := HR0.out.2 j x hx
        have hcr : wr.cell? ⟨g, off + j, none⟩ = some (.int .i64 x) := by rw [HTr.out.cell (block_lt hc) (by simp)]; exact hc
        have tb : -30 < x.tmod 30 ∧ x.tmod 30 < 30 := tmod_bounds x 30 (by omega)
        have e3 : wrap64 ((j : Int) + 1) = (j : Int) + 1 := by unfold wrap64; omega
        clear hx hc
        by_cases hs : x.tmod 30 < 0
        · as_aux_lemma =>
          have hk30 : 0 < -x.tmod 30 ∧ -x.tmod 30 < 30 := by omega
          have hA : ∀ y : Int, y = -x.tmod 30 → (T : Int) + y + 1 = ((T + (y + 1).toNat : Nat) : Int) := by intro y hy; omega
          have HA := hide (add_counter w.heap.size wr p F ts (-x.tmod 30 + 1) (by omega) (by have := HFr.out.1; omega) HMr.out)
          have HF2 := hide (fun b y => HFr.out.snoc b y (-x.tmod 30 + 1) (by omega))
          have hE := hA _ rfl
          have HEq := hide hE
          clear hA hE
          generalize hT2 : T + (-x.tmod 30 + 1).toNat = T2 at *
          have hT3 : T2 ≤ (j + 1) * 30 := by omega
          have HT2 := hide hT2
          clear hT2
          go_wp2_with fail
          refine HA.out.mono ?_
          rintro e w3 ⟨rfl, F3, b3, hm3, ht3⟩
          have HM3 := hide hm3
          have HT3 := hide (HTr.out.trans_new ht3 (fun k hk => .inr (HLow.out k hk).1))
          obtain ⟨f1, f2⟩ := HF2.out b3 wr.heap.size
          have HF3 := hide f1
          have HTT3 := hide f2
          clear hm3 ht3 HA HMr HFr HTr HF2 HLow f1 f2
          go_wp2_with fail
          go_roundw
          case rel =>
            refine ⟨j + 1, F3, _, _, T2, by omega, by omega, by go_num, by go_num, by rw [HEq.out], hT3, ?_, HM3, HF3, HT3⟩
            show _ = _
            rw [HTT3.out, ← HTT.out]
            exact HT2.out.symm
          case measure => simp [intOf]; omega
        · as_aux_lemma =>
          obtain ⟨k, hk⟩ : ∃ k : Nat, (k : Int) = x.tmod 30 := ⟨(x.tmod 30).toNat, by omega⟩
          have hk30 : k < 30 := by omega
          have e4 : x.tmod 30 = (k : Int) := by omega
          rw [e4] at hs
          have e5 : wrap64 ((k : Int) + 1) = (k : Int) + 1 := by unfold wrap64; omega
          have e6 : wrap64 ((T : Int) + (k : Int)) = (T : Int) + (k : Int) := by unfold wrap64; omega
          have e7 : wrap64 ((T : Int) + (k : Int) + 1) = (T : Int) + (k : Int) + 1 := by unfold wrap64; omega
          clear hk
          have HA := hide (add_counter w.heap.size wr p F ts ((k : Int) + 1) (by omega) (by have := HFr.out.1; omega) HMr.out)
          have HF2 := hide (fun b x => HFr.out.snoc b x ((k : Int) + 1) (by omega))
          go_wp2_with fail
          refine HA.out.mono ?_
          rintro e w3 ⟨rfl, F3, b3, hm3, ht3⟩
          have HM3 := hide hm3
          have HT3 := hide (HTr.out.trans_new ht3 (fun k hk => .inr (HLow.out k hk).1))
          obtain ⟨f1, f2⟩ := HF2.out b3 wr.heap.size
          have HF3 := hide f1
          have HTT3 := hide f2
          clear hm3 ht3 HA HMr HFr HTr HF2 HLow f1 f2
          go_wp2_with fail
          go_roundw
          case rel =>
            refine ⟨j + 1, F3, _, _, T + (k + 1), by omega, by omega, by go_num, by go_num, by go_num, by omega, ?_, HM3, HF3, HT3⟩
            show _ = _
            rw [HTT3.out, ← HTT.out]
            congr 1
          case measure => simp [intOf]; omega
      · as_aux_lemma =>
        -- 40 tasks
        obtain ⟨c1, us, c2, vs, q1, q2, q3, q4, q5, q6, q7, q8, hvs⟩ := fair_runs HFr.out
        have HRun := hide (run_tur w.heap.size wr p F ts none 0 0 [] j j 0 (by omega) (by omega) (by omega) (by omega) (by intro x hx; simp at hx) ⟨rfl, by simp⟩ HFr.out.lim HMr.out)
        rw [q1] at HRun
        have q5' := q5 hj
        rw [← HTT.out] at q5'
        have HE2 := hide q2
        have HLim := hide q3
        have HQ8 := hide q8
        have hul : us.length = j := q4
        clear q1 q2 q3 q4 q5 q8
        go_wp2_with fail
        refine HRun.out.mono ?_
        rintro e w3 ⟨rfl, hm3, ht3⟩
        have HM3 := hide hm3
        have HT3 := hide (HTr.out.trans_new ht3 (fun k hk => .inr (HLow.out k hk).1))
        clear hm3 ht3 HRun HMr HFr HTr HTT
        go_wp2_with fail
        go_loopw [13] (fun i wr => ∃ (m : Nat), m ≤ j ∧ i = .int .i64 ((m : Int) + 1) ∧ Hid (Tur w.heap.size wr p F us) ∧ Hid (Turned [] w wr)) (fun i _ => j + 1 - (intOf i).toNat)
        case atStart => exact ⟨0, Nat.zero_le _, rfl, HM3, HT3⟩
        case round =>
          obtain ⟨m, hm, rfl, HMq, HTq⟩ := hrel
          have e4 : wrap64 ((m : Int) + 1 + 1) = (m : Int) + 1 + 1 := by unfold wrap64; omega
          by_cases hmj : m < j
          · by_cases h30 : j < 30
            · exfalso
              omega
            · as_aux_lemma =>
              -- more than 29
              go_wp2_with fail
              refine (run_tur w.heap.size _ p F us none 0 0 [] 100000 100000 30 rfl (by omega) (by omega) (by omega) (by intro x hx; simp at hx) ⟨rfl, by simp⟩ HLim.out HMq.out).mono ?_
              rw [HE2.out]
              rintro e w5 ⟨rfl, hm5, ht5⟩
              have HM5 := hide hm5
              have HT5 := hide (HTq.out.trans_new ht5 (fun k hk => .inr (HLow.out k hk).1))
              have HRd := hide (ready_any w.heap.size w5 p F vs hm5.trn)
              rw [(hvs hj).1] at HRd
              clear hm5 ht5
              have e8 : wrap64 ((c1 : Int) + (c2 : Int)) = (T : Int) := by unfold wrap64; omega
              go_wp2_with fail
              refine HRd.out.mono ?_
              rintro e w6 ⟨v6, rfl, ho6, ht6⟩
              obtain ⟨-, ao6, cap6, rfl, -⟩ := ownsRow_any ho6
              have HSt := hide (stuck_any w.heap.size w6 p F vs (HM5.out.same ht6).trn)
              have HT6 := hide (HT5.out.trans ht6)
              rw [(hvs hj).1, (hvs hj).2] at HSt
              clear ho6 ht6 HRd
              go_wp2_with fail
              refine HSt.out.mono ?_
              rintro e w7 ⟨rfl, ht7⟩
              have HT7 := hide (HT6.out.trans ht7)
              clear ht7 HSt
              go_wp2_with fail
              go_ret
              exact ⟨rfl, HT7.out⟩
          · as_aux_lemma =>
            -- all were looked at
            go_wp2_with fail
            refine (run_tur w.heap.size _ p F us none 0 0 [] 100000 100000 30 rfl (by omega) (by omega) (by omega) (by intro x hx; simp at hx) ⟨rfl, by simp⟩ HLim.out HMq.out).mono ?_
            rw [HE2.out]
            rintro e w5 ⟨rfl, hm5, ht5⟩
            have HM5 := hide hm5
            have HT5 := hide (HTq.out.trans_new ht5 (fun k hk => .inr (HLow.out k hk).1))
            have HRd := hide (ready_any w.heap.size w5 p F vs hm5.trn)
            rw [(hvs hj).1] at HRd
            clear hm5 ht5
            have e8 : wrap64 ((c1 : Int) + (c2 : Int)) = (T : Int) := by unfold wrap64; omega
            go_wp2_with fail
            refine HRd.out.mono ?_
            rintro e w6 ⟨v6, rfl, ho6, ht6⟩
            obtain ⟨-, ao6, cap6, rfl, -⟩ := ownsRow_any ho6
            have HSt := hide (stuck_any w.heap.size w6 p F vs (HM5.out.same ht6).trn)
            have HT6 := hide (HT5.out.trans ht6)
            rw [(hvs hj).1, (hvs hj).2] at HSt
            clear ho6 ht6 HRd
            go_wp2_with fail
            refine HSt.out.mono ?_
            rintro e w7 ⟨rfl, ht7⟩
            have HT7 := hide (HT6.out.trans ht7)
            clear ht7 HSt
            go_wp2_with fail
            go_ret
            exact ⟨rfl, HT7.out⟩
    · as_aux_lemma =>
      -- all of the slice
      obtain ⟨c1, us, c2, vs, q1, q2, q3, q4, q5, q6, q7, q8, hvs⟩ := fair_runs HFr.out
      have HRun := hide (run_tur w.heap.size wr p F ts none 0 0 [] j j 0 (by omega) (by omega) (by omega) (by omega) (by intro x hx; simp at hx) ⟨rfl, by simp⟩ HFr.out.lim HMr.out)
      rw [q1] at HRun
      have q5' := q5 hj
      rw [← HTT.out] at q5'
      have HE2 := hide q2
      have HLim := hide q3
      have HQ8 := hide q8
      have hul : us.length = j := q4
      clear q1 q2 q3 q4 q5 q8
      go_wp2_with fail
      refine HRun.out.mono ?_
      rintro e w3 ⟨rfl, hm3, ht3⟩
      have HM3 := hide hm3
      have HT3 := hide (HTr.out.trans_new ht3 (fun k hk => .inr (HLow.out k hk).1))
      clear hm3 ht3 HRun HMr HFr HTr HTT
      go_wp2_with fail
      go_loopw [13] (fun i wr => ∃ (m : Nat), m ≤ j ∧ i = .int .i64 ((m : Int) + 1) ∧ Hid (Tur w.heap.size wr p F us) ∧ Hid (Turned [] w wr)) (fun i _ => j + 1 - (intOf i).toNat)
      case atStart => exact ⟨0, Nat.zero_le _, rfl, HM3, HT3⟩
      case round =>
        obtain ⟨m, hm, rfl, HMq, HTq⟩ := hrel
        have e4 : wrap64 ((m : Int) + 1 + 1) = (m : Int) + 1 + 1 := by unfold wrap64; omega
        by_cases hmj : m < j
        · by_cases h30 : j < 30
          · obtain ⟨t, ht⟩ : ∃ t, us[m]? = some t := ⟨_, List.getElem?_eq_getElem (by omega)⟩
            have HS := hide (steps_in w.heap.size _ p F us m t ht HMq.out.trn)
            by_cases h1 : t.n < 1
            · have hne : ¬ ((readyOf us).length = j) := fun e => by have := HQ8.out e m t ht; omega
              clear ht
              go_wp2_with fail
              refine HS.out.mono ?_
              rintro e wx ⟨rfl, rfl⟩
              have HRd := hide (ready_any w.heap.size _ p F us HMq.out.trn)
              clear HS
              go_wp2_with fail
              refine HRd.out.mono ?_
              rintro e w5 ⟨v5, rfl, ho5, ht5⟩
              obtain ⟨-, ao5, cap5, rfl, -⟩ := ownsRow_any ho5
              have HM5 := hide (HMq.out.same ht5)
              have HT5 := hide (HTq.out.trans ht5)
              have hne2 : ¬ (((readyOf us).length : Int) = (j : Int)) := by omega
              clear ho5 ht5 HRd HMq HTq
              go_wp2_with fail
              go_roundw
              case rel => exact ⟨m + 1, by omega, by go_num, HM5, HT5⟩
              case measure => simp [intOf]; omega
            · clear ht
              go_wp2_with fail
              refine HS.out.mono ?_
              rintro e wx ⟨rfl, rfl⟩
              clear HS
              go_wp2_with fail
              go_roundw
              case rel => exact ⟨m + 1, by omega, by go_num, HMq, HTq⟩
              case measure => simp [intOf]; omega
          · as_aux_lemma =>
            -- more than 29
            go_wp2_with fail
            refine (run_tur w.heap.size _ p F us none 0 0 [] 100000 100000 30 rfl (by omega) (by omega) (by omega) (by intro x hx; simp at hx) ⟨rfl, by simp⟩ HLim.out HMq.out).mono ?_
            rw [HE2.out]
            rintro e w5 ⟨rfl, hm5, ht5⟩
            have HM5 := hide hm5
            have HT5 := hide (HTq.out.trans_new ht5 (fun k hk => .inr (HLow.out k hk).1))
            have HRd := hide (ready_any w.heap.size w5 p F vs hm5.trn)
            rw [(hvs hj).1] at HRd
            clear hm5 ht5
            have e8 : wrap64 ((c1 : Int) + (c2 : Int)) = (T : Int) := by unfold wrap64; omega
            go_wp2_with fail
            refine HRd.out.mono ?_
            rintro e w6 ⟨v6, rfl, ho6, ht6⟩
            obtain ⟨-, ao6, cap6, rfl, -⟩ := ownsRow_any ho6
            have HSt := hide (stuck_any w.heap.size w6 p F vs (HM5.out.same ht6).trn)
            have HT6 := hide (HT5.out.trans ht6)
            rw [(hvs hj).1, (hvs hj).2] at HSt
            clear ho6 ht6 HRd
            go_wp2_with fail
            refine HSt.out.mono ?_
            rintro e w7 ⟨rfl, ht7⟩
            have HT7 := hide (HT6.out.trans ht7)
            clear ht7 HSt
            go_wp2_with fail
            go_ret
            exact ⟨rfl, HT7.out⟩
        · as_aux_lemma =>
          -- all were looked at
          go_wp2_with fail
          refine (run_tur w.heap.size _ p F us none 0 0 [] 100000 100000 30 rfl (by omega) (by omega) (by omega) (by intro x hx; simp at hx) ⟨rfl, by simp⟩ HLim.out HMq.out).mono ?_
          rw [HE2.out]
          rintro e w5 ⟨rfl, hm5, ht5⟩
          have HM5 := hide hm5
          have HT5 := hide (HTq.out.trans_new ht5 (fun k hk => .inr (HLow.out k hk).1))
          have HRd := hide (ready_any w.heap.size w5 p F vs hm5.trn)
          rw [(hvs hj).1] at HRd
          clear hm5 ht5
          have e8 : wrap64 ((c1 : Int) + (c2 : Int)) = (T : Int) := by unfold wrap64; omega
          go_wp2_with fail
          refine HRd.out.mono ?_
          rintro e w6 ⟨v6, rfl, ho6, ht6⟩
          obtain ⟨-, ao6, cap6, rfl, -⟩ := ownsRow_any ho6
          have HSt := hide (stuck_any w.heap.size w6 p F vs (HM5.out.same ht6).trn)
          have HT6 := hide (HT5.out.trans ht6)
          rw [(hvs hj).1, (hvs hj).2] at HSt
          clear ho6 ht6 HRd
          go_wp2_with fail
          refine HSt.out.mono ?_
          rintro e w7 ⟨rfl, ht7⟩
          have HT7 := hide (HT6.out.trans ht7)
          clear ht7 HSt
          go_wp2_with fail
          go_ret
          exact ⟨rfl, HT7.out⟩

set_option maxRecDepth 100000 in
theorem turnsFair_lifted (os : Os) (started : os.Started) (H : Type) (enc : TypeId × Value → H) :
    ReturnsInHanded {} Try.checked os 4 .any (Rows.turnsFairSpec.pre6 enc Try.prog Try.f4 Rows.turnsFairRow.domain false) (Rows.turnsFairSpec.post enc Try.prog Try.f4 false true false false) := by
  refine returnsInHanded_of_change (C := Try.checked) own started (by kernel_rfl) Try.func4
    (ChangeSpec.witness6 (enc := enc) (C := Try.checked) false ⟨#[], #[.slice none 0 0], []⟩ 8 (by kernel_rfl) (by kernel_rfl) (by kernel_rfl) (by kernel_rfl)) ?_
  intro W base args ds gs before hval0 hW hcnd _
  have hval : ∀ (j : Nat) t v, Try.f4.params[j]? = some t → args[j]? = some v → Value.okWide Try.prog W .any base t v := hval0
  have hW' := hW
  obtain ⟨p, q, hA0, hV, rfl, hfz, hnd⟩ := hW
  have hA : DataW.TrodAll enc Try.prog W 0 (fun _ => true) true Try.f4.params.toList args.toList ds p := hA0
  rw [Try.params4] at hA hval
  obtain ⟨v0, vs0, d0, ds0, p0, q0, hargs, rfl, rfl, h0, r0⟩ := trodAll_cons hA
  obtain ⟨rfl, rfl, rfl⟩ := trodAll_nil r0
  obtain rfl : args = #[v0] := by cases args; simp_all
  obtain ⟨rfl, rfl⟩ := trodVars_none hV
  obtain ⟨a0, len0, cap0, rfl⟩ := okWide_slice Try.underlying28 (hval 0 28 v0 rfl rfl)
  have k0 := h0
  have lt0 : ∀ x ∈ p0, x.block < W.heap.size := by obtain ⟨m, hm⟩ := k0; exact DataW.trod_lt m _ _ _ hm
  obtain ⟨z0, w0⟩ : ∃ zs, IsRow .i64 W a0 len0 cap0 zs := by
    obtain ⟨fuel, hf⟩ := h0
    rcases open_ints Try.underlying28 Try.underlying3 (by kernel_rfl) hf with ⟨hcs, _⟩ | ⟨x, l, c, zs, hcs, _, hl, hm, hz, _, hcell, hwz⟩
    · simp [Value.cells] at hcs
      obtain ⟨rfl, rfl, rfl⟩ := hcs
      exact ⟨[], .inl ⟨rfl, rfl, rfl, rfl⟩⟩
    · simp [Value.cells] at hcs
      obtain ⟨rfl, rfl, rfl⟩ := hcs
      exact ⟨zs, .inr ⟨_, rfl, hl, hm, by simpa using hz, hcell, hwz⟩⟩
  clear hA0 hval0
  refine (turnsFair_walk a0 len0 cap0 z0 W w0).mono fun e W' ⟨he, ht⟩ => ?_
  subst he
  have bel : Below W.heap.size W W' := ht.below0
  exact ⟨_, rfl, _, _, _, [], _, [], hW', trodAll_mk1 (shut_bool Try.underlying4 _), (trodAll_cons_mk (Below.trod laidOut (by kernel_rfl) (of_decide_eq_true (by kernel_rfl)) k0 bel lt0) trodAll_mk0), rfl, bel.frame _, fun h => by cases h⟩

theorem turnsFair_over : Rows.turnsFairRow.holds Try.pinned (OpenSpec.ofChange Rows.turnsFairSpec) :=
  OpenClaim.holds_of_wide 4 Try.f4 rfl rfl rfl rfl rfl rfl rfl ⟨rfl, rfl, rfl, rfl, rfl⟩ rfl rfl rfl rfl rfl (by kernel_rfl) Try.func4 (by kernel_rfl)
    (of_decide_eq_true (by kernel_rfl)) (by unfold Func.isWrapper; first | (rw [if_pos (by decide +kernel)]; kernel_rfl) | (rw [if_neg (by decide +kernel)]; exact ⟨rfl, rfl⟩))
    (fun os started H enc _ => turnsFair_lifted os started H enc)

theorem turnsFair_holds : Rows.TurnsFairSaid := turnsFair_over
end Go.Proofs.Ytihoffaolonfhaa
