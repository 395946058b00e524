/-
  The statement TurnsWaits is proved: for every three slices the law returns true and its arguments read as before; no condition.
-/
import Derived.Test.YtihoffaolonfhaaTurnsWaitsP
import Derived.Deep.Grids
namespace Go.Proofs.Ytihoffaolonfhaa
open Go.RowKit Go.ChangeShapes Go.WideShapes Go.ChangeAt
set_option linter.unusedVariables false

/-- A slice of bools that can be read. -/
def BRd (w : World) (a : Option Addr) (len : Nat) (bs : Nat → Bool) : Prop := ∀ i, i < len → ∃ g off, a = some ⟨g, off, none⟩ ∧ w.cell? ⟨g, off + i, none⟩ = some (.bool (bs i))

theorem rd_old {w w' : World} {F : List Nat} {a : Option Addr} {len : Nat} {l : List Int} (h : Rd w [] a len l) (hF : ∀ k, k ∈ F → w.heap.size ≤ k) (ht : Turned [] w w') : Rd w' F a len l :=
  ⟨h.1, fun i x hx => by
    obtain ⟨g, off, h1, _, h3⟩ := h.2 i x hx
    have hlt := block_lt h3
    exact ⟨g, off, h1, fun hk => by have h4 := hF _ hk; have h5 : g < w.heap.size := hlt; omega, by rw [ht.cell hlt (by simp)]; exact h3⟩⟩

def mem1 (w : World) : World := (w.alloc (.cells #[.int .i64 2] 3)).alloc (.cells #[.slice (some ⟨w.heap.size, 0, none⟩) 1 1, .int .i64 0] 37)
def mem2 (w : World) : World := ((w.alloc (.cells #[.int .i64 2] 3)).alloc (.cells #[.slice (some ⟨w.heap.size + 1 + 1, 0, none⟩) 2 2, .int .i64 0] 37)).alloc (.cells #[.int .i64 1, .int .i64 2] 3)

theorem mem1_facts (B : Nat) (w : World) : Turned [] w (mem1 w) ∧ ToldD B (w.heap.size + 1) (some ⟨w.heap.size, 0, none⟩) 1 1 [2] (mem1 w) 0 := by
  have hT : Turned [] w (mem1 w) := ((Turned.refl _ _).alloc _).alloc _
  have hr : (mem1 w).heap[w.heap.size]? = some (.cells #[.int .i64 2] 3) := by unfold mem1; rw [Below.heap_alloc _ _ _ (by simp), heap_alloc_new]
  refine ⟨hT, heap_alloc_at (by simp), ⟨rfl, fun i y hy => ⟨w.heap.size, 0, rfl, by simp, ?_⟩⟩, fun k hk => ?_⟩
  · rw [cell_of_heap hr, Nat.zero_add]
    match i, hy with
    | 0, hy => simp at hy; subst hy; rfl
    | i + 1, hy => simp at hy
  · have e : rowA (some ⟨w.heap.size, 0, none⟩) [2] = [w.heap.size] := rfl
    rw [e] at hk
    simp at hk
    subst hk
    exact .inr ⟨_, _, hr⟩
theorem mem2_facts (B : Nat) (w : World) : Turned [] w (mem2 w) ∧ ToldD B (w.heap.size + 1) (some ⟨w.heap.size + 1 + 1, 0, none⟩) 2 2 [1, 2] (mem2 w) 0 := by
  have hT : Turned [] w (mem2 w) := (((Turned.refl _ _).alloc _).alloc _).alloc _
  have hr : (mem2 w).heap[w.heap.size + 1 + 1]? = some (.cells #[.int .i64 1, .int .i64 2] 3) := heap_alloc_at (by simp)
  refine ⟨hT, by unfold mem2; rw [Below.heap_alloc _ _ _ (by simp)]; exact heap_alloc_at (by simp), ⟨rfl, fun i y hy => ⟨w.heap.size + 1 + 1, 0, rfl, by simp, ?_⟩⟩, fun k hk => ?_⟩
  · rw [cell_of_heap hr, Nat.zero_add]
    match i, hy with
    | 0, hy => simp at hy; subst hy; rfl
    | 1, hy => simp at hy; subst hy; rfl
    | i + 2, hy => simp at hy
  · have e : rowA (some ⟨w.heap.size + 1 + 1, 0, none⟩) [1, 2] = [w.heap.size + 1 + 1] := rfl
    rw [e] at hk
    simp at hk
    subst hk
    exact .inr ⟨_, _, hr⟩
theorem mem1_x (w : World) : ((mem1 w).alloc (.cells #[.int .i64 1, .int .i64 2] 3)).cell? ⟨w.heap.size + 1, 0, none⟩ = some (.slice (some ⟨w.heap.size, 0, none⟩) 1 1) ∧ ((mem1 w).alloc (.cells #[.int .i64 1, .int .i64 2] 3)).frozen? ⟨w.heap.size + 1, 0, none⟩ = false := by
  have hx : ((mem1 w).alloc (.cells #[.int .i64 1, .int .i64 2] 3)).heap[w.heap.size + 1]? = some (.cells #[.slice (some ⟨w.heap.size, 0, none⟩) 1 1, .int .i64 0] 37) := by
    rw [Below.heap_alloc _ _ _ (by unfold mem1; simp)]
    unfold mem1
    exact heap_alloc_at (by simp)
  exact ⟨by rw [cell_of_heap hx]; rfl, by simp [World.frozen?, hx]⟩

theorem want_snoc {b : Bool} {l : List Int} {q : Nat} {y : Int} (z : Int) (hy : l[q]? = some y) : (if b = true ∧ z ∈ l.take (q + 1) then (2 : Int) else 1) = if b = true ∧ y = z then 2 else if b = true ∧ z ∈ l.take q then 2 else 1 := by
  rw [take_snoc hy]
  cases b with
  | false => simp
  | true =>
    by_cases h1 : y = z
    · simp [h1]
    · have h2 : ¬ (z = y) := fun e => h1 e.symm
      simp [h1, h2]

set_option maxRecDepth 100000 in
set_option maxHeartbeats 16000000 in
theorem turnsWaits_walk (a : Option Addr) (len cap : Nat) (bs : Nat → Bool) (a2 : Option Addr) (len2 cap2 : Nat) (z2 : List Int) (a3 : Option Addr) (len3 cap3 : Nat) (z3 : List Int) (w : World) (hB : BRd w a len bs) (hlen : len ≤ 9223372036854775807) (h2 : IsRow .i64 w a2 len2 cap2 z2) (h3 : IsRow .i64 w a3 len3 cap3 z3) :
    Calls Try.prog 5 #[.slice a len cap, .slice a2 len2 cap2, .slice a3 len3 cap3] w fun e w' => e = .returned (.bool true) ∧ Turned [] w w' := by
  have hmf : ∀ (fn : Fn) (first cap : Array Value) (w : World), (Instr.makeFunc fn first cap).run Try.prog w = .ok (.func fn first cap) w := fun _ _ _ _ => rfl
  have hbs : ∀ w : World, (Instr.buildSlice 28 2 #[(0, .int .i64 1), (1, .int .i64 2)]).run Try.prog w = .ok (.slice (some ⟨w.heap.size, 0, none⟩) 2 2) (w.alloc (.cells #[.int .i64 1, .int .i64 2] 3)) := fun _ => by kernel_rfl
  obtain ⟨hrd2, hrg2, hlen2⟩ := isRow_rd h2
  obtain ⟨hrd3, hrg3, hlen3⟩ := isRow_rd h3
  generalize z2.take len2 = l2 at *
  generalize z3.take len3 = l3 at *
  have HR2 := hide hrd2
  have HR3 := hide hrd3
  have HG2 := hide hrg2
  have HL2 := hide hrd2.1
  have HL3 := hide hrd3.1
  have HB := hide hB
  clear h2 h3 hrd2 hrd3 hrg2 hrg3 hB
  go_enter Try.func5, Try.ntmps5
  go_wp2_with fail
  refine (awake_true _).mono ?_
  rintro e w1 ⟨rfl, ht1⟩
  have HT1 := hide ht1
  clear ht1
  go_wp2_with fail
  refine (new_tur w.heap.size w1 HT1.out.size).mono ?_
  rintro e w2 ⟨rfl, hm, ht, -⟩
  generalize w1.heap.size = p at *
  have HM := hide hm
  have HT := hide (HT1.out.trans ht)
  clear hm ht HT1
  go_wp2_with fail
  go_loopw [9, 10, 11, 12, 13] (fun n i _ _ _ wr => ∃ (j : Nat) (F : List Nat) (ts : List Task), j ≤ 20 ∧ j ≤ len ∧ n = .int .i64 j ∧ i = .int .i64 j ∧ Hid (Tur w.heap.size wr p F ts) ∧ Hid (WF bs j ts) ∧ Hid (Turned [] w wr)) (fun _ i _ _ _ _ => 20 - (intOf i).toNat)
  case atStart => exact ⟨0, [p], [], Nat.zero_le _, Nat.zero_le _, rfl, rfl, HM, ⟨rfl, by simp⟩, HT⟩
  case round =>
    obtain ⟨j, F, ts, hj, hjl, rfl, rfl, HMr, HFr, HTr⟩ := hrel
    have HLow := hide HMr.out.trn.lo
    by_cases hlt : j < len
    · by_cases hlt2 : j < 20
      · as_aux_lemma =>
        obtain ⟨g, off, rfl, hc⟩ := HB.out j hlt
        have e3 : wrap64 ((j : Int) + 1) = (j : Int) + 1 := by unfold wrap64; omega
        have hmT := (mem1_facts w.heap.size wr).1
        have hcr : (mem1 wr).cell? ⟨g, off + j, none⟩ = some (.bool (bs j)) := by rw [(HTr.out.trans hmT).cell (block_lt hc) (by simp)]; exact hc
        unfold mem1 at hcr
        clear hc hmT
        have hts : ts.length < 128 := by have := HFr.out.1; omega
        cases hb : bs j with
        | false =>
          rw [hb] at hcr
          have hw : wl bs j = [2] := by unfold wl; rw [hb]; rfl
          have HF2 := hide (fun b => HFr.out.snoc w.heap.size b (wr.heap.size + 1) (some ⟨wr.heap.size, 0, none⟩) 1 1)
          rw [hw] at HF2
          have HA := hide (add_told w.heap.size wr (mem1 wr) p F ts (wr.heap.size + 1) wr.heap.size 1 1 [2] (by omega) hts HMr.out (mem1_facts w.heap.size wr).1 (by omega) (Nat.le_refl _) (mem1_facts w.heap.size wr).2)
          clear hb hw hts
          go_wp2_with fail
          refine HA.out.mono ?_
          rintro e w3 ⟨rfl, F3, b3, hm3, ht3⟩
          have HM3 := hide hm3
          have HT3 := hide (HTr.out.trans_new ht3 (fun k hk => .inr (HLow.out k hk).1))
          have HF3 := hide (HF2.out b3)
          clear hm3 ht3 HA HMr HFr HTr HF2 HLow
          go_wp2_with fail
          go_roundw
          case rel => exact ⟨j + 1, F3, _, by omega, by omega, by go_num, by go_num, HM3, HF3, HT3⟩
          case measure => simp [intOf]; omega
        | true =>
          rw [hb] at hcr
          have hw : wl bs j = [1, 2] := by unfold wl; rw [hb]; rfl
          have HF2 := hide (fun b => HFr.out.snoc w.heap.size b (wr.heap.size + 1) (some ⟨wr.heap.size + 1 + 1, 0, none⟩) 2 2)
          rw [hw] at HF2
          obtain ⟨mx1, mx2⟩ := mem1_x wr
          unfold mem1 at mx1 mx2
          have HA := hide (add_told w.heap.size wr (mem2 wr) p F ts (wr.heap.size + 1) (wr.heap.size + 1 + 1) 2 2 [1, 2] (by omega) hts HMr.out (mem2_facts w.heap.size wr).1 (by omega) (by omega) (mem2_facts w.heap.size wr).2)
          clear hb hw hts
          go_wp2_with fail
          refine HA.out.mono ?_
          rintro e w3 ⟨rfl, F3, b3, hm3, ht3⟩
          have HM3 := hide hm3
          have HT3 := hide (HTr.out.trans_new ht3 (fun k hk => .inr (HLow.out k hk).1))
          have HF3 := hide (HF2.out b3)
          clear hm3 ht3 HA HMr HFr HTr HF2 HLow mx1 mx2
          go_wp2_with fail
          go_roundw
          case rel => exact ⟨j + 1, F3, _, by omega, by omega, by go_num, by go_num, HM3, HF3, HT3⟩
          case measure => simp [intOf]; omega
      · as_aux_lemma =>
        -- 20 tasks
        obtain ⟨c1, us, c2, vs, q1, q2, q3, q4, q5, q6, q7⟩ := waits_runs l3 HFr.out hj
        have HRun := hide (run_tur w.heap.size wr p F ts none 0 0 [] 200 200 0 rfl (by omega) (by omega) (by omega) (by intro x hx; simp at hx) ⟨rfl, by simp⟩ HFr.out.lim HMr.out)
        rw [q1] at HRun
        have HRn := hide q2
        have HLim := hide q3
        have HE2 := hide q4
        have HLim2 := hide q5
        have HVl := hide q6
        have HQ7 := hide q7
        clear q1 q2 q3 q4 q5 q6 q7
        go_wp2_with fail
        refine HRun.out.mono ?_
        rintro e w3 ⟨rfl, hm3, ht3⟩
        have HM3 := hide hm3
        have HT3 := hide (HTr.out.trans_new ht3 (fun k hk => .inr (HLow.out k hk).1))
        clear hm3 ht3 HRun HMr HFr HTr
        go_wp2_with fail
        go_loopw [14, 15, 16] (fun i _ _ wr => ∃ (m : Nat), m ≤ 100 ∧ m ≤ len2 ∧ i = .int .i64 m ∧ Hid (Tur w.heap.size wr p F us) ∧ Hid (Turned [] w wr)) (fun i _ _ _ => 100 - (intOf i).toNat)
        case atStart => exact ⟨0, Nat.zero_le _, Nat.zero_le _, rfl, HM3, HT3⟩
        case round =>
          obtain ⟨m, hm100, hm, rfl, HMq, HTq⟩ := hrel
          by_cases hml : m < len2
          · by_cases hm1 : m < 100
            · obtain ⟨y, hy⟩ : ∃ y, l2[m]? = some y := ⟨_, List.getElem?_eq_getElem (by have := HL2.out; omega)⟩
              obtain ⟨g, off, rfl, -, hc⟩ := HR2.out.2 m y hy
              have hcy : wr.cell? ⟨g, off + m, none⟩ = some (.int .i64 y) := by rw [HTq.out.cell (block_lt hc) (by simp)]; exact hc
              have e4 : wrap64 ((m : Int) + 1) = (m : Int) + 1 := by unfold wrap64; omega
              have hpn := pickOf_nil HRn.out y
              have HP := hide (pick_tur w.heap.size wr p F us y (HG2.out y (List.mem_of_getElem? hy)) 1 (by omega) HLim.out HMq.out)
              rw [show pickNum us y = 0 from by unfold pickNum; rw [hpn], hpn, pickTo_none hpn] at HP
              clear hy hc hpn
              go_wp2_with fail
              refine HP.out.mono ?_
              rintro e w5 ⟨rfl, hm5, ht5⟩
              have HM5 := hide hm5
              have HT5 := hide (HTq.out.trans_new ht5 (fun k hk => .inr (HLow.out k hk).1))
              clear hm5 ht5 HP HMq HTq
              go_wp2_with fail
              go_roundw
              case rel => exact ⟨m + 1, by omega, by omega, by go_num, HM5, HT5⟩
              case measure => simp [intOf]; omega
            · as_aux_lemma =>
              -- 100 picks
              have HW := hide (wake_tur w.heap.size _ p F us a3 len3 cap3 l3 hlen3 (rd_old HR3.out (fun k hk => (HLow.out k hk).1) HTq.out) HMq.out)
              go_wp2_with fail
              refine HW.out.mono ?_
              rintro e w5 ⟨rfl, hm5, ht5⟩
              have HRun2 := hide (run_tur w.heap.size w5 p F (wakeAll us l3) none 0 0 [] 200 200 1 rfl (by omega) (by omega) (by omega) (by intro x hx; simp at hx) ⟨rfl, by simp⟩ HLim2.out hm5)
              rw [HE2.out] at HRun2
              have HT5 := hide (HTq.out.trans_new ht5 (fun k hk => .inr (HLow.out k hk).1))
              clear hm5 ht5 HW HMq HTq
              go_wp2_with fail
              refine HRun2.out.mono ?_
              rintro e w6 ⟨rfl, hm6, ht6⟩
              have HM6 := hide hm6
              have HT6 := hide (HT5.out.trans_new ht6 (fun k hk => .inr (HLow.out k hk).1))
              clear hm6 ht6 HRun2 HT5
              go_wp2_with fail
              go_loopw [17, 18, 19] (fun i _ _ wr => ∃ (m : Nat), m ≤ j ∧ i = .int .i64 ((m : Int) + 1) ∧ Hid (wr = w6)) (fun i _ _ _ => j + 1 - (intOf i).toNat)
              case atStart => exact ⟨0, Nat.zero_le _, rfl, by first | exact rfl | exact trivial⟩
              case round =>
                obtain ⟨m, hm, rfl, HWr⟩ := hrel
                have hWr : wr = w6 := HWr.out
                subst hWr
                have e4 : wrap64 ((m : Int) + 1 + 1) = (m : Int) + 1 + 1 := by unfold wrap64; omega
                have e5 : wrap64 ((m : Int) + 1 - 1) = (m : Int) := by unfold wrap64; omega
                by_cases hmj : m < j
                · obtain ⟨t, ht⟩ : ∃ t, vs[m]? = some t := ⟨_, List.getElem?_eq_getElem (by have := HVl.out; omega)⟩
                  have HS := hide (steps_in w.heap.size _ p F vs m t ht HM6.out.trn)
                  have HTn := hide (HQ7.out m t ht)
                  obtain ⟨g, off, rfl, hbm⟩ := HB.out m (by omega)
                  have hbw : wr.cell? ⟨g, off + m, none⟩ = some (.bool (bs m)) := by rw [HT6.out.cell (block_lt hbm) (by simp)]; exact hbm
                  clear ht hbm
                  go_wp2_with fail
                  go_loopw [18, 19] (fun want k wi => ∃ (q : Nat) (v : Int), q ≤ len3 ∧ k = .int .i64 q ∧ want = .int .i64 v ∧ Hid (v = if bs m = true ∧ ((m : Int) + 1) ∈ l3.take q then 2 else 1) ∧ Hid (wi = wr)) (fun _ k _ => len3 - (intOf k).toNat)
                  case atStart => exact ⟨0, 1, Nat.zero_le _, rfl, rfl, by show _ = _; simp, by first | exact rfl | exact trivial⟩
                  case round =>
                    obtain ⟨q, v, hq, rfl, rfl, HV, HWi⟩ := hrel
                    have hWi := HWi.out
                    subst hWi
                    by_cases hql : q < len3
                    · obtain ⟨y, hy⟩ : ∃ y, l3[q]? = some y := ⟨_, List.getElem?_eq_getElem (by have := HL3.out; omega)⟩
                      obtain ⟨g3, off3, rfl, -, hc3⟩ := HR3.out.2 q y hy
                      have hcy := HT6.out.cell (p := ⟨g3, off3 + q, none⟩) (block_lt hc3) (by simp)
                      rw [hc3] at hcy
                      have e6 : wrap64 ((q : Int) + 1) = (q : Int) + 1 := by unfold wrap64; omega
                      have HWs := hide (want_snoc (b := bs m) ((m : Int) + 1) hy)
                      clear hy hc3
                      by_cases hye : y = (m : Int) + 1
                      · subst hye
                        rcases Bool.eq_false_or_eq_true (bs m) with hbm | hbm
                        · rw [hbm] at hbw
                          have HV2 : Hid ((2 : Int) = if bs m = true ∧ ((m : Int) + 1) ∈ l3.take (q + 1) then 2 else 1) := by show _ = _; rw [HWs.out, if_pos ⟨hbm, rfl⟩]
                          clear hbm
                          go_wp2_with fail
                          go_roundw
                          case rel => exact ⟨q + 1, 2, by omega, by go_num, rfl, HV2, by first | exact rfl | exact trivial⟩
                          case measure => simp [intOf]; omega
                        · rw [hbm] at hbw
                          have HV2 : Hid (v = if bs m = true ∧ ((m : Int) + 1) ∈ l3.take (q + 1) then 2 else 1) := by show _ = _; rw [HWs.out, if_neg (fun e => by rw [hbm] at e; exact absurd e.1 (by decide))]; exact HV.out
                          clear hbm
                          go_wp2_with fail
                          go_roundw
                          case rel => exact ⟨q + 1, v, by omega, by go_num, rfl, HV2, by first | exact rfl | exact trivial⟩
                          case measure => simp [intOf]; omega
                      · have HV2 : Hid (v = if bs m = true ∧ ((m : Int) + 1) ∈ l3.take (q + 1) then 2 else 1) := by show _ = _; rw [HWs.out, if_neg (fun e => hye e.2)]; exact HV.out
                        have hyb : (y == (m : Int) + 1) = false := by simp [hye]
                        go_wp2_with fail
                        go_roundw
                        case rel => exact ⟨q + 1, v, by omega, by go_num, rfl, HV2, by first | exact rfl | exact trivial⟩
                        case measure => simp [intOf]; omega
                    · have hv : t.n = v := by
                        have h1 := HV.out
                        have e1 : l3.take q = l3 := by have := HL3.out; exact List.take_of_length_le (by omega)
                        rw [e1] at h1
                        rw [HTn.out, h1]
                      rw [hv] at HS
                      clear hv
                      go_wp2_with fail
                      refine HS.out.mono ?_
                      rintro e wx ⟨rfl, rfl⟩
                      clear HS
                      go_wp2_with fail
                      go_roundw
                      case rel => exact ⟨m + 1, by omega, by go_num, by first | exact rfl | exact trivial⟩
                      case measure => simp [intOf]; omega
                · go_wp2_with fail
                  go_ret
                  exact ⟨rfl, HT6.out⟩
          · as_aux_lemma =>
            -- all picks
            have HW := hide (wake_tur w.heap.size _ p F us a3 len3 cap3 l3 hlen3 (rd_old HR3.out (fun k hk => (HLow.out k hk).1) HTq.out) HMq.out)
            go_wp2_with fail
            refine HW.out.mono ?_
            rintro e w5 ⟨rfl, hm5, ht5⟩
            have HRun2 := hide (run_tur w.heap.size w5 p F (wakeAll us l3) none 0 0 [] 200 200 1 rfl (by omega) (by omega) (by omega) (by intro x hx; simp at hx) ⟨rfl, by simp⟩ HLim2.out hm5)
            rw [HE2.out] at HRun2
            have HT5 := hide (HTq.out.trans_new ht5 (fun k hk => .inr (HLow.out k hk).1))
            clear hm5 ht5 HW HMq HTq
            go_wp2_with fail
            refine HRun2.out.mono ?_
            rintro e w6 ⟨rfl, hm6, ht6⟩
            have HM6 := hide hm6
            have HT6 := hide (HT5.out.trans_new ht6 (fun k hk => .inr (HLow.out k hk).1))
            clear hm6 ht6 HRun2 HT5
            go_wp2_with fail
            go_loopw [17, 18, 19] (fun i _ _ wr => ∃ (m : Nat), m ≤ j ∧ i = .int .i64 ((m : Int) + 1) ∧ Hid (wr = w6)) (fun i _ _ _ => j + 1 - (intOf i).toNat)
            case atStart => exact ⟨0, Nat.zero_le _, rfl, by first | exact rfl | exact trivial⟩
            case round =>
              obtain ⟨m, hm, rfl, HWr⟩ := hrel
              have hWr : wr = w6 := HWr.out
              subst hWr
              have e4 : wrap64 ((m : Int) + 1 + 1) = (m : Int) + 1 + 1 := by unfold wrap64; omega
              have e5 : wrap64 ((m : Int) + 1 - 1) = (m : Int) := by unfold wrap64; omega
              by_cases hmj : m < j
              · obtain ⟨t, ht⟩ : ∃ t, vs[m]? = some t := ⟨_, List.getElem?_eq_getElem (by have := HVl.out; omega)⟩
                have HS := hide (steps_in w.heap.size _ p F vs m t ht HM6.out.trn)
                have HTn := hide (HQ7.out m t ht)
                obtain ⟨g, off, rfl, hbm⟩ := HB.out m (by omega)
                have hbw : wr.cell? ⟨g, off + m, none⟩ = some (.bool (bs m)) := by rw [HT6.out.cell (block_lt hbm) (by simp)]; exact hbm
                clear ht hbm
                go_wp2_with fail
                go_loopw [18, 19] (fun want k wi => ∃ (q : Nat) (v : Int), q ≤ len3 ∧ k = .int .i64 q ∧ want = .int .i64 v ∧ Hid (v = if bs m = true ∧ ((m : Int) + 1) ∈ l3.take q then 2 else 1) ∧ Hid (wi = wr)) (fun _ k _ => len3 - (intOf k).toNat)
                case atStart => exact ⟨0, 1, Nat.zero_le _, rfl, rfl, by show _ = _; simp, by first | exact rfl | exact trivial⟩
                case round =>
                  obtain ⟨q, v, hq, rfl, rfl, HV, HWi⟩ := hrel
                  have hWi := HWi.out
                  subst hWi
                  by_cases hql : q < len3
                  · obtain ⟨y, hy⟩ : ∃ y, l3[q]? = some y := ⟨_, List.getElem?_eq_getElem (by have := HL3.out; omega)⟩
                    obtain ⟨g3, off3, rfl, -, hc3⟩ := HR3.out.2 q y hy
                    have hcy := HT6.out.cell (p := ⟨g3, off3 + q, none⟩) (block_lt hc3) (by simp)
                    rw [hc3] at hcy
                    have e6 : wrap64 ((q : Int) + 1) = (q : Int) + 1 := by unfold wrap64; omega
                    have HWs := hide (want_snoc (b := bs m) ((m : Int) + 1) hy)
                    clear hy hc3
                    by_cases hye : y = (m : Int) + 1
                    · subst hye
                      rcases Bool.eq_false_or_eq_true (bs m) with hbm | hbm
                      · rw [hbm] at hbw
                        have HV2 : Hid ((2 : Int) = if bs m = true ∧ ((m : Int) + 1) ∈ l3.take (q + 1) then 2 else 1) := by show _ = _; rw [HWs.out, if_pos ⟨hbm, rfl⟩]
                        clear hbm
                        go_wp2_with fail
                        go_roundw
                        case rel => exact ⟨q + 1, 2, by omega, by go_num, rfl, HV2, by first | exact rfl | exact trivial⟩
                        case measure => simp [intOf]; omega
                      · rw [hbm] at hbw
                        have HV2 : Hid (v = if bs m = true ∧ ((m : Int) + 1) ∈ l3.take (q + 1) then 2 else 1) := by show _ = _; rw [HWs.out, if_neg (fun e => by rw [hbm] at e; exact absurd e.1 (by decide))]; exact HV.out
                        clear hbm
                        go_wp2_with fail
                        go_roundw
                        case rel => exact ⟨q + 1, v, by omega, by go_num, rfl, HV2, by first | exact rfl | exact trivial⟩
                        case measure => simp [intOf]; omega
                    · have HV2 : Hid (v = if bs m = true ∧ ((m : Int) + 1) ∈ l3.take (q + 1) then 2 else 1) := by show _ = _; rw [HWs.out, if_neg (fun e => hye e.2)]; exact HV.out
                      have hyb : (y == (m : Int) + 1) = false := by simp [hye]
                      go_wp2_with fail
                      go_roundw
                      case rel => exact ⟨q + 1, v, by omega, by go_num, rfl, HV2, by first | exact rfl | exact trivial⟩
                      case measure => simp [intOf]; omega
                  · have hv : t.n = v := by
                      have h1 := HV.out
                      have e1 : l3.take q = l3 := by have := HL3.out; exact List.take_of_length_le (by omega)
                      rw [e1] at h1
                      rw [HTn.out, h1]
                    rw [hv] at HS
                    clear hv
                    go_wp2_with fail
                    refine HS.out.mono ?_
                    rintro e wx ⟨rfl, rfl⟩
                    clear HS
                    go_wp2_with fail
                    go_roundw
                    case rel => exact ⟨m + 1, by omega, by go_num, by first | exact rfl | exact trivial⟩
                    case measure => simp [intOf]; omega
              · go_wp2_with fail
                go_ret
                exact ⟨rfl, HT6.out⟩
    · as_aux_lemma =>
      -- all of the slice
      obtain ⟨c1, us, c2, vs, q1, q2, q3, q4, q5, q6, q7⟩ := waits_runs l3 HFr.out hj
      have HRun := hide (run_tur w.heap.size wr p F ts none 0 0 [] 200 200 0 rfl (by omega) (by omega) (by omega) (by intro x hx; simp at hx) ⟨rfl, by simp⟩ HFr.out.lim HMr.out)
      rw [q1] at HRun
      have HRn := hide q2
      have HLim := hide q3
      have HE2 := hide q4
      have HLim2 := hide q5
      have HVl := hide q6
      have HQ7 := hide q7
      clear q1 q2 q3 q4 q5 q6 q7
      go_wp2_with fail
      refine HRun.out.mono ?_
      rintro e w3 ⟨rfl, hm3, ht3⟩
      have HM3 := hide hm3
      have HT3 := hide (HTr.out.trans_new ht3 (fun k hk => .inr (HLow.out k hk).1))
      clear hm3 ht3 HRun HMr HFr HTr
      go_wp2_with fail
      go_loopw [14, 15, 16] (fun i _ _ wr => ∃ (m : Nat), m ≤ 100 ∧ m ≤ len2 ∧ i = .int .i64 m ∧ Hid (Tur w.heap.size wr p F us) ∧ Hid (Turned [] w wr)) (fun i _ _ _ => 100 - (intOf i).toNat)
      case atStart => exact ⟨0, Nat.zero_le _, Nat.zero_le _, rfl, HM3, HT3⟩
      case round =>
        obtain ⟨m, hm100, hm, rfl, HMq, HTq⟩ := hrel
        by_cases hml : m < len2
        · by_cases hm1 : m < 100
          · obtain ⟨y, hy⟩ : ∃ y, l2[m]? = some y := ⟨_, List.getElem?_eq_getElem (by have := HL2.out; omega)⟩
            obtain ⟨g, off, rfl, -, hc⟩ := HR2.out.2 m y hy
            have hcy : wr.cell? ⟨g, off + m, none⟩ = some (.int .i64 y) := by rw [HTq.out.cell (block_lt hc) (by simp)]; exact hc
            have e4 : wrap64 ((m : Int) + 1) = (m : Int) + 1 := by unfold wrap64; omega
            have hpn := pickOf_nil HRn.out y
            have HP := hide (pick_tur w.heap.size wr p F us y (HG2.out y (List.mem_of_getElem? hy)) 1 (by omega) HLim.out HMq.out)
            rw [show pickNum us y = 0 from by unfold pickNum; rw [hpn], hpn, pickTo_none hpn] at HP
            clear hy hc hpn
            go_wp2_with fail
            refine HP.out.mono ?_
            rintro e w5 ⟨rfl, hm5, ht5⟩
            have HM5 := hide hm5
            have HT5 := hide (HTq.out.trans_new ht5 (fun k hk => .inr (HLow.out k hk).1))
            clear hm5 ht5 HP HMq HTq
            go_wp2_with fail
            go_roundw
            case rel => exact ⟨m + 1, by omega, by omega, by go_num, HM5, HT5⟩
            case measure => simp [intOf]; omega
          · as_aux_lemma =>
            -- 100 picks
            have HW := hide (wake_tur w.heap.size _ p F us a3 len3 cap3 l3 hlen3 (rd_old HR3.out (fun k hk => (HLow.out k hk).1) HTq.out) HMq.out)
            go_wp2_with fail
            refine HW.out.mono ?_
            rintro e w5 ⟨rfl, hm5, ht5⟩
            have HRun2 := hide (run_tur w.heap.size w5 p F (wakeAll us l3) none 0 0 [] 200 200 1 rfl (by omega) (by omega) (by omega) (by intro x hx; simp at hx) ⟨rfl, by simp⟩ HLim2.out hm5)
            rw [HE2.out] at HRun2
            have HT5 := hide (HTq.out.trans_new ht5 (fun k hk => .inr (HLow.out k hk).1))
            clear hm5 ht5 HW HMq HTq
            go_wp2_with fail
            refine HRun2.out.mono ?_
            rintro e w6 ⟨rfl, hm6, ht6⟩
            have HM6 := hide hm6
            have HT6 := hide (HT5.out.trans_new ht6 (fun k hk => .inr (HLow.out k hk).1))
            clear hm6 ht6 HRun2 HT5
            go_wp2_with fail
            go_loopw [17, 18, 19] (fun i _ _ wr => ∃ (m : Nat), m ≤ j ∧ i = .int .i64 ((m : Int) + 1) ∧ Hid (wr = w6)) (fun i _ _ _ => j + 1 - (intOf i).toNat)
            case atStart => exact ⟨0, Nat.zero_le _, rfl, by first | exact rfl | exact trivial⟩
            case round =>
              obtain ⟨m, hm, rfl, HWr⟩ := hrel
              have hWr : wr = w6 := HWr.out
              subst hWr
              have e4 : wrap64 ((m : Int) + 1 + 1) = (m : Int) + 1 + 1 := by unfold wrap64; omega
              have e5 : wrap64 ((m : Int) + 1 - 1) = (m : Int) := by unfold wrap64; omega
              by_cases hmj : m < j
              · obtain ⟨t, ht⟩ : ∃ t, vs[m]? = some t := ⟨_, List.getElem?_eq_getElem (by have := HVl.out; omega)⟩
                have HS := hide (steps_in w.heap.size _ p F vs m t ht HM6.out.trn)
                have HTn := hide (HQ7.out m t ht)
                obtain ⟨g, off, rfl, hbm⟩ := HB.out m (by omega)
                have hbw : wr.cell? ⟨g, off + m, none⟩ = some (.bool (bs m)) := by rw [HT6.out.cell (block_lt hbm) (by simp)]; exact hbm
                clear ht hbm
                go_wp2_with fail
                go_loopw [18, 19] (fun want k wi => ∃ (q : Nat) (v : Int), q ≤ len3 ∧ k = .int .i64 q ∧ want = .int .i64 v ∧ Hid (v = if bs m = true ∧ ((m : Int) + 1) ∈ l3.take q then 2 else 1) ∧ Hid (wi = wr)) (fun _ k _ => len3 - (intOf k).toNat)
                case atStart => exact ⟨0, 1, Nat.zero_le _, rfl, rfl, by show _ = _; simp, by first | exact rfl | exact trivial⟩
                case round =>
                  obtain ⟨q, v, hq, rfl, rfl, HV, HWi⟩ := hrel
                  have hWi := HWi.out
                  subst hWi
                  by_cases hql : q < len3
                  · obtain ⟨y, hy⟩ : ∃ y, l3[q]? = some y := ⟨_, List.getElem?_eq_getElem (by have := HL3.out; omega)⟩
                    obtain ⟨g3, off3, rfl, -, hc3⟩ := HR3.out.2 q y hy
                    have hcy := HT6.out.cell (p := ⟨g3, off3 + q, none⟩) (block_lt hc3) (by simp)
                    rw [hc3] at hcy
                    have e6 : wrap64 ((q : Int) + 1) = (q : Int) + 1 := by unfold wrap64; omega
                    have HWs := hide (want_snoc (b := bs m) ((m : Int) + 1) hy)
                    clear hy hc3
                    by_cases hye : y = (m : Int) + 1
                    · subst hye
                      rcases Bool.eq_false_or_eq_true (bs m) with hbm | hbm
                      · rw [hbm] at hbw
                        have HV2 : Hid ((2 : Int) = if bs m = true ∧ ((m : Int) + 1) ∈ l3.take (q + 1) then 2 else 1) := by show _ = _; rw [HWs.out, if_pos ⟨hbm, rfl⟩]
                        clear hbm
                        go_wp2_with fail
                        go_roundw
                        case rel => exact ⟨q + 1, 2, by omega, by go_num, rfl, HV2, by first | exact rfl | exact trivial⟩
                        case measure => simp [intOf]; omega
                      · rw [hbm] at hbw
                        have HV2 : Hid (v = if bs m = true ∧ ((m : Int) + 1) ∈ l3.take (q + 1) then 2 else 1) := by show _ = _; rw [HWs.out, if_neg (fun e => by rw [hbm] at e; exact absurd e.1 (by decide))]; exact HV.out
                        clear hbm
                        go_wp2_with fail
                        go_roundw
                        case rel => exact ⟨q + 1, v, by omega, by go_num, rfl, HV2, by first | exact rfl | exact trivial⟩
                        case measure => simp [intOf]; omega
                    · have HV2 : Hid (v = if bs m = true ∧ ((m : Int) + 1) ∈ l3.take (q + 1) then 2 else 1) := by show _ = _; rw [HWs.out, if_neg (fun e => hye e.2)]; exact HV.out
                      have hyb : (y == (m : Int) + 1) = false := by simp [hye]
                      go_wp2_with fail
                      go_roundw
                      case rel => exact ⟨q + 1, v, by omega, by go_num, rfl, HV2, by first | exact rfl | exact trivial⟩
                      case measure => simp [intOf]; omega
                  · have hv : t.n = v := by
                      have h1 := HV.out
                      have e1 : l3.take q = l3 := by have := HL3.out; exact List.take_of_length_le (by omega)
                      rw [e1] at h1
                      rw [HTn.out, h1]
                    rw [hv] at HS
                    clear hv
                    go_wp2_with fail
                    refine HS.out.mono ?_
                    rintro e wx ⟨rfl, rfl⟩
                    clear HS
                    go_wp2_with fail
                    go_roundw
                    case rel => exact ⟨m + 1, by omega, by go_num, by first | exact rfl | exact trivial⟩
                    case measure => simp [intOf]; omega
              · go_wp2_with fail
                go_ret
                exact ⟨rfl, HT6.out⟩
        · as_aux_lemma =>
          -- all picks
          have HW := hide (wake_tur w.heap.size _ p F us a3 len3 cap3 l3 hlen3 (rd_old HR3.out (fun k hk => (HLow.out k hk).1) HTq.out) HMq.out)
          go_wp2_with fail
          refine HW.out.mono ?_
          rintro e w5 ⟨rfl, hm5, ht5⟩
          have HRun2 := hide (run_tur w.heap.size w5 p F (wakeAll us l3) none 0 0 [] 200 200 1 rfl (by omega) (by omega) (by omega) (by intro x hx; simp at hx) ⟨rfl, by simp⟩ HLim2.out hm5)
          rw [HE2.out] at HRun2
          have HT5 := hide (HTq.out.trans_new ht5 (fun k hk => .inr (HLow.out k hk).1))
          clear hm5 ht5 HW HMq HTq
          go_wp2_with fail
          refine HRun2.out.mono ?_
          rintro e w6 ⟨rfl, hm6, ht6⟩
          have HM6 := hide hm6
          have HT6 := hide (HT5.out.trans_new ht6 (fun k hk => .inr (HLow.out k hk).1))
          clear hm6 ht6 HRun2 HT5
          go_wp2_with fail
          go_loopw [17, 18, 19] (fun i _ _ wr => ∃ (m : Nat), m ≤ j ∧ i = .int .i64 ((m : Int) + 1) ∧ Hid (wr = w6)) (fun i _ _ _ => j + 1 - (intOf i).toNat)
          case atStart => exact ⟨0, Nat.zero_le _, rfl, by first | exact rfl | exact trivial⟩
          case round =>
            obtain ⟨m, hm, rfl, HWr⟩ := hrel
            have hWr : wr = w6 := HWr.out
            subst hWr
            have e4 : wrap64 ((m : Int) + 1 + 1) = (m : Int) + 1 + 1 := by unfold wrap64; omega
            have e5 : wrap64 ((m : Int) + 1 - 1) = (m : Int) := by unfold wrap64; omega
            by_cases hmj : m < j
            · obtain ⟨t, ht⟩ : ∃ t, vs[m]? = some t := ⟨_, List.getElem?_eq_getElem (by have := HVl.out; omega)⟩
              have HS := hide (steps_in w.heap.size _ p F vs m t ht HM6.out.trn)
              have HTn := hide (HQ7.out m t ht)
              obtain ⟨g, off, rfl, hbm⟩ := HB.out m (by omega)
              have hbw : wr.cell? ⟨g, off + m, none⟩ = some (.bool (bs m)) := by rw [HT6.out.cell (block_lt hbm) (by simp)]; exact hbm
              clear ht hbm
              go_wp2_with fail
              go_loopw [18, 19] (fun want k wi => ∃ (q : Nat) (v : Int), q ≤ len3 ∧ k = .int .i64 q ∧ want = .int .i64 v ∧ Hid (v = if bs m = true ∧ ((m : Int) + 1) ∈ l3.take q then 2 else 1) ∧ Hid (wi = wr)) (fun _ k _ => len3 - (intOf k).toNat)
              case atStart => exact ⟨0, 1, Nat.zero_le _, rfl, rfl, by show _ = _; simp, by first | exact rfl | exact trivial⟩
              case round =>
                obtain ⟨q, v, hq, rfl, rfl, HV, HWi⟩ := hrel
                have hWi := HWi.out
                subst hWi
                by_cases hql : q < len3
                · obtain ⟨y, hy⟩ : ∃ y, l3[q]? = some y := ⟨_, List.getElem?_eq_getElem (by have := HL3.out; omega)⟩
                  obtain ⟨g3, off3, rfl, -, hc3⟩ := HR3.out.2 q y hy
                  have hcy := HT6.out.cell (p := ⟨g3, off3 + q, none⟩) (block_lt hc3) (by simp)
                  rw [hc3] at hcy
                  have e6 : wrap64 ((q : Int) + 1) = (q : Int) + 1 := by unfold wrap64; omega
                  have HWs := hide (want_snoc (b := bs m) ((m : Int) + 1) hy)
                  clear hy hc3
                  by_cases hye : y = (m : Int) + 1
                  · subst hye
                    rcases Bool.eq_false_or_eq_true (bs m) with hbm | hbm
                    · rw [hbm] at hbw
                      have HV2 : Hid ((2 : Int) = if bs m = true ∧ ((m : Int) + 1) ∈ l3.take (q + 1) then 2 else 1) := by show _ = _; rw [HWs.out, if_pos ⟨hbm, rfl⟩]
                      clear hbm
                      go_wp2_with fail
                      go_roundw
                      case rel => exact ⟨q + 1, 2, by omega, by go_num, rfl, HV2, by first | exact rfl | exact trivial⟩
                      case measure => simp [intOf]; omega
                    · rw [hbm] at hbw
                      have HV2 : Hid (v = if bs m = true ∧ ((m : Int) + 1) ∈ l3.take (q + 1) then 2 else 1) := by show _ = _; rw [HWs.out, if_neg (fun e => by rw [hbm] at e; exact absurd e.1 (by decide))]; exact HV.out
                      clear hbm
                      go_wp2_with fail
                      go_roundw
                      case rel => exact ⟨q + 1, v, by omega, by go_num, rfl, HV2, by first | exact rfl | exact trivial⟩
                      case measure => simp [intOf]; omega
                  · have HV2 : Hid (v = if bs m = true ∧ ((m : Int) + 1) ∈ l3.take (q + 1) then 2 else 1) := by show _ = _; rw [HWs.out, if_neg (fun e => hye e.2)]; exact HV.out
                    have hyb : (y == (m : Int) + 1) = false := by simp [hye]
                    go_wp2_with fail
                    go_roundw
                    case rel => exact ⟨q + 1, v, by omega, by go_num, rfl, HV2, by first | exact rfl | exact trivial⟩
                    case measure => simp [intOf]; omega
                · have hv : t.n = v := by
                    have h1 := HV.out
                    have e1 : l3.take q = l3 := by have := HL3.out; exact List.take_of_length_le (by omega)
                    rw [e1] at h1
                    rw [HTn.out, h1]
                  rw [hv] at HS
                  clear hv
                  go_wp2_with fail
                  refine HS.out.mono ?_
                  rintro e wx ⟨rfl, rfl⟩
                  clear HS
                  go_wp2_with fail
                  go_roundw
                  case rel => exact ⟨m + 1, by omega, by go_num, by first | exact rfl | exact trivial⟩
                  case measure => simp [intOf]; omega
            · go_wp2_with fail
              go_ret
              exact ⟨rfl, HT6.out⟩

set_option maxRecDepth 100000 in
theorem turnsWaits_lifted (os : Os) (started : os.Started) (H : Type) (enc : TypeId × Value → H) :
    ReturnsInHanded {} Try.checked os 5 .any (Rows.turnsWaitsSpec.pre6 enc Try.prog Try.f5 Rows.turnsWaitsRow.domain false) (Rows.turnsWaitsSpec.post enc Try.prog Try.f5 false true false false) := by
  refine returnsInHanded_of_change (C := Try.checked) own started (by kernel_rfl) Try.func5
    (ChangeSpec.witness6 (enc := enc) (C := Try.checked) false ⟨#[], #[.slice none 0 0, .slice none 0 0, .slice none 0 0], []⟩ 8 (by kernel_rfl) (by kernel_rfl) (by kernel_rfl) (by kernel_rfl)) ?_
  intro W base args ds gs before hval0 hW hcnd _
  have hval : ∀ (j : Nat) t v, Try.f5.params[j]? = some t → args[j]? = some v → Value.okWide Try.prog W .any base t v := hval0
  have hW' := hW
  obtain ⟨p, q, hA0, hV, rfl, hfz, hnd⟩ := hW
  have hA : DataW.TrodAll enc Try.prog W 0 (fun _ => true) true Try.f5.params.toList args.toList ds p := hA0
  rw [Try.params5] at hA hval
  obtain ⟨v0, vs0, d0, ds0, p0, q0, hargs, rfl, rfl, h0, r0⟩ := trodAll_cons hA
  obtain ⟨v1, vs1, d1, ds1, p1, q1, rfl, rfl, rfl, h1, r1⟩ := trodAll_cons r0
  obtain ⟨v2, vs2, d2, ds2, p2, q2, rfl, rfl, rfl, h2, r2⟩ := trodAll_cons r1
  obtain ⟨rfl, rfl, rfl⟩ := trodAll_nil r2
  obtain rfl : args = #[v0, v1, v2] := by cases args; simp_all
  obtain ⟨rfl, rfl⟩ := trodVars_none hV
  obtain ⟨a0, len0, cap0, rfl⟩ := okWide_slice Try.underlying54 (hval 0 54 v0 rfl rfl)
  have k0 := h0
  have lt0 : ∀ x ∈ p0, x.block < W.heap.size := by obtain ⟨m, hm⟩ := k0; exact DataW.trod_lt m _ _ _ hm
  obtain ⟨z0, w0, l0⟩ : ∃ bs, BRd W a0 len0 bs ∧ len0 ≤ 9223372036854775807 := by
    obtain ⟨fuel, hf⟩ := h0
    rcases Go.Deep.open_bools Try.underlying54 Try.underlying4 (by kernel_rfl) hf with ⟨hcs, _⟩ | ⟨x, l, c, bs, hcs, _, hl, hm, _, hcell⟩
    · simp [Value.cells] at hcs
      obtain ⟨rfl, rfl, rfl⟩ := hcs
      exact ⟨fun _ => false, fun i hi => by omega, by omega⟩
    · simp [Value.cells] at hcs
      obtain ⟨rfl, rfl, rfl⟩ := hcs
      refine ⟨bs, fun i hi => ?_, by unfold maxLen at hm; omega⟩
      have hsp : x.spot = none := by
        have := World.cell?_spot (hcell 0 (by omega))
        simpa [Addr.add] using this
      have h5 := hcell i (by omega)
      obtain ⟨b, off, spot⟩ := x
      simp at hsp
      subst hsp
      rw [show Addr.add ⟨b, off, none⟩ i = ⟨b, off + i, none⟩ by simp [Addr.add]] at h5
      exact ⟨b, off, rfl, h5⟩
  obtain ⟨a1, len1, cap1, rfl⟩ := okWide_slice Try.underlying28 (hval 1 28 v1 rfl rfl)
  have k1 := h1
  have lt1 : ∀ x ∈ p1, x.block < W.heap.size := by obtain ⟨m, hm⟩ := k1; exact DataW.trod_lt m _ _ _ hm
  obtain ⟨z1, w1⟩ : ∃ zs, IsRow .i64 W a1 len1 cap1 zs := by
    obtain ⟨fuel, hf⟩ := h1
    rcases open_ints Try.underlying28 Try.underlying3 (by kernel_rfl) hf with ⟨hcs, _⟩ | ⟨x, l, c, zs, hcs, _, hl, hm, hz, _, hcell, hwz⟩
    · simp [Value.cells] at hcs
      obtain ⟨rfl, rfl, rfl⟩ := hcs
      exact ⟨[], .inl ⟨rfl, rfl, rfl, rfl⟩⟩
    · simp [Value.cells] at hcs
      obtain ⟨rfl, rfl, rfl⟩ := hcs
      exact ⟨zs, .inr ⟨_, rfl, hl, hm, by simpa using hz, hcell, hwz⟩⟩
  obtain ⟨a2, len2, cap2, rfl⟩ := okWide_slice Try.underlying28 (hval 2 28 v2 rfl rfl)
  have k2 := h2
  have lt2 : ∀ x ∈ p2, x.block < W.heap.size := by obtain ⟨m, hm⟩ := k2; exact DataW.trod_lt m _ _ _ hm
  obtain ⟨z2, w2⟩ : ∃ zs, IsRow .i64 W a2 len2 cap2 zs := by
    obtain ⟨fuel, hf⟩ := h2
    rcases open_ints Try.underlying28 Try.underlying3 (by kernel_rfl) hf with ⟨hcs, _⟩ | ⟨x, l, c, zs, hcs, _, hl, hm, hz, _, hcell, hwz⟩
    · simp [Value.cells] at hcs
      obtain ⟨rfl, rfl, rfl⟩ := hcs
      exact ⟨[], .inl ⟨rfl, rfl, rfl, rfl⟩⟩
    · simp [Value.cells] at hcs
      obtain ⟨rfl, rfl, rfl⟩ := hcs
      exact ⟨zs, .inr ⟨_, rfl, hl, hm, by simpa using hz, hcell, hwz⟩⟩
  clear hA0 hval0
  refine (turnsWaits_walk a0 len0 cap0 z0 a1 len1 cap1 z1 a2 len2 cap2 z2 W w0 l0 w1 w2).mono fun e W' ⟨he, ht⟩ => ?_
  subst he
  have bel : Below W.heap.size W W' := ht.below0
  exact ⟨_, rfl, _, _, _, [], _, [], hW', trodAll_mk1 (shut_bool Try.underlying4 _), (trodAll_cons_mk (Below.trod laidOut (by kernel_rfl) (of_decide_eq_true (by kernel_rfl)) k0 bel lt0) (trodAll_cons_mk (Below.trod laidOut (by kernel_rfl) (of_decide_eq_true (by kernel_rfl)) k1 bel lt1) (trodAll_cons_mk (Below.trod laidOut (by kernel_rfl) (of_decide_eq_true (by kernel_rfl)) k2 bel lt2) trodAll_mk0))), rfl, bel.frame _, fun h => by cases h⟩

theorem turnsWaits_over : Rows.turnsWaitsRow.holds Try.pinned (OpenSpec.ofChange Rows.turnsWaitsSpec) :=
  OpenClaim.holds_of_wide 5 Try.f5 rfl rfl rfl rfl rfl rfl rfl ⟨rfl, rfl, rfl, rfl, rfl⟩ rfl rfl rfl rfl rfl (by kernel_rfl) Try.func5 (by kernel_rfl)
    (of_decide_eq_true (by kernel_rfl)) (by unfold Func.isWrapper; first | (rw [if_pos (by decide +kernel)]; kernel_rfl) | (rw [if_neg (by decide +kernel)]; exact ⟨rfl, rfl⟩))
    (fun os started H enc _ => turnsWaits_lifted os started H enc)

theorem turnsWaits_holds : Rows.TurnsWaitsSaid := turnsWaits_over
end Go.Proofs.Ytihoffaolonfhaa
