/-
  Texts of the proof, several in one: AdjParts, AdjNewW.
-/
import Derived.Test.YtpeglndlhjnaaaaGreatDoorPack32
import Derived.Test.YtpeglndlhjnaaaaGreatDoorPack21
import Derived.Test.YtpeglndlhjnaaaaGreatDoorPack1
import Derived.Lib.SliceRun
import Derived.Deep.QuietTactic
import Derived.Deep.LoopGhost
/-
  An adjuster's small parts: Done, Fault; what New asks: within, regions; newWorkers; copies of lists.
-/
namespace Go.Proofs.YtpeglndlhjnaaaaGreatDoor
open Go.RowKit Bt
set_option linter.unusedVariables false
set_option linter.unusedSimpArgs false

section
variable (w : World) (I : AdI) (P : PN) (S : Nat → Nat) (cs : List Cls) (s : AdS)
def doneA (s : AdS) : Bool := s.ws.all fun x => !x.on
theorem doneA_map (h : Ad w I P S cs s) : (∀ x, mapA I s.ws x = none) ↔ doneA s = true := by
  unfold doneA
  rw [List.all_eq_true]
  constructor
  · intro h1 x hx
    obtain ⟨k, hk⟩ := List.getElem?_of_mem hx
    have h2 := h1 (k : Int)
    rw [mapA_nat, hk] at h2
    dsimp only at h2
    cases ho : x.on
    · rfl
    · rw [ho, if_pos rfl] at h2
      have h3 : k < I.ws.length := by rw [← h.len]; exact (List.getElem?_eq_some_iff.1 hk).1
      rw [List.getElem?_eq_getElem h3] at h2
      cases h2
  · intro h1 x
    unfold mapA
    split
    · rfl
    · cases hx : s.ws[x.toNat]? with
      | none => rfl
      | some y =>
        have h2 := h1 y (List.mem_of_getElem? hx)
        dsimp only
        rw [if_neg (by simpa using h2)]
set_option maxRecDepth 100000 in
theorem adone_any (h : Ad w I P S cs s) :
    Calls Tryz.prog 15 #[.pointer (some ⟨I.ab, 0, none⟩)] w fun e w' => e = .returned (.bool (doneA s)) ∧ w' = w := by
  obtain ⟨m, hm6, hmp⟩ := h.mp
  have hi := doneA_map w I P S cs s h
  have c13 := h.cs_.2.2.2.2.1
  obtain ⟨q, hrun, hq, hq0⟩ := hmp.len 3
  have hd : doneA s = decide (q = 0) := by
    cases hh : doneA s
    · symm; rw [decide_eq_false_iff_not]; intro h0; rw [hi.1 (hq0.1 h0)] at hh; cases hh
    · symm; rw [decide_eq_true_eq]; exact hq0.2 (hi.2 hh)
  rw [hd]
  clear h hi hmp hm6 hq0 hd
  by_cases h0 : q = 0
  · subst h0
    go_enter Tryz.func15, Tryz.ntmps15
    go_wp2_with fail
    first | refine bodyPost_end (results_none rfl _ _ _) rfl ?_ | refine bodyPost_ret (results_none rfl _ _ _) rfl ?_ | go_ret
    exact ⟨rfl, rfl⟩
  · have h0i : ¬ (q : Int) = 0 := by omega
    rw [decide_eq_false h0]
    go_enter Tryz.func15, Tryz.ntmps15
    go_wp2_with fail
    first | refine bodyPost_end (results_none rfl _ _ _) rfl ?_ | refine bodyPost_ret (results_none rfl _ _ _) rfl ?_ | go_ret
    exact ⟨by simp [h0], rfl⟩
set_option maxRecDepth 100000 in
theorem afault_any (h : Ad w I P S cs s) :
    Calls Tryz.prog 18 #[.pointer (some ⟨I.ab, 0, none⟩)] w fun e w' => e = .returned (.int .i64 s.ft) ∧ w' = w := by
  obtain ⟨c0, -, -, -, -, c14⟩ := h.cs_
  clear h
  go_enter Tryz.func18, Tryz.ntmps18
  go_wp2_with fail
  first | refine bodyPost_end (results_none rfl _ _ _) rfl ?_ | refine bodyPost_ret (results_none rfl _ _ _) rfl ?_ | go_ret
  exact ⟨rfl, rfl⟩
end
set_option maxRecDepth 100000 in
theorem adone_nil (w : World) : Calls Tryz.prog 15 #[.pointer none] w fun e w' => e = .returned (.bool true) ∧ w' = w := by
  go_enter Tryz.func15, Tryz.ntmps15
  go_wp2_with fail
  go_ret
  exact ⟨rfl, rfl⟩
set_option maxRecDepth 100000 in
theorem afault_nil (w : World) : Calls Tryz.prog 18 #[.pointer none] w fun e w' => e = .returned (.int .i64 1) ∧ w' = w := by
  go_enter Tryz.func18, Tryz.ntmps18
  go_wp2_with fail
  go_ret
  exact ⟨rfl, rfl⟩
set_option maxRecDepth 100000 in
theorem astep_nil (w : World) (k : Int) : Calls Tryz.prog 14 #[.pointer none, .int .i64 k] w fun e w' => e = .returned (.int .i64 2) ∧ w' = w := by
  go_enter Tryz.func14, Tryz.ntmps14
  go_wp2_with fail
  go_ret
  exact ⟨rfl, rfl⟩

set_option maxHeartbeats 1000000 in
set_option maxRecDepth 100000 in
theorem awithin_any (w : World) (P : PN) (l a wt tk : Value) (cp cq : Nat) (hw : List Int) (ac : Int) (hm : Mem w cp cq hw ac) (hft : P.f ≤ P.t) (hk : 1 ≤ P.k) :
    Calls Tryz.prog 35 #[.agg (plC P l a wt tk), .pointer (some ⟨cp, 0, none⟩)] w fun e w' => e = .returned (.bool (decide (P.t ≤ hw.length))) ∧ Turned [] w w' := by
  have HL := hide (fun (w' : World) (t : Turned [] w w') => len_mem cp cq hw ac w' (hm.turned t (by simp) (by simp)))
  obtain ⟨bl, hbl⟩ : ∃ bl, bl = w.heap.size := ⟨_, rfl⟩
  obtain ⟨w0, hw0⟩ : ∃ w0, w0 = w.alloc (.cells (plC P l a wt tk) 42) := ⟨_, rfl⟩
  have hh0 : w0.heap[bl]? = some (.cells (plC P l a wt tk) 42) := by rw [hw0, hbl]; exact heap_alloc_new _ _
  have HT0 : Hid (Turned [] w w0) := hide (by rw [hw0]; exact (Turned.refl [] w).alloc _)
  have d0 : w0.drew.cell? ⟨bl, 0, none⟩ = some (.int .i64 P.f) := by show w0.cell? _ = _; rw [cell_of_heap hh0]; rfl
  have d1 : w0.drew.cell? ⟨bl, 1, none⟩ = some (.int .i64 P.t) := by show w0.cell? _ = _; rw [cell_of_heap hh0]; rfl
  have d2 : w0.drew.cell? ⟨bl, 2, none⟩ = some (.int .i64 P.k) := by show w0.cell? _ = _; rw [cell_of_heap hh0]; rfl
  have e0 : w0.cell? ⟨bl, 0, none⟩ = some (.int .i64 P.f) := d0
  have e1 : w0.cell? ⟨bl, 1, none⟩ = some (.int .i64 P.t) := d1
  have e2 : w0.cell? ⟨bl, 2, none⟩ = some (.int .i64 P.k) := d2
  have g0 : decide ((0 : Int) ≤ (P.f : Int)) = true := decide_eq_true (by omega)
  have g1 : decide ((P.f : Int) ≤ (P.t : Int)) = true := decide_eq_true (by omega)
  have g2 : decide ((1 : Int) ≤ (P.k : Int)) = true := decide_eq_true (by omega)
  have g0' : (0 : Int) ≤ (P.f : Int) := by omega
  have g1' : (P.f : Int) ≤ (P.t : Int) := by omega
  have g2' : (1 : Int) ≤ (P.k : Int) := by omega
  generalize hw.length = n at *
  by_cases hn : P.t ≤ n
  · have g3 : decide ((P.t : Int) ≤ (n : Int)) = true := decide_eq_true (by omega)
    have g3' : (P.t : Int) ≤ (n : Int) := by omega
    rw [decide_eq_true hn]
    clear hm hft hk hh0 hn
    unfold plC at *
    go_enter Tryz.func35, Tryz.ntmps35
    go_upto_region 1 with fail
    rw [← hw0, ← hbl]
    clear hw0 hbl
    go_quiet ((go_at_call 34; exact Calls.quiet_of_same (HL.out _ (HT0.out.drewN _))))
    go_wp2_with fail
    go_ret
    exact ⟨rfl, HT0.out.drewN _⟩
  · have g3 : decide ((P.t : Int) ≤ (n : Int)) = false := decide_eq_false (by omega)
    have g3' : ¬ (P.t : Int) ≤ (n : Int) := by omega
    rw [decide_eq_false hn]
    clear hm hft hk hh0 hn
    unfold plC at *
    go_enter Tryz.func35, Tryz.ntmps35
    go_upto_region 1 with fail
    rw [← hw0, ← hbl]
    clear hw0 hbl
    go_quiet ((go_at_call 34; exact Calls.quiet_of_same (HL.out _ (HT0.out.drewN _))))
    go_wp2_with fail
    go_ret
    exact ⟨rfl, HT0.out.drewN _⟩

set_option maxHeartbeats 1000000 in
set_option maxRecDepth 100000 in
theorem aregions_any (w : World) (P : PN) (h : P.Ok) (l a wt tk : Value) (hft : P.f ≤ P.t) (ht6 : P.t ≤ 65536) :
    Calls Tryz.prog 37 #[.agg (plC P l a wt tk)] w fun e w' => e = .returned (.int .i64 (P.R : Int)) ∧ Turned [] w w' := by
  obtain ⟨x, hx⟩ : ∃ x : Int, x = (P.t : Int) - 1 := ⟨_, rfl⟩
  have HR := hide (fun w' => region_any P h l a wt tk x w')
  have hw1 : wrap64 ((P.t : Int) - 1) = x := by unfold wrap64; omega
  obtain ⟨y, hy⟩ : ∃ y, y = rgI P x := ⟨_, rfl⟩
  have hyR : wrap64 (y + 1) = (P.R : Int) := by
    have hF := PN.R_few h
    by_cases hlt : P.f < P.t
    · obtain ⟨q1, q2, q3⟩ := PN.reg_in h (x := P.t - 1) (by omega) (by omega)
      have e1 : y = ((P.reg (P.t - 1) : Nat) : Int) := by rw [hy]; unfold rgI; rw [if_pos (by omega), show x.toNat = P.t - 1 by omega]
      have e2 : P.reg (P.t - 1) + 1 = P.R := by
        unfold PN.reg PN.R
        rw [if_pos hlt, show P.t - 1 - P.f = P.t - P.f - 1 by omega]
      rw [e1]
      unfold wrap64
      omega
    · have e1 : y = -1 := by rw [hy]; unfold rgI; rw [if_neg (by omega)]
      have e2 : P.R = 0 := by unfold PN.R; rw [if_neg hlt]
      rw [e1, e2]
      unfold wrap64; rfl
  rw [← hy] at HR
  have HY := hide hyR
  obtain ⟨bl, hbl⟩ : ∃ bl, bl = w.heap.size := ⟨_, rfl⟩
  obtain ⟨w0, hw0⟩ : ∃ w0, w0 = w.alloc (.cells (plC P l a wt tk) 42) := ⟨_, rfl⟩
  have hh0 : w0.heap[bl]? = some (.cells (plC P l a wt tk) 42) := by rw [hw0, hbl]; exact heap_alloc_new _ _
  have HT0 : Hid (Turned [] w w0) := hide (by rw [hw0]; exact (Turned.refl [] w).alloc _)
  have d0 : w0.cell? ⟨bl, 0, none⟩ = some (.int .i64 P.f) := by rw [cell_of_heap hh0]; rfl
  have d1 : w0.cell? ⟨bl, 1, none⟩ = some (.int .i64 P.t) := by rw [cell_of_heap hh0]; rfl
  have d2 : w0.cell? ⟨bl, 2, none⟩ = some (.int .i64 P.k) := by rw [cell_of_heap hh0]; rfl
  have d3 : w0.cell? ⟨bl, 3, none⟩ = some (.int .i64 P.d) := by rw [cell_of_heap hh0]; rfl
  have d4 : w0.cell? ⟨bl, 4, none⟩ = some (.int .i64 P.e) := by rw [cell_of_heap hh0]; rfl
  have d5 : w0.cell? ⟨bl, 5, none⟩ = some l := by rw [cell_of_heap hh0]; rfl
  have d6 : w0.cell? ⟨bl, 6, none⟩ = some a := by rw [cell_of_heap hh0]; rfl
  have d7 : w0.cell? ⟨bl, 7, none⟩ = some wt := by rw [cell_of_heap hh0]; rfl
  have d8 : w0.cell? ⟨bl, 8, none⟩ = some tk := by rw [cell_of_heap hh0]; rfl
  clear hh0 hft ht6 hx hy h
  unfold plC at *
  go_enter Tryz.func37, Tryz.ntmps37
  go_upto_region 1 with fail
  rw [← hw0, ← hbl]
  clear hw0 hbl hyR
  go_wp2_with fail
  refine (HR.out _).mono ?_
  rintro e w2 ⟨rfl, t2⟩
  have HT2 := hide (HT0.out.trans t2)
  have hyR := HY.out
  clear t2 HR d0 d1 d2 d3 d4 d5 d6 d7 d8
  go_wp2_with fail
  go_ret
  exact ⟨by rw [← hyR]; rfl, HT2.out⟩
end Go.Proofs.YtpeglndlhjnaaaaGreatDoor

/-
  An adjuster's workers are made; copies of lists.
-/
namespace Go.Proofs.YtpeglndlhjnaaaaGreatDoor
open Go.RowKit Bt
set_option linter.unusedVariables false
set_option linter.unusedSimpArgs false

def wksA (q n : Nat) : List Nat := (List.range n).map (fun k => q + 1 + k)
theorem wksA_len (q n : Nat) : (wksA q n).length = n := by simp [wksA]
theorem wksA_get {q n k : Nat} (h : k < n) : (wksA q n)[k]? = some (q + 1 + k) := by simp [wksA, h]
def w0A : AdW := ⟨true, 0, 0, 0, [], 0, 0⟩
def newF (q j : Nat) (x : Int) : Option Nat := if 0 ≤ x ∧ x < (j : Int) then some (q + 1 + x.toNat) else none

theorem run_makeMapA (n : Int) (w : World) : (Instr.makeMap 96 (some (.int .i64 n))).run Tryz.prog w = .ok (.map (some w.heap.size)) (w.alloc (.map #[] 0)) := by
  simp [Instr.makeMap, run_underlying Tryz.underlying96, asInt, asIntOf, Result.andThen]
set_option maxHeartbeats 1000000 in
set_option maxRecDepth 100000 in
theorem anewWorkers (w : World) (ab n : Nat) (hn : n ≤ 64) (hab : ab < w.heap.size) :
    Calls Tryz.prog 40 #[.pointer (some ⟨ab, 0, none⟩), .int .i64 (n : Int)] w fun e w' => e = .returned (.map (some w.heap.size)) ∧ WM w' w.heap.size n (newF w.heap.size n) ∧ (∀ k, k < n → w'.heap[w.heap.size + 1 + k]? = some (.cells (wkA (w.heap.size + 1 + k) ab w0A (.slice none 0 0)) 103)) ∧ Turned [] w w' := by
  obtain ⟨q, hq⟩ : ∃ q, q = w.heap.size := ⟨_, rfl⟩
  obtain ⟨w1, hw1⟩ : ∃ w1, w1 = w.alloc (.map #[] 0) := ⟨_, rfl⟩
  have HM1 : Hid (WM w1 q 0 (newF q 0)) := hide (by
    rw [hw1, hq]
    exact (wm_made w).congr (fun x => by unfold newF; rw [if_neg (by omega)]))
  have HT1 : Hid (Turned [] w w1) := hide (by rw [hw1]; exact (Turned.refl [] w).alloc _)
  have HZ1 : Hid (w1.heap.size = q + 1 + 0) := hide (by rw [hw1, hq]; simp)
  have HQ := hide (show w.heap.size ≤ q by omega)
  rw [← hq]
  have hq2 := hq
  have hmm := run_makeMapA (n : Int)
  go_enter Tryz.func40, Tryz.ntmps40
  go_wp2_with fail
  rw [← hw1, ← hq]
  clear hw1 hq hq2
  go_loopg [6, 7, 11] n (fun gg s6 s7 s11 wr => ∃ (j : Nat), gg = n - j ∧ j ≤ n ∧ s11 = .int .i64 (j : Int) ∧ Hid (WM wr q j (newF q j)) ∧ Hid (∀ k, k < j → wr.heap[q + 1 + k]? = some (.cells (wkA (q + 1 + k) ab w0A (.slice none 0 0)) 103)) ∧ Hid (Turned [] w wr) ∧ Hid (wr.heap.size = q + 1 + j))
  case atStart => exact ⟨0, rfl, Nat.zero_le _, rfl, HM1, hide (fun k hk => absurd hk (Nat.not_lt_zero k)), HT1, HZ1⟩
  case round =>
    clear HM1 HT1 HZ1
    obtain ⟨j, rfl, hj, rfl, HM, HE, HT, HZ⟩ := hrel
    obtain ⟨w2, hw2⟩ : ∃ w2, w2 = wr := ⟨_, rfl⟩
    subst hw2
    by_cases hlt : j < n
    · have hji : (j : Int) < (n : Int) := by omega
      obtain ⟨b, hb⟩ : ∃ b, b = w2.heap.size := ⟨_, rfl⟩
      have hbq : b = q + 1 + j := by rw [hb]; exact HZ.out
      obtain ⟨w3, hw3⟩ : ∃ w3, w3 = w2.alloc (.cells #[.nilFunc, .pointer (some ⟨ab, 0, none⟩), .int .i64 0, .int .i64 0, .slice none 0 0, .int .i64 0, .int .i64 0] 103) := ⟨_, rfl⟩
      have hw3b : w3.heap[b]? = some (.cells #[.nilFunc, .pointer (some ⟨ab, 0, none⟩), .int .i64 0, .int .i64 0, .slice none 0 0, .int .i64 0, .int .i64 0] 103) := by rw [hw3, hb]; exact heap_alloc_new _ _
      have b0 : w3.cell? ⟨b, 0, none⟩ = some .nilFunc := by rw [cell_of_heap hw3b]; rfl
      have bf : w3.frozen? ⟨b, 0, none⟩ = false := by simp [World.frozen?, hw3b]
      have bl := lt_of_heap hw3b
      have t3 : Turned [] w2 w3 := by rw [hw3]; exact (Turned.refl [] w2).alloc _
      obtain ⟨w4, hw4⟩ : ∃ w4, w4 = w3.setCell ⟨b, 0, none⟩ (.func (.func 87) #[.pointer (some ⟨b, 0, none⟩)] #[]) := ⟨_, rfl⟩
      have hqb : q ≠ b := by omega
      have hM4 : WM w4 q j (newF q j) := by
        refine HM.out.block ?_
        rw [hw4, Below.heap_setCell _ _ _ _ hqb]
        exact t3.block q HM.out.lt (by simp)
      obtain ⟨w5, hup, hM5, t5, hsz5⟩ := hM4.update (x := (j : Int)) (by unfold maxLen; omega) ⟨by omega, by omega⟩ b
      have h4b : w4.heap[b]? = some (.cells (wkA b ab w0A (.slice none 0 0)) 103) := by
        rw [hw4, heap_setCell_at _ _ 0 _ _ _ hw3b]; rfl
      have HM5 : Hid (WM w5 q (j + 1) (newF q (j + 1))) := hide (hM5.congr (fun x => by
        unfold newF
        by_cases e : x = (j : Int)
        · rw [if_pos e, if_pos (by omega), e, Int.toNat_natCast, hbq]
        · rw [if_neg e]
          by_cases e2 : 0 ≤ x ∧ x < (j : Int)
          · rw [if_pos e2, if_pos (by omega)]
          · rw [if_neg e2, if_neg (by omega)]))
      have hx4 : ∀ x, x < w2.heap.size → w4.heap[x]? = w2.heap[x]? := fun x hx => by
        rw [hw4, Below.heap_setCell _ _ _ _ (by show x ≠ b; omega)]
        exact t3.block x hx (by simp)
      have HE5 : Hid (∀ k, k < j + 1 → w5.heap[q + 1 + k]? = some (.cells (wkA (q + 1 + k) ab w0A (.slice none 0 0)) 103)) := hide (fun k hk => by
        have hne : q + 1 + k ∉ [q] := by simp; omega
        by_cases e : k = j
        · subst e
          rw [← hbq, t5.block b (lt_of_heap h4b) (by simp; omega)]; exact h4b
        · have h0 := HE.out k (by omega)
          have h1 : w4.heap[q + 1 + k]? = some (.cells (wkA (q + 1 + k) ab w0A (.slice none 0 0)) 103) := by rw [hx4 _ (lt_of_heap h0)]; exact h0
          rw [t5.block _ (lt_of_heap h1) hne]; exact h1)
      have t24 : Turned [] w2 w4 := by rw [hw4]; exact t3.setCell (p := ⟨b, 0, none⟩) (.inr (by show w2.heap.size ≤ b; omega)) _
      have HT5 : Hid (Turned [] w w5) := hide ((HT.out.trans t24).trans_new t5 (fun i hi => by simp at hi; subst hi; exact .inr HQ.out))
      have HZ5 : Hid (w5.heap.size = q + 1 + (j + 1)) := hide (by
        have e4 : w4.heap.size = w2.heap.size + 1 := by rw [hw4, hw3]; simp
        have e5 := hsz5
        have := HZ.out
        omega)
      clear hM4 hM5 t5 hsz5 h4b hx4 t24 t3 hw3b HM HE HT HZ hqb
      go_upto_region 6 with fail
      rw [← hw3, ← hb]
      clear hw3 hb hbq
      go_upto_region 7 with fail
      rw [← hw4]
      clear hw4 b0 bf bl
      go_wp2_with fail
      go_roundg (n - (j + 1))
      case measure => omega
      case rel => exact ⟨j + 1, rfl, hlt, by go_num, HM5, HE5, HT5, HZ5⟩
    · have hji : ¬ (j : Int) < (n : Int) := by omega
      have hjn : j = n := by omega
      subst hjn
      go_wp2_with fail
      go_ret
      exact ⟨rfl, HM.out, HE.out, HT.out⟩
end Go.Proofs.YtpeglndlhjnaaaaGreatDoor
