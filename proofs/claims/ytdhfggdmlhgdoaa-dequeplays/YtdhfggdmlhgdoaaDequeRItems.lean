/-
  Items of the document's deque: just what the program's Items tells ('itemsOf').
-/
import Derived.Test.YtdhfggdmlhgdoaaDequeNews
import Derived.Deep.AppendLies
namespace Go.Proofs.Ytdhfggdmlhgdoaa
open Go.RowKit
set_option linter.unusedVariables false

/-- The slots' words from number T on, k of them. -/
def slotsTo (C : Cfg) (l : List Int) (T : Int) (k : Nat) : List Int := (List.range k).map (fun j : Nat => rd C l (slotOf C (T + (j : Int))))
def stackTo (C : Cfg) (l : List Int) (k : Nat) : List Int := (List.range k).map (fun j : Nat => rd C l (4 + C.cap + j))
theorem slotsTo_succ (C : Cfg) (l : List Int) (T : Int) (k : Nat) : slotsTo C l T (k + 1) = slotsTo C l T k ++ [rd C l (slotOf C (T + (k : Int)))] := by simp [slotsTo, List.range_succ]
theorem stackTo_succ (C : Cfg) (l : List Int) (k : Nat) : stackTo C l (k + 1) = stackTo C l k ++ [rd C l (4 + C.cap + k)] := by simp [stackTo, List.range_succ]

theorem slot_next (C : Cfg) (hc : 1 ≤ C.cap) (T : Int) (j : Nat) (hj : j < C.cap) : slotOf C (T + (j : Int)) = if slotOf C T + j < 4 + C.cap then slotOf C T + j else slotOf C T + j - C.cap := by
  unfold slotOf
  have h1 := Int.emod_nonneg T (b := (C.cap : Int)) (by omega)
  have h2 := Int.emod_lt_of_pos T (b := (C.cap : Int)) (by omega)
  have e : (T + (j : Int)) % (C.cap : Int) = if T % (C.cap : Int) + j < C.cap then T % (C.cap : Int) + j else T % (C.cap : Int) + j - C.cap := by
    rw [Int.add_emod, Int.emod_eq_of_lt (a := (j : Int)) (by omega) (by omega)]
    split
    · rw [Int.emod_eq_of_lt (by omega) (by omega)]
    · have e2 : T % (C.cap : Int) + j = (T % (C.cap : Int) + j - C.cap) + C.cap := by omega
      rw [e2]
      first | rw [Int.add_emod_right] | rw [Int.add_emod_self]
      rw [Int.emod_eq_of_lt (by omega) (by omega)]
      omega
  rw [e]
  split <;> split <;> omega

/-- The same, as the program has it. -/
theorem items_eq (C : Cfg) (l : List Int) (hc : 1 ≤ C.cap) (hr : C.base + (4 + C.cap + C.over) ≤ l.length) :
    itemsOf C l = slotsTo C l (rd C l 0) (heldOf C (rd C l 0) (rd C l 1)).toNat ++ stackTo C l (stackedOf C (rd C l 3)) := by
  have hh := heldOf_nat C (rd C l 0) (rd C l 1)
  have hs := stackedOf_le C (rd C l 3)
  have hf := slotOf_lt C (rd C l 0) hc
  unfold itemsOf
  simp only
  generalize (heldOf C (rd C l 0) (rd C l 1)).toNat = held at *
  generalize stackedOf C (rd C l 3) = stk at *
  obtain ⟨ah, hah⟩ : ∃ a, a = min held (4 + C.cap - slotOf C (rd C l 0)) := ⟨_, rfl⟩
  rw [← hah]
  have l1 := seg_length C l (slotOf C (rd C l 0)) ah (by omega)
  have l2 := seg_length C l 4 (held - ah) (by omega)
  have l3 := seg_length C l (4 + C.cap) stk (by omega)
  rw [← List.append_assoc]
  congr 1
  · apply List.ext_getElem?
    intro i
    by_cases hi : i < held
    · have e : (slotsTo C l (rd C l 0) held)[i]? = some (rd C l (slotOf C (rd C l 0 + (i : Int)))) := by
        unfold slotsTo
        rw [List.getElem?_map, List.getElem?_range hi]
        rfl
      rw [e, slot_next C hc _ i (by omega)]
      by_cases hia : i < ah
      · rw [List.getElem?_append_left (by omega), seg_get C l _ ah i (by omega) hia, if_pos (by omega)]
      · rw [List.getElem?_append_right (by omega), l1, seg_get C l 4 (held - ah) (i - ah) (by omega) (by omega), if_neg (by omega)]
        congr 2
        omega
    · have e : (slotsTo C l (rd C l 0) held)[i]? = none := by
        unfold slotsTo
        rw [List.getElem?_eq_none (by simp; omega)]
      rw [e, List.getElem?_eq_none (by rw [List.length_append]; omega)]
  · apply List.ext_getElem?
    intro i
    by_cases hi : i < stk
    · have e : (stackTo C l stk)[i]? = some (rd C l (4 + C.cap + i)) := by
        unfold stackTo
        rw [List.getElem?_map, List.getElem?_range hi]
        rfl
      rw [e, seg_get C l (4 + C.cap) stk i (by omega) hi]
    · have e : (stackTo C l stk)[i]? = none := by
        unfold stackTo
        rw [List.getElem?_eq_none (by simp; omega)]
      rw [e, List.getElem?_eq_none (by omega)]

theorem ownsRow_drew {w : World} {B : Nat} {e : TypeId} {size : Nat} {v : Value} {n : Nat} {xs : List Value} (h : w.ownsRow B e size v n xs) : w.drew.ownsRow B e size v n xs := ownsRow_keep h (fun _ _ => rfl)

set_option maxHeartbeats 4000000 in
set_option maxRecDepth 100000 in
theorem ritems_any (w : World) (d p q : Nat) (C : Cfg) (l : List Int) (s : Int) (ht : -2305843009213693952 ≤ rd C l 0 ∧ rd C l 0 ≤ 2305843009213693952) (hb : -2305843009213693952 ≤ rd C l 1 ∧ rd C l 1 ≤ 2305843009213693952) (hs3 : 0 ≤ rd C l 3 ∧ rd C l 3 ≤ C.over) (h : RDq w d p q C l s) :
    Calls Try.prog 29 #[.pointer (some ⟨d, 0, none⟩)] w fun e w' => ∃ v, e = .returned v ∧ (∃ n, w'.ownsRow w.heap.size 2 1 v n ((itemsOf C l).map (Value.int .i64))) ∧ Turned [] w w' := by
  have hcap := h.cap
  have hov := h.over
  have hroom := h.room
  have hmost := h.most
  have hitems := items_eq C l hcap.1 hroom
  have hhn := heldOf_nat C (rd C l 0) (rd C l 1)
  have hhd : ∀ k : Nat, k < (heldOf C (rd C l 0) (rd C l 1)).toNat ↔ (rd C l 0 + (k : Int) < rd C l 1 ∧ k < C.cap) := by
    intro k
    unfold heldOf
    split <;> omega
  have hst : ((stackedOf C (rd C l 3) : Nat) : Int) = rd C l 3 := by unfold stackedOf; omega
  rw [hitems]
  have hR0 := h.at (k := 0) (by omega)
  have hR1 := h.at (k := 1) (by omega)
  have hR3 := h.at (k := 3) (by omega)
  have HH := hide h
  have HHD := hide hhd
  have hheld := hhn.2
  generalize hhe : (heldOf C (rd C l 0) (rd C l 1)).toNat = held at *
  generalize hse : stackedOf C (rd C l 3) = stk at *
  generalize hT : rd C l 0 = T at *
  generalize hB : rd C l 1 = B at *
  generalize hN3 : rd C l 3 = N3 at *
  subst hst
  have e0 := h.c0
  have e1 := h.c1
  have e2 := h.c2
  have e3 := h.c3
  have m0 := h.mem.c0
  have w0c := h.mem.word hR0
  have w1c := h.mem.word hR1
  have w3c := h.mem.word hR3
  rw [Nat.add_zero] at w0c
  obtain ⟨i0, hi, hi0⟩ := Option.map_eq_some_iff.1 Try.info2
  simp only [Prod.mk.injEq] at hi0
  obtain ⟨hz0, hz1, hz2⟩ := hi0
  generalize hln : l.length = ln at *
  have hltq := h.mem.ltq
  have hltp := h.mem.ltp
  have hltd := h.ltd
  have HEQ := hide (And.intro hT (And.intro hB hN3))
  have HLN := hide hln
  clear h hitems hhd hhn hR0 hR1 hR3 hT hB hN3 hhe hse hln
  go_enter Try.func29, Try.ntmps29
  go_wp2_with fail
  have ta : Turned [] w (w.alloc (.cells (roCells d ⟨0, 0, 0, 0, 0, 0, false, false, 0⟩) 44)) := (Turned.refl _ _).alloc _
  have HRB := hide (show RB (w.alloc (.cells (roCells d ⟨0, 0, 0, 0, 0, 0, false, false, 0⟩) 44)) w.heap.size d ⟨0, 0, 0, 0, 0, 0, false, false, 0⟩ from heap_alloc_new _ _)
  have HHA := hide (HH.out.turned ta (by simp) (by simp) (by simp))
  have e1A : (w.alloc (.cells (roCells d ⟨0, 0, 0, 0, 0, 0, false, false, 0⟩) 44)).cell? ⟨d, 1, none⟩ = some (.int .i64 C.base) := HHA.out.c1
  have e2A : (w.alloc (.cells (roCells d ⟨0, 0, 0, 0, 0, 0, false, false, 0⟩) 44)).cell? ⟨d, 2, none⟩ = some (.int .i64 C.cap) := HHA.out.c2
  have e3A : (w.alloc (.cells (roCells d ⟨0, 0, 0, 0, 0, 0, false, false, 0⟩) 44)).cell? ⟨d, 3, none⟩ = some (.int .i64 C.over) := HHA.out.c3
  have TA := hide ta
  have hsz : (w.alloc (.cells (roCells d ⟨0, 0, 0, 0, 0, 0, false, false, 0⟩) 44)).heap.size = w.heap.size + 1 := by simp
  clear e0 e1 e2 e3 m0 w0c w1c w3c
  show Code.wp _ _ _ _ (w.alloc (.cells (roCells d ⟨0, 0, 0, 0, 0, 0, false, false, 0⟩) 44))
  obtain ⟨wA, hwA⟩ : ∃ wA, wA = w.alloc (.cells (roCells d ⟨0, 0, 0, 0, 0, 0, false, false, 0⟩) 44) := ⟨_, rfl⟩
  rw [← hwA] at HRB HHA e1A e2A e3A TA hsz
  rw [← hwA]
  obtain ⟨f, hf⟩ : ∃ f, f = w.heap.size := ⟨_, rfl⟩
  rw [← hf] at HRB
  rw [← hf]
  have HF := hide hf
  have HSZ := hide hsz
  clear hwA hf hsz ta HH
  have hfw : f < wA.heap.size := HRB.out.lt
  go_loopg [3, 6] 65 (fun gg s3 s6 wr => ∃ (k cp : Nat) (ao : Option Addr), s3 = .slice ao k cp ∧ s6 = .int .i64 (T + (k : Int)) ∧ k ≤ held ∧ held - k ≤ gg ∧ Aside (wr.ownsRow (f + 1) 2 1 (.slice ao k cp) k ((slotsTo C l T k).map (Value.int .i64))) ∧ Aside (Turned [] wA wr))
  case atStart => exact ⟨0, 0, none, rfl, by simp, by omega, by omega, World.ownsRow_nil _ _ _ _, Turned.refl _ _⟩
  case round =>
    obtain ⟨k, cp, ao, rfl, rfl, hk, hgg, hown, htu⟩ := hrel
    have RDr := hide (HHA.out.turned htu.out (by simp) (by simp) (by simp))
    have RBr := hide (HRB.out.turned htu.out (by simp))
    have a1 := RDr.out.c1
    have a2 := RDr.out.c2
    have am := RDr.out.mem.c0
    have ac := RDr.out.c0
    have aw1 := RDr.out.mem.word (RDr.out.at (k := 1) (by omega))
    rw [HEQ.out.2.1] at aw1
    rw [HLN.out] at am
    have hfr : f + 1 ≤ wr.heap.size := by have := htu.out.size; omega
    by_cases hlt : k < held
    · obtain ⟨c1, c2⟩ := (HHD.out k).1 hlt
      have c2' : (k : Int) < (C.cap : Int) := by omega
      have hsl := slotOf_lt C (T + (k : Int)) hcap.1
      have HSl := hide (rslot_any wr.drew d p q f C l s _ (T + (k : Int)) RDr.out.drew (RBr.out.turned (Turned.refl [] wr).drew (by simp)))
      have awx := RDr.out.mem.word (RDr.out.at (k := slotOf C (T + (k : Int))) (by omega))
      have HSu := hide (slotsTo_succ C l T k)
      generalize rd C l (slotOf C (T + (k : Int))) = x at *
      generalize slotOf C (T + (k : Int)) = ks at *
      have hwr : IntKind.i64.wrap ((C.base : Int) + (ks : Int)) = (C.base : Int) + (ks : Int) := by rw [IntKind.wrap_i64]; omega
      have hi0' : (0 : Int) ≤ (C.base : Int) + (ks : Int) := by omega
      have hi1' : (C.base : Int) + (ks : Int) < (ln : Int) := by omega
      have hi2' : ((C.base : Int) + (ks : Int)).toNat = C.base + ks := by omega
      have HKp : Hid (∀ (w' : World) (o : Obj), (wr.drew.alloc o).grownBy w' (Value.slice ao k cp).ownBlock → w'.cell? ⟨d, 1, none⟩ = some (.int .i64 C.base) ∧ w'.cell? ⟨q, C.base + ks, none⟩ = some (.int .i64 x)) := by
        intro w' o hg
        have key : ∀ (b j : Nat) (u : Value), b < w.heap.size → wr.cell? ⟨b, j, none⟩ = some u → w'.cell? ⟨b, j, none⟩ = some u := fun b j u hb hu => by
          have hbr : b < wr.heap.size := by have := HF.out; omega
          have h1 : w'.heap[b]? = wr.heap[b]? := by
            rw [hg.block b (by simp; omega) (fun e => by have := (ownsRow_lt hown.out b e.symm).1; have := HF.out; omega)]
            exact Below.heap_alloc wr.drew o b hbr
          rw [World.cell?_of_block (w := wr) h1]
          exact hu
        exact ⟨key d 1 _ hltd a1, key q _ _ hltq awx⟩
      go_wp2_with fail
      go_region_held3 (fun w' => w'.cell? ⟨d, 1, none⟩ = some (.int .i64 C.base) ∧ w'.cell? ⟨q, C.base + ks, none⟩ = some (.int .i64 x)) (first | go_keep | exact HKp.out _ _ hgrow2)
        (first
          | (go_at_call 54; refine HSl.out.mono ?_; rintro e wv ⟨rfl, rfl⟩; have b1 : wr.drew.cell? ⟨d, 1, none⟩ = some (.int .i64 C.base) := a1; have b2 : wr.drew.cell? ⟨q, C.base + ks, none⟩ = some (.int .i64 x) := awx)
          | (refine step_append_lies _ (by rfl) _ _ 51 (by rfl) (f + 1) 2 i0 _ 1 8 Try.underlying51 hi hz0 hz1 hz2 rfl (by omega) _ _ _ (by rfl) ((ownsRow_drew hown.out).alloc _) ⟨wr.heap.size, 0, none⟩ 1 1 [.int .i64 x] (by rfl) rfl (cell_one_new _ _ _) (ints_oneCell .i64 [x]) (by omega) (by unfold maxLen; omega) (by omega) (by simp; omega) (wr.heap.size + 1) (by simp) ?_; intro g2 cap2 w2 hown2 hgrow2 hat2 hlt2))
      have HT4 : Hid (Turned [] wA w2) := (htu.out.drew.alloc _).grown hgrow2 (fun i hi => by have := (ownsRow_lt hown.out i hi).1; have := HSZ.out; have := HF.out; right; omega)
      have HO4 := hide hown2
      clear hown2 hgrow2 hat2 hlt2 HKp
      go_wp2_with fail
      go_roundg (held - (k + 1))
      case measure => omega
      case rel =>
        refine ⟨k + 1, cap2, _, rfl, by go_num, by omega, Nat.le_refl _, ?_, HT4.out⟩
        rw [HSu.out, List.map_append]
        exact HO4.out
    · have ek : k = held := by omega
      subst ek
      have HOw := hide hown.out
      have HTu := hide htu.out
      have hnot : ¬ (T + (k : Int) < B ∧ k < C.cap) := fun hc => by have := (HHD.out k).2 hc; omega
      by_cases c1 : T + (k : Int) < B
      · have c2 : ¬ (k : Int) < (C.cap : Int) := by omega
        clear hnot
        go_wp2_with fail
        go_loopg [3, 7] 4097 (fun gg s3 s7 wr => ∃ (j cp : Nat) (ao : Option Addr), s3 = .slice ao (k + j) cp ∧ s7 = .int .i64 (j : Int) ∧ j ≤ stk ∧ stk - j ≤ gg ∧ Aside (wr.ownsRow (f + 1) 2 1 (.slice ao (k + j) cp) (k + j) ((slotsTo C l T k ++ stackTo C l j).map (Value.int .i64))) ∧ Aside (Turned [] wA wr))
        case atStart => exact ⟨0, cp, ao, rfl, rfl, by omega, by omega, by rw [show stackTo C l 0 = [] from rfl, List.append_nil]; exact HOw.out, HTu.out⟩
        case round =>
          obtain ⟨j, cp2, ao2, rfl, rfl, hj, hgg2, hown2, htu2⟩ := hrel
          have RDr := hide (HHA.out.turned htu2.out (by simp) (by simp) (by simp))
          have a1 := RDr.out.c1
          have a2 := RDr.out.c2
          have a3 := RDr.out.c3
          have aw3 := RDr.out.mem.word (RDr.out.at (k := 3) (by omega))
          rw [HEQ.out.2.2] at aw3
          have hfr2 : f + 1 ≤ wr.heap.size := by have := htu2.out.size; have := HSZ.out; have := HF.out; omega
          by_cases hlt2 : j < stk
          · have c1 : (j : Int) < (stk : Int) := by omega
            have c2 : (j : Int) < (C.over : Int) := by omega
            have awx := RDr.out.mem.word (RDr.out.at (k := 4 + C.cap + j) (by omega))
            have HSu := hide (stackTo_succ C l j)
            generalize rd C l (4 + C.cap + j) = x at *
            have hw1 : IntKind.i64.wrap ((C.base : Int) + 4) = (C.base : Int) + 4 := by rw [IntKind.wrap_i64]; omega
            have hw2 : IntKind.i64.wrap ((C.base : Int) + 4 + (C.cap : Int)) = (C.base : Int) + 4 + (C.cap : Int) := by rw [IntKind.wrap_i64]; omega
            have hw3 : IntKind.i64.wrap ((C.base : Int) + 4 + (C.cap : Int) + (j : Int)) = (C.base : Int) + 4 + (C.cap : Int) + (j : Int) := by rw [IntKind.wrap_i64]; omega
            have hi0' : (0 : Int) ≤ (C.base : Int) + 4 + (C.cap : Int) + (j : Int) := by omega
            have hi1' : (C.base : Int) + 4 + (C.cap : Int) + (j : Int) < (ln : Int) := by omega
            have hi2' : ((C.base : Int) + 4 + (C.cap : Int) + (j : Int)).toNat = C.base + (4 + C.cap + j) := by omega
            have HKp : Hid (∀ (w' : World) (o : Obj), (wr.drew.alloc o).grownBy w' (Value.slice ao2 (k + j) cp2).ownBlock → w'.cell? ⟨d, 1, none⟩ = some (.int .i64 C.base) ∧ w'.cell? ⟨d, 2, none⟩ = some (.int .i64 C.cap) ∧ w'.cell? ⟨q, C.base + (4 + C.cap + j), none⟩ = some (.int .i64 x)) := by
              intro w' o hg
              have key : ∀ (b j : Nat) (u : Value), b < w.heap.size → wr.cell? ⟨b, j, none⟩ = some u → w'.cell? ⟨b, j, none⟩ = some u := fun b j u hb hu => by
                have hbr : b < wr.heap.size := by have := HF.out; omega
                have h1 : w'.heap[b]? = wr.heap[b]? := by
                  rw [hg.block b (by simp; omega) (fun e => by have := (ownsRow_lt hown2.out b e.symm).1; have := HF.out; omega)]
                  exact Below.heap_alloc wr.drew o b hbr
                rw [World.cell?_of_block (w := wr) h1]
                exact hu
              exact ⟨key d 1 _ hltd a1, key d 2 _ hltd a2, key q _ _ hltq awx⟩
            go_wp2_with fail
            go_region_held3 (fun w' => w'.cell? ⟨d, 1, none⟩ = some (.int .i64 C.base) ∧ w'.cell? ⟨d, 2, none⟩ = some (.int .i64 C.cap) ∧ w'.cell? ⟨q, C.base + (4 + C.cap + j), none⟩ = some (.int .i64 x)) (first | go_keep | exact HKp.out _ _ hgrow2)
              ((refine step_append_lies _ (by rfl) _ _ 51 (by rfl) (f + 1) 2 i0 _ 1 8 Try.underlying51 hi hz0 hz1 hz2 rfl (by omega) _ _ _ (by rfl) ((ownsRow_drew hown2.out).alloc _) ⟨wr.heap.size, 0, none⟩ 1 1 [.int .i64 x] (by rfl) rfl (cell_one_new _ _ _) (ints_oneCell .i64 [x]) (by omega) (by unfold maxLen; omega) (by omega) (by simp; omega) (wr.heap.size + 1) (by simp) ?_; intro g2 cap2 w2 hown3 hgrow2 hat2 hlt3))
            have HT4 : Hid (Turned [] wA w2) := (htu2.out.drew.alloc _).grown hgrow2 (fun i hi => by have := (ownsRow_lt hown2.out i hi).1; have := HSZ.out; have := HF.out; right; omega)
            have HO4 := hide hown3
            clear hown3 hgrow2 hat2 hlt3 HKp
            go_wp2_with fail
            go_roundg (stk - (j + 1))
            case measure => omega
            case rel =>
              refine ⟨j + 1, cap2, _, rfl, by go_num, by omega, Nat.le_refl _, ?_, HT4.out⟩
              rw [HSu.out, ← List.append_assoc, List.map_append]
              exact HO4.out
          · have ej : j = stk := by omega
            subst ej
            have c1 : ¬ (j : Int) < (j : Int) := by omega
            go_wp2_with fail
            go_ret
            have hO5 := ownsRow_mono (B' := w.heap.size) hown2.out (by have := HF.out; omega)
            refine ⟨.slice ao2 (k + j) cp2, rfl, ⟨k + j, ?_⟩, TA.out.trans htu2.out⟩
            first | exact hO5 | (rw [HF.out]; exact hO5) | (simp only [List.map_append] at hO5 ⊢; exact hO5) | (trace_state; sorry)
      · clear hnot
        go_wp2_with fail
        go_loopg [3, 7] 4097 (fun gg s3 s7 wr => ∃ (j cp : Nat) (ao : Option Addr), s3 = .slice ao (k + j) cp ∧ s7 = .int .i64 (j : Int) ∧ j ≤ stk ∧ stk - j ≤ gg ∧ Aside (wr.ownsRow (f + 1) 2 1 (.slice ao (k + j) cp) (k + j) ((slotsTo C l T k ++ stackTo C l j).map (Value.int .i64))) ∧ Aside (Turned [] wA wr))
        case atStart => exact ⟨0, cp, ao, rfl, rfl, by omega, by omega, by rw [show stackTo C l 0 = [] from rfl, List.append_nil]; exact HOw.out, HTu.out⟩
        case round =>
          obtain ⟨j, cp2, ao2, rfl, rfl, hj, hgg2, hown2, htu2⟩ := hrel
          have RDr := hide (HHA.out.turned htu2.out (by simp) (by simp) (by simp))
          have a1 := RDr.out.c1
          have a2 := RDr.out.c2
          have a3 := RDr.out.c3
          have aw3 := RDr.out.mem.word (RDr.out.at (k := 3) (by omega))
          rw [HEQ.out.2.2] at aw3
          have hfr2 : f + 1 ≤ wr.heap.size := by have := htu2.out.size; have := HSZ.out; have := HF.out; omega
          by_cases hlt2 : j < stk
          · have c1 : (j : Int) < (stk : Int) := by omega
            have c2 : (j : Int) < (C.over : Int) := by omega
            have awx := RDr.out.mem.word (RDr.out.at (k := 4 + C.cap + j) (by omega))
            have HSu := hide (stackTo_succ C l j)
            generalize rd C l (4 + C.cap + j) = x at *
            have hw1 : IntKind.i64.wrap ((C.base : Int) + 4) = (C.base : Int) + 4 := by rw [IntKind.wrap_i64]; omega
            have hw2 : IntKind.i64.wrap ((C.base : Int) + 4 + (C.cap : Int)) = (C.base : Int) + 4 + (C.cap : Int) := by rw [IntKind.wrap_i64]; omega
            have hw3 : IntKind.i64.wrap ((C.base : Int) + 4 + (C.cap : Int) + (j : Int)) = (C.base : Int) + 4 + (C.cap : Int) + (j : Int) := by rw [IntKind.wrap_i64]; omega
            have hi0' : (0 : Int) ≤ (C.base : Int) + 4 + (C.cap : Int) + (j : Int) := by omega
            have hi1' : (C.base : Int) + 4 + (C.cap : Int) + (j : Int) < (ln : Int) := by omega
            have hi2' : ((C.base : Int) + 4 + (C.cap : Int) + (j : Int)).toNat = C.base + (4 + C.cap + j) := by omega
            have HKp : Hid (∀ (w' : World) (o : Obj), (wr.drew.alloc o).grownBy w' (Value.slice ao2 (k + j) cp2).ownBlock → w'.cell? ⟨d, 1, none⟩ = some (.int .i64 C.base) ∧ w'.cell? ⟨d, 2, none⟩ = some (.int .i64 C.cap) ∧ w'.cell? ⟨q, C.base + (4 + C.cap + j), none⟩ = some (.int .i64 x)) := by
              intro w' o hg
              have key : ∀ (b j : Nat) (u : Value), b < w.heap.size → wr.cell? ⟨b, j, none⟩ = some u → w'.cell? ⟨b, j, none⟩ = some u := fun b j u hb hu => by
                have hbr : b < wr.heap.size := by have := HF.out; omega
                have h1 : w'.heap[b]? = wr.heap[b]? := by
                  rw [hg.block b (by simp; omega) (fun e => by have := (ownsRow_lt hown2.out b e.symm).1; have := HF.out; omega)]
                  exact Below.heap_alloc wr.drew o b hbr
                rw [World.cell?_of_block (w := wr) h1]
                exact hu
              exact ⟨key d 1 _ hltd a1, key d 2 _ hltd a2, key q _ _ hltq awx⟩
            go_wp2_with fail
            go_region_held3 (fun w' => w'.cell? ⟨d, 1, none⟩ = some (.int .i64 C.base) ∧ w'.cell? ⟨d, 2, none⟩ = some (.int .i64 C.cap) ∧ w'.cell? ⟨q, C.base + (4 + C.cap + j), none⟩ = some (.int .i64 x)) (first | go_keep | exact HKp.out _ _ hgrow2)
              ((refine step_append_lies _ (by rfl) _ _ 51 (by rfl) (f + 1) 2 i0 _ 1 8 Try.underlying51 hi hz0 hz1 hz2 rfl (by omega) _ _ _ (by rfl) ((ownsRow_drew hown2.out).alloc _) ⟨wr.heap.size, 0, none⟩ 1 1 [.int .i64 x] (by rfl) rfl (cell_one_new _ _ _) (ints_oneCell .i64 [x]) (by omega) (by unfold maxLen; omega) (by omega) (by simp; omega) (wr.heap.size + 1) (by simp) ?_; intro g2 cap2 w2 hown3 hgrow2 hat2 hlt3))
            have HT4 : Hid (Turned [] wA w2) := (htu2.out.drew.alloc _).grown hgrow2 (fun i hi => by have := (ownsRow_lt hown2.out i hi).1; have := HSZ.out; have := HF.out; right; omega)
            have HO4 := hide hown3
            clear hown3 hgrow2 hat2 hlt3 HKp
            go_wp2_with fail
            go_roundg (stk - (j + 1))
            case measure => omega
            case rel =>
              refine ⟨j + 1, cap2, _, rfl, by go_num, by omega, Nat.le_refl _, ?_, HT4.out⟩
              rw [HSu.out, ← List.append_assoc, List.map_append]
              exact HO4.out
          · have ej : j = stk := by omega
            subst ej
            have c1 : ¬ (j : Int) < (j : Int) := by omega
            go_wp2_with fail
            go_ret
            have hO5 := ownsRow_mono (B' := w.heap.size) hown2.out (by have := HF.out; omega)
            refine ⟨.slice ao2 (k + j) cp2, rfl, ⟨k + j, ?_⟩, TA.out.trans htu2.out⟩
            first | exact hO5 | (rw [HF.out]; exact hO5) | (simp only [List.map_append] at hO5 ⊢; exact hO5) | (trace_state; sorry)
end Go.Proofs.Ytdhfggdmlhgdoaa
