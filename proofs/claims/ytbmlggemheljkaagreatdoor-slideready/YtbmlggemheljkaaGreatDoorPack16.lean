/-
  Texts of the proof, several in one: SlideLineB, SlideLineC.
-/
import Derived.Test.YtbmlggemheljkaaGreatDoorPack15
import Derived.Maps.AppendAt
import Derived.OwnWalk
/-
  The line of ready regions: container/heap's down, Push and Pop.
-/
namespace Go.Proofs.YtbmlggemheljkaaGreatDoor
open Go.RowKit Bt
set_option linter.unusedVariables false
set_option linter.unusedSimpArgs false

/-- The line, nil or not. -/
structure Ln (w : World) (lb : Nat) (v : Value) (B : Nat) (H : List Nat) : Prop where
  head : w.heap[lb]? = some (.cells #[v] 76)
  row : w.ownsRow B 3 1 v H.length (rowOf (gt0 H) H.length)
  few : H.length ≤ 65536
  base : B ≤ w.heap.size
section
variable {w w' : World} {lb q cap B : Nat} {v : Value} {H : List Nat}
theorem Ln.turned0 (h : Ln w lb v B H) (t : Turned [] w w') : Ln w' lb v B H := ⟨by rw [t.block lb (lt_of_heap h.head) (by simp)]; exact h.head, own_turned h.row t, h.few, Nat.le_trans h.base t.size⟩
theorem Ln.lq (h : Ln w lb v B H) (hn : 0 < H.length) : ∃ q cap, v = .slice (some ⟨q, 0, none⟩) H.length cap ∧ Lq w lb q cap B H := by
  obtain ⟨q, cap, rfl, _⟩ := own_open h.row hn
  exact ⟨q, cap, rfl, h.head, h.row, h.few⟩
theorem Lq.ln (h : Lq w lb q cap B H) (hb : B ≤ w.heap.size) : Ln w lb (.slice (some ⟨q, 0, none⟩) H.length cap) B H := ⟨h.head, h.row, h.few, hb⟩
theorem Ln.opens (h : Ln w lb v B H) : ∃ ao cap, v = .slice ao H.length cap := by
  obtain ⟨-, ao, cap, hv, -⟩ := ownsRow_any h.row
  exact ⟨ao, cap, hv⟩
end
theorem gt0_snoc (H : List Nat) (x i : Nat) : gt0 (H ++ [x]) i = if i = H.length then x else gt0 H i := by
  unfold gt0
  rw [List.getD_eq_getElem?_getD, List.getD_eq_getElem?_getD, List.getElem?_append]
  by_cases h : i < H.length
  · rw [if_pos h, if_neg (by omega)]
  · rw [if_neg h]
    by_cases h2 : i = H.length
    · subst h2; simp
    · rw [if_neg h2, List.getElem?_eq_none (by simp; omega), List.getElem?_eq_none (by omega)]
theorem row_snoc (H : List Nat) (x : Nat) : rowOf (gt0 H) H.length ++ [Value.int .i64 (x : Int)] = rowOf (gt0 (H ++ [x])) (H.length + 1) := by
  rw [rowOf_succ]
  congr 1
  · unfold rowOf
    apply List.map_congr_left
    intro i hi
    have : i < H.length := by simpa using hi
    rw [gt0_snoc, if_neg (by omega)]
  · rw [gt0_snoc, if_pos rfl]
theorem gt0_take (H : List Nat) {m i : Nat} (h : i < m) : gt0 (H.take m) i = gt0 H i := by
  unfold gt0
  rw [List.getD_eq_getElem?_getD, List.getD_eq_getElem?_getD, List.getElem?_take_of_lt h]

set_option maxHeartbeats 2000000 in
set_option maxRecDepth 100000 in
theorem down_any (lb q cap B : Nat) (H : List Nat) (m : Nat) (w : World) (h : Lq w lb q cap B H) (hm : m ≤ H.length) :
    Calls Tryz.prog 105 #[lnI lb, .int .i64 0, .int .i64 (m : Int)] w fun e w' => ∃ b, e = .returned (.bool b) ∧ Lq w' lb q cap B (dnL H.length H 0 m) ∧ Turned [q] w w' := by
  have HL := hide h
  have hn := h.few
  obtain ⟨n, hln⟩ : ∃ n, n = H.length := ⟨_, rfl⟩
  rw [← hln] at hn hm ⊢
  have HN := hide hln
  clear h hln
  unfold lnI
  go_enter Tryz.func105, Tryz.ntmps105
  go_wp2_with fail
  go_loopg [7, 8, 9, 10] (m + 1) (fun gg s7 s8 s9 s10 wr => ∃ (K : List Nat) (x : Nat), gg = m + 1 - x ∧ s7 = .int .i64 (x : Int) ∧ x ≤ m ∧ Hid (K.length = n) ∧ Hid (Lq wr lb q cap B K) ∧ Hid (dnL n K x m = dnL n H 0 m) ∧ Hid (Turned [q] w wr))
  case atStart => exact ⟨H, 0, rfl, rfl, Nat.zero_le _, hide HN.out.symm, HL, hide rfl, hide (Turned.refl _ _)⟩
  case round =>
    obtain ⟨K, x, rfl, rfl, hx, HKn, HLk, HU, HT⟩ := hrel
    have HUu : Hid (∀ f, dnL (f + 1) K x m = if 2 * x + 1 < m then (if gt0 K (chd K x m) < gt0 K x then dnL f (swp2 K x (chd K x m)) (chd K x m) m else K) else K) := hide (fun f => rfl)
    by_cases h1 : 2 * x + 1 < m
    · have h1i : ¬ (m : Int) ≤ 2 * (x : Int) + 1 := by omega
      have hx6 : x ≤ 65536 := by omega
      obtain ⟨dl, hdl⟩ : ∃ dl, dl = decide (2 * x + 2 < m ∧ gt0 K (2 * x + 2) < gt0 K (2 * x + 1)) := ⟨_, rfl⟩
      have HD := hide hdl
      clear hdl
      go_upto_region 6 with fail
      go_cut [33] (fun s33 wc => s33 = .bool dl ∧ Aside (Lq wc lb q cap B K) ∧ Aside (Turned [q] w wc))
      case first =>
        by_cases h2 : 2 * x + 2 < m
        · have h2i : 2 * (x : Int) + 1 + 1 < (m : Int) := by omega
          have hmt := method_less lb K.length cap (some ⟨q, 0, none⟩) wr HLk.out.c
          have HLs := hide (lless_any lb q cap B K (2 * x + 2) (2 * x + 1) wr HLk.out (by rw [HKn.out]; omega) (by rw [HKn.out]; omega))
          rw [HKn.out] at hmt HLs
          rw [show ((2 * x + 2 : Nat) : Int) = 2 * (x : Int) + 1 + 1 by omega, show ((2 * x + 1 : Nat) : Int) = 2 * (x : Int) + 1 by omega] at HLs
          have HDe : Hid (decide (gt0 K (2 * x + 2) < gt0 K (2 * x + 1)) = dl) := hide (by
            rw [HD.out]; apply decide_eq_decide.2; exact ⟨fun h => ⟨h2, h⟩, fun h => h.2⟩)
          rw [HDe.out] at HLs
          clear HDe
          go_wp2_with fail
          refine (HLs.out).mono ?_
          rintro e1 w1 ⟨rfl, t1⟩
          have HL1 := hide (HLk.out.turned0 t1)
          have HT1 := hide (HT.out.trans_new t1 (by simp))
          clear t1 hmt HLs
          go_wp2_with fail
          go_meet
          case rel => exact ⟨rfl, HL1.out, HT1.out⟩
        · have h2i : ¬ 2 * (x : Int) + 1 + 1 < (m : Int) := by omega
          have hdl : dl = false := by rw [HD.out]; simp; omega
          subst hdl
          go_wp2_with fail
          go_meet
          case rel => exact ⟨rfl, HLk.out, HT.out⟩
      case rest =>
        obtain ⟨rfl, hl1, ht1⟩ := hcut
        have HL1 := hide hl1.out
        have HT1 := hide ht1.out
        clear hl1 ht1 HLk HT
        obtain ⟨w1, hw1⟩ : ∃ w1, w1 = wc := ⟨_, rfl⟩
        subst hw1
        cases dl
        · have HC : Hid (chd K x m = 2 * x + 1) := hide (by unfold chd; rw [if_neg (by have := HD.out; simpa using this)])
          have hc : 2 * x + 1 < m := by have := chd_lt (H := K) h1; rw [HC.out] at this; exact this
          have hmt := method_less lb K.length cap (some ⟨q, 0, none⟩) w1 HL1.out.c
          have HLs := hide (lless_any lb q cap B K (2 * x + 1) x w1 HL1.out (by rw [HKn.out]; omega) (by rw [HKn.out]; omega))
          rw [HKn.out] at hmt HLs
          obtain ⟨d2, hd2⟩ : ∃ d2, d2 = decide (gt0 K (2 * x + 1) < gt0 K x) := ⟨_, rfl⟩
          rw [← hd2] at HLs
          have HD2 := hide hd2
          clear hd2
          have hn1 : Hid (n = (n - 1) + 1) := hide (by omega)
          have hci : ((2 * x + 1 : Nat) : Int) = 2 * (x : Int) + 1 := by omega
          rw [hci] at HLs
          go_wp2_with fail
          refine (HLs.out).mono ?_
          rintro e1 w2 ⟨rfl, t2⟩
          have HL2 := hide (HL1.out.turned0 t2)
          have HT2 := hide (HT1.out.trans_new t2 (by simp))
          clear t2 hmt HLs HL1 HT1
          cases d2
          · have HF : Hid (dnL n H 0 m = K) := hide (by
              rw [← HU.out, hn1.out, HUu.out, if_pos h1, HC.out, if_neg (by have := HD2.out; simpa using this)])
            clear HU HUu
            go_wp2_with fail
            go_ret
            exact ⟨_, rfl, by rw [HF.out]; exact HL2.out, HT2.out⟩
          · have hmt := method_swap lb K.length cap (some ⟨q, 0, none⟩) w2 HL2.out.c
            have HSw := hide (lswap_any lb q cap B K x (2 * x + 1) w2 HL2.out (by rw [HKn.out]; omega) (by rw [HKn.out]; omega))
            rw [HKn.out] at hmt HSw
            rw [hci] at HSw
            have HU2 : Hid (dnL n (swp2 K x (2 * x + 1)) (2 * x + 1) m = dnL n H 0 m) := hide (by
              rw [← HU.out]
              conv => rhs; rw [hn1.out, HUu.out, if_pos h1, HC.out, if_pos (by have := HD2.out; simpa using this)]
              exact dnL_fuel _ _ _ _ _ (by omega) (by omega))
            clear HU HUu HD2
            go_wp2_with fail
            refine (HSw.out).mono ?_
            rintro e1 w3 ⟨rfl, l3, t3⟩
            have HL3 := hide l3
            have HT3 := hide (HT2.out.trans t3)
            clear l3 t3 hmt HSw HL2 HT2
            go_wp2_with fail
            go_roundg (m + 1 - (2 * x + 1))
            case measure => omega
            case rel => exact ⟨swp2 K x (2 * x + 1), 2 * x + 1, rfl, by rw [hci], by omega, hide (by rw [swp2_len]; exact HKn.out), HL3, HU2, HT3⟩
        · have HC : Hid (chd K x m = 2 * x + 2) := hide (by unfold chd; rw [if_pos (by have := HD.out; simpa using this)])
          have hc : 2 * x + 2 < m := by have := chd_lt (H := K) h1; rw [HC.out] at this; exact this
          have hmt := method_less lb K.length cap (some ⟨q, 0, none⟩) w1 HL1.out.c
          have HLs := hide (lless_any lb q cap B K (2 * x + 2) x w1 HL1.out (by rw [HKn.out]; omega) (by rw [HKn.out]; omega))
          rw [HKn.out] at hmt HLs
          obtain ⟨d2, hd2⟩ : ∃ d2, d2 = decide (gt0 K (2 * x + 2) < gt0 K x) := ⟨_, rfl⟩
          rw [← hd2] at HLs
          have HD2 := hide hd2
          clear hd2
          have hn1 : Hid (n = (n - 1) + 1) := hide (by omega)
          have hci : ((2 * x + 2 : Nat) : Int) = 2 * (x : Int) + 1 + 1 := by omega
          rw [hci] at HLs
          go_wp2_with fail
          refine (HLs.out).mono ?_
          rintro e1 w2 ⟨rfl, t2⟩
          have HL2 := hide (HL1.out.turned0 t2)
          have HT2 := hide (HT1.out.trans_new t2 (by simp))
          clear t2 hmt HLs HL1 HT1
          cases d2
          · have HF : Hid (dnL n H 0 m = K) := hide (by
              rw [← HU.out, hn1.out, HUu.out, if_pos h1, HC.out, if_neg (by have := HD2.out; simpa using this)])
            clear HU HUu
            go_wp2_with fail
            go_ret
            exact ⟨_, rfl, by rw [HF.out]; exact HL2.out, HT2.out⟩
          · have hmt := method_swap lb K.length cap (some ⟨q, 0, none⟩) w2 HL2.out.c
            have HSw := hide (lswap_any lb q cap B K x (2 * x + 2) w2 HL2.out (by rw [HKn.out]; omega) (by rw [HKn.out]; omega))
            rw [HKn.out] at hmt HSw
            rw [hci] at HSw
            have HU2 : Hid (dnL n (swp2 K x (2 * x + 2)) (2 * x + 2) m = dnL n H 0 m) := hide (by
              rw [← HU.out]
              conv => rhs; rw [hn1.out, HUu.out, if_pos h1, HC.out, if_pos (by have := HD2.out; simpa using this)]
              exact dnL_fuel _ _ _ _ _ (by omega) (by omega))
            clear HU HUu HD2
            go_wp2_with fail
            refine (HSw.out).mono ?_
            rintro e1 w3 ⟨rfl, l3, t3⟩
            have HL3 := hide l3
            have HT3 := hide (HT2.out.trans t3)
            clear l3 t3 hmt HSw HL2 HT2
            go_wp2_with fail
            go_roundg (m + 1 - (2 * x + 2))
            case measure => omega
            case rel => exact ⟨swp2 K x (2 * x + 2), 2 * x + 2, rfl, by rw [hci], by omega, hide (by rw [swp2_len]; exact HKn.out), HL3, HU2, HT3⟩
    · have h1i : (m : Int) ≤ 2 * (x : Int) + 1 := by omega
      have hx6 : x ≤ 65536 := by omega
      have HF : Hid (dnL n H 0 m = K) := hide (by
        rw [← HU.out]
        cases n with
        | zero => rfl
        | succ n => rw [HUu.out, if_neg h1])
      clear HU HUu
      go_wp2_with fail
      go_ret
      exact ⟨_, rfl, by rw [HF.out]; exact HLk.out, HT.out⟩

set_option maxRecDepth 100000 in
theorem rpush_any (lb B x : Nat) (v : Value) (H : List Nat) (w : World) (h : Ln w lb v B H) (hn : H.length < 65536) :
    Calls Tryz.prog 144 #[.pointer (some ⟨lb, 0, none⟩), .iface 3 (.int .i64 (x : Int))] w fun e w' => e = .returned (.tuple #[]) ∧ ∃ q cap, Lq w' lb q cap B (H ++ [x]) ∧ Turned (lb :: v.ownBlock.toList) w w' ∧ (v.ownBlock = some q ∨ w.heap.size ≤ q) := by
  obtain ⟨ao, cap, rfl⟩ := h.opens
  have HL := hide h
  have hn2 := hn
  obtain ⟨n, hln⟩ : ∃ n, n = H.length := ⟨_, rfl⟩
  have HN := hide hln
  have c0 : w.cell? ⟨lb, 0, none⟩ = some (.slice ao H.length cap) := by rw [cell_of_heap h.head]; rfl
  have HR := hide h.row
  have HBs := hide h.base
  rw [← hln] at hn hn2 c0 HR ⊢
  have hlb := lt_of_heap h.head
  obtain ⟨i0, hi, hi0⟩ := Option.map_eq_some_iff.1 Tryz.infoInt
  simp only [Prod.mk.injEq] at hi0
  obtain ⟨hz0, hz1, hz2⟩ := hi0
  have HI := hide (And.intro hi (And.intro hz0 (And.intro hz1 hz2)))
  clear h hln hi hz0 hz1 hz2
  have HG : Hid (∀ w' v', w'.ownsRow B 3 1 v' (n + 1) (rowOf (gt0 H) n ++ [.int .i64 (x : Int)]) → (w.alloc (.cells #[.int .i64 (x : Int)] 3)).grownBy w' (Value.slice ao n cap).ownBlock → (v'.ownBlock = (Value.slice ao n cap).ownBlock ∨ v'.ownBlock = some (w.alloc (.cells #[.int .i64 (x : Int)] 3)).heap.size) → w'.heap[lb]? = some (.cells #[.slice ao n cap] 76) ∧ ∀ ao' cap', v' = .slice ao' (n + 1) cap' → ∃ q, v' = .slice (some ⟨q, 0, none⟩) (n + 1) cap' ∧ Lq (w'.setCell ⟨lb, 0, none⟩ v') lb q cap' B (H ++ [x]) ∧ Turned (lb :: (Value.slice ao n cap).ownBlock.toList) w (w'.setCell ⟨lb, 0, none⟩ v') ∧ ((Value.slice ao n cap).ownBlock = some q ∨ w.heap.size ≤ q)) := hide (by
    intro w' v' ho hg hat
    have hh := HL.out.head
    rw [← HN.out] at hh
    have hb : w'.heap[lb]? = some (.cells #[.slice ao n cap] 76) := by
      rw [hg.block lb (by simp; omega) (fun e => by
        obtain ⟨_, _, c2, hc2⟩ := ownsRow_lt HR.out lb e.symm
        exact ne_of_type hc2 hh (by decide) rfl), Below.heap_alloc _ _ _ hlb]
      exact hh
    refine ⟨hb, fun ao' cap' hv => ?_⟩
    have hlen : (H ++ [x]).length = n + 1 := by simp [HN.out]
    have ho2 : w'.ownsRow B 3 1 v' (n + 1) (rowOf (gt0 (H ++ [x])) (n + 1)) := by
      have := row_snoc H x
      rw [← HN.out] at this
      rw [← this]; exact ho
    obtain ⟨q, cap2, hv2, _⟩ := own_open ho2 (by omega)
    rw [hv] at hv2
    cases hv2
    subst hv
    have hqn : q ≠ lb := by
      obtain ⟨_, _, c2, hc2⟩ := ownsRow_lt ho2 q rfl
      exact ne_of_type hc2 hb (by decide)
    have t2 : Turned [lb] w' (w'.setCell ⟨lb, 0, none⟩ (.slice (some ⟨q, 0, none⟩) (n + 1) cap')) := (Turned.refl [lb] w').setCell (p := ⟨lb, 0, none⟩) (.inl (by simp)) _
    refine ⟨q, rfl, ⟨?_, ?_, by rw [hlen]; omega⟩, ?_, ?_⟩
    · rw [hlen, heap_setCell_at _ _ _ _ _ _ hb]; rfl
    · rw [hlen]; exact own_at ho2 t2 (by simp [Value.ownBlock]; exact hqn)
    · refine ((Turned.refl _ w).alloc _ |>.grown hg (fun k hk => .inl ?_)).trans_new t2 (by simp)
      rw [hk]; simp
    · rcases hat with h1 | h1
      · left; rw [← h1]; rfl
      · right; simp [Value.ownBlock] at h1; omega)
  clear HL HN
  have hta : ∀ w : World, (Instr.typeAssert (.iface 3 (.int .i64 (x : Int))) 20 3 true).run Tryz.prog w = .ok (.tuple #[.int .i64 (x : Int), .bool true]) w := fun w => by kernel_rfl
  go_enter Tryz.func144, Tryz.ntmps144
  go_wp2_with (at_builtin; (refine wpList_append_own_at _ rfl _ _ 74 rfl B 3 i0 _ 1 8 Tryz.underlying74 HI.out.1 HI.out.2.1 HI.out.2.2.1 HI.out.2.2.2 rfl (by decide) _ _ _ rfl (HR.out.alloc _) ⟨w.heap.size, 0, none⟩ 1 1 [.int .i64 (x : Int)] rfl rfl (cells_new13 _ _ _ _ rfl) (ints_oneCell .i64 [(x : Int)]) (by unfold maxLen; omega) (by omega) (by have := HBs.out; simp; omega) ?_); intro v3 w3 ho hg hnil hat; obtain ⟨hb3, hF⟩ := HG.out w3 v3 ho hg hat; obtain ⟨-, ao3, cap3, hv3, -⟩ := ownsRow_any ho; obtain ⟨q3, hv4, hres⟩ := hF ao3 cap3 hv3; subst hv4; have HRes := hide hres; have d0 : w3.cell? ⟨lb, 0, none⟩ = some (.slice ao n cap) := (by rw [cell_of_heap hb3]; rfl); have df : w3.frozen? ⟨lb, 0, none⟩ = false := (by simp [World.frozen?, hb3]); have dl := lt_of_heap hb3; clear ho hg hnil hat hF hv3 hres hb3)
  first | refine bodyPost_end (results_none rfl _ _ _) rfl ?_ | refine bodyPost_ret (results_none rfl _ _ _) rfl ?_
  exact ⟨rfl, q3, cap3, HRes.out.1, HRes.out.2.1, HRes.out.2.2⟩
end Go.Proofs.YtbmlggemheljkaaGreatDoor

/-
  The line of ready regions: its Pop, and container/heap's Push and Pop.
-/
namespace Go.Proofs.YtbmlggemheljkaaGreatDoor
open Go.RowKit Bt
set_option linter.unusedVariables false
set_option linter.unusedSimpArgs false

set_option maxRecDepth 100000 in
theorem rpop_any (lb q cap B n : Nat) (H : List Nat) (w : World) (h : Lq w lb q cap B H) (hn : H.length = n + 1) :
    Calls Tryz.prog 143 #[.pointer (some ⟨lb, 0, none⟩)] w fun e w' => e = .returned (.iface 3 (.int .i64 (gt0 H n : Nat))) ∧ Lq w' lb q cap B (H.take n) ∧ Turned [lb] w w' := by
  have hf := h.few
  have c0 := h.c
  have cn := h.at (i := n) (by omega)
  have hb := lt_of_heap h.head
  have fz : w.frozen? ⟨lb, 0, none⟩ = false := by simp [World.frozen?, h.head]
  have HIL := hide (ilen_any (some ⟨q, 0, none⟩) (n + 1) cap w)
  have hcap : n + 1 ≤ cap := by
    obtain ⟨q', cap', he, _, h3, _⟩ := own_open h.row (by omega)
    cases he
    omega
  have HE : Hid (Lq (w.setCell ⟨lb, 0, none⟩ (.slice (some ⟨q, 0, none⟩) n cap)) lb q cap B (H.take n) ∧ Turned [lb] w (w.setCell ⟨lb, 0, none⟩ (.slice (some ⟨q, 0, none⟩) n cap))) := hide (by
    have t2 : Turned [lb] w (w.setCell ⟨lb, 0, none⟩ (.slice (some ⟨q, 0, none⟩) n cap)) := (Turned.refl [lb] w).setCell (p := ⟨lb, 0, none⟩) (.inl (by simp)) _
    have hl : (H.take n).length = n := by simp; omega
    refine ⟨⟨?_, ?_, by rw [hl]; omega⟩, t2⟩
    · rw [hl, heap_setCell_at _ _ _ _ _ _ h.head]; rfl
    · rw [hl]
      have h1 := own_front h.row (m := n) (by omega)
      have h2 := own_at h1 t2 (by simp [Value.ownBlock]; exact fun e => h.ne e.symm)
      exact own_congr h2 (fun i hi => (gt0_take H hi).symm))
  rw [hn] at c0 hf
  obtain ⟨z, hz⟩ : ∃ z, z = gt0 H n := ⟨_, rfl⟩
  rw [← hz] at cn ⊢
  clear h hz hn
  have hni : (n : Int) < ((n + 1 : Nat) : Int) := by omega
  have hq : ∀ w : World, (Instr.slice 74 (.slice (some ⟨q, 0, none⟩) (n + 1) cap) none (some (.int .i64 (n : Int))) none).run Tryz.prog w = .ok (.slice (some ⟨q, 0, none⟩) n cap) w := fun w => by
    rw [run_slice_h (P := Tryz.prog) w 74 _ _ _ Tryz.underlying74 .i64 n (by omega) (by omega)]
    show Result.ok (sliced _ 0 (n : Int).toNat cap 1) w = _
    simp [sliced, Addr.add]
  go_enter Tryz.func143, Tryz.ntmps143
  go_wp2_with fail
  refine (HIL.out).mono ?_
  rintro e1 w1 ⟨rfl, hw1⟩
  subst hw1
  clear HIL
  go_wp2_with fail
  go_ret
  exact ⟨rfl, HE.out⟩

set_option maxRecDepth 100000 in
theorem hpush_any (lb B x : Nat) (v : Value) (H : List Nat) (w : World) (h : Ln w lb v B H) (hn : H.length < 65536) :
    Calls Tryz.prog 60 #[lnI lb, .iface 3 (.int .i64 (x : Int))] w fun e w' => e = .returned (.tuple #[]) ∧ ∃ q cap, Lq w' lb q cap B (pushL H x) ∧ Turned (lb :: v.ownBlock.toList) w w' ∧ (v.ownBlock = some q ∨ w.heap.size ≤ q) := by
  have HP := hide (rpush_any lb B x v H w h hn)
  have hm := method_push lb w
  obtain ⟨n, hln⟩ : ∃ n, n = H.length := ⟨_, rfl⟩
  rw [← hln] at hn
  have HN := hide hln
  clear hln h
  unfold lnI
  go_enter Tryz.func60, Tryz.ntmps60
  go_wp2_with fail
  refine (HP.out).mono ?_
  rintro e1 w1 ⟨rfl, q, cap, l1, t1, d1⟩
  have HL := hide l1
  have HT := hide t1
  have HD := hide d1
  clear l1 t1 d1 HP hm
  have hl1 : Hid ((H ++ [x]).length = n + 1) := hide (by simp [HN.out])
  have hm := method_len lb _ cap (some ⟨q, 0, none⟩) w1 HL.out.c
  rw [hl1.out] at hm
  have HIL := hide (ilen_any (some ⟨q, 0, none⟩) (n + 1) cap w1)
  have HUp := hide (up_any lb q cap B (H ++ [x]) n w1 HL.out (by rw [hl1.out]; omega))
  unfold lnI at HUp
  go_wp2_with fail
  refine (HIL.out).mono ?_
  rintro e1 w2 ⟨rfl, hw2⟩
  subst hw2
  clear HIL hm
  go_wp2_with fail
  refine (HUp.out).mono ?_
  rintro e1 w3 ⟨rfl, l3, t3⟩
  have HL3 := hide l3
  have HT3 := hide t3
  clear l3 t3 HUp HL
  go_wp2_with fail
  first | refine bodyPost_end (results_none rfl _ _ _) rfl ?_ | refine bodyPost_ret (results_none rfl _ _ _) rfl ?_
  refine ⟨rfl, q, cap, ?_, HT.out.trans_new HT3.out (fun i hi => ?_), HD.out⟩
  · unfold pushL
    rw [← HN.out]; exact HL3.out
  · have : i = q := by simpa using hi
    subst this
    rcases HD.out with h1 | h1
    · left; rw [h1]; simp
    · right; exact h1
set_option maxRecDepth 100000 in
theorem hpop_any (lb q cap B n : Nat) (H : List Nat) (w : World) (h : Lq w lb q cap B H) (hn : H.length = n + 1) :
    Calls Tryz.prog 96 #[lnI lb] w fun e w' => e = .returned (.iface 3 (.int .i64 (gt0 (popL H) n : Nat))) ∧ Lq w' lb q cap B ((popL H).take n) ∧ Turned [lb, q] w w' := by
  have HL := hide h
  have hf := h.few
  have hm := method_len lb _ cap (some ⟨q, 0, none⟩) w h.c
  rw [hn] at hm hf
  have HIL := hide (ilen_any (some ⟨q, 0, none⟩) (n + 1) cap w)
  have HN := hide hn
  clear h hn
  unfold lnI
  go_enter Tryz.func96, Tryz.ntmps96
  go_wp2_with fail
  refine (HIL.out).mono ?_
  rintro e1 w2 ⟨rfl, hw2⟩
  subst hw2
  clear HIL hm
  have hm := method_swap lb _ cap (some ⟨q, 0, none⟩) w2 HL.out.c
  have HSw := hide (lswap_any lb q cap B H 0 n w2 HL.out (by rw [HN.out]; omega) (by rw [HN.out]; omega))
  rw [HN.out] at hm HSw
  go_wp2_with fail
  refine (HSw.out).mono ?_
  rintro e1 w3 ⟨rfl, l3, t3⟩
  have HL3 := hide l3
  have HT3 := hide t3
  clear l3 t3 HSw hm
  have HDn := hide (down_any lb q cap B (swp2 H 0 n) n w3 HL3.out (by rw [swp2_len, HN.out]; omega))
  unfold lnI at HDn
  go_wp2_with fail
  refine (HDn.out).mono ?_
  rintro e1 w4 ⟨bb, rfl, l4, t4⟩
  have HE : Hid (dnL (swp2 H 0 n).length (swp2 H 0 n) 0 n = popL H) := hide (by unfold popL; rw [swp2_len, HN.out]; rfl)
  rw [HE.out] at l4
  have HL4 := hide l4
  have HT4 := hide (HT3.out.trans t4)
  clear l4 t4 HDn HL3 HT3
  have hm := method_pop lb w4
  have HPp := hide (rpop_any lb q cap B n (popL H) w4 HL4.out (by rw [← HE.out, dnL_len, swp2_len, HN.out]))
  go_wp2_with fail
  refine (HPp.out).mono ?_
  rintro e1 w5 ⟨rfl, l5, t5⟩
  have HL5 := hide l5
  have HT5 : Hid (Turned [lb, q] w2 w5) := hide ((HT4.out.mono (by simp)).trans (t5.mono (by simp)))
  clear l5 t5 HPp HL4
  go_wp2_with fail
  go_ret
  exact ⟨rfl, HL5.out, HT5.out⟩
end Go.Proofs.YtbmlggemheljkaaGreatDoor
