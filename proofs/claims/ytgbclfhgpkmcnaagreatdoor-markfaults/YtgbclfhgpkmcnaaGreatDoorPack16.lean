/-
  Texts of the proof, several in one: ClassesRefR.
-/
import Derived.Test.YtgbclfhgpkmcnaaGreatDoorPack12
import Derived.Test.YtgbclfhgpkmcnaaGreatDoorPack13
import Derived.Laws.AppendOwn
import Derived.Maps.AppendAt
/-
  The document's own Refs and Ref tell the same.
-/
namespace Go.Proofs.YtgbclfhgpkmcnaaGreatDoor
open Go.RowKit
set_option linter.unusedVariables false

theorem rowTo_snoc (k : Nat) : rowTo (k + 1) = rowTo k ++ [(k : Int) + 1] := by simp [rowTo, List.range_succ]
theorem rowTo_in {k : Nat} (hk : k ≤ 65536) : ∀ x, x ∈ rowTo k → In64 x := by
  intro x hx
  simp [rowTo] at hx
  obtain ⟨i, hi, rfl⟩ := hx
  unfold In64
  omega
theorem owns_row {w : World} {B : Nat} {v : Value} {n : Nat} (h : w.ownsRow B 3 1 v n ((rowTo n).map (Value.int .i64))) (hn : n ≤ 65536) : ∃ ao cap, v = .slice ao n cap ∧ IRd w ao n (rowTo n) := by
  obtain ⟨h1, ao, cap, rfl, h2⟩ := ownsRow_any h
  refine ⟨ao, cap, rfl, rowTo_length n, by omega, fun i x hx => ?_, rowTo_in hn⟩
  obtain ⟨g, rfl, _, _, h3, _⟩ := h2 i (.int .i64 x) (by rw [List.getElem?_map, hx]; rfl)
  exact ⟨g, 0, rfl, by rw [Nat.zero_add]; exact h3⟩

theorem row_low {w : World} {B : Nat} {e : TypeId} {sz : Nat} {ao : Option Addr} {cap n : Nat} {xs : List Value} (h : w.ownsRow B e sz (.slice ao n cap) n xs) : ∀ a, ao = some a → B ≤ a.block := by
  intro a ha
  subst ha
  rcases h.2 with ⟨hv, _⟩ | ⟨g, c, cur, hv, hg, _⟩
  · cases hv
  · cases hv
    exact hg

/-- An object that may not be, or a filler, has no references; else its class and what it has. -/
theorem refs_cases (cs : List Cls) (k n : Int) : (∃ N e, sizeOf cs k n = (N, e) ∧ refsOf cs k n = 0 ∧ (¬ e = 0 ∨ k = 0)) ∨
    ∃ (i R N : Nat) (c : Cls), k = (i : Int) + 1 ∧ cs[i]? = some c ∧ sizeOf cs k n = ((N : Int) + 1, 0) ∧ refsOf cs k n = (R : Int) ∧ R ≤ N ∧ N ≤ 65535 ∧ (c.a = 1 ∧ R = N ∨ c.a = 0 ∧ c.r = (R : Int) ∨ c.a = 2 ∧ R = 0) := by
  unfold sizeOf refsOf told
  cases hc : clsAt cs k with
  | none => exact .inl ⟨0, 12, rfl, rfl, .inl (by omega)⟩
  | some c =>
    by_cases hn : 0 ≤ n ∧ n ≤ c.most
    · simp only [if_pos hn]
      obtain ⟨h1, h2, h3⟩ := clsAt_few hc hn
      rcases clsAt_may hc with ⟨rfl, h0⟩ | ⟨h4, h5, h6⟩
      · exact .inl ⟨_, _, rfl, rfl, .inr h0⟩
      · right
        obtain ⟨R, hR⟩ := Int.eq_ofNat_of_zero_le h1
        obtain ⟨V, hV⟩ := Int.eq_ofNat_of_zero_le h2
        refine ⟨(k - 1).toNat, R, R + V, c, by omega, h6, ?_, by simp only [gRefs, hR], by omega, by omega, ?_⟩
        · simp only [gSize, hR, hV]
          rw [show 1 + (R : Int) + (V : Int) = ((R + V : Nat) : Int) + 1 by omega]
        · obtain ⟨r, v, a⟩ := c
          simp only [Cls.may, decide_eq_true_eq] at h4
          simp only [Cls.rN, Cls.wN] at hR hV
          rcases h4 with ⟨rfl, _⟩ | ⟨rfl | rfl, rfl, rfl⟩
          · simp at hR hV
            exact .inr (.inl ⟨rfl, by omega⟩)
          · simp at hR hV
            exact .inl ⟨rfl, by omega⟩
          · simp at hR hV
            exact .inr (.inr ⟨rfl, by omega⟩)
    · simp only [if_neg hn]
      exact .inl ⟨_, _, rfl, trivial, .inl (by omega)⟩

theorem few_len {m N : Nat} (h : m < N) (hN : N ≤ 65535) : m + 1 ≤ maxLen := by unfold maxLen; omega
theorem few_bytes {m N : Nat} (h : m < N) (hN : N ≤ 65535) : (m + 1) * 8 ≤ 140737488355328 := by omega
theorem few_size {w wr : World} (h : w.heap.size ≤ wr.heap.size) (o1 o2 : Obj) : w.heap.size ≤ ((wr.alloc o1).alloc o2).heap.size := by simp; omega
theorem cell_last (w : World) (x : Value) (t : TypeId) (k : Nat) (hk : w.heap.size = k) : ∀ j u, [x][j]? = some u → (w.alloc (.cells #[x] t)).cell? ((⟨k, 0, none⟩ : Addr).add j) = some u := by
  subst hk
  exact cell_one_new w x t

set_option maxRecDepth 100000 in
set_option maxHeartbeats 4000000 in
theorem rrefs_new (ao : Option Addr) (len cap : Nat) (cs : List Cls) (k n : Int) (w : World) (hn : In64 n) (h : CRd w ao len cs) :
    Calls Tryz.prog 71 #[.slice ao len cap, .int .i64 k, .int .i64 n] w fun e w' => ∃ ar cp, e = .returned (.slice ar (refsOf cs k n).toNat cp) ∧ IRd w' ar (refsOf cs k n).toNat (rowTo (refsOf cs k n).toNat) ∧ (∀ a, ar = some a → w.heap.size ≤ a.block) ∧ Turned [] w w' := by
  have HS := hide (rsize_any ao len cap cs k n w hn h)
  have H := hide h
  have hl := h.size
  have hr := h.room
  clear hn h
  obtain ⟨i0, hi, hi0⟩ := Option.map_eq_some_iff.1 Tryz.infoInt
  simp only [Prod.mk.injEq] at hi0
  obtain ⟨hz0, hz1, hz2⟩ := hi0
  have Z1 := hide hz1
  have Z2 := hide hz2
  clear hz1 hz2
  rcases refs_cases cs k n with ⟨N, e, h1, h2, h3⟩ | ⟨i, R, N, c, rfl, hc, h1, h2, hRN, hN, hk⟩
  · rw [h1] at HS
    rw [h2]
    simp only [Int.toNat_zero]
    clear h1 h2
    have HE : Hid (∀ w' : World, IRd w' none 0 (rowTo 0)) := fun w' => ⟨rfl, by omega, fun i x hx => by simp [rowTo] at hx, fun x hx => by simp [rowTo] at hx⟩
    rcases h3 with h3 | rfl
    · have e3 : (e == 0) = false := by simp [h3]
      go_enter Tryz.func71, Tryz.ntmps71
      go_wp2_with fail
      refine HS.out.mono ?_
      rintro e w1 ⟨rfl, ht1⟩
      have HT := hide ht1
      clear ht1 HS
      go_wp2_with fail
      go_loopw [7, 10] (fun v i wr => v = .slice none 0 0 ∧ i = .int .i64 1 ∧ Hid (Turned [] w wr)) (fun _ _ _ => 0)
      case atStart => exact ⟨rfl, rfl, HT⟩
      case round =>
        obtain ⟨rfl, rfl, HTr⟩ := hrel
        go_wp2_with fail
        all_goals (go_ret; first | exact ⟨none, 0, rfl, HE.out _, (fun a ha => by cases ha), HTr.out⟩ | exact ⟨none, ⟨0, rfl⟩, HE.out _, (fun a ha => by cases ha), HTr.out⟩)
    · go_enter Tryz.func71, Tryz.ntmps71
      go_wp2_with fail
      refine HS.out.mono ?_
      rintro e w1 ⟨rfl, ht1⟩
      have HT := hide ht1
      clear ht1 HS
      go_wp2_with fail
      go_loopw [7, 10] (fun v i wr => v = .slice none 0 0 ∧ i = .int .i64 1 ∧ Hid (Turned [] w wr)) (fun _ _ _ => 0)
      case atStart => exact ⟨rfl, rfl, HT⟩
      case round =>
        obtain ⟨rfl, rfl, HTr⟩ := hrel
        go_wp2_with fail
        all_goals (go_ret; first | exact ⟨none, 0, rfl, HE.out _, (fun a ha => by cases ha), HTr.out⟩ | exact ⟨none, ⟨0, rfl⟩, HE.out _, (fun a ha => by cases ha), HTr.out⟩)
  · rw [h1] at HS
    rw [h2]
    simp only [Int.toNat_natCast]
    have hil : i < cs.length := (List.getElem?_eq_some_iff.1 hc).1
    have hil2 : i < len := by omega
    have e3 : wrap64 ((i : Int) + 1 - 1) = (i : Int) := by unfold wrap64; omega
    have e5 : 0 < (i : Int) + 1 := by omega
    have HC := hide hc
    clear h1 h2 hl hil hc
    obtain ⟨b, off, rfl, cw0, cw1, cw2⟩ := H.out.cell i c HC.out
    have HW0 := hide cw0
    have HW1 := hide cw1
    have HW2 := hide cw2
    clear cw0 cw1 cw2
    go_enter Tryz.func71, Tryz.ntmps71
    go_wp2_with fail
    refine HS.out.mono ?_
    rintro e w1 ⟨rfl, ht1⟩
    have HT := hide ht1
    clear ht1 HS
    go_wp2_with fail
    go_loopw [7, 10] (fun v i wr => ∃ j m : Nat, j ≤ N ∧ m ≤ R ∧ Hid (m = min j R) ∧ i = .int .i64 ((j : Int) + 1) ∧ Hid (wr.ownsRow w.heap.size 3 1 v m ((rowTo m).map (Value.int .i64))) ∧ Hid (Turned [] w wr)) (fun _ i _ => N + 1 - (intOf i).toNat)
    case atStart =>
      refine ⟨0, 0, Nat.zero_le _, Nat.zero_le _, by show 0 = min 0 R; omega, rfl, ?_, HT⟩
      show World.ownsRow _ _ _ _ _ _ _
      exact World.ownsRow_nil _ _ _ _
    case round =>
      obtain ⟨j, m, hj, hm, HMn, rfl, HO, HTr⟩ := hrel
      by_cases hlt : j < N
      · have c0 := (HTr.out.cell (block_lt HW0.out) (by simp)).trans HW0.out
        have c1 := (HTr.out.cell (block_lt HW1.out) (by simp)).trans HW1.out
        have c2 := (HTr.out.cell (block_lt HW2.out) (by simp)).trans HW2.out
        have e6 : wrap64 ((j : Int) + 1 + 1) = (j : Int) + 1 + 1 := by unfold wrap64; omega
        have HSZ := hide HTr.out.size
        obtain ⟨r, v, a⟩ := c
        simp only at c0 c1 c2 hk
        rcases hk with ⟨rfl, hk⟩ | ⟨rfl, hk⟩ | ⟨rfl, hk⟩
        · have hjR : j < R := by omega
          have hmj : m = j := by rw [HMn.out]; omega
          clear HMn
          subst hmj
          have HB1 : Hid (m + 1 ≤ maxLen) := few_len hlt hN
          have HB2 : Hid ((m + 1) * 8 ≤ 140737488355328) := few_bytes hlt hN
          have HB3 : Hid (∀ o1 o2, w.heap.size ≤ ((wr.alloc o1).alloc o2).heap.size) := few_size HSZ.out
          clear hk
          go_wp2_with (at_builtin; (refine wpList_append_own _ rfl _ _ 25 rfl w.heap.size 3 i0 (.int .i64 0) 1 8 Tryz.underlying25 hi hz0 Z1.out Z2.out rfl (by decide) _ _ _ rfl ((HO.out.alloc _).alloc _) ⟨wr.heap.size + 1, 0, none⟩ 1 1 [.int .i64 ((m : Int) + 1)] rfl rfl (cell_last _ _ _ _ (by simp)) (fun x hx => by simp at hx; subst hx; rfl) HB1.out HB2.out (HB3.out _ _) ?_); intro v' w3 hown' hgrow3 hnil3; have HT3 := hide (((HTr.out.alloc _).alloc _).grown hgrow3 (fun j hj => .inr (ownsRow_lt HO.out j hj).1)); have HO3 := hide hown'; clear hown' hgrow3 hnil3)
          go_roundw
          case rel =>
            refine ⟨m + 1, m + 1, by omega, by omega, by show m + 1 = min (m + 1) R; omega, by go_num, ?_, HT3⟩
            show World.ownsRow _ _ _ _ _ _ _
            rw [rowTo_snoc, List.map_append]
            exact HO3.out
          case measure => simp [intOf]; omega
        · subst hk
          by_cases hjR : j < R
          · have hk : True := trivial
            have hmj : m = j := by rw [HMn.out]; omega
            clear HMn
            subst hmj
            have HB1 : Hid (m + 1 ≤ maxLen) := few_len hlt hN
            have HB2 : Hid ((m + 1) * 8 ≤ 140737488355328) := few_bytes hlt hN
            have HB3 : Hid (∀ o1 o2, w.heap.size ≤ ((wr.alloc o1).alloc o2).heap.size) := few_size HSZ.out
            clear hk
            go_wp2_with (at_builtin; (refine wpList_append_own _ rfl _ _ 25 rfl w.heap.size 3 i0 (.int .i64 0) 1 8 Tryz.underlying25 hi hz0 Z1.out Z2.out rfl (by decide) _ _ _ rfl ((HO.out.alloc _).alloc _) ⟨wr.heap.size + 1, 0, none⟩ 1 1 [.int .i64 ((m : Int) + 1)] rfl rfl (cell_last _ _ _ _ (by simp)) (fun x hx => by simp at hx; subst hx; rfl) HB1.out HB2.out (HB3.out _ _) ?_); intro v' w3 hown' hgrow3 hnil3; have HT3 := hide (((HTr.out.alloc _).alloc _).grown hgrow3 (fun j hj => .inr (ownsRow_lt HO.out j hj).1)); have HO3 := hide hown'; clear hown' hgrow3 hnil3)
            go_roundw
            case rel =>
              refine ⟨m + 1, m + 1, by omega, by omega, by show m + 1 = min (m + 1) R; omega, by go_num, ?_, HT3⟩
              show World.ownsRow _ _ _ _ _ _ _
              rw [rowTo_snoc, List.map_append]
              exact HO3.out
            case measure => simp [intOf]; omega
          · have hk : True := trivial
            have hjR2 : ¬ ((j : Int) + 1 ≤ (R : Int)) := by omega
            have hmR : m = R := by rw [HMn.out]; omega
            have HTa := hide (fun d => HTr.out.alloc (.cells d 94))
            clear hk
            go_wp2_with fail
            go_roundw
            case rel =>
              refine ⟨j + 1, m, by omega, by omega, by show m = min (j + 1) R; omega, by go_num, ?_, HTa.out _⟩
              show World.ownsRow _ _ _ _ _ _ _
              exact HO.out.alloc _
            case measure => simp [intOf]; omega
        · have hjR : ¬ j < R := by omega
          have hmR : m = R := by rw [HMn.out]; omega
          have HTa := hide (fun d => HTr.out.alloc (.cells d 94))
          clear hk
          go_wp2_with fail
          go_roundw
          case rel =>
            refine ⟨j + 1, m, by omega, by omega, by show m = min (j + 1) R; omega, by go_num, ?_, HTa.out _⟩
            show World.ownsRow _ _ _ _ _ _ _
            exact HO.out.alloc _
          case measure => simp [intOf]; omega
      · have hjN : j = N := by omega
        have hmR : m = R := by rw [HMn.out]; omega
        subst hmR
        obtain ⟨ar, cp, rfl, hrd⟩ := owns_row HO.out (by omega)
        have HRd := hide hrd
        have HLw := hide (row_low HO.out)
        clear hrd HO
        go_wp2_with fail
        go_ret
        exact ⟨ar, cp, rfl, HRd.out, HLw.out, HTr.out⟩
theorem rrefs_any (ao : Option Addr) (len cap : Nat) (cs : List Cls) (k n : Int) (w : World) (hn : In64 n) (h : CRd w ao len cs) :
    Calls Tryz.prog 71 #[.slice ao len cap, .int .i64 k, .int .i64 n] w fun e w' => ∃ ar cp, e = .returned (.slice ar (refsOf cs k n).toNat cp) ∧ IRd w' ar (refsOf cs k n).toNat (rowTo (refsOf cs k n).toNat) ∧ Turned [] w w' :=
  (rrefs_new ao len cap cs k n w hn h).mono (fun e w' ⟨ar, cp, h1, h2, _, h3⟩ => ⟨ar, cp, h1, h2, h3⟩)
end Go.Proofs.YtgbclfhgpkmcnaaGreatDoor
