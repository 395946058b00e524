/-
  What 'that' and Ready of package turns tell: the numbers of the tasks that stand so, in new memory.
-/
import Derived.Test.YtopoklciglgkbaaTurnsWalks
namespace Go.Proofs.Ytopoklciglgkbaa
open Go.RowKit

theorem Try.infoInt : (Try.prog.info? 3).map (fun i => (i.zero, i.size, i.bytes)) = some (some (.int .i64 0), 1, 8) := by kernel_rfl

theorem states_take_succ (ts : List Task) (k : Nat) (t : Task) (h : ts[k]? = some t) : states (ts.take (k + 1)) = states (ts.take k) ++ [t.st] := by
  have hk := (List.getElem?_eq_some_iff.1 h).1
  unfold states
  rw [List.take_succ_eq_append_getElem hk, List.map_append]
  rw [List.getElem?_eq_getElem hk] at h
  injection h with h
  rw [h]
  rfl
theorem states_take_length (ts : List Task) (k : Nat) (h : k ≤ ts.length) : (states (ts.take k)).length = k := by
  unfold states; simp; omega

set_option maxRecDepth 100000 in
theorem that_any (B : Nat) (w : World) (p : Nat) (F : List Nat) (ts : List Task) (s : Int) (h : Trn B w p F ts) :
    Calls Try.prog 37 #[.pointer (some ⟨p, 0, none⟩), .int .i64 s] w fun e w' =>
      ∃ v, e = .returned v ∧ w'.ownsRow w.heap.size 3 1 v (thatOf s (states ts) 0).length ((thatOf s (states ts) 0).map (Value.int .i64)) ∧ Turned [] w w' := by
  obtain ⟨ao, cap, h0, hrow⟩ := h.open
  have hroom := h.room
  have HH := hide h
  have HR := hide hrow
  clear h hrow
  obtain ⟨i0, hi, hi0⟩ := Option.map_eq_some_iff.1 Try.infoInt
  simp only [Prod.mk.injEq] at hi0
  obtain ⟨hz0, hz1, hz2⟩ := hi0
  have hmk : ∀ w : World, (Instr.makeSlice 28 (.int .i64 0) (.int .i64 (ts.length : Int))).run Try.prog w = .ok (.slice (some ⟨w.heap.size, 0, none⟩) 0 ts.length) (w.alloc (.cells (madeCells #[.int .i64 0] ts.length) 3)) := fun w => by
    have hr := run_make (P := Try.prog) w 28 3 i0 (.int .i64 0) Try.underlying28 hi hz0 .i64 .i64 0 ts.length (by omega) (by omega) (by rw [hz2]; omega) (by omega)
    simp only [hz1, Nat.mul_one] at hr
    exact hr
  have h0' : (w.alloc (.cells (madeCells #[.int .i64 0] ts.length) 3)).cell? ⟨p, 0, none⟩ = some (.slice ao ts.length cap) := by
    rw [World.cell?_of_block (w := w) (Below.heap_alloc _ _ _ (block_lt h0))]; exact h0
  go_enter Try.func37, Try.ntmps37
  go_wp2_with fail
  clear hmk
  go_loopw [5, 6, 7, 21] (fun v _ _ i wr => ∃ k : Nat, k ≤ ts.length ∧ i = .int .i64 k ∧ Hid (wr.ownsRow w.heap.size 3 1 v (thatOf s (states (ts.take k)) 0).length ((thatOf s (states (ts.take k)) 0).map (Value.int .i64))) ∧ Hid (Turned [] w wr)) (fun _ _ _ i _ => ts.length - (intOf i).toNat)
  case atStart =>
    refine ⟨0, Nat.zero_le _, rfl, ?_, (Turned.refl _ _).alloc _⟩
    have h1 := World.ownsRow_made (base := w.heap.size) (e := 3) (size := 1) w (madeCells #[.int .i64 0] ts.length) ts.length (Nat.le_refl _) (by unfold maxLen; omega) (by simp [madeCells])
    show World.ownsRow _ _ _ _ _ _ _
    simpa [states, thatOf] using h1
  case round =>
    obtain ⟨k, hk, rfl, HO, HTr⟩ := hrel
    by_cases hlt : k < ts.length
    · obtain ⟨t, ht⟩ : ∃ t, ts[k]? = some t := ⟨_, List.getElem?_eq_getElem hlt⟩
      obtain ⟨g, rfl, hg⟩ := HR.out k t ht
      have hgr : wr.cell? ⟨g, k, none⟩ = some (.pointer (some ⟨t.b, 0, none⟩)) := by rw [HTr.out.cell (block_lt hg) (by simp)]; exact hg
      have hst : wr.cell? ⟨t.b, 1, none⟩ = some (.int .i64 t.st) := by rw [HTr.out.cell (HH.out.ltb (List.mem_of_getElem? ht)) (by simp)]; exact HH.out.c1 (List.mem_of_getElem? ht)
      have HS := hide (states_take_succ ts k t ht)
      have HL := hide (states_take_length ts k hk)
      have hsz := HTr.out.size
      have hll := thatOf_length s (states (ts.take k)) 0
      rw [HL.out] at hll
      clear hg ht
      by_cases he : t.st = s
      · have e1 : wrap64 ((k : Int) + 1) = (k : Int) + 1 := by unfold wrap64; omega
        go_wp2_with (at_builtin; (refine wpList_append_own _ rfl _ _ 28 rfl w.heap.size 3 i0 (.int .i64 0) 1 8 Try.underlying28 hi hz0 hz1 hz2 rfl (by decide) _ _ _ rfl (HO.out.alloc _) ⟨wr.heap.size, 0, none⟩ 1 1 [.int .i64 ((k : Int) + 1)] rfl rfl (cell_one_new _ _ _) (fun x hx => by simp at hx; subst hx; rfl) (by unfold maxLen; omega) (by omega) (by simp; omega) ?_); intro v' w3 hown' hgrow3 hnil3)
        have HT3 := hide ((HTr.out.alloc _).grown hgrow3 (fun j hj => .inr (ownsRow_lt HO.out j hj).1))
        have HO3 := hide hown'
        clear hown' hgrow3 hnil3
        go_roundw
        case rel =>
          refine ⟨k + 1, by omega, by go_num, ?_, HT3⟩
          show World.ownsRow _ _ _ _ _ _ _
          rw [HS.out, thatOf_snoc, HL.out, if_pos he, List.map_append, List.length_append]
          simpa using HO3.out
        case measure => simp [intOf]; omega
      · go_wp2_with fail
        go_roundw
        case rel =>
          refine ⟨k + 1, by omega, by go_num, ?_, HTr⟩
          show World.ownsRow _ _ _ _ _ _ _
          rw [HS.out, thatOf_snoc, if_neg he, List.append_nil]
          exact HO.out
        case measure => simp [intOf]; omega
    · have he : k = ts.length := by omega
      subst he
      go_wp2_with fail
      go_ret
      refine ⟨_, rfl, ?_, HTr.out⟩
      have h2 := HO.out
      rw [List.take_length] at h2
      exact h2

theorem that_nil (s : Int) (w : World) :
    Calls Try.prog 37 #[.pointer none, .int .i64 s] w fun e w' => e = .returned (.slice none 0 0) ∧ w' = w := by
  go_enter Try.func37, Try.ntmps37
  go_wp2
  go_ret
  exact ⟨rfl, rfl⟩

theorem ready_any (B : Nat) (w : World) (p : Nat) (F : List Nat) (ts : List Task) (h : Trn B w p F ts) :
    Calls Try.prog 24 #[.pointer (some ⟨p, 0, none⟩)] w fun e w' =>
      ∃ v, e = .returned v ∧ w'.ownsRow w.heap.size 3 1 v (readyOf ts).length ((readyOf ts).map (Value.int .i64)) ∧ Turned [] w w' := by
  have HT := hide (that_any B w p F ts 0 h)
  clear h
  go_enter Try.func24, Try.ntmps24
  go_wp2_with fail
  refine HT.out.mono ?_
  rintro e w1 ⟨v, rfl, h1, h2⟩
  go_wp2_with fail
  go_ret
  exact ⟨_, rfl, h1, h2⟩

theorem ready_nil (w : World) :
    Calls Try.prog 24 #[.pointer none] w fun e w' => e = .returned (.slice none 0 0) ∧ w' = w := by
  have HT := hide (that_nil 0 w)
  go_enter Try.func24, Try.ntmps24
  go_wp2_with fail
  refine HT.out.mono ?_
  rintro e w1 ⟨rfl, rfl⟩
  go_wp2_with fail
  go_ret
  exact ⟨rfl, rfl⟩
end Go.Proofs.Ytopoklciglgkbaa
