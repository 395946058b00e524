/-
  The document's State, Poll, Hold and Free.
-/
import Derived.Test.YtclfeafmlngpnaaSafeRef
namespace Go.Proofs.Ytclfeafmlngpnaa
open Go.RowKit Go.Maps
set_option linter.unusedVariables false

/-- The cell of a thread's state. -/
theorem Rf.at {w : World} {B r : Nat} {v u : Value} {L : Th} {ar : Bool} (h : Rf w B r v u L ar) {x : Int} (hx : st L x ≠ 0) : ∃ g d, u = .slice (some ⟨g, 0, none⟩) L.length d ∧ w.cell? ⟨g, pos L x, none⟩ = some (.int .i64 (st L x)) ∧ w.frozen? ⟨g, pos L x, none⟩ = false ∧ (pos L x : Int) < (L.length : Int) := by
  have hl := pos_lt hx
  obtain ⟨g, cap, e1, _, _, _, hc, hf, _⟩ := ownsRow_open h.ru (by rw [snds_length]; omega)
  rw [snds_length] at e1
  exact ⟨g, cap, e1, hc _ _ (by simp [snds, pos_some hx]), hf _, by omega⟩
theorem findI_pos {L : Th} {x : Int} (h : st L x ≠ 0) : findI L x = (pos L x : Int) := if_neg h
theorem findI_neg {L : Th} {x : Int} (h : st L x = 0) : findI L x = -1 := if_pos h

theorem rstate_any (w : World) (B r : Nat) (v u : Value) (L : Th) (ar : Bool) (x : Int) (h : Rf w B r v u L ar) :
    Calls Try.prog 27 #[ptr r, .int .i64 x] w fun e w' => e = .returned (.int .i64 (st L x)) ∧ w' = w := by
  have HF := hide (find_any w B r v u L ar x h)
  have hc1 := h.c1
  by_cases h0 : st L x = 0
  · rw [findI_neg h0] at HF
    rw [h0]
    clear h
    unfold ptr at HF ⊢
    go_enter Try.func27, Try.ntmps27
    go_wp2_with fail
    refine HF.out.mono ?_
    rintro e w1 ⟨rfl, hw⟩
    rw [hw]
    clear hw w1
    go_wp2_with fail
    go_ret
    exact ⟨rfl, rfl⟩
  · obtain ⟨g, d, rfl, hc, hf, hl⟩ := h.at h0
    rw [findI_pos h0] at HF
    clear h h0
    generalize pos L x = k at *
    generalize st L x = s at *
    unfold ptr at HF ⊢
    go_enter Try.func27, Try.ntmps27
    go_wp2_with fail
    refine HF.out.mono ?_
    rintro e w1 ⟨rfl, hw⟩
    rw [hw]
    clear hw w1
    go_wp2_with fail
    go_ret
    exact ⟨rfl, rfl⟩

theorem rpoll_any (w : World) (B r : Nat) (v u : Value) (L : Th) (ar : Bool) (x : Int) (h : Rf w B r v u L ar) :
    Calls Try.prog 23 #[ptr r, .int .i64 x] w fun e w' => e = .returned (.bool (polls L ar x)) ∧ Rf w' B r v u (pollL L ar x) ar ∧ Turned (tb r v u) w w' := by
  have HF := hide (find_any w B r v u L ar x h)
  have hc1 := h.c1
  have hc2 := h.c2
  have HS := hide h
  by_cases h0 : st L x = 0
  · rw [findI_neg h0] at HF
    have HP := hide (show polls L ar x = false by simp [polls, h0])
    have HQ := hide (show pollL L ar x = L by simp [pollL, polls, h0])
    clear h h0
    unfold ptr at HF ⊢
    go_enter Try.func23, Try.ntmps23
    go_wp2_with fail
    refine HF.out.mono ?_
    rintro e w1 ⟨rfl, hw⟩
    rw [hw]
    clear hw w1
    go_wp2_with fail
    go_ret
    exact ⟨by rw [HP.out]; rfl, by rw [HQ.out]; exact HS.out, Turned.refl _ _⟩
  · obtain ⟨g, d, rfl, hc, hf, hl⟩ := h.at h0
    rw [findI_pos h0] at HF
    by_cases h1 : st L x = 1
    · cases ar
      · have HP := hide (show polls L false x = false by simp [polls])
        have HQ := hide (show pollL L false x = L by simp [pollL, polls])
        rw [h1] at hc
        clear h h0 h1
        generalize pos L x = k at *
        unfold ptr at HF ⊢
        go_enter Try.func23, Try.ntmps23
        go_wp2_with fail
        refine HF.out.mono ?_
        rintro e w1 ⟨rfl, hw⟩
        rw [hw]
        clear hw w1
        go_wp2_with fail
        go_ret
        exact ⟨by rw [HP.out]; rfl, by rw [HQ.out]; exact HS.out, Turned.refl _ _⟩
      · have HP := hide (show polls L true x = true by simp [polls, h1])
        have HQ := hide (show pollL L true x = upd x 2 L by simp [pollL, polls, h1])
        have HS2 := hide (h.set h0 (s := 2) (by omega))
        rw [h1] at hc
        clear h h0 h1
        generalize pos L x = k at *
        unfold ptr at HF ⊢
        go_enter Try.func23, Try.ntmps23
        go_wp2_with fail
        refine HF.out.mono ?_
        rintro e w1 ⟨rfl, hw⟩
        rw [hw]
        clear hw w1
        go_wp2_with fail
        go_ret
        exact ⟨by rw [HP.out]; rfl, by rw [HQ.out]; exact HS2.out, tset⟩
    · have HP := hide (show polls L ar x = false by simp [polls, h1])
      have HQ := hide (show pollL L ar x = L by simp [pollL, polls, h1])
      have b1 : (st L x == 1) = false := by simp [h1]
      clear h h0
      generalize pos L x = k at *
      generalize st L x = s at *
      unfold ptr at HF ⊢
      go_enter Try.func23, Try.ntmps23
      go_wp2_with fail
      refine HF.out.mono ?_
      rintro e w1 ⟨rfl, hw⟩
      rw [hw]
      clear hw w1
      go_wp2_with fail
      go_ret
      exact ⟨by rw [HP.out]; rfl, by rw [HQ.out]; exact HS.out, Turned.refl _ _⟩

theorem rhold_any (w : World) (B r : Nat) (v u : Value) (L : Th) (ar : Bool) (x : Int) (h : Rf w B r v u L ar) :
    Calls Try.prog 15 #[ptr r, .int .i64 x] w fun e w' => e = .returned (.int .i64 (mustE (st L x) 1)) ∧ Rf w' B r v u (holdL L x) ar ∧ Turned (tb r v u) w w' := by
  have HF := hide (find_any w B r v u L ar x h)
  have hc1 := h.c1
  have HS := hide h
  by_cases h0 : st L x = 0
  · rw [findI_neg h0] at HF
    have HP := hide (show mustE (st L x) 1 = 17 by simp [mustE, h0])
    have HQ := hide (show holdL L x = L by simp [holdL, h0])
    clear h h0
    unfold ptr at HF ⊢
    go_enter Try.func15, Try.ntmps15
    go_wp2_with fail
    refine HF.out.mono ?_
    rintro e w1 ⟨rfl, hw⟩
    rw [hw]
    clear hw w1
    go_wp2_with fail
    go_ret
    exact ⟨by rw [HP.out]; rfl, by rw [HQ.out]; exact HS.out, Turned.refl _ _⟩
  · obtain ⟨g, d, rfl, hc, hf, hl⟩ := h.at h0
    rw [findI_pos h0] at HF
    by_cases h1 : st L x = 1
    · have HP := hide (show mustE (st L x) 1 = 0 by simp [mustE, h1])
      have HQ := hide (show holdL L x = upd x 3 L by simp [holdL, h1])
      have HS2 := hide (h.set h0 (s := 3) (by omega))
      rw [h1] at hc
      clear h h0 h1
      generalize pos L x = k at *
      unfold ptr at HF ⊢
      go_enter Try.func15, Try.ntmps15
      go_wp2_with fail
      refine HF.out.mono ?_
      rintro e w1 ⟨rfl, hw⟩
      rw [hw]
      clear hw w1
      go_wp2_with fail
      go_ret
      exact ⟨by rw [HP.out]; rfl, by rw [HQ.out]; exact HS2.out, tset⟩
    · have HP := hide (show mustE (st L x) 1 = 16 by simp [mustE, h1, h0])
      have HQ := hide (show holdL L x = L by simp [holdL, h1])
      have b1 : (st L x == 1) = false := by simp [h1]
      clear h h0
      generalize pos L x = k at *
      generalize st L x = s at *
      unfold ptr at HF ⊢
      go_enter Try.func15, Try.ntmps15
      go_wp2_with fail
      refine HF.out.mono ?_
      rintro e w1 ⟨rfl, hw⟩
      rw [hw]
      clear hw w1
      go_wp2_with fail
      go_ret
      exact ⟨by rw [HP.out]; rfl, by rw [HQ.out]; exact HS.out, Turned.refl _ _⟩

theorem upd_upd {L : Th} (hL : Ok L) {x s t : Int} (h : st L x ≠ 0) (hs : 1 ≤ s ∧ s ≤ 3) (ht : 1 ≤ t ∧ t ≤ 3) : upd x t (upd x s L) = upd x t L := by
  refine Ok.ext ((hL.upd x hs).upd x ht) (hL.upd x ht) fun y => ?_
  rw [st_upd (by rw [st_upd h, if_pos rfl]; omega), st_upd h, st_upd h]
  split <;> rfl
theorem upd_st {L : Th} {x s : Int} (h : st L x ≠ 0) : pos (upd x s L) x = pos L x := by
  induction L with
  | nil => rfl
  | cons p L ih =>
    unfold st at h
    unfold upd
    rw [List.map_cons]
    unfold pos
    by_cases hp : p.1 = x
    · rw [if_pos hp, if_pos rfl, if_pos hp]
    · rw [if_neg hp] at h
      rw [if_neg hp, if_neg hp, if_neg hp]
      have := ih h
      unfold upd at this
      rw [this]

theorem rfree_any (w : World) (B r : Nat) (v u : Value) (L : Th) (ar : Bool) (x : Int) (h : Rf w B r v u L ar) :
    Calls Try.prog 17 #[ptr r, .int .i64 x] w fun e w' => e = .returned (.tuple #[.bool (decide (st L x = 3) && !ar), .int .i64 (mustE (st L x) 3)]) ∧ Rf w' B r v u (freeL L ar x) ar ∧ Turned (tb r v u) w w' := by
  have HF := hide (find_any w B r v u L ar x h)
  have hc1 := h.c1
  have HS := hide h
  by_cases h0 : st L x = 0
  · rw [findI_neg h0] at HF
    have HP := hide (show mustE (st L x) 3 = 17 by simp [mustE, h0])
    have HD := hide (show (decide (st L x = 3) && !ar) = false by simp [h0])
    have HQ := hide (show freeL L ar x = L by simp [freeL, h0])
    clear h h0
    unfold ptr at HF ⊢
    go_enter Try.func17, Try.ntmps17
    go_wp2_with fail
    refine HF.out.mono ?_
    rintro e w1 ⟨rfl, hw⟩
    rw [hw]
    clear hw w1
    go_wp2_with fail
    go_ret2
    exact ⟨by rw [HP.out, HD.out]; rfl, by rw [HQ.out]; exact HS.out, Turned.refl _ _⟩
  · obtain ⟨g, d, rfl, hc, hf, hl⟩ := h.at h0
    rw [findI_pos h0] at HF
    by_cases h1 : st L x = 3
    · have HP := hide (show mustE (st L x) 3 = 0 by simp [mustE, h1])
      have HD := hide (show (decide (st L x = 3) && !ar) = !ar by simp [h1])
      have HQ := hide (show freeL L ar x = upd x (come ar) L by simp [freeL, h1])
      have hS2 := h.set h0 (s := 1) (by omega)
      have hd1 := hS2.c1
      have hd2 := hS2.c2
      have hff : (w.setCell ⟨g, pos L x, none⟩ (.int .i64 1)).frozen? ⟨g, pos L x, none⟩ = false := by rw [World.frozen?_setCell]; exact hf
      have hcc : (w.setCell ⟨g, pos L x, none⟩ (.int .i64 1)).cell? ⟨g, pos L x, none⟩ = some (.int .i64 1) := by
        have e := (hS2.at (x := x) (by rw [st_upd h0, if_pos rfl]; omega))
        obtain ⟨g2, d2, e1, e2, _⟩ := e
        obtain rfl : g2 = g := by have e3 := congrArg Value.ownBlock e1; simpa [Value.ownBlock] using e3.symm
        rw [upd_st h0, st_upd h0, if_pos rfl] at e2
        exact e2
      have HS2 := hide hS2
      have HS3 : Hid (Rf ((w.setCell ⟨g, pos L x, none⟩ (.int .i64 1)).setCell ⟨g, pos L x, none⟩ (.int .i64 2)) B r v (.slice (some ⟨g, 0, none⟩) L.length d) (upd x 2 L) ar) := by
        have e := hS2.set (x := x) (s := 2) (by rw [st_upd h0, if_pos rfl]; omega) (by omega)
        rw [upd_st h0, upd_upd h.ok h0 (by omega) (by omega)] at e
        exact e
      have hds := (HS3.out).c2
      rw [h1] at hc
      clear h h0 h1 hS2
      generalize pos L x = k at *
      unfold ptr at HF ⊢
      cases ar
      · go_enter Try.func17, Try.ntmps17
        go_wp2_with fail
        refine HF.out.mono ?_
        rintro e w1 ⟨rfl, hw⟩
        rw [hw]
        clear hw w1
        go_wp2_with fail
        go_ret2
        exact ⟨by rw [HP.out, HD.out]; rfl, by rw [HQ.out]; exact HS2.out, tset⟩
      · go_enter Try.func17, Try.ntmps17
        go_wp2_with fail
        refine HF.out.mono ?_
        rintro e w1 ⟨rfl, hw⟩
        rw [hw]
        clear hw w1
        go_upto_region 8 with fail
        have HTs : Hid (Turned (tb r v (.slice (some ⟨g, 0, none⟩) L.length d)) w (w.setCell ⟨g, k, none⟩ (.int .i64 1))) := tset
        generalize w.setCell ⟨g, k, none⟩ (.int .i64 1) = w2 at *
        go_wp2_with fail
        go_ret2
        exact ⟨by rw [HP.out, HD.out]; rfl, by rw [HQ.out]; exact HS3.out, HTs.out.trans tset⟩
    · have HP := hide (show mustE (st L x) 3 = 16 by simp [mustE, h1, h0])
      have HD := hide (show (decide (st L x = 3) && !ar) = false by simp [h1])
      have HQ := hide (show freeL L ar x = L by simp [freeL, h1])
      have b1 : (st L x == 3) = false := by simp [h1]
      clear h h0
      generalize pos L x = k at *
      generalize st L x = s at *
      unfold ptr at HF ⊢
      go_enter Try.func17, Try.ntmps17
      go_wp2_with fail
      refine HF.out.mono ?_
      rintro e w1 ⟨rfl, hw⟩
      rw [hw]
      clear hw w1
      go_wp2_with fail
      go_ret2
      exact ⟨by rw [HP.out, HD.out]; rfl, by rw [HQ.out]; exact HS.out, Turned.refl _ _⟩
end Go.Proofs.Ytclfeafmlngpnaa
