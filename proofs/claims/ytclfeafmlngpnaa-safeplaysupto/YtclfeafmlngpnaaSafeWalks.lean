/-
  The calls of package safe that ask or change one thread: whatever the object, nil or not.
-/
import Derived.Test.YtclfeafmlngpnaaSafeMap
import Derived.Deep.RegionHeld3
namespace Go.Proofs.Ytclfeafmlngpnaa
open Go.RowKit Go.Maps
set_option linter.unusedVariables false

def ptr (a : Nat) : Value := .pointer (some ⟨a, 0, none⟩)
/-- The object's own blocks. -/
def blks (a : Nat) (mo : Option Nat) : List Nat := a :: mo.toList
theorem mem_own {a : Nat} {mo : Option Nat} {k : Nat} : k ∈ blks a mo ↔ k = a ∨ mo = some k := by
  cases mo with
  | none => simp [blks]
  | some b =>
    simp only [blks, Option.toList_some, List.mem_cons, List.not_mem_nil, or_false, Option.some.injEq]
    exact ⟨fun h => h.imp id Eq.symm, fun h => h.imp id Eq.symm⟩

theorem new_any (w : World) : Calls Try.prog 9 #[] w fun e w' => e = .returned (ptr w.heap.size) ∧ Sf w' w.heap.size none [] false ∧ Turned [] w w' := by
  go_enter Try.func9, Try.ntmps9
  go_wp2
  go_ret
  exact ⟨rfl, ⟨heap_alloc_new _ _, Ok.nil, by simp, fun b hb => (by cases hb), fun _ => rfl⟩, (Turned.refl _ _).alloc _⟩

theorem state_any (w : World) (a : Nat) (mo : Option Nat) (L : Th) (ar : Bool) (x : Int) (h : Sf w a mo L ar) (hx : In64 x) :
    Calls Try.prog 26 #[ptr a, .int .i64 x] w fun e w' => e = .returned (.int .i64 (st L x)) ∧ w' = w := by
  have hc0 := h.c0
  have hlk : (Instr.lookup 46 (.map mo) (.int .i64 x) false).run Try.prog w = .ok (.int .i64 (st L x)) w := by
    cases mo with
    | none => rw [h.emp rfl]; exact look_none w hx
    | some b => exact (h.map b rfl).look h.ok hx
  clear h
  unfold ptr
  go_enter Try.func26, Try.ntmps26
  go_wp2
  go_ret
  exact ⟨rfl, rfl⟩
theorem state_nil (w : World) (x : Int) : Calls Try.prog 26 #[.pointer none, .int .i64 x] w fun e w' => e = .returned (.int .i64 0) ∧ w' = w := by
  go_enter Try.func26, Try.ntmps26
  go_wp2
  go_ret
  exact ⟨rfl, rfl⟩

theorem armed_any (w : World) (a : Nat) (mo : Option Nat) (L : Th) (ar : Bool) (h : Sf w a mo L ar) :
    Calls Try.prog 28 #[ptr a] w fun e w' => e = .returned (.bool ar) ∧ w' = w := by
  have hc1 := h.c1
  clear h
  unfold ptr
  go_enter Try.func28, Try.ntmps28
  go_wp2
  go_ret
  exact ⟨rfl, rfl⟩
theorem armed_nil (w : World) : Calls Try.prog 28 #[.pointer none] w fun e w' => e = .returned (.bool false) ∧ w' = w := by
  go_enter Try.func28, Try.ntmps28
  go_wp2
  go_ret
  exact ⟨rfl, rfl⟩

/-- The state of who would run now. -/
def come (ar : Bool) : Int := if ar then 2 else 1
theorem come_ok (ar : Bool) : 1 ≤ come ar ∧ come ar ≤ 3 := by cases ar <;> simp [come]
theorem comes_any (w : World) (a : Nat) (mo : Option Nat) (L : Th) (ar : Bool) (h : Sf w a mo L ar) :
    Calls Try.prog 34 #[ptr a] w fun e w' => e = .returned (.int .i64 (come ar)) ∧ w' = w := by
  have hc1 := h.c1
  clear h
  unfold ptr
  cases ar <;> simp only [come]
  · go_enter Try.func34, Try.ntmps34
    go_wp2
    go_ret
    exact ⟨rfl, rfl⟩
  · go_enter Try.func34, Try.ntmps34
    go_wp2
    go_ret
    exact ⟨rfl, rfl⟩

/-- What 'must' tells of a thread's state. -/
def mustE (t s : Int) : Int := if t = 0 then 17 else if t = s then 0 else 16
theorem must_at (w : World) (v : Value) (x s t : Int) (hC : Calls Try.prog 26 #[v, .int .i64 x] w fun e w' => e = .returned (.int .i64 t) ∧ w' = w) :
    Calls Try.prog 36 #[v, .int .i64 x, .int .i64 s] w fun e w' => e = .returned (.int .i64 (mustE t s)) ∧ w' = w := by
  have HC := hide hC
  clear hC
  unfold mustE
  by_cases h0 : t = 0
  · rw [if_pos h0]
    go_enter Try.func36, Try.ntmps36
    go_wp2_with fail
    refine HC.out.mono ?_
    rintro e w1 ⟨rfl, hw⟩
    rw [hw]
    clear hw w1
    go_wp2
    go_ret
    exact ⟨rfl, rfl⟩
  · rw [if_neg h0]
    by_cases h1 : t = s
    · rw [if_pos h1]
      have b0 : (t == 0) = false := by simp [h0]
      have b1 : (t == s) = true := by simp [h1]
      go_enter Try.func36, Try.ntmps36
      go_wp2_with fail
      refine HC.out.mono ?_
      rintro e w1 ⟨rfl, hw⟩
      rw [hw]
      clear hw w1
      go_wp2
      go_ret
      exact ⟨rfl, rfl⟩
    · rw [if_neg h1]
      have b0 : (t == 0) = false := by simp [h0]
      have b1 : (t == s) = false := by simp [h1]
      go_enter Try.func36, Try.ntmps36
      go_wp2_with fail
      refine HC.out.mono ?_
      rintro e w1 ⟨rfl, hw⟩
      rw [hw]
      clear hw w1
      go_wp2
      go_ret
      exact ⟨rfl, rfl⟩

theorem arm_any (w : World) (a : Nat) (mo : Option Nat) (L : Th) (ar : Bool) (h : Sf w a mo L ar) :
    Calls Try.prog 18 #[ptr a] w fun e w' => e = .returned (.bool (!ar)) ∧ Sf w' a mo L true ∧ Turned (blks a mo) w w' := by
  have hc1 := h.c1
  have hf1 := h.fr 1
  have HS := hide h
  clear h
  unfold ptr
  cases ar
  · have HS2 := hide (HS.out.setArmed true)
    have HT := hide ((Turned.refl (blks a mo) w).setCell (p := ⟨a, 1, none⟩) (.inl (mem_own.2 (.inl rfl))) (.bool true))
    go_enter Try.func18, Try.ntmps18
    go_wp2
    go_ret
    exact ⟨rfl, HS2.out, HT.out⟩
  · go_enter Try.func18, Try.ntmps18
    go_wp2
    go_ret
    exact ⟨rfl, HS.out, Turned.refl _ _⟩
theorem arm_nil (w : World) : Calls Try.prog 18 #[.pointer none] w fun e w' => e = .returned (.bool false) ∧ w' = w := by
  go_enter Try.func18, Try.ntmps18
  go_wp2
  go_ret
  exact ⟨rfl, rfl⟩

/-- Where a thread is there, there is a map. -/
theorem sf_some {w : World} {a : Nat} {mo : Option Nat} {L : Th} {ar : Bool} (h : Sf w a mo L ar) {x : Int} (hx : st L x ≠ 0) : ∃ b, mo = some b := by
  cases mo with
  | none => rw [h.emp rfl] at hx; exact absurd rfl hx
  | some b => exact ⟨b, rfl⟩

/-- Does it poll? -/
def polls (L : Th) (ar : Bool) (x : Int) : Bool := ar && decide (st L x = 1)
def pollL (L : Th) (ar : Bool) (x : Int) : Th := if polls L ar x then upd x 2 L else L
theorem poll_any (w : World) (a : Nat) (mo : Option Nat) (L : Th) (ar : Bool) (x : Int) (h : Sf w a mo L ar) (hx : In64 x) :
    Calls Try.prog 22 #[ptr a, .int .i64 x] w fun e w' => e = .returned (.bool (polls L ar x)) ∧ Sf w' a mo (pollL L ar x) ar ∧ Turned (blks a mo) w w' := by
  have HS := hide h
  have HA := hide (armed_any w a mo L ar h)
  have HC := hide (state_any w a mo L ar x h hx)
  have hc0 := h.c0
  clear h
  unfold ptr at HA HC ⊢
  cases ar
  · go_enter Try.func22, Try.ntmps22
    go_wp2_with fail
    refine HA.out.mono ?_
    rintro e w1 ⟨rfl, hw⟩
    rw [hw]
    clear hw w1
    go_wp2_with fail
    go_ret
    exact ⟨by simp [polls], by simp only [pollL, polls, Bool.false_and]; exact HS.out, Turned.refl _ _⟩
  · by_cases h1 : st L x = 1
    · obtain ⟨b, rfl⟩ := sf_some HS.out (x := x) (by omega)
      have HM := hide (HS.out.map b rfl)
      have HU := hide (show ∀ y, st (upd x 2 L) y = if y = x then 2 else st L y from st_upd (by omega) 2)
      have HO := hide (HS.out.ok.upd x (s := 2) (by omega))
      have HF := hide (show L.length < maxLen by have := HS.out.few; unfold maxLen; omega)
      rw [h1] at HC
      go_enter Try.func22, Try.ntmps22
      go_wp2_with fail
      refine HA.out.mono ?_
      rintro e w1 ⟨rfl, hw⟩
      rw [hw]
      clear hw w1
      go_wp2_with fail
      refine HC.out.mono ?_
      rintro e w1 ⟨rfl, hw⟩
      rw [hw]
      clear hw w1
      go_wp2_with (at_mapUpdate; refine wpList_tm_store _ rfl _ _ _ rfl b L (upd x 2 L) rfl HM.out HF.out x 2 rfl hx rfl (by omega) HU.out HO.out ?_; intro w2 hm2 ht2; have HM2 := hide hm2; have HT2 := hide ht2; clear hm2 ht2)
      go_ret
      refine ⟨by simp [polls, h1], ?_, HT2.out.mono (fun k hk => by simp at hk; subst hk; exact mem_own.2 (.inr rfl))⟩
      rw [show pollL L true x = upd x 2 L by simp [pollL, polls, h1]]
      exact HS.out.store HM2.out HT2.out HO.out (by rw [upd_length]; exact HS.out.few)
    · have b1 : (st L x == 1) = false := by simp [h1]
      have HP := hide (show polls L true x = false by simp [polls, h1])
      generalize st L x = t at *
      go_enter Try.func22, Try.ntmps22
      go_wp2_with fail
      refine HA.out.mono ?_
      rintro e w1 ⟨rfl, hw⟩
      rw [hw]
      clear hw w1
      go_wp2_with fail
      refine HC.out.mono ?_
      rintro e w1 ⟨rfl, hw⟩
      rw [hw]
      clear hw w1
      go_wp2_with fail
      go_ret
      exact ⟨by rw [HP.out]; rfl, by unfold pollL; rw [HP.out]; exact HS.out, Turned.refl _ _⟩

def holdL (L : Th) (x : Int) : Th := if st L x = 1 then upd x 3 L else L
theorem hold_any (w : World) (a : Nat) (mo : Option Nat) (L : Th) (ar : Bool) (x : Int) (h : Sf w a mo L ar) (hx : In64 x) :
    Calls Try.prog 14 #[ptr a, .int .i64 x] w fun e w' => e = .returned (.int .i64 (mustE (st L x) 1)) ∧ Sf w' a mo (holdL L x) ar ∧ Turned (blks a mo) w w' := by
  have HS := hide h
  have HC := hide (must_at w (ptr a) x 1 _ (state_any w a mo L ar x h hx))
  have hc0 := h.c0
  clear h
  unfold ptr at HC ⊢
  by_cases h1 : st L x = 1
  · obtain ⟨b, rfl⟩ := sf_some HS.out (x := x) (by omega)
    have HM := hide (HS.out.map b rfl)
    have HU := hide (show ∀ y, st (upd x 3 L) y = if y = x then 3 else st L y from st_upd (by omega) 3)
    have HO := hide (HS.out.ok.upd x (s := 3) (by omega))
    have HF := hide (show L.length < maxLen by have := HS.out.few; unfold maxLen; omega)
    rw [h1, show mustE 1 1 = 0 by decide] at HC
    rw [h1, show mustE 1 1 = 0 by decide]
    go_enter Try.func14, Try.ntmps14
    go_wp2_with fail
    refine HC.out.mono ?_
    rintro e w1 ⟨rfl, hw⟩
    rw [hw]
    clear hw w1
    go_wp2_with (at_mapUpdate; refine wpList_tm_store _ rfl _ _ _ rfl b L (upd x 3 L) rfl HM.out HF.out x 3 rfl hx rfl (by omega) HU.out HO.out ?_; intro w2 hm2 ht2; have HM2 := hide hm2; have HT2 := hide ht2; clear hm2 ht2)
    go_ret
    refine ⟨rfl, ?_, HT2.out.mono (fun k hk => by simp at hk; subst hk; exact mem_own.2 (.inr rfl))⟩
    rw [show holdL L x = upd x 3 L by simp [holdL, h1]]
    exact HS.out.store HM2.out HT2.out HO.out (by rw [upd_length]; exact HS.out.few)
  · have hne : mustE (st L x) 1 ≠ 0 := by unfold mustE; rw [if_neg h1]; split <;> omega
    have HP := hide (show holdL L x = L by simp [holdL, h1])
    generalize mustE (st L x) 1 = t at *
    have b1 : (t == 0) = false := by simp [hne]
    go_enter Try.func14, Try.ntmps14
    go_wp2_with fail
    refine HC.out.mono ?_
    rintro e w1 ⟨rfl, hw⟩
    rw [hw]
    clear hw w1
    go_wp2_with fail
    go_ret
    exact ⟨rfl, by rw [HP.out]; exact HS.out, Turned.refl _ _⟩
end Go.Proofs.Ytclfeafmlngpnaa
