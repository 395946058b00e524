/-
  Free; what a store into the map of a thread that is there leaves.
-/
import Derived.Test.YtclfeafmlngpnaaSafeWalks
import Derived.Deep.QuietTactic
import Derived.BigQuiet
namespace Go.Proofs.Ytclfeafmlngpnaa
open Go.RowKit Go.Maps
set_option linter.unusedVariables false
def freeL (L : Th) (ar : Bool) (x : Int) : Th := if st L x = 3 then upd x (come ar) L else L
theorem Sf.drewN {w : World} {a : Nat} {mo : Option Nat} {L : Th} {ar : Bool} (h : Sf w a mo L ar) (n : Nat) : Sf (w.drewN n) a mo L ar := h.keep rfl (fun _ _ => rfl)
theorem Turned.drewN {S : List Nat} {a w : World} (h : Turned S a w) (n : Nat) : Turned S a (w.drewN n) := h.trans ⟨rfl, rfl, rfl, Nat.le_refl _, fun _ _ _ => rfl⟩
theorem free_store {w : World} {a b : Nat} {L : Th} {ar : Bool} (h : Sf w a (some b) L ar) {x s : Int} (hx : In64 x) (hs : 1 ≤ s ∧ s ≤ 3) (h0 : st L x ≠ 0) (w1 : World) (hh : w1.heap = w.heap) (ht : Turned [] w w1) :
    ∃ w2, (Instr.mapUpdate 46 (.map (some b)) (.int .i64 x) (.int .i64 s)).run Try.prog w1 = .ok () w2 ∧ Sf w2 a (some b) (upd x s L) ar ∧ Turned (blks a (some b)) w w2 := by
  have h1 : Sf w1 a (some b) L ar := h.keep (by rw [hh]) (fun _ _ => by rw [hh])
  obtain ⟨w2, hrun, hm2, ht2⟩ := (h1.map b rfl).update (by have := h1.few; unfold maxLen; omega) hx hs (st_upd h0 s) (h1.ok.upd x hs)
  refine ⟨w2, hrun, h1.store hm2 ht2 (h1.ok.upd x hs) (by rw [upd_length]; exact h1.few), (ht.mono (by simp)).trans (ht2.mono (fun k hk => ?_))⟩
  simp at hk
  subst hk
  exact mem_own.2 (.inr rfl)
theorem free_any (w : World) (a : Nat) (mo : Option Nat) (L : Th) (ar : Bool) (x : Int) (h : Sf w a mo L ar) (hx : In64 x) :
    Calls Try.prog 16 #[ptr a, .int .i64 x] w fun e w' => e = .returned (.tuple #[.bool (decide (st L x = 3) && !ar), .int .i64 (mustE (st L x) 3)]) ∧ Sf w' a mo (freeL L ar x) ar ∧ Turned (blks a mo) w w' := by
  have HS := hide h
  have HC := hide (must_at w (ptr a) x 3 _ (state_any w a mo L ar x h hx))
  have HCo := hide (fun w' (hh : w'.heap = w.heap) => comes_any w' a mo L ar (h.keep (by rw [hh]) (fun _ _ => by rw [hh])))
  have hcd : w.drew.cell? ⟨a, 0, none⟩ = some (.map mo) := h.c0
  have hc0 := h.c0
  clear h
  unfold ptr at HC HCo ⊢
  by_cases h1 : st L x = 3
  · obtain ⟨b, rfl⟩ := sf_some HS.out (x := x) (by omega)
    have h3 : st L x ≠ 0 := by omega
    rw [h1, show mustE 3 3 = 0 by decide] at HC
    rw [h1, show mustE 3 3 = 0 by decide]
    go_enter Try.func16, Try.ntmps16
    go_wp2_with fail
    refine HC.out.mono ?_
    rintro e w1 ⟨rfl, hw⟩
    rw [hw]
    clear hw w1
    go_wp2_with fail
    go_region_held3 (fun w' => w'.cell? ⟨a, 0, none⟩ = some (.map (some b))) (go_keep)
      (first
        | (go_at_call 34; refine (HCo.out w.drew rfl).mono ?_; rintro e w1 ⟨rfl, hw⟩; obtain ⟨w2, hrun, hs2, ht2⟩ := free_store HS.out hx (come_ok ar) h3 w1 (by rw [hw]; rfl) (by rw [hw]; exact (Turned.refl [] w).drew); have hcw := hw ▸ hcd; have hc2 := hs2.c0; have hd2 := hs2.c1; have HS2 := hide hs2; have HT2 := hide ht2; clear hw hs2 ht2))
    go_wp2_with fail
    go_ret2
    refine ⟨by simp, ?_, HT2.out⟩
    rw [show freeL L ar x = upd x (come ar) L by simp [freeL, h1]]
    exact HS2.out
  · have hne : mustE (st L x) 3 ≠ 0 := by unfold mustE; rw [if_neg h1]; split <;> omega
    have HP := hide (show freeL L ar x = L by simp [freeL, h1])
    have HQ := hide (show (decide (st L x = 3) && !ar) = false by simp [h1])
    generalize mustE (st L x) 3 = t at *
    have b1 : (t == 0) = false := by simp [hne]
    go_enter Try.func16, Try.ntmps16
    go_wp2_with fail
    refine HC.out.mono ?_
    rintro e w1 ⟨rfl, hw⟩
    rw [hw]
    clear hw w1
    go_wp2_with fail
    go_ret2
    exact ⟨by rw [HQ.out]; rfl, by rw [HP.out]; exact HS.out, Turned.refl _ _⟩
end Go.Proofs.Ytclfeafmlngpnaa
