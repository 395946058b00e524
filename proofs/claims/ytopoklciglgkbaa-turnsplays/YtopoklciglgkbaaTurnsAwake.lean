/-
  The chapter's own examples ('awake' of the statements' package): what the document fixes is told, and nothing that was there has turned.
-/
import Derived.Test.YtopoklciglgkbaaTurnsMore
namespace Go.Proofs.Ytopoklciglgkbaa
open Go.RowKit
set_option linter.unusedVariables false

/-- A told task of the examples. -/
def tk (B b x r : Nat) (s n : Int) : Task := ⟨b, toldFv x, [x], x :: rowA (some ⟨r, 0, none⟩) [0, 1, 2], ToldD B x (some ⟨r, 0, none⟩) 3 3 [0, 1, 2], fun n => tellOf [0, 1, 2] n.toNat, s, n⟩

theorem rowA_tk (r : Nat) : rowA (some ⟨r, 0, none⟩) [0, 1, 2] = [r] := rfl

theorem told_data {B : Nat} {w : World} {x r : Nat} (hxr : r ≠ x) (hx : w.heap[x]? = some (.cells #[.slice (some ⟨r, 0, none⟩) 3 3, .int .i64 0] 37)) (hr : w.heap[r]? = some (.cells #[.int .i64 0, .int .i64 1, .int .i64 2] 3)) :
    ToldD B x (some ⟨r, 0, none⟩) 3 3 [0, 1, 2] w 0 := by
  refine ⟨hx, ⟨rfl, fun i y hy => ⟨r, 0, rfl, by simp [hxr], ?_⟩⟩, fun k hk => ?_⟩
  · rw [cell_of_heap hr, Nat.zero_add]
    match i, hy with
    | 0, hy => simp at hy; subst hy; rfl
    | 1, hy => simp at hy; subst hy; rfl
    | 2, hy => simp at hy; subst hy; rfl
    | i + 3, hy => simp at hy
  · rw [rowA_tk] at hk
    simp at hk
    subst hk
    exact .inr ⟨_, _, hr⟩

theorem lim_two {t u : Task} {N : Int} (h1 : 0 ≤ t.n ∧ t.n ≤ N) (h2 : 0 ≤ u.n ∧ u.n ≤ N) : Lim N [t, u] := by
  intro v hv
  simp at hv
  rcases hv with rfl | rfl
  · exact h1
  · exact h2

theorem heap_alloc_at {w : World} {o : Obj} {k : Nat} (h : w.heap.size = k) : (w.alloc o).heap[k]? = some o := by subst h; exact heap_alloc_new w o

def fourBlocks (w : World) (B : Nat) : World :=
  (((w.alloc (.cells #[.int .i64 0, .int .i64 1, .int .i64 2] 3)).alloc (.cells #[.slice (some ⟨B + 1, 0, none⟩) 3 3, .int .i64 0] 37)).alloc (.cells #[.int .i64 0, .int .i64 1, .int .i64 2] 3)).alloc (.cells #[.slice (some ⟨B + 1 + 1 + 1, 0, none⟩) 3 3, .int .i64 0] 37)

theorem four_facts {B : Nat} {w : World} (h : Tur B w B [B] []) (hz : w.heap.size = B + 1) :
    Tur B (fourBlocks w B) B [B + 1 + 1 + 1 + 1, B + 1 + 1 + 1, B + 1 + 1, B + 1, B] [] ∧ Turned [] w (fourBlocks w B) ∧ ToldD B (B + 1 + 1) (some ⟨B + 1, 0, none⟩) 3 3 [0, 1, 2] (fourBlocks w B) 0 ∧ ToldD B (B + 1 + 1 + 1 + 1) (some ⟨B + 1 + 1 + 1, 0, none⟩) 3 3 [0, 1, 2] (fourBlocks w B) 0 ∧ (fourBlocks w B).heap.size = B + 5 := by
  have hT : Turned [] w (fourBlocks w B) := ((((Turned.refl _ _).alloc _).alloc _).alloc _).alloc _
  have hs : (fourBlocks w B).heap.size = B + 5 := by simp [fourBlocks, hz]
  refine ⟨?_, hT, told_data (by omega) ?_ ?_, told_data (by omega) ?_ ?_, hs⟩
  · refine ((((h.same hT).more ?_).more ?_).more ?_).more ?_ <;> (rw [hs]; omega)
  · unfold fourBlocks
    rw [Below.heap_alloc _ _ _ (by simp [hz]), Below.heap_alloc _ _ _ (by simp [hz]), heap_alloc_at (by simp [hz])]
  · unfold fourBlocks
    rw [Below.heap_alloc _ _ _ (by simp [hz]), Below.heap_alloc _ _ _ (by simp [hz]), Below.heap_alloc _ _ _ (by simp [hz]), heap_alloc_at (by simp [hz])]
  · unfold fourBlocks
    rw [heap_alloc_at (by simp [hz])]
  · unfold fourBlocks
    rw [Below.heap_alloc _ _ _ (by simp [hz]), heap_alloc_at (by simp [hz])]

theorem pair_rd {w : World} {F : List Nat} (hF : ∀ k, k ∈ F → k < w.heap.size) (a b : Int) : Rd (w.alloc (.cells #[.int .i64 a, .int .i64 b] 3)) F (some ⟨w.heap.size, 0, none⟩) 2 [a, b] := by
  refine ⟨rfl, fun i y hy => ⟨w.heap.size, 0, rfl, fun hk => by have := hF _ hk; omega, ?_⟩⟩
  rw [cell_of_heap (heap_alloc_new _ _), Nat.zero_add]
  match i, hy with
  | 0, hy => simp at hy; subst hy; rfl
  | 1, hy => simp at hy; subst hy; rfl
  | i + 2, hy => simp at hy

set_option maxRecDepth 100000 in
set_option maxHeartbeats 4000000 in
theorem awake_true (w : World) :
    Calls Try.prog 9 #[] w fun e w' => e = .returned (.bool true) ∧ Turned [] w w' := by
  have HN := hide (new_tur w.heap.size w (Nat.le_refl _))
  have hmf : ∀ (fn : Fn) (first cap : Array Value) (w : World), (Instr.makeFunc fn first cap).run Try.prog w = .ok (.func fn first cap) w := fun _ _ _ _ => rfl
  have hbs : ∀ w : World, (Instr.buildSlice 28 3 #[(0, .int .i64 0), (1, .int .i64 1), (2, .int .i64 2)]).run Try.prog w = .ok (.slice (some ⟨w.heap.size, 0, none⟩) 3 3) (w.alloc (.cells #[.int .i64 0, .int .i64 1, .int .i64 2] 3)) := fun _ => by kernel_rfl
  have hbs2 : ∀ w : World, (Instr.buildSlice 28 2 #[(0, .int .i64 2), (1, .int .i64 9)]).run Try.prog w = .ok (.slice (some ⟨w.heap.size, 0, none⟩) 2 2) (w.alloc (.cells #[.int .i64 2, .int .i64 9] 3)) := fun _ => by kernel_rfl
  go_enter Try.func9, Try.ntmps9
  go_wp2_with fail
  refine HN.out.mono ?_
  rintro e w1 ⟨rfl, hm, ht, hz⟩
  clear HN
  generalize hB : w.heap.size = B at *
  obtain ⟨hmA, htA, hdx, hdy, hzA⟩ := four_facts hm hz
  have HA := hide hmA
  have HTA := hide (ht.trans htA)
  have HX := hide hdx
  have HY := hide hdy
  have HZ := hide hzA
  clear hm ht hmA htA hdx hdy hzA
  go_wp2_with fail
  refine (add_tur B (fourBlocks w1 B) B _ [] (.func 14) #[.pointer (some ⟨B + 1 + 1, 0, none⟩)] #[] [B + 1 + 1] ((B + 1 + 1) :: rowA (some ⟨B + 1, 0, none⟩) [0, 1, 2]) (ToldD B (B + 1 + 1) (some ⟨B + 1, 0, none⟩) 3 3 [0, 1, 2]) (fun n => tellOf [0, 1, 2] n.toNat) (by decide) HA.out (fun b => good_told B (B + 1 + 1) (some ⟨B + 1, 0, none⟩) 3 3 [0, 1, 2] (by omega) b 0 0) HX.out (by intro k hk; rw [rowA_tk] at hk; simp at hk; rcases hk with rfl | rfl <;> simp) (by intro k hk; simp at hk; subst hk; simp) (by simp)).mono ?_
  rintro e w2 ⟨rfl, F2, hm, hs2, -, ht, hk2⟩
  rw [HZ.out] at hm
  have hgy := good_told B (B + 1 + 1 + 1 + 1) (some ⟨B + 1 + 1 + 1, 0, none⟩) 3 3 [0, 1, 2] (by omega) 0 0 0
  have hyd : ToldD B (B + 1 + 1 + 1 + 1) (some ⟨B + 1 + 1 + 1, 0, none⟩) 3 3 [0, 1, 2] w2 0 := hgy.keep _ _ 0 HY.out (fun k hk => hk2 k (hgy.aw _ 0 HY.out k hk).1 (hgy.aw _ 0 HY.out k hk).2)
  have HM2 := hide hm
  have HT2 := hide (HTA.out.trans_new ht (by intro k hk; simp at hk; right; omega))
  have HY2 := hide hyd
  have HS2 := hide hs2
  clear hm ht hyd hgy hk2 HA HTA HX HY hs2
  go_wp2_with fail
  refine (add_tur B w2 B F2 _ (.func 14) #[.pointer (some ⟨B + 1 + 1 + 1 + 1, 0, none⟩)] #[] [B + 1 + 1 + 1 + 1] ((B + 1 + 1 + 1 + 1) :: rowA (some ⟨B + 1 + 1 + 1, 0, none⟩) [0, 1, 2]) (ToldD B (B + 1 + 1 + 1 + 1) (some ⟨B + 1 + 1 + 1, 0, none⟩) 3 3 [0, 1, 2]) (fun n => tellOf [0, 1, 2] n.toNat) (by simp) HM2.out (fun b => good_told B (B + 1 + 1 + 1 + 1) (some ⟨B + 1 + 1 + 1, 0, none⟩) 3 3 [0, 1, 2] (by omega) b 0 0) HY2.out (by intro k hk; rw [rowA_tk] at hk; simp at hk; left; apply HS2.out; rcases hk with rfl | rfl <;> simp) (by intro k hk; simp at hk; apply HS2.out; subst hk; simp) (by intro t ht; simp at ht; subst ht; simp [rowA_tk]; omega)).mono ?_
  rintro e w3 ⟨rfl, F3, hm, -, -, ht, -⟩
  generalize w2.heap.size = b2 at *
  have hm3 : Tur B w3 B F3 [tk B (B + 5) (B + 1 + 1) (B + 1) 0 0, tk B b2 (B + 1 + 1 + 1 + 1) (B + 1 + 1 + 1) 0 0] := hm
  have HMwx := hide hm3
  have HTwx := hide (HT2.out.trans_new ht (by intro k hk; right; exact (HM2.out.trn.lo k hk).1 |> fun h => by omega))
  clear hm ht hm3 HM2 HT2 HY2 HS2
  generalize B + 5 = b1 at *
  go_wp2_with fail
  refine (add_nil _ _).mono ?_
  rintro e wx ⟨rfl, rfl⟩
  clear HZ hz
  go_wp2_with fail
  have HPw4 := hide (pick_tur B wx B F3 [tk B b1 (B + 1 + 1) (B + 1) 0 0, tk B b2 (B + 1 + 1 + 1 + 1) (B + 1 + 1 + 1) 0 0] 5 (by omega) 100 (by omega) (lim_two (by simp [tk]) (by simp [tk])) HMwx.out)
  rw [show pickNum [tk B b1 (B + 1 + 1) (B + 1) 0 0, tk B b2 (B + 1 + 1 + 1 + 1) (B + 1 + 1 + 1) 0 0] 5 = 2 from by simp [pickNum, pickOf, readyOf, states, tk, thatOf, placeOf], show (pickOf [tk B b1 (B + 1 + 1) (B + 1) 0 0, tk B b2 (B + 1 + 1 + 1 + 1) (B + 1 + 1 + 1) 0 0] 5).isSome = true from by simp [pickOf, readyOf, states, tk, thatOf, placeOf], show pickTo [tk B b1 (B + 1 + 1) (B + 1) 0 0, tk B b2 (B + 1 + 1 + 1 + 1) (B + 1 + 1 + 1) 0 0] 5 = [tk B b1 (B + 1 + 1) (B + 1) 0 0, tk B b2 (B + 1 + 1 + 1 + 1) (B + 1 + 1 + 1) 0 1] from by simp [pickTo, pickOf, readyOf, states, tk, thatOf, placeOf, Task.adv, tellOf, norm]] at HPw4
  refine HPw4.out.mono ?_
  rintro e w4 ⟨rfl, hm, ht⟩
  have HMw4 := hide hm
  have HTw4 := hide (HTwx.out.trans_new ht (fun k hk => .inr (by have := (hm.trn.lo k hk).1; omega)))
  clear hm ht HPw4 HMwx HTwx
  go_wp2_with fail
  have HPw5 := hide (pick_tur B w4 B F3 [tk B b1 (B + 1 + 1) (B + 1) 0 0, tk B b2 (B + 1 + 1 + 1 + 1) (B + 1 + 1 + 1) 0 1] 5 (by omega) 100 (by omega) (lim_two (by simp [tk]) (by simp [tk])) HMw4.out)
  rw [show pickNum [tk B b1 (B + 1 + 1) (B + 1) 0 0, tk B b2 (B + 1 + 1 + 1 + 1) (B + 1 + 1 + 1) 0 1] 5 = 2 from by simp [pickNum, pickOf, readyOf, states, tk, thatOf, placeOf], show (pickOf [tk B b1 (B + 1 + 1) (B + 1) 0 0, tk B b2 (B + 1 + 1 + 1 + 1) (B + 1 + 1 + 1) 0 1] 5).isSome = true from by simp [pickOf, readyOf, states, tk, thatOf, placeOf], show pickTo [tk B b1 (B + 1 + 1) (B + 1) 0 0, tk B b2 (B + 1 + 1 + 1 + 1) (B + 1 + 1 + 1) 0 1] 5 = [tk B b1 (B + 1 + 1) (B + 1) 0 0, tk B b2 (B + 1 + 1 + 1 + 1) (B + 1 + 1 + 1) 1 2] from by simp [pickTo, pickOf, readyOf, states, tk, thatOf, placeOf, Task.adv, tellOf, norm]] at HPw5
  refine HPw5.out.mono ?_
  rintro e w5 ⟨rfl, hm, ht⟩
  have HMw5 := hide hm
  have HTw5 := hide (HTw4.out.trans_new ht (fun k hk => .inr (by have := (hm.trn.lo k hk).1; omega)))
  clear hm ht HPw5 HMw4 HTw4
  go_wp2_with fail
  have HPw6 := hide (pick_tur B w5 B F3 [tk B b1 (B + 1 + 1) (B + 1) 0 0, tk B b2 (B + 1 + 1 + 1 + 1) (B + 1 + 1 + 1) 1 2] 5 (by omega) 100 (by omega) (lim_two (by simp [tk]) (by simp [tk])) HMw5.out)
  rw [show pickNum [tk B b1 (B + 1 + 1) (B + 1) 0 0, tk B b2 (B + 1 + 1 + 1 + 1) (B + 1 + 1 + 1) 1 2] 5 = 1 from by simp [pickNum, pickOf, readyOf, states, tk, thatOf, placeOf], show (pickOf [tk B b1 (B + 1 + 1) (B + 1) 0 0, tk B b2 (B + 1 + 1 + 1 + 1) (B + 1 + 1 + 1) 1 2] 5).isSome = true from by simp [pickOf, readyOf, states, tk, thatOf, placeOf], show pickTo [tk B b1 (B + 1 + 1) (B + 1) 0 0, tk B b2 (B + 1 + 1 + 1 + 1) (B + 1 + 1 + 1) 1 2] 5 = [tk B b1 (B + 1 + 1) (B + 1) 0 1, tk B b2 (B + 1 + 1 + 1 + 1) (B + 1 + 1 + 1) 1 2] from by simp [pickTo, pickOf, readyOf, states, tk, thatOf, placeOf, Task.adv, tellOf, norm]] at HPw6
  refine HPw6.out.mono ?_
  rintro e w6 ⟨rfl, hm, ht⟩
  have HMw6 := hide hm
  have HTw6 := hide (HTw5.out.trans_new ht (fun k hk => .inr (by have := (hm.trn.lo k hk).1; omega)))
  clear hm ht HPw6 HMw5 HTw5
  go_wp2_with fail
  have HA := hide ((HMw6.out.same ((Turned.refl [] w6).alloc (.cells #[.int .i64 2, .int .i64 9] 3))))
  have HW := hide (wake_tur B (w6.alloc (.cells #[.int .i64 2, .int .i64 9] 3)) B F3 [tk B b1 (B + 1 + 1) (B + 1) 0 1, tk B b2 (B + 1 + 1 + 1 + 1) (B + 1 + 1 + 1) 1 2] (some ⟨w6.heap.size, 0, none⟩) 2 2 [2, 9] (by omega) (pair_rd (fun k hk => (HMw6.out.trn.lo k hk).2) 2 9) HA.out)
  rw [show wakeNum [tk B b1 (B + 1 + 1) (B + 1) 0 1, tk B b2 (B + 1 + 1 + 1 + 1) (B + 1 + 1 + 1) 1 2] [2, 9] = 1 from by simp [wakeNum, waits1, wake1, tk, Task.woken, states], show wakeAll [tk B b1 (B + 1 + 1) (B + 1) 0 1, tk B b2 (B + 1 + 1 + 1 + 1) (B + 1 + 1 + 1) 1 2] [2, 9] = [tk B b1 (B + 1 + 1) (B + 1) 0 1, tk B b2 (B + 1 + 1 + 1 + 1) (B + 1 + 1 + 1) 0 2] from by simp [wakeAll, wake1, tk, Task.woken]] at HW
  refine HW.out.mono ?_
  rintro e w7 ⟨rfl, hm, ht⟩
  have HMw7 := hide hm
  have HTw7 := hide ((HTw6.out.alloc _).trans_new ht (fun k hk => .inr (by have := (hm.trn.lo k hk).1; omega)))
  clear hm ht HW HA HMw6 HTw6
  go_wp2_with fail
  have HPw8 := hide (pick_tur B w7 B F3 [tk B b1 (B + 1 + 1) (B + 1) 0 1, tk B b2 (B + 1 + 1 + 1 + 1) (B + 1 + 1 + 1) 0 2] 1 (by omega) 100 (by omega) (lim_two (by simp [tk]) (by simp [tk])) HMw7.out)
  rw [show pickNum [tk B b1 (B + 1 + 1) (B + 1) 0 1, tk B b2 (B + 1 + 1 + 1 + 1) (B + 1 + 1 + 1) 0 2] 1 = 2 from by simp [pickNum, pickOf, readyOf, states, tk, thatOf, placeOf], show (pickOf [tk B b1 (B + 1 + 1) (B + 1) 0 1, tk B b2 (B + 1 + 1 + 1 + 1) (B + 1 + 1 + 1) 0 2] 1).isSome = true from by simp [pickOf, readyOf, states, tk, thatOf, placeOf], show pickTo [tk B b1 (B + 1 + 1) (B + 1) 0 1, tk B b2 (B + 1 + 1 + 1 + 1) (B + 1 + 1 + 1) 0 2] 1 = [tk B b1 (B + 1 + 1) (B + 1) 0 1, tk B b2 (B + 1 + 1 + 1 + 1) (B + 1 + 1 + 1) 2 3] from by simp [pickTo, pickOf, readyOf, states, tk, thatOf, placeOf, Task.adv, tellOf, norm]] at HPw8
  refine HPw8.out.mono ?_
  rintro e w8 ⟨rfl, hm, ht⟩
  have HMw8 := hide hm
  have HTw8 := hide (HTw7.out.trans_new ht (fun k hk => .inr (by have := (hm.trn.lo k hk).1; omega)))
  clear hm ht HPw8 HMw7 HTw7
  have HS := hide (fun m => state_in B (w8.drewN m) B F3 [tk B b1 (B + 1 + 1) (B + 1) 0 1, tk B b2 (B + 1 + 1 + 1 + 1) (B + 1 + 1 + 1) 2 3] 1 (tk B b2 (B + 1 + 1 + 1 + 1) (B + 1 + 1 + 1) 2 3) rfl ((HMw8.out.same ((Turned.refl [] w8).drewN m)).trn))
  have HU := hide (fun m => steps_in B (w8.drewN m) B F3 [tk B b1 (B + 1 + 1) (B + 1) 0 1, tk B b2 (B + 1 + 1 + 1 + 1) (B + 1 + 1 + 1) 2 3] 1 (tk B b2 (B + 1 + 1 + 1 + 1) (B + 1 + 1 + 1) 2 3) rfl ((HMw8.out.same ((Turned.refl [] w8).drewN m)).trn))
  have HO := hide (fun m => state_none (some ⟨B, 0, none⟩) 9 (w8.drewN m) (task_out B (w8.drewN m) B F3 [tk B b1 (B + 1 + 1) (B + 1) 0 1, tk B b2 (B + 1 + 1 + 1 + 1) (B + 1 + 1 + 1) 2 3] 9 (by simp) ((HMw8.out.same ((Turned.refl [] w8).drewN m)).trn)))
  go_wp2_with fail
  refine (HS.out 0).mono ?_
  rintro e wy ⟨rfl, rfl⟩
  go_wp2_with fail
  refine (HO.out 0).mono ?_
  rintro e wy ⟨rfl, rfl⟩
  go_wp2_with fail
  refine (HU.out 0).mono ?_
  rintro e wy ⟨rfl, rfl⟩
  go_wp2_with fail
  go_ret
  exact ⟨rfl, HTw8.out⟩
end Go.Proofs.Ytopoklciglgkbaa
