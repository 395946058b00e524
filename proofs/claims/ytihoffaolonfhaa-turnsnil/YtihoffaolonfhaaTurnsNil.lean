/-
  The statement TurnsNil is proved: for every n the law returns true and its argument reads as before; no condition.
-/
import Derived.Test.YtihoffaolonfhaaTurnsAwake
import Derived.Test.YtihoffaolonfhaaLawKit
import Derived.Deep.RegionHeld3
namespace Go.Proofs.Ytihoffaolonfhaa
open Go.RowKit Go.ChangeShapes Go.WideShapes Go.ChangeAt
set_option linter.unusedVariables false

theorem zero_tur (B : Nat) (w : World) (hB : B ≤ w.heap.size) : Tur B (w.alloc (.cells #[.slice none 0 0] 58)) w.heap.size [w.heap.size] [] := by
  refine ⟨⟨⟨.slice none 0 0, heap_alloc_new _ _, World.ownsRow_nil _ _ _ _, by simp [Value.ownBlock]⟩, by simp, by simp, by simp, ?_, by simp⟩, by simp, by simp, by simp, by simp, by simp⟩
  intro k hk
  simp at hk
  subst hk
  simp
  omega

theorem one_rd {w : World} (a : Int) : Rd (w.alloc (.cells #[.int .i64 a] 3)) [] (some ⟨w.heap.size, 0, none⟩) 1 [a] := by
  refine ⟨rfl, fun i y hy => ⟨w.heap.size, 0, rfl, by simp, ?_⟩⟩
  rw [cell_of_heap (heap_alloc_new _ _), Nat.zero_add]
  match i, hy with
  | 0, hy => simp at hy; subst hy; rfl
  | i + 1, hy => simp at hy

theorem keep_cell0 {w w' : World} {k : Nat} {n : Int} (h : w.heap[k]? = some (.cells #[.int .i64 n] 3)) (ht : Turned [] w.drew w') : w'.cell? ⟨k, 0, none⟩ = some (.int .i64 n) := by
  have h1 : w'.heap[k]? = some (.cells #[.int .i64 n] 3) := by rw [ht.block k (lt_of_heap h) (by simp)]; exact h
  rw [cell_of_heap h1]; rfl

def two (b : Nat) (s n : Int) : Task := ⟨b, twoFv, [], [], fun _ _ => True, fun _ => 2, s, n⟩

/-- What holds all along behind the object is made. -/
structure NilS (w0 w : World) (n : Int) (F : List Nat) (b : Nat) : Prop where
  tur : Tur w0.heap.size w (w0.heap.size + 1) F [two b 0 0]
  cell : w.heap[w0.heap.size]? = some (.cells #[.int .i64 n] 3)
  turn : Turned [] w0 w
theorem NilS.next {w0 w w' : World} {n : Int} {F : List Nat} {b : Nat} (h : NilS w0 w n F b) (t : Turned [] w w') : NilS w0 w' n F b :=
  ⟨h.tur.same t, by rw [t.block _ (lt_of_heap h.cell) (by simp)]; exact h.cell, h.turn.trans t⟩
theorem NilS.drew {w0 w : World} {n : Int} {F : List Nat} {b : Nat} (h : NilS w0 w n F b) : NilS w0 w.drew n F b := h.next (Turned.refl _ _).drew
theorem NilS.c {w0 w : World} {n : Int} {F : List Nat} {b : Nat} (h : NilS w0 w n F b) : w.cell? ⟨w0.heap.size, 0, none⟩ = some (.int .i64 n) := by rw [cell_of_heap h.cell]; rfl

theorem two_keep {w0 w w' : World} {n : Int} {F : List Nat} {b : Nat} (h : NilS w0 w n F b) (t : Turned F w w') (hn : w0.heap.size ∉ F) : w'.cell? ⟨w0.heap.size, 0, none⟩ = some (.int .i64 n) := by
  rw [t.cell (lt_of_heap h.cell) hn]; exact h.c

theorem nil_rd {w : World} {F : List Nat} : Rd w F none 0 [] := ⟨rfl, by simp⟩

theorem run_two {w0 w : World} (b : Nat) (F : List Nat) (h : Tur w0.heap.size w (w0.heap.size + 1) F [two b 0 0]) :
    Calls Try.prog 16 #[.pointer (some ⟨w0.heap.size + 1, 0, none⟩), .int .i64 9, .slice none 0 0] w fun e w' => e = .returned (.int .i64 1) ∧ Turned F w w' := by
  refine (run_tur w0.heap.size w (w0.heap.size + 1) F [two b 0 0] none 0 0 [] 9 9 0 rfl (by omega) (by omega) (by omega) (by intro x hx; simp at hx) nil_rd (by intro t ht; simp at ht; subst ht; simp [two]) h).mono ?_
  rintro e w' ⟨rfl, _, ht⟩
  refine ⟨?_, ht⟩
  have e : (runOf 9 [] 0 [two b 0 0]).1 = 1 := by simp [runOf, nextOf, pickOf, pickTo, readyOf, states, thatOf, placeOf, two, Task.adv, norm]
  rw [e]
  rfl

set_option maxRecDepth 100000 in
set_option maxHeartbeats 4000000 in
theorem turnsNil_walk (n : Int) (w : World) (hwf : (Lit.int .i64 n).wf = true) :
    Calls Try.prog 6 #[.int .i64 n] w fun e w' => e = .returned (.bool true) ∧ Turned [] w w' := by
  have hn : -9223372036854775808 ≤ n ∧ n ≤ 9223372036854775807 := wf_range hwf
  have hmf : ∀ (fn : Fn) (first cap : Array Value) (w : World), (Instr.makeFunc fn first cap).run Try.prog w = .ok (.func fn first cap) w := fun _ _ _ _ => rfl
  have HN := hide hn
  clear hn hwf
  have HZ := hide (zero_tur w.heap.size (w.alloc (.cells #[.int .i64 n] 3)) (by simp))
  have hcb : (w.alloc (.cells #[.int .i64 n] 3)).heap[w.heap.size]? = some (.cells #[.int .i64 n] 3) := heap_alloc_new _ _
  have HT := hide (((Turned.refl [] w).alloc (.cells #[.int .i64 n] 3)).alloc (.cells #[.slice none 0 0] 58))
  go_enter Try.func6, Try.ntmps6
  go_wp2_with fail
  generalize hWz : (w.alloc (.cells #[.int .i64 n] 3)).alloc (.cells #[.slice none 0 0] 58) = wz at *
  have hcz : wz.heap[w.heap.size]? = some (.cells #[.int .i64 n] 3) := by rw [← hWz, Below.heap_alloc _ _ _ (by simp)]; exact hcb
  have hez : (w.alloc (.cells #[.int .i64 n] 3)).heap.size = w.heap.size + 1 := by simp
  rw [hez] at HZ
  have hc0 : wz.cell? ⟨w.heap.size, 0, none⟩ = some (.int .i64 n) := by rw [cell_of_heap hcz]; rfl
  have HCB := hide hcz
  clear hWz hcb hez hcz
  refine (add_none _ _).mono ?_
  rintro e wx ⟨rfl, rfl⟩
  go_wp2_with fail
  refine (pick_nil _ _).mono ?_
  rintro e wx ⟨rfl, rfl⟩
  go_wp2_with fail
  refine (pick_tur w.heap.size _ (w.heap.size + 1) [w.heap.size + 1] [] n HN.out 0 (by omega) (by intro t ht; simp at ht) HZ.out).mono ?_
  rw [show pickNum [] n = 0 from by simp [pickNum, pickOf, readyOf, states, thatOf], show (pickOf [] n).isSome = false from by simp [pickOf, readyOf, states, thatOf], show pickTo [] n = [] from by simp [pickTo, pickOf, readyOf, states, thatOf]]
  rintro e w2 ⟨rfl, hm, ht⟩
  have HM2 := hide hm
  have HT2 := hide (HT.out.trans_new ht (by intro k hk; simp at hk; right; omega))
  have HC2 : Hid (w2.heap[w.heap.size]? = some (.cells #[.int .i64 n] 3)) := by show _ = _; rw [ht.block _ (lt_of_heap HCB.out) (by simp)]; exact HCB.out
  clear hm ht hc0 HZ HT HCB
  go_wp2_with fail
  refine (add_tur w.heap.size w2 (w.heap.size + 1) [w.heap.size + 1] [] (.func 28) #[] #[] [] [] (fun _ _ => True) (fun _ => 2) (by simp) HM2.out (fun b => good_two w.heap.size b 0 0) trivial (by simp) (by simp) (by simp)).mono ?_
  rintro e w3 ⟨rfl, F, hm, -, hF, ht, -⟩
  have hm3 : Tur w.heap.size w3 (w.heap.size + 1) F [two w2.heap.size 0 0] := hm
  have HM3 := hide hm3
  have HT3 := hide (HT2.out.trans_new ht (by intro k hk; simp at hk; right; omega))
  have HC3 : Hid (w3.heap[w.heap.size]? = some (.cells #[.int .i64 n] 3)) := by show _ = _; rw [ht.block _ (lt_of_heap HC2.out) (by simp)]; exact HC2.out
  have hc3 : w3.cell? ⟨w.heap.size, 0, none⟩ = some (.int .i64 n) := by rw [cell_of_heap HC3.out]; rfl
  have HNF : Hid (w.heap.size ∉ F) := fun hk => by
    rcases hF _ hk with h1 | h1 | ⟨c, h1⟩
    · simp at h1
    · have := lt_of_heap HC2.out; omega
    · rw [HC2.out] at h1; simp at h1
  generalize w2.heap.size = b at *
  clear hm hm3 ht HM2 HT2 HC2 hF
  go_wp2_with fail
  have HH := hide (NilS.mk HM3.out HC3.out HT3.out)
  clear HM3 HT3 HC3
  go_region_held3 (fun w' => w'.cell? ⟨w.heap.size, 0, none⟩ = some (.int .i64 n)) (go_keep)
    (first
      | (go_at_call 9; refine (awake_true _).mono ?_; rintro e w4 ⟨rfl, ht⟩; have H4 := hide (HH.out.drew.next ht); have hc4 := H4.out.c; have H5 := hide (H4.out.next ((Turned.refl [] w4).alloc (.cells #[.int .i64 n] 3))); have hc5 := H5.out.c; clear ht)
      | (go_at_call 12; refine (wake_nil (some ⟨w4.heap.size, 0, none⟩) 1 1 [n] _ (by omega) (one_rd n)).mono ?_; rintro e w5 ⟨rfl, rfl⟩)
      | (go_at_call 21; refine (steps_none none n _ (task_nil n _)).mono ?_; rintro e w6 ⟨rfl, rfl⟩)
      | (go_at_call 24; refine (ready_nil _).mono ?_; rintro e w7 ⟨rfl, rfl⟩)
      | (go_at_call_of 16 (Value.pointer none); refine (run_nil _).mono ?_; rintro e w8 ⟨rfl, ht⟩; have H8 := hide (H5.out.next ht); have hc8 := H8.out.c; clear ht)
      | (go_at_call 20; refine (state_none none n _ (task_nil n _)).mono ?_; rintro e w9 ⟨rfl, rfl⟩)
      | (go_at_call 25; refine (stuck_nil _).mono ?_; rintro e w10 ⟨rfl, rfl⟩)
      | (go_at_call 16; refine (run_two b F H8.out.tur).mono ?_; rintro e w11 ⟨rfl, ht⟩; have H11 := hide (H8.out.turn.trans_new ht (fun k hk => .inr (H8.out.tur.trn.lo k hk).1)); have hc11 := two_keep H8.out ht HNF.out; clear ht))
  go_wp2_with fail
  go_ret
  exact ⟨rfl, H11.out⟩

set_option maxRecDepth 100000 in
theorem turnsNil_lifted (os : Os) (started : os.Started) (H : Type) (enc : TypeId × Value → H) :
    ReturnsInHanded {} Try.checked os 6 .any (Rows.turnsNilSpec.pre6 enc Try.prog Try.f6 Rows.turnsNilRow.domain false) (Rows.turnsNilSpec.post enc Try.prog Try.f6 false true false false) := by
  refine returnsInHanded_of_change (C := Try.checked) own started (by kernel_rfl) Try.func6
    (ChangeSpec.witness6 (enc := enc) (C := Try.checked) false ⟨#[], #[.int .i64 0], []⟩ 8 (by kernel_rfl) (by kernel_rfl) (by kernel_rfl) (by kernel_rfl)) ?_
  intro W base args ds gs before hval0 hW hcnd _
  have hval : ∀ (j : Nat) t v, Try.f6.params[j]? = some t → args[j]? = some v → Value.okWide Try.prog W .any base t v := hval0
  have hW' := hW
  obtain ⟨p, q, hA0, hV, rfl, hfz, hnd⟩ := hW
  have hA : DataW.TrodAll enc Try.prog W 0 (fun _ => true) true Try.f6.params.toList args.toList ds p := hA0
  rw [Try.params6] at hA hval
  obtain ⟨v0, vs0, d0, ds0, p0, q0, hargs, rfl, rfl, h0, r0⟩ := trodAll_cons hA
  obtain ⟨rfl, rfl, rfl⟩ := trodAll_nil r0
  obtain rfl : args = #[v0] := by cases args; simp_all
  obtain ⟨rfl, rfl⟩ := trodVars_none hV
  obtain ⟨a0, rfl, rfl, rfl, w0⟩ := open_int Try.underlying3 (hval 0 3 v0 rfl rfl) h0
  clear hA0 hval0
  refine (turnsNil_walk a0 W w0).mono fun e W' ⟨he, ht⟩ => ?_
  subst he
  have bel : Below W.heap.size W W' := ht.below0
  exact ⟨_, rfl, _, _, _, [], _, [], hW', trodAll_mk1 (shut_bool Try.underlying4 _), (trodAll_cons_mk (shut_int Try.underlying3 w0) trodAll_mk0), rfl, bel.frame _, fun h => by cases h⟩

theorem turnsNil_over : Rows.turnsNilRow.holds Try.pinned (OpenSpec.ofChange Rows.turnsNilSpec) :=
  OpenClaim.holds_of_wide 6 Try.f6 rfl rfl rfl rfl rfl rfl rfl ⟨rfl, rfl, rfl, rfl, rfl⟩ rfl rfl rfl rfl rfl (by kernel_rfl) Try.func6 (by kernel_rfl)
    (of_decide_eq_true (by kernel_rfl)) (by unfold Func.isWrapper; first | (rw [if_pos (by decide +kernel)]; kernel_rfl) | (rw [if_neg (by decide +kernel)]; exact ⟨rfl, rfl⟩))
    (fun os started H enc _ => turnsNil_lifted os started H enc)

theorem turnsNil_holds : Rows.TurnsNilSaid := turnsNil_over
end Go.Proofs.Ytihoffaolonfhaa
