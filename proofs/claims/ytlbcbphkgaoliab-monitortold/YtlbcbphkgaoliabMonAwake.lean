/-
  awake.
-/
import Derived.Test.YtlbcbphkgaoliabMonSolo
namespace Go.Proofs.Ytlbcbphkgaoliab
open Go.RowKit
set_option linter.unusedVariables false
set_option linter.unusedSimpArgs false
theorem IntsAt.keep {B g : Nat} {w w' : World} {l : List Int} (h : IntsAt w g l) (b : Bel B w w') : IntsAt w' g l := by
  obtain ⟨c, h1, h2, h3⟩ := h
  exact ⟨c, b.k g c _ _ h1 (by decide) (by decide) (by decide), h2, h3⟩
theorem IntsAt.cell0 {g : Nat} {w : World} {x : Int} {l : List Int} (h : IntsAt w g (x :: l)) : w.cell? ⟨g, 0, none⟩ = some (.int .i64 x) := by
  obtain ⟨c, h1, h2, h3⟩ := h
  rw [cell_of_heap h1]
  exact h3 0 x rfl
set_option maxHeartbeats 4000000 in
set_option maxRecDepth 100000 in
theorem awake_call (w : World) : Calls Try.prog 4 #[] w fun e w' => e = .returned (.bool true) ∧ Turned [] w w' := by
  obtain ⟨p, hp⟩ : ∃ p, p = w.heap.size := ⟨_, rfl⟩
  have K : Hid (Calls Try.prog 5 #[] w fun e w' => e = .returned (.pointer (some ⟨p, 0, none⟩)) ∧ Solo w.heap.size w' p 0 8 Mon.zero (fun _ => false) ∧ Turned [] w w') := hide (by subst hp; exact new_solo 8 w (Nat.le_refl _))
  clear hp
  go_enter Try.func4, Try.ntmps4
  go_wp2_with fail
  refine (K.out).mono ?_
  rintro e w1 ⟨rfl, h1, t1⟩
  have H1 := hide h1
  have B1 : Hid (Bel w.heap.size w w1) := hide (t1.bel (Nat.le_refl _) (fun k hk => by cases hk))
  clear h1 t1 K
  go_wp2_with fail
  refine (Calls.mono (enter_solo (x := 1) (y := 8) ⟨by decide, by decide⟩ (by decide) ⟨by decide, by decide⟩ (by decide) (by decide) H1.out ⟨⟨by decide, by decide⟩, by decide⟩ rfl) (fun e w' h => (show e = .returned (.tuple #[.bool true, .int .i64 0]) ∧ Solo w.heap.size w' p 2 8 ⟨1, 1, [], []⟩ (fun _ => false) ∧ Bel w.heap.size w1 w' from h))).mono ?_
  rintro e w2 ⟨rfl, h2, b2⟩
  have H2 := hide h2
  have B2 := hide (B1.out.trans b2)
  clear h2 b2 H1 B1
  go_wp2_with fail
  refine (Calls.mono (enter_solo (x := 1) (y := 8) ⟨by decide, by decide⟩ (by decide) ⟨by decide, by decide⟩ (by decide) (by decide) H2.out ⟨⟨by decide, by decide⟩, by decide⟩ rfl) (fun e w' h => (show e = .returned (.tuple #[.bool true, .int .i64 0]) ∧ Solo w.heap.size w' p 4 8 ⟨1, 2, [], []⟩ (fun _ => false) ∧ Bel w.heap.size w2 w' from h))).mono ?_
  rintro e w3 ⟨rfl, h3, b3⟩
  have H3 := hide h3
  have B3 := hide (B2.out.trans b3)
  clear h3 b3 H2 B2
  go_wp2_with fail
  refine (Calls.mono (enter_solo (x := 2) (y := 8) ⟨by decide, by decide⟩ (by decide) ⟨by decide, by decide⟩ (by decide) (by decide) H3.out ⟨⟨by decide, by decide⟩, by decide⟩ rfl) (fun e w' h => (show e = .returned (.tuple #[.bool false, .int .i64 0]) ∧ Solo w.heap.size w' p 6 8 ⟨1, 2, [(2, 1)], []⟩ (addS (fun _ => false) 2) ∧ Bel w.heap.size w3 w' from h))).mono ?_
  rintro e w4 ⟨rfl, h4, b4⟩
  have H4 := hide h4
  have B4 := hide (B3.out.trans b4)
  clear h4 b4 H3 B3
  go_wp2_with fail
  refine (Calls.mono (exit_solo (x := 1) (y := 8) ⟨by decide, by decide⟩ (by decide) ⟨by decide, by decide⟩ (by decide) (by decide) H4.out ⟨⟨by decide, by decide⟩, by decide⟩ ⟨by decide, by decide⟩ rfl rfl (neat_h (by decide))) (fun e w' h => (show e = .returned (.tuple #[.int .i64 0, .int .i64 0]) ∧ Solo w.heap.size w' p 9 8 ⟨1, 1, [(2, 1)], []⟩ (addS (fun _ => false) 2) ∧ Bel w.heap.size w4 w' from h))).mono ?_
  rintro e w5 ⟨rfl, h5, b5⟩
  have H5 := hide h5
  have B5 := hide (B4.out.trans b5)
  clear h5 b5 H4 B4
  go_wp2_with fail
  refine (Calls.mono (exit_solo (x := 1) (y := 8) ⟨by decide, by decide⟩ (by decide) ⟨by decide, by decide⟩ (by decide) (by decide) H5.out ⟨⟨by decide, by decide⟩, by decide⟩ ⟨by decide, by decide⟩ rfl rfl (neat_h (by decide))) (fun e w' h => (show e = .returned (.tuple #[.int .i64 2, .int .i64 0]) ∧ Solo w.heap.size w' p 12 8 ⟨2, 1, [], []⟩ (subS (addS (fun _ => false) 2) 2) ∧ Bel w.heap.size w5 w' from h))).mono ?_
  rintro e w6 ⟨rfl, h6, b6⟩
  have H6 := hide h6
  have B6 := hide (B5.out.trans b6)
  clear h6 b6 H5 B5
  go_wp2_with fail
  refine (holder_solo (y := 8) ⟨by decide, by decide⟩ H6.out).mono ?_
  rintro e w7 ⟨rfl, t7⟩
  have H7 := hide (H6.out.turned t7)
  have B7 := hide (B6.out.trans (t7.bel (B6.out.b.size) (fun k hk => by cases hk)))
  clear t7 H6 B6
  go_wp2_with fail
  refine (Calls.mono (wait_solo (x := 2) (y := 8) ⟨by decide, by decide⟩ (by decide) ⟨by decide, by decide⟩ (by decide) (by decide) H7.out ⟨⟨by decide, by decide⟩, by decide⟩ ⟨by decide, by decide⟩ rfl rfl (fun h => absurd h (by decide))) (fun e w' h => (show e = .returned (.tuple #[.int .i64 0, .int .i64 0]) ∧ Solo w.heap.size w' p 15 8 ⟨0, 0, [], [(2, 1)]⟩ (subS (addS (subS (addS (fun _ => false) 2) 2) 2) 0) ∧ Bel w.heap.size w7 w' from h))).mono ?_
  rintro e w8 ⟨rfl, h8, b8⟩
  have H8 := hide h8
  have B8 := hide (B7.out.trans b8)
  clear h8 b8 H7 B7
  go_wp2_with fail
  refine (Calls.mono (enter_solo (x := 1) (y := 8) ⟨by decide, by decide⟩ (by decide) ⟨by decide, by decide⟩ (by decide) (by decide) H8.out ⟨⟨by decide, by decide⟩, by decide⟩ rfl) (fun e w' h => (show e = .returned (.tuple #[.bool true, .int .i64 0]) ∧ Solo w.heap.size w' p 17 8 ⟨1, 1, [], [(2, 1)]⟩ (subS (addS (subS (addS (fun _ => false) 2) 2) 2) 0) ∧ Bel w.heap.size w8 w' from h))).mono ?_
  rintro e w9 ⟨rfl, h9, b9⟩
  have H9 := hide h9
  have B9 := hide (B8.out.trans b9)
  clear h9 b9 H8 B8
  go_wp2_with fail
  refine (Calls.mono (notify_solo (x := 1) (y := 8) false ⟨by decide, by decide⟩ (by decide) ⟨by decide, by decide⟩ (by decide) (by decide) H9.out ⟨⟨by decide, by decide⟩, by decide⟩ rfl rfl) (fun e w' h => (show e = .returned (.tuple #[.int .i64 1, .int .i64 0]) ∧ Solo w.heap.size w' p 20 8 ⟨1, 1, [(2, 1)], []⟩ (subS (addS (subS (addS (fun _ => false) 2) 2) 2) 0) ∧ Bel w.heap.size w9 w' from h))).mono ?_
  rintro e w10 ⟨rfl, h10, b10⟩
  have H10 := hide h10
  have B10 := hide (B9.out.trans b10)
  clear h10 b10 H9 B9
  go_wp2_with fail
  refine (queue_solo (y := 8) ⟨by decide, by decide⟩ (by decide) H10.out).mono ?_
  rintro e w11 ⟨g, rfl, r11, t11, g11⟩
  have H11 := hide (H10.out.turned t11)
  have B11 := hide (B10.out.trans (t11.bel (B10.out.b.size) (fun k hk => by cases hk)))
  have R11 := hide r11
  clear t11 r11 g11 H10 B10
  go_wp2_with fail
  refine (Calls.mono (enter_stuck (x := 2) (y := 8) (z := 9) ⟨by decide, by decide⟩ (by decide) ⟨by decide, by decide⟩ (by decide) (by decide) H11.out ⟨⟨by decide, by decide⟩, by decide⟩ rfl) (fun e w' h => (show e = .returned (.tuple #[.bool false, .int .i64 16]) ∧ Solo w.heap.size w' p 22 8 ⟨1, 1, [(2, 1)], []⟩ (subS (addS (subS (addS (fun _ => false) 2) 2) 2) 0) ∧ Bel w.heap.size w11 w' from h))).mono ?_
  rintro e w12 ⟨rfl, h12, b12⟩
  have H12 := hide h12
  have B12 := hide (B11.out.trans b12)
  have R12 := hide (R11.out.keep b12)
  clear h12 b12 R11 H11 B11
  go_wp2_with fail
  refine (Calls.mono (exit_solo (x := 1) (y := 8) ⟨by decide, by decide⟩ (by decide) ⟨by decide, by decide⟩ (by decide) (by decide) H12.out ⟨⟨by decide, by decide⟩, by decide⟩ ⟨by decide, by decide⟩ rfl rfl (neat_h (by decide))) (fun e w' h => (show e = .returned (.tuple #[.int .i64 2, .int .i64 0]) ∧ Solo w.heap.size w' p 25 8 ⟨2, 1, [], []⟩ (subS (subS (addS (subS (addS (fun _ => false) 2) 2) 2) 0) 2) ∧ Bel w.heap.size w12 w' from h))).mono ?_
  rintro e w13 ⟨rfl, h13, b13⟩
  have H13 := hide h13
  have B13 := hide (B12.out.trans b13)
  have R13 := hide (R12.out.keep b13)
  clear h13 b13 R12 H12 B12
  go_wp2_with fail
  refine (Calls.mono (exit_not (x := 1) (y := 8) ⟨by decide, by decide⟩ (by decide) ⟨by decide, by decide⟩ (by decide) (by decide) H13.out ⟨⟨by decide, by decide⟩, by decide⟩ ⟨by decide, by decide⟩ (.inr (by decide))) (fun e w' h => (show e = .returned (.tuple #[.int .i64 0, .int .i64 16]) ∧ Solo w.heap.size w' p 28 8 ⟨2, 1, [], []⟩ (subS (subS (addS (subS (addS (fun _ => false) 2) 2) 2) 0) 2) ∧ Bel w.heap.size w13 w' from h))).mono ?_
  rintro e w14 ⟨rfl, h14, b14⟩
  have H14 := hide h14
  have B14 := hide (B13.out.trans b14)
  have R14 := hide (R13.out.keep b14)
  clear h14 b14 R13 H13 B13
  have c14 : w14.cell? ⟨g, 0, none⟩ = some (.int .i64 2) := R14.out.cell0
  go_wp2_with fail
  refine (objects_solo (by decide) H14.out).mono ?_
  rintro e w15 ⟨a, c, rfl, t15⟩
  have HE := hide (B14.out.trans (t15.bel (B14.out.b.size) (fun k hk => by cases hk)))
  clear t15 H14 B14 R14 c14
  go_wp2_with fail
  go_ret
  exact ⟨rfl, Turned.of_below HE.out.b⟩
end Go.Proofs.Ytlbcbphkgaoliab
