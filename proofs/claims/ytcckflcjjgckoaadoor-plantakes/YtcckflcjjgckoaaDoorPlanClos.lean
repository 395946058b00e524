/-
  The closures of Make.
-/
import Derived.Test.YtcckflcjjgckoaaDoorPlanMade
namespace Go.Proofs.YtcckflcjjgckoaaDoor
open Go.RowKit Bt
set_option linter.unusedVariables false
set_option linter.unusedSimpArgs false

set_option maxRecDepth 100000 in
theorem make1_any (ov : Option Addr) (N : Nat) (S : Nat → Nat) (P : PN) (h : P.Ok) (l a wt tk : Value) (bb pb r : Nat) (w : World) (hr : r < P.R) (hb : Brd w ov N (sidesOf S)) (hs : Bl N S) (ht : P.t ≤ N) (cb : w.cell? ⟨bb, 0, none⟩ = some (.pointer ov)) (hp : Pb w pb P l a wt tk) :
    Calls Tryd.prog 23 #[.int .i64 (r : Int), .pointer (some ⟨bb, 0, none⟩), .pointer (some ⟨pb, 0, none⟩)] w fun e w' => e = .returned (.int .i64 (lvR P (live S) r : Nat)) ∧ Turned [] w w' := by
  have hN := hb.few
  have e1 := PN.ed_le P r
  have e2 := PN.ed_le P (r + 1)
  have HSp := hide (fun w => span_in P h l a wt tk r hr w)
  have HL := hide (fun (w' : World) (t : Turned [] w w') => live_any ov N S (P.ed r : Nat) (P.ed (r + 1) : Nat) w' (hb.turned t) hs)
  rw [show kp N ((P.ed r : Nat) : Int) = P.ed r by unfold kp; omega, show kp N ((P.ed (r + 1) : Nat) : Int) = P.ed (r + 1) by unfold kp; omega, cntIn_sub] at HL
  unfold lvR
  have HP := hide hp
  have hpl := hp.lt
  generalize cnt (live S) (P.ed (r + 1)) - cnt (live S) (P.ed r) = u at *
  generalize P.ed r = E1 at *
  generalize P.ed (r + 1) = E2 at *
  obtain ⟨f, t, k, d, e⟩ := P
  obtain ⟨c0, c1, c2, c3, c4, c5, c6, c7, c8⟩ := hp.cs
  unfold plC at HSp
  simp only at *
  clear h hb hs hp hr e1 e2
  have HB := hide cb
  go_enter Tryd.func23, Tryd.ntmps23
  go_wp2_with fail
  go_region_held3 (fun w' => w'.cell? ⟨bb, 0, none⟩ = some (.pointer ov) ∧ w'.cell? ⟨pb, 0, none⟩ = some (.int .i64 (f : Int)) ∧ w'.cell? ⟨pb, 1, none⟩ = some (.int .i64 (t : Int)) ∧ w'.cell? ⟨pb, 2, none⟩ = some (.int .i64 (k : Int)) ∧ w'.cell? ⟨pb, 3, none⟩ = some (.int .i64 (d : Int)) ∧ w'.cell? ⟨pb, 4, none⟩ = some (.int .i64 (e : Int)) ∧ w'.cell? ⟨pb, 5, none⟩ = some l ∧ w'.cell? ⟨pb, 6, none⟩ = some a ∧ w'.cell? ⟨pb, 7, none⟩ = some wt ∧ w'.cell? ⟨pb, 8, none⟩ = some tk) (go_keep)
    (first
      | (go_at_call 25; refine (HSp.out _).mono ?_; rintro e' w2 ⟨rfl, ht2⟩; have HT2 := hide ((Turned.refl [] w).drew.trans ht2); have d9 : w2.cell? ⟨bb, 0, none⟩ = some (.pointer ov) := (by rw [HT2.out.cell (block_lt HB.out) (by simp)]; exact HB.out); obtain ⟨d0, d1, d2, d3, d4, d5, d6, d7, d8⟩ := (HP.out.turned0 HT2.out).cs; simp only at d0 d1 d2 d3 d4; clear ht2)
      | (go_at_call 24; refine (HL.out _ HT2.out).mono ?_; rintro e' w3 ⟨rfl, ht3⟩; have HT3 := hide (HT2.out.trans ht3); have g9 : w3.cell? ⟨bb, 0, none⟩ = some (.pointer ov) := (by rw [HT3.out.cell (block_lt HB.out) (by simp)]; exact HB.out); obtain ⟨g0, g1, g2, g3, g4, g5, g6, g7, g8⟩ := (HP.out.turned0 HT3.out).cs; simp only at g0 g1 g2 g3 g4; clear ht3))
  go_wp2_with fail
  go_ret
  exact ⟨rfl, HT3.out⟩

set_option maxRecDepth 100000 in
theorem make2_any (ov : Option Addr) (N : Nat) (S : Nat → Nat) (P : PN) (h : P.Ok) (l a wt tk : Value) (bb pb r : Nat) (w : World) (hr : r < P.R) (hb : Brd w ov N (sidesOf S)) (hs : Bl N S) (ht : P.t ≤ N) (hdt : P.d ≤ P.t) (cb : w.cell? ⟨bb, 0, none⟩ = some (.pointer ov)) (hp : Pb w pb P l a wt tk) :
    Calls Tryd.prog 29 #[.int .i64 (r : Int), .pointer (some ⟨bb, 0, none⟩), .pointer (some ⟨pb, 0, none⟩)] w fun e w' => e = .returned (.int .i64 (mvR P (live S) r : Nat)) ∧ Turned [] w w' := by
  have hN := hb.few
  have e1 := PN.ed_le P r
  have e2 := PN.ed_le P (r + 1)
  have HSp := hide (fun w => moving_in P h l a wt tk r hr w)
  have HL := hide (fun (w' : World) (t : Turned [] w w') => live_any ov N S (max (P.ed r) P.d : Nat) (P.ed (r + 1) : Nat) w' (hb.turned t) hs)
  rw [show kp N ((max (P.ed r) P.d : Nat) : Int) = max (P.ed r) P.d by unfold kp; omega, show kp N ((P.ed (r + 1) : Nat) : Int) = P.ed (r + 1) by unfold kp; omega, cntIn_sub] at HL
  unfold mvR
  have HP := hide hp
  have hpl := hp.lt
  generalize cnt (live S) (P.ed (r + 1)) - cnt (live S) (max (P.ed r) P.d) = u at *
  generalize max (P.ed r) P.d = E1 at *
  generalize P.ed (r + 1) = E2 at *
  obtain ⟨f, t, k, d, e⟩ := P
  obtain ⟨c0, c1, c2, c3, c4, c5, c6, c7, c8⟩ := hp.cs
  unfold plC at HSp
  simp only at *
  clear h hb hs hp hr e1 e2
  have HB := hide cb
  go_enter Tryd.func29, Tryd.ntmps29
  go_wp2_with fail
  go_region_held3 (fun w' => w'.cell? ⟨bb, 0, none⟩ = some (.pointer ov) ∧ w'.cell? ⟨pb, 0, none⟩ = some (.int .i64 (f : Int)) ∧ w'.cell? ⟨pb, 1, none⟩ = some (.int .i64 (t : Int)) ∧ w'.cell? ⟨pb, 2, none⟩ = some (.int .i64 (k : Int)) ∧ w'.cell? ⟨pb, 3, none⟩ = some (.int .i64 (d : Int)) ∧ w'.cell? ⟨pb, 4, none⟩ = some (.int .i64 (e : Int)) ∧ w'.cell? ⟨pb, 5, none⟩ = some l ∧ w'.cell? ⟨pb, 6, none⟩ = some a ∧ w'.cell? ⟨pb, 7, none⟩ = some wt ∧ w'.cell? ⟨pb, 8, none⟩ = some tk) (go_keep)
    (first
      | (go_at_call 30; refine (HSp.out _).mono ?_; rintro e' w2 ⟨rfl, ht2⟩; have HT2 := hide ((Turned.refl [] w).drew.trans ht2); have d9 : w2.cell? ⟨bb, 0, none⟩ = some (.pointer ov) := (by rw [HT2.out.cell (block_lt HB.out) (by simp)]; exact HB.out); obtain ⟨d0, d1, d2, d3, d4, d5, d6, d7, d8⟩ := (HP.out.turned0 HT2.out).cs; simp only at d0 d1 d2 d3 d4; clear ht2)
      | (go_at_call 24; refine (HL.out _ HT2.out).mono ?_; rintro e' w3 ⟨rfl, ht3⟩; have HT3 := hide (HT2.out.trans ht3); have g9 : w3.cell? ⟨bb, 0, none⟩ = some (.pointer ov) := (by rw [HT3.out.cell (block_lt HB.out) (by simp)]; exact HB.out); obtain ⟨g0, g1, g2, g3, g4, g5, g6, g7, g8⟩ := (HP.out.turned0 HT3.out).cs; simp only at g0 g1 g2 g3 g4; clear ht3))
  go_wp2_with fail
  go_ret
  exact ⟨rfl, HT3.out⟩

theorem make3_any (sb z n c : Nat) (g : Nat → Int) (r : Nat) (w : World) (hr : r < n) (cs : w.cell? ⟨sb, 0, none⟩ = some (.slice (some ⟨z, 0, none⟩) n c)) (hz : Ri w 2 z n g) :
    Calls Tryd.prog 32 #[.int .i64 (r : Int), .pointer (some ⟨sb, 0, none⟩)] w fun e w' => e = .returned (.int .i64 (g r)) ∧ Turned [] w w' := by
  have c0 := hz.cell hr
  have hri : (r : Int) < n := by omega
  clear hz
  go_enter Tryd.func32, Tryd.ntmps32
  go_wp2_with fail
  go_ret
  exact ⟨rfl, Turned.refl _ _⟩
end Go.Proofs.YtcckflcjjgckoaaDoor
