/-
  takes and waits of package plan, with the closures that call them.
-/
import Derived.Test.YtcckflcjjgckoaaDoorPlanClos
namespace Go.Proofs.YtcckflcjjgckoaaDoor
open Go.RowKit Bt
set_option linter.unusedVariables false
set_option linter.unusedSimpArgs false

/-- The region of the word that goes to x, as origin tells it: found by what lies ahead. -/
theorem finds_cnt {P : PN} {L : Nat → Bool} {x r : Nat} (hf : Finds P.R (fun r => decide ((x : Int) - P.d < ((ahR P L r : Nat) : Int))) r) (hx : P.d ≤ x) : r = cnt (fun r => decide (ahR P L r ≤ x - P.d)) P.R := by
  have h1 : cnt (fun r => decide (ahR P L r ≤ x - P.d)) P.R = cnt (fun r => decide (ahR P L r ≤ x - P.d)) r := by
    refine cnt_stop hf.le fun k hk1 hk2 => ?_
    have h2 := hf.yes (by omega)
    simp only [decide_eq_true_eq] at h2
    have := ahR_mono P L hk1
    rw [decide_eq_false]
    omega
  rw [h1]
  have h4 : ∀ m, m ≤ r → cnt (fun r => decide (ahR P L r ≤ x - P.d)) m = m := by
    intro m
    induction m with
    | zero => intro _; rfl
    | succ m ih =>
      intro hm
      have h5 := hf.no m (by omega)
      simp only [decide_eq_false_iff_not] at h5
      rw [cnt, ih (by omega), decide_eq_true (by omega)]
      rfl
  exact (h4 r (Nat.le_refl _)).symm
/-- How many regions have no more ahead. -/
def orgN (P : PN) (L : Nat → Bool) (x : Nat) : Nat := cnt (fun r => decide (ahR P L r ≤ x - P.d)) P.R
theorem orgN_le (P : PN) (L : Nat → Bool) (x : Nat) : orgN P L x ≤ P.R := cnt_le _ _

theorem origin_eq (P : PN) (h : P.Ok) (S : Nat → Nat) (l wt tk : Value) (aq c : Nat) (x : Nat) (w : World) (ha : Ah w P S aq) (h1 : P.d ≤ x) (hx : x ≤ 65536) :
    Calls Tryd.prog 42 #[.agg (plC P l (.slice (some ⟨aq, 0, none⟩) P.R c) wt tk), .int .i64 (x : Int)] w fun e w' => e = .returned (.int .i64 ((orgN P (live S) x : Int) - 1)) ∧ Turned [] w w' := by
  refine (origin_any P h S l wt tk aq c x w ha hx (by omega)).mono ?_
  rintro e w'' ⟨rr, he, hfi, ht⟩
  exact ⟨by rw [he, finds_cnt hfi h1]; rfl, ht⟩
theorem set_two {w : World} {rq : Nat} {u0 u1 : Value} {T : TypeId} (h : w.heap[rq]? = some (.cells #[u0, u1] T)) (x y : Value) : ((w.setCell ⟨rq, 0, none⟩ x).setCell ⟨rq, 1, none⟩ y).heap[rq]? = some (.cells #[x, y] T) := by
  rw [heap_setCell_at _ _ _ _ _ _ (heap_setCell_at _ _ _ _ _ _ h _)]
  simp
/-- What takes tells. -/
def tkR (P : PN) (L : Nat → Bool) (r s : Nat) : Int := if gF P r = gT P r then 0 else if s = 0 then (orgN P L (gF P r) : Int) - 1 else orgN P L (gT P r - 1)

set_option maxRecDepth 100000 in
theorem takes_any (P : PN) (h : P.Ok) (S : Nat → Nat) (l wt tk : Value) (aq c r : Nat) (w : World) (hr : r < P.R) (ha : Ah w P S aq) (hd : P.d ≤ P.t) :
    Calls Tryd.prog 35 #[.agg (plC P l (.slice (some ⟨aq, 0, none⟩) P.R c) wt tk), .int .i64 (r : Int)] w fun e w' => e = .returned (.agg #[.int .i64 (tkR P (live S) r 0), .int .i64 (tkR P (live S) r 1)]) ∧ Turned [] w w' := by
  have hF := PN.R_few h
  have h2 := h.few
  have HG := hide (fun w => goal_in P h l (.slice (some ⟨aq, 0, none⟩) P.R c) wt tk r hr w)
  have hed := PN.ed_le P (r + 1)
  have hgg : gF P r = gT P r ∨ (P.d ≤ gF P r ∧ gF P r < gT P r ∧ gT P r ≤ 65536) := by
    unfold gF gT
    split
    · right; omega
    · left; rfl
  have HO := hide (fun x (h1 : P.d ≤ x) (h3 : x ≤ 65536) (w' : World) (t : Turned [] w w') => origin_eq P h S l wt tk aq c x w' (ha.turned0 t) h1 h3)
  have hB := pb_new w P l (.slice (some ⟨aq, 0, none⟩) P.R c) wt tk
  have hT := (Turned.refl [] w).alloc (.cells (plC P l (.slice (some ⟨aq, 0, none⟩) P.R c) wt tk) 30)
  unfold tkR
  have HOl := hide (fun x => orgN_le P (live S) x)
  generalize gF P r = A at *
  generalize gT P r = B at *
  generalize orgN P (live S) = O at *
  generalize P.R = R at *
  obtain ⟨f, t, k, d, e⟩ := P
  have HB := hide hB
  have HT := hide hT
  unfold plC at HG HO HB HT ⊢
  simp only at HG HO HB HT hgg hd hed h2 ⊢
  clear h ha hB hT hr hed
  obtain ⟨w1, hw1⟩ : ∃ w1, w1 = (w.alloc (.cells #[Value.int .i64 f, Value.int .i64 t, Value.int .i64 k, Value.int .i64 d, Value.int .i64 e, l, .slice (some ⟨aq, 0, none⟩) R c, wt, tk] 30)).alloc (.cells #[.int .i64 0, .int .i64 0] 43) := ⟨_, rfl⟩
  have hs1 : (w.alloc (.cells #[Value.int .i64 f, Value.int .i64 t, Value.int .i64 k, Value.int .i64 d, Value.int .i64 e, l, .slice (some ⟨aq, 0, none⟩) R c, wt, tk] 30)).heap.size = w.heap.size + 1 := by simp
  have hrb : w1.heap[w.heap.size + 1]? = some (.cells #[.int .i64 0, .int .i64 0] 43) := by rw [hw1, ← hs1]; exact heap_alloc_new _ _
  have hT1 : Turned [] (w.alloc (.cells #[Value.int .i64 f, Value.int .i64 t, Value.int .i64 k, Value.int .i64 d, Value.int .i64 e, l, .slice (some ⟨aq, 0, none⟩) R c, wt, tk] 30)) w1 := by rw [hw1]; exact (Turned.refl [] _).alloc _
  have HB1 := hide (HB.out.turned0 hT1)
  have HT1 := hide (HT.out.trans hT1)
  have HRb := hide hrb
  clear HB HT hT1 hrb hs1
  obtain ⟨rq, hrq⟩ : ∃ rq, rq = w.heap.size + 1 := ⟨_, rfl⟩
  have HQ := hide (show w.heap.size ≤ rq by omega)
  obtain ⟨q, hq⟩ : ∃ q, q = w.heap.size := ⟨_, rfl⟩
  have hqr : q ≠ rq := by omega
  have hqr2 : rq ≠ q := by omega
  rw [← hrq] at HRb
  rw [← hq] at HB1
  by_cases hne : A = B
  · simp only [hne, if_true]
    rw [hne] at HG
    clear hgg
    go_enter Tryd.func35, Tryd.ntmps35
    go_wp2_with fail
    rw [← hw1, ← hrq, ← hq]
    clear hw1 hrq hq
    refine (HG.out _).mono ?_
    rintro e1 w2 ⟨rfl, ht2⟩
    have hr2 : w2.heap[rq]? = some (.cells #[.int .i64 0, .int .i64 0] 43) := by rw [ht2.block rq (lt_of_heap HRb.out) (by simp)]; exact HRb.out
    have r0 : w2.cell? ⟨rq, 0, none⟩ = some (.int .i64 0) := by rw [cell_of_heap hr2]; rfl
    have r1 : w2.cell? ⟨rq, 1, none⟩ = some (.int .i64 0) := by rw [cell_of_heap hr2]; rfl
    have f0 : w2.frozen? ⟨rq, 0, none⟩ = false := by simp [World.frozen?, hr2]
    have f1 : w2.frozen? ⟨rq, 1, none⟩ = false := by simp [World.frozen?, hr2]
    have HT2 := hide (HT1.out.trans ht2)
    have HS := hide (set_two hr2 (.int .i64 0) (.int .i64 0))
    have HT3 := hide ((HT2.out.setCell (p := ⟨rq, 0, none⟩) (.inr HQ.out) (.int .i64 0)).setCell (p := ⟨rq, 1, none⟩) (.inr HQ.out) (.int .i64 0))
    clear ht2 hr2 HB1 HT1
    go_wp2_with fail
    generalize ((w2.setCell ⟨rq, 0, none⟩ (.int .i64 0)).setCell ⟨rq, 1, none⟩ (.int .i64 0)) = w3 at *
    have k0 : w3.cell? ⟨rq, 0, none⟩ = some (.int .i64 0) := by rw [cell_of_heap HS.out]; rfl
    have k1 : w3.cell? ⟨rq, 1, none⟩ = some (.int .i64 0) := by rw [cell_of_heap HS.out]; rfl
    exact bodyPost_ret (v := .agg #[.int .i64 0, .int .i64 0]) (by simp [results, Tryd.results35, go_sem, k0, k1]) rfl ⟨rfl, HT3.out⟩
  · have hgl : d ≤ A ∧ A < B ∧ B ≤ 65536 := by rcases hgg with h1 | h1; exact absurd h1 hne; exact h1
    obtain ⟨hg1, hg2, hg3⟩ := hgl
    simp only [hne, if_false, if_true, Nat.one_ne_zero]
    have HOA := hide (fun w' t => HO.out A hg1 (by omega) w' t)
    have HOB := hide (fun w' t => HO.out (B - 1) (by omega) (by omega) w' t)
    have hoA := HOl.out A
    have hoB := HOl.out (B - 1)
    have hbe : IntKind.i64.wrap ((B : Int) - 1) = ((B - 1 : Nat) : Int) := by rw [IntKind.wrap_i64]; omega
    have hwo : IntKind.i64.wrap ((O (B - 1) : Int) - 1 + 1) = (O (B - 1) : Int) := by rw [IntKind.wrap_i64]; omega
    have hwo2 : IntKind.i64.wrap (O (B - 1) : Int) = (O (B - 1) : Int) := by rw [IntKind.wrap_i64]; omega
    have hnei : ((A : Int) == (B : Int)) = false := by simp; omega
    generalize O A = oA at *
    generalize O (B - 1) = oB at *
    generalize B - 1 = B1 at *
    clear hgg HO HOl hg1 hg2 hg3 hne
    go_enter Tryd.func35, Tryd.ntmps35
    go_wp2_with fail
    rw [← hw1, ← hrq, ← hq]
    clear hw1 hrq hq
    refine (HG.out _).mono ?_
    rintro e1 w2 ⟨rfl, ht2⟩
    have hr2 : w2.heap[rq]? = some (.cells #[.int .i64 0, .int .i64 0] 43) := by rw [ht2.block rq (lt_of_heap HRb.out) (by simp)]; exact HRb.out
    have HT2 := hide (HT1.out.trans ht2)
    have HB2 := hide (HB1.out.turned0 ht2)
    obtain ⟨c0, c1, c2, c3, c4, c5, c6, c7, c8⟩ := HB2.out.cs
    simp only at c0 c1 c2 c3 c4
    have HR2 := hide hr2
    clear ht2 hr2 HB1 HT1 HG HRb
    go_wp2_with fail
    go_region_held3 (fun w' => w'.cell? ⟨q, 0, none⟩ = some (.int .i64 (f : Int)) ∧ w'.cell? ⟨q, 1, none⟩ = some (.int .i64 (t : Int)) ∧ w'.cell? ⟨q, 2, none⟩ = some (.int .i64 (k : Int)) ∧ w'.cell? ⟨q, 3, none⟩ = some (.int .i64 (d : Int)) ∧ w'.cell? ⟨q, 4, none⟩ = some (.int .i64 (e : Int)) ∧ w'.cell? ⟨q, 5, none⟩ = some l ∧ w'.cell? ⟨q, 6, none⟩ = some (.slice (some ⟨aq, 0, none⟩) R c) ∧ w'.cell? ⟨q, 7, none⟩ = some wt ∧ w'.cell? ⟨q, 8, none⟩ = some tk) (go_keep)
      (first
        | (go_at_call 42; have HT3b := HT3; clear HT3b; refine (HOB.out _ HT3.out).mono ?_; rintro e' w4 ⟨rfl, ht4⟩; have HU4 := hide (HU3.out.trans ht4); have HT4 := hide (HT2.out.trans HU4.out); obtain ⟨g0, g1, g2, g3, g4, g5, g6, g7, g8⟩ := (HB2.out.turned0 HU4.out).cs; simp only at g0 g1 g2 g3 g4; have hr4 : w4.heap[rq]? = some (.cells #[.int .i64 0, .int .i64 0] 43) := (by rw [HU4.out.block rq (lt_of_heap HR2.out) (by simp)]; exact HR2.out); have r0 : w4.cell? ⟨rq, 0, none⟩ = some (.int .i64 0) := (by rw [cell_of_heap hr4]; rfl); have r1 : w4.cell? ⟨rq, 1, none⟩ = some (.int .i64 0) := (by rw [cell_of_heap hr4]; rfl); have f0 : w4.frozen? ⟨rq, 0, none⟩ = false := (by simp [World.frozen?, hr4]); have f1 : w4.frozen? ⟨rq, 1, none⟩ = false := (by simp [World.frozen?, hr4]); have HR4 := hide hr4; clear ht4 hr4)
        | (go_at_call 42; refine (HOA.out _ HT2.out.drew).mono ?_; rintro e' w3 ⟨rfl, ht3⟩; have HU3 := hide ((Turned.refl [] w2).drew.trans ht3); have HT3 := hide (HT2.out.trans HU3.out); obtain ⟨d0, d1, d2, d3, d4, d5, d6, d7, d8⟩ := (HB2.out.turned0 HU3.out).cs; simp only at d0 d1 d2 d3 d4; clear ht3))
    have HS := hide (set_two HR4.out (.int .i64 ((oA : Int) - 1)) (.int .i64 (oB : Int)))
    have HT5 := hide ((HT4.out.setCell (p := ⟨rq, 0, none⟩) (.inr HQ.out) (.int .i64 ((oA : Int) - 1))).setCell (p := ⟨rq, 1, none⟩) (.inr HQ.out) (.int .i64 (oB : Int)))
    generalize ((w4.setCell ⟨rq, 0, none⟩ (.int .i64 ((oA : Int) - 1))).setCell ⟨rq, 1, none⟩ (.int .i64 (oB : Int))) = w5 at *
    clear r0 r1 f0 f1 g0 g1 g2 g3 g4 g5 g6 g7 g8 d0 d1 d2 d3 d4 d5 d6 d7 d8 HR4 HT4 HT3 HT2 HU3 HU4
    go_wp2_with fail
    have k0 : w5.cell? ⟨rq, 0, none⟩ = some (.int .i64 ((oA : Int) - 1)) := by rw [cell_of_heap HS.out]; rfl
    have k1 : w5.cell? ⟨rq, 1, none⟩ = some (.int .i64 (oB : Int)) := by rw [cell_of_heap HS.out]; rfl
    exact bodyPost_ret (v := .agg #[.int .i64 ((oA : Int) - 1), .int .i64 (oB : Int)]) (by simp [results, Tryd.results35, go_sem, k0, k1]) rfl ⟨rfl, HT5.out⟩

set_option maxRecDepth 100000 in
theorem make4_any (P : PN) (h : P.Ok) (S : Nat → Nat) (l wt tk : Value) (aq c pb r : Nat) (w : World) (hr : r < P.R) (ha : Ah w P S aq) (hd : P.d ≤ P.t) (hp : Pb w pb P l (.slice (some ⟨aq, 0, none⟩) P.R c) wt tk) :
    Calls Tryd.prog 34 #[.int .i64 (r : Int), .pointer (some ⟨pb, 0, none⟩)] w fun e w' => e = .returned (.agg #[.int .i64 (tkR P (live S) r 0), .int .i64 (tkR P (live S) r 1)]) ∧ Turned [] w w' := by
  obtain ⟨w1, hw1⟩ : ∃ w1, w1 = w.alloc (.cells #[.int .i64 0, .int .i64 0] 43) := ⟨_, rfl⟩
  have hT1 : Turned [] w w1 := by rw [hw1]; exact (Turned.refl [] _).alloc _
  have hrb : w1.heap[w.heap.size]? = some (.cells #[.int .i64 0, .int .i64 0] 43) := by rw [hw1]; exact heap_alloc_new _ _
  have HK := hide (takes_any P h S l wt tk aq c r w1 hr (ha.turned0 hT1) hd)
  obtain ⟨c0, c1, c2, c3, c4, c5, c6, c7, c8⟩ := hp.cs
  have hpl := hp.lt
  generalize tkR P (live S) r 0 = x at *
  generalize tkR P (live S) r 1 = y at *
  generalize P.R = R at *
  obtain ⟨f, t, k, d, e⟩ := P
  unfold plC at HK
  simp only at *
  have HT1 := hide hT1
  have HRb := hide hrb
  clear h ha hp hT1 hrb hr
  obtain ⟨rq, hrq⟩ : ∃ rq, rq = w.heap.size := ⟨_, rfl⟩
  have HQ := hide (show w.heap.size ≤ rq by omega)
  rw [← hrq] at HRb
  go_enter Tryd.func34, Tryd.ntmps34
  go_wp2_with fail
  rw [← hw1, ← hrq]
  clear hw1 hrq
  refine (HK.out).mono ?_
  rintro e1 w2 ⟨rfl, ht2⟩
  have hr2 : w2.heap[rq]? = some (.cells #[.int .i64 0, .int .i64 0] 43) := by rw [ht2.block rq (lt_of_heap HRb.out) (by simp)]; exact HRb.out
  have r0 : w2.cell? ⟨rq, 0, none⟩ = some (.int .i64 0) := by rw [cell_of_heap hr2]; rfl
  have r1 : w2.cell? ⟨rq, 1, none⟩ = some (.int .i64 0) := by rw [cell_of_heap hr2]; rfl
  have f0 : w2.frozen? ⟨rq, 0, none⟩ = false := by simp [World.frozen?, hr2]
  have f1 : w2.frozen? ⟨rq, 1, none⟩ = false := by simp [World.frozen?, hr2]
  have HT2 := hide (HT1.out.trans ht2)
  have HS := hide (set_two hr2 (.int .i64 x) (.int .i64 y))
  have HT3 := hide ((HT2.out.setCell (p := ⟨rq, 0, none⟩) (.inr HQ.out) (.int .i64 x)).setCell (p := ⟨rq, 1, none⟩) (.inr HQ.out) (.int .i64 y))
  clear ht2 hr2 HT1
  go_wp2_with fail
  generalize ((w2.setCell ⟨rq, 0, none⟩ (.int .i64 x)).setCell ⟨rq, 1, none⟩ (.int .i64 y)) = w3 at *
  have k0 : w3.cell? ⟨rq, 0, none⟩ = some (.int .i64 x) := by rw [cell_of_heap HS.out]; rfl
  have k1 : w3.cell? ⟨rq, 1, none⟩ = some (.int .i64 y) := by rw [cell_of_heap HS.out]; rfl
  first
    | exact bodyPost_ret (v := .agg #[.int .i64 x, .int .i64 y]) (by simp [results, Tryd.results34, go_sem, k0, k1]) rfl ⟨rfl, HT3.out⟩
    | exact bodyPost_end (v := .agg #[.int .i64 x, .int .i64 y]) (by simp [results, Tryd.results34, go_sem, k0, k1]) rfl ⟨rfl, HT3.out⟩

/-- What waits tells. -/
def wtR (P : PN) (L : Nat → Bool) (r : Nat) : Nat :=
  if mvR P L r = 0 then 0 else
    if P.reg (P.d + ahR P L r + mvR P L r - 1) = r then P.reg (P.d + ahR P L r + mvR P L r - 1) - P.reg (P.d + ahR P L r) else P.reg (P.d + ahR P L r + mvR P L r - 1) - P.reg (P.d + ahR P L r) + 1

set_option maxRecDepth 100000 in
theorem waits_any (P : PN) (h : P.Ok) (S : Nat → Nat) (l wt tk : Value) (aq c r : Nat) (w : World) (hr : r < P.R) (ha : Ah w P S aq) (hf : P.f ≤ P.d) (hd : P.d ≤ P.t) :
    Calls Tryd.prog 37 #[.agg (plC P l (.slice (some ⟨aq, 0, none⟩) P.R c) wt tk), .int .i64 (r : Int), .int .i64 (mvR P (live S) r : Nat)] w fun e w' => e = .returned (.int .i64 (wtR P (live S) r : Nat)) ∧ Turned [] w w' := by
  have hF := PN.R_few h
  have h2 := h.few
  have HG := hide (fun x w => region_any P h l (.slice (some ⟨aq, 0, none⟩) P.R c) wt tk x w)
  have hcell : w.cell? ⟨aq, r, none⟩ = some (.int .i64 ((ahR P (live S) r : Nat) : Int)) := Ri.cell ha hr
  have hsu := ahR_succ P (live S) r
  have hto : P.d + ahR P (live S) r + mvR P (live S) r ≤ P.t := by
    have h3 := ahR_mono P (live S) (show r + 1 ≤ P.R by omega)
    have h4 : ahR P (live S) P.R ≤ P.t - P.d := by
      unfold ahR
      rw [PN.ed_R h]
      have := cnt_gap (live S) hd
      omega
    omega
  have hB := pb_new w P l (.slice (some ⟨aq, 0, none⟩) P.R c) wt tk
  have hT := (Turned.refl [] w).alloc (.cells (plC P l (.slice (some ⟨aq, 0, none⟩) P.R c) wt tk) 30)
  have hrg : 0 < mvR P (live S) r → rgI P ((P.d : Int) + ahR P (live S) r) = (P.reg (P.d + ahR P (live S) r) : Nat) ∧ rgI P ((P.d : Int) + ahR P (live S) r + mvR P (live S) r - 1) = (P.reg (P.d + ahR P (live S) r + mvR P (live S) r - 1) : Nat) ∧ P.reg (P.d + ahR P (live S) r) ≤ P.reg (P.d + ahR P (live S) r + mvR P (live S) r - 1) ∧ P.reg (P.d + ahR P (live S) r + mvR P (live S) r - 1) < P.R := by
    intro hm
    refine ⟨?_, ?_, PN.reg_mono P (by omega), (PN.reg_in h (by omega) (by omega)).1⟩
    · unfold rgI
      rw [if_pos (by omega), show ((P.d : Int) + ahR P (live S) r).toNat = P.d + ahR P (live S) r by omega]
    · unfold rgI
      rw [if_pos (by omega), show ((P.d : Int) + ahR P (live S) r + mvR P (live S) r - 1).toNat = P.d + ahR P (live S) r + mvR P (live S) r - 1 by omega]
  unfold wtR
  have HC := hide hcell
  have HB := hide hB
  have HT := hide hT
  generalize rgI P = RG at *
  generalize P.reg = rg at *
  generalize ahR P (live S) r = ah at *
  generalize mvR P (live S) r = mv at *
  generalize P.R = R at *
  have hri : (r : Int) < R := by omega
  obtain ⟨f, t, k, d, e⟩ := P
  unfold plC at HG HB HT ⊢
  simp only at HG HB HT hrg hto h2 hd ⊢
  clear h ha hB hT hcell hsu
  by_cases h0 : mv = 0
  · subst h0
    rw [if_pos rfl]
    go_enter Tryd.func37, Tryd.ntmps37
    go_wp2_with fail
    go_ret
    exact ⟨rfl, HT.out⟩
  · rw [if_neg h0]
    obtain ⟨hg1, hg2, hg3, hg4⟩ := hrg (by omega)
    have h0i : ((mv : Int) == 0) = false := by simp; omega
    have HG1 := hide (fun w => HG.out ((d : Int) + ah) w)
    have HG2 := hide (fun w => HG.out ((d : Int) + ah + mv - 1) w)
    rw [hg1] at HG1
    rw [hg2] at HG2
    have hw1 : IntKind.i64.wrap ((d : Int) + ah) = (d : Int) + ah := by rw [IntKind.wrap_i64]; omega
    have hw2 : IntKind.i64.wrap ((d : Int) + ah + mv) = (d : Int) + ah + mv := by rw [IntKind.wrap_i64]; omega
    have hw3 : IntKind.i64.wrap ((d : Int) + ah + mv - 1) = (d : Int) + ah + mv - 1 := by rw [IntKind.wrap_i64]; omega
    clear hg1 hg2 hrg HG h0
    generalize rg (d + ah) = a1 at *
    generalize rg (d + ah + mv - 1) = a2 at *
    obtain ⟨q, hq⟩ : ∃ q, q = w.heap.size := ⟨_, rfl⟩
    go_enter Tryd.func37, Tryd.ntmps37
    go_wp2_with fail
    rw [← hq] at HB ⊢
    generalize w.alloc (.cells #[Value.int .i64 f, Value.int .i64 t, Value.int .i64 k, Value.int .i64 d, Value.int .i64 e, l, .slice (some ⟨aq, 0, none⟩) R c, wt, tk] 30) = w0 at *
    clear hq
    obtain ⟨c0, c1, c2, c3, c4, c5, c6, c7, c8⟩ := HB.out.cs
    simp only at c0 c1 c2 c3 c4
    have ca : w0.cell? ⟨aq, r, none⟩ = some (.int .i64 (ah : Int)) := by rw [HT.out.cell (block_lt HC.out) (by simp)]; exact HC.out
    go_quiet (fail)
    have HU : Turned [] w0 (w0.drewN nq) := (Turned.refl [] w0).drewN nq
    have HB1 := hide (HB.out.turned0 HU)
    have HT1 := hide (HT.out.trans HU)
    clear c0 c1 c2 c3 c4 c5 c6 c7 c8 HU ca HB HT
    generalize w0.drewN nq = w1 at *
    obtain ⟨c0, c1, c2, c3, c4, c5, c6, c7, c8⟩ := HB1.out.cs
    simp only at c0 c1 c2 c3 c4
    clear hto h2 hd hf
    go_wp2_with fail
    go_region_held3 (fun w' => w'.cell? ⟨q, 0, none⟩ = some (.int .i64 (f : Int)) ∧ w'.cell? ⟨q, 1, none⟩ = some (.int .i64 (t : Int)) ∧ w'.cell? ⟨q, 2, none⟩ = some (.int .i64 (k : Int)) ∧ w'.cell? ⟨q, 3, none⟩ = some (.int .i64 (d : Int)) ∧ w'.cell? ⟨q, 4, none⟩ = some (.int .i64 (e : Int)) ∧ w'.cell? ⟨q, 5, none⟩ = some l ∧ w'.cell? ⟨q, 6, none⟩ = some (.slice (some ⟨aq, 0, none⟩) R c) ∧ w'.cell? ⟨q, 7, none⟩ = some wt ∧ w'.cell? ⟨q, 8, none⟩ = some tk) (go_keep)
      (first
        | (go_at_call 14; have HT3b := HT3; clear HT3b; refine (HG2.out _).mono ?_; rintro e' w4 ⟨rfl, ht4⟩; have HU4 := hide (HU3.out.trans ht4); obtain ⟨g0, g1, g2, g3, g4, g5, g6, g7, g8⟩ := (HB1.out.turned0 HU4.out).cs; simp only at g0 g1 g2 g3 g4; have HT4 := hide (HT1.out.trans HU4.out); clear ht4)
        | (go_at_call 14; refine (HG1.out _).mono ?_; rintro e' w3 ⟨rfl, ht3⟩; have HU3 := hide ((Turned.refl [] w1).drew.trans ht3); have HT3 := hide (HT1.out.trans HU3.out); obtain ⟨d0, d1, d2, d3, d4, d5, d6, d7, d8⟩ := (HB1.out.turned0 HU3.out).cs; simp only at d0 d1 d2 d3 d4; clear ht3))
    by_cases hrr : a2 = r
    · have hri2 : ((a2 : Int) == (r : Int)) = true := by simp; omega
      have hsb : ((a2 - a1 : Nat) : Int) = (a2 : Int) - a1 := by omega
      have hws : wrap64 ((a2 : Int) - a1) = (a2 : Int) - a1 := by unfold wrap64; omega
      go_wp2_with fail
      go_ret
      refine ⟨?_, HT4.out⟩
      rw [show ((r - a1 : Nat) : Int) = (r : Int) - a1 by omega]
      rfl
    · have hri2 : ((a2 : Int) == (r : Int)) = false := by simp; omega
      have hsb : ((a2 - a1 + 1 : Nat) : Int) = (a2 : Int) - a1 + 1 := by omega
      have hws : wrap64 ((a2 : Int) - a1) = (a2 : Int) - a1 := by unfold wrap64; omega
      have hws1 : wrap64 ((a2 : Int) - a1 + 1) = (a2 : Int) - a1 + 1 := by unfold wrap64; omega
      go_wp2_with fail
      go_ret
      refine ⟨?_, HT4.out⟩
      rfl

set_option maxRecDepth 100000 in
theorem make5_any (P : PN) (h : P.Ok) (S : Nat → Nat) (l wt tk : Value) (aq c pb mb mq mc r : Nat) (w : World) (hr : r < P.R) (ha : Ah w P S aq) (hf : P.f ≤ P.d) (hd : P.d ≤ P.t) (hp : Pb w pb P l (.slice (some ⟨aq, 0, none⟩) P.R c) wt tk) (cm : w.cell? ⟨mb, 0, none⟩ = some (.slice (some ⟨mq, 0, none⟩) P.R mc)) (hm : Ri w 2 mq P.R (fun r => (mvR P (live S) r : Nat))) :
    Calls Tryd.prog 36 #[.int .i64 (r : Int), .pointer (some ⟨pb, 0, none⟩), .pointer (some ⟨mb, 0, none⟩)] w fun e w' => e = .returned (.int .i64 (wtR P (live S) r : Nat)) ∧ Turned [] w w' := by
  have HK := hide (fun (w' : World) (t : Turned [] w w') => waits_any P h S l wt tk aq c r w' hr (ha.turned0 t) hf hd)
  obtain ⟨c0, c1, c2, c3, c4, c5, c6, c7, c8⟩ := hp.cs
  have HP := hide hp
  have cr : w.cell? ⟨mq, r, none⟩ = some (.int .i64 ((mvR P (live S) r : Nat) : Int)) := hm.cell hr
  have HM := hide cm
  have HC := hide cr
  generalize wtR P (live S) r = x at *
  generalize mvR P (live S) r = mv at *
  generalize P.R = R at *
  have hri : (r : Int) < R := by omega
  obtain ⟨f, t, k, d, e⟩ := P
  unfold plC at HK
  simp only at *
  clear h ha hp hm hr hf hd
  go_enter Tryd.func36, Tryd.ntmps36
  go_wp2_with fail
  go_region_held3 (fun w' => w'.cell? ⟨mb, 0, none⟩ = some (.slice (some ⟨mq, 0, none⟩) R mc) ∧ w'.cell? ⟨mq, r, none⟩ = some (.int .i64 (mv : Int)) ∧ w'.cell? ⟨pb, 0, none⟩ = some (.int .i64 (f : Int)) ∧ w'.cell? ⟨pb, 1, none⟩ = some (.int .i64 (t : Int)) ∧ w'.cell? ⟨pb, 2, none⟩ = some (.int .i64 (k : Int)) ∧ w'.cell? ⟨pb, 3, none⟩ = some (.int .i64 (d : Int)) ∧ w'.cell? ⟨pb, 4, none⟩ = some (.int .i64 (e : Int)) ∧ w'.cell? ⟨pb, 5, none⟩ = some l ∧ w'.cell? ⟨pb, 6, none⟩ = some (.slice (some ⟨aq, 0, none⟩) R c) ∧ w'.cell? ⟨pb, 7, none⟩ = some wt ∧ w'.cell? ⟨pb, 8, none⟩ = some tk) (go_keep)
    (first
      | (go_at_call 37; refine (HK.out _ (Turned.refl [] w).drew).mono ?_; rintro e' w2 ⟨rfl, ht2⟩; have HT2 := hide ((Turned.refl [] w).drew.trans ht2); obtain ⟨d0, d1, d2, d3, d4, d5, d6, d7, d8⟩ := (HP.out.turned0 HT2.out).cs; simp only at d0 d1 d2 d3 d4; have d9 : w2.cell? ⟨mb, 0, none⟩ = some (.slice (some ⟨mq, 0, none⟩) R mc) := (by rw [HT2.out.cell (block_lt HM.out) (by simp)]; exact HM.out); have d10 : w2.cell? ⟨mq, r, none⟩ = some (.int .i64 (mv : Int)) := (by rw [HT2.out.cell (block_lt HC.out) (by simp)]; exact HC.out); clear ht2))
  go_wp2_with fail
  go_ret
  exact ⟨rfl, HT2.out⟩
end Go.Proofs.YtcckflcjjgckoaaDoor
