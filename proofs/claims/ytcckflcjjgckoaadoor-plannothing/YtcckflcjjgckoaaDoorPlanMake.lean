/-
  Make of package plan.
-/
import Derived.Test.YtcckflcjjgckoaaDoorPlanPack
import Derived.Test.YtcckflcjjgckoaaDoorPlanTakes0
namespace Go.Proofs.YtcckflcjjgckoaaDoor
open Go.RowKit Bt
set_option linter.unusedVariables false
set_option linter.unusedSimpArgs false

/-- The numbers of the plan: dense, top. -/
def planOf (f t k D : Nat) (L : Nat → Bool) : PN := ⟨f, t, k, D, D + (cnt L t - cnt L D)⟩
/-- A plan that Make has made: its value, and its lists in memory. -/
structure Pln (w : World) (P : PN) (S : Nat → Nat) (lq aq wq tq : Nat) : Prop where
  lv : Ri w 3 lq P.R (fun r => (lvR P (live S) r : Nat))
  ah : Ah w P S aq
  wt : Ri w 3 wq P.R (fun r => (wtR P (live S) r : Nat))
  tk : Rp w tq P.R (fun r s => tkR P (live S) r s)
theorem Pln.turned0 {w w' : World} {P : PN} {S : Nat → Nat} {lq aq wq tq : Nat} (h : Pln w P S lq aq wq tq) (t : Turned [] w w') : Pln w' P S lq aq wq tq := ⟨h.lv.turned0 t, h.ah.turned0 t, h.wt.turned0 t, h.tk.turned0 t⟩
def slc (q n : Nat) : Value := .slice (some ⟨q, 0, none⟩) n n
/-- What Make tells of numbers that may be: the plan's numbers. -/
structure Makes (S : Nat → Nat) (f t k waste : Nat) (P : PN) : Prop where
  f_ : P.f = f
  t_ : P.t = t
  k_ : P.k = k
  e_ : P.e = P.d + (cnt (live S) t - cnt (live S) P.d)
  d_ : ∃ K, Packs P (live S) waste K ∧ IsPast S (P.ed K) P.d
theorem Makes.dle {n : Nat} {S : Nat → Nat} {f t k waste : Nat} {P : PN} (h : Makes S f t k waste P) (hs : Bl n S) (hc : NoCut S t) : P.d ≤ t := by
  obtain ⟨K, h1, h2⟩ := h.d_
  have h3 := PN.ed_le P K
  rw [h.t_] at h3
  rcases h2 with ⟨a, k1, k2, k3⟩ | ⟨_, k1⟩
  · by_cases h4 : P.d ≤ t
    · exact h4
    · exact absurd (show t < a + S a by omega) (hc a (by omega))
  · omega
theorem Makes.fle {S : Nat → Nat} {f t k waste : Nat} {P : PN} (h : Makes S f t k waste P) (ho : P.Ok) : f ≤ P.d := by
  obtain ⟨K, h1, h2⟩ := h.d_
  have h3 := PN.ed_ge ho K
  rw [h.f_] at h3
  have := h2.ge
  omega

/-- On the way through Make: the plan's block, the boxed bits, the result's block. -/
structure Mk (w wi : World) (ov : Option Addr) (bb pb rb : Nat) (P : PN) (l a wt tk : Value) : Prop where
  t : Turned [] w wi
  b : wi.cell? ⟨bb, 0, none⟩ = some (.pointer ov)
  p : Pb wi pb P l a wt tk
  r : Pb wi rb ⟨0, 0, 0, 0, 0⟩ (.slice none 0 0) (.slice none 0 0) (.slice none 0 0) (.slice none 0 0)
  nb : bb ≠ pb
  nr : rb ≠ pb
  np : w.heap.size ≤ pb
  nq : w.heap.size ≤ rb
section
variable {w wi wj : World} {ov : Option Addr} {bb pb rb : Nat} {P : PN} {l a wt tk : Value}
theorem Mk.turned0 (h : Mk w wi ov bb pb rb P l a wt tk) (t : Turned [] wi wj) : Mk w wj ov bb pb rb P l a wt tk :=
  ⟨h.t.trans t, by rw [t.cell (block_lt h.b) (by simp)]; exact h.b, h.p.turned0 t, h.r.turned0 t, h.nb, h.nr, h.np, h.nq⟩
theorem Pb.fz (h : Pb wi pb P l a wt tk) (i : Nat) : wi.frozen? ⟨pb, i, none⟩ = false := by
  unfold Pb at h
  simp [World.frozen?, h]
theorem Mk.set (h : Mk w wi ov bb pb rb P l a wt tk) (i : Nat) (v : Value) {P' : PN} {l' a' wt' tk' : Value} (he : (plC P l a wt tk).setIfInBounds i v = plC P' l' a' wt' tk') : Mk w (wi.setCell ⟨pb, i, none⟩ v) ov bb pb rb P' l' a' wt' tk' := by
  have t : Turned [pb] wi (wi.setCell ⟨pb, i, none⟩ v) := (Turned.refl [pb] wi).setCell (p := ⟨pb, i, none⟩) (.inl (by simp)) v
  refine ⟨h.t.setCell (p := ⟨pb, i, none⟩) (.inr h.np) v, ?_, ?_, h.r.turned t (by simp; exact h.nr), h.nb, h.nr, h.np, h.nq⟩
  · rw [t.cell (block_lt h.b) (by simpa using h.nb)]; exact h.b
  · unfold Pb
    rw [heap_setCell_at _ _ _ _ _ _ h.p, he]
end
theorem Ri.off {w : World} {ty : TypeId} {q n pb i : Nat} {g : Nat → Int} {v : Value} (h : Ri w ty q n g) (hne : q ≠ pb) : Ri (w.setCell ⟨pb, i, none⟩ v) ty q n g :=
  h.turned ((Turned.refl [pb] w).setCell (p := ⟨pb, i, none⟩) (.inl (by simp)) v) (by simpa using hne)
theorem Rp.off {w : World} {q n pb i : Nat} {g : Nat → Nat → Int} {v : Value} (h : Rp w q n g) (hne : q ≠ pb) : Rp (w.setCell ⟨pb, i, none⟩ v) q n g :=
  h.turned ((Turned.refl [pb] w).setCell (p := ⟨pb, i, none⟩) (.inl (by simp)) v) (by simpa using hne)

def nine (w : World) (rb : Nat) (P : PN) (l a wt tk : Value) : World := ((((((((w.setCell ⟨rb, 0, none⟩ (.int .i64 P.f)).setCell ⟨rb, 1, none⟩ (.int .i64 P.t)).setCell ⟨rb, 2, none⟩ (.int .i64 P.k)).setCell ⟨rb, 3, none⟩ (.int .i64 P.d)).setCell ⟨rb, 4, none⟩ (.int .i64 P.e)).setCell ⟨rb, 5, none⟩ l).setCell ⟨rb, 6, none⟩ a).setCell ⟨rb, 7, none⟩ wt).setCell ⟨rb, 8, none⟩ tk
theorem nine_set {w : World} {rb : Nat} {Q : PN} {u0 u1 u2 u3 : Value} (h : Pb w rb Q u0 u1 u2 u3) (P : PN) (l a wt tk : Value) : Pb (nine w rb P l a wt tk) rb P l a wt tk := by
  unfold nine Pb
  have s : ∀ {w : World} {c : Array Value} (i : Nat) (v : Value), w.heap[rb]? = some (.cells c 30) → (w.setCell ⟨rb, i, none⟩ v).heap[rb]? = some (.cells (c.setIfInBounds i v) 30) := fun i v h => heap_setCell_at _ _ _ _ _ _ h _
  rw [s 8 tk (s 7 wt (s 6 a (s 5 l (s 4 _ (s 3 _ (s 2 _ (s 1 _ (s 0 _ h))))))))]
  simp [plC]
theorem nine_new {w0 w : World} {rb : Nat} {T : List Nat} (h : Turned T w0 w) (hr : w0.heap.size ≤ rb) (P : PN) (l a wt tk : Value) : Turned T w0 (nine w rb P l a wt tk) := by
  unfold nine
  have s : ∀ {w : World} (i : Nat) (v : Value), Turned T w0 w → Turned T w0 (w.setCell ⟨rb, i, none⟩ v) := fun i v h => h.setCell (p := ⟨rb, i, none⟩) (.inr hr) v
  exact s 8 tk (s 7 wt (s 6 a (s 5 l (s 4 _ (s 3 _ (s 2 _ (s 1 _ (s 0 _ h))))))))
theorem nine_turned (w : World) (rb : Nat) (P : PN) (l a wt tk : Value) : Turned [rb] w (nine w rb P l a wt tk) := by
  unfold nine
  have s : ∀ {w' : World} (i : Nat) (v : Value), Turned [rb] w w' → Turned [rb] w (w'.setCell ⟨rb, i, none⟩ v) := fun i v h => h.setCell (p := ⟨rb, i, none⟩) (.inl (by simp)) v
  exact s 8 tk (s 7 wt (s 6 a (s 5 l (s 4 _ (s 3 _ (s 2 _ (s 1 _ (s 0 _ (Turned.refl _ _)))))))))

set_option maxHeartbeats 4000000 in
set_option maxRecDepth 100000 in
theorem make_ok (p N : Nat) (S : Nat → Nat) (f t k waste : Nat) (w : World) (hb : Brd w (some ⟨p, 0, none⟩) N (sidesOf S)) (hs : Bl N S) (hft : f ≤ t) (htN : t ≤ N) (hk : 1 ≤ k) (hk2 : k ≤ 65536) (hw : waste ≤ 1000000) (hcf : NoCut S f) (hct : NoCut S t) :
    Calls Tryd.prog 9 #[.pointer (some ⟨p, 0, none⟩), .int .i64 (f : Int), .int .i64 (t : Int), .int .i64 (k : Int), .int .i64 (waste : Int)] w fun e w' => ∃ P lq aq wq tq, e = .returned (.tuple #[.agg (plC P (slc lq P.R) (slc aq P.R) (slc wq P.R) (slc tq P.R)), .int .i64 0]) ∧ Makes S f t k waste P ∧ Pln w' P S lq aq wq tq ∧ Turned [] w w' := by
  have hN := hb.few
  have hOk : ∀ d e, PN.Ok ⟨f, t, k, d, e⟩ := fun d e => ⟨hft, by show t ≤ 65536; omega, hk, hk2⟩
  have HW := hide (fun (w' : World) (t : Turned [] w w') => words_any (some ⟨p, 0, none⟩) N (sidesOf S) w' (hb.turned t))
  have HCf := hide (fun (w' : World) (t : Turned [] w w') => cut_not (some ⟨p, 0, none⟩) N S f w' (hb.turned t) hs hcf)
  have HCt := hide (fun (w' : World) (tt : Turned [] w w') => cut_not (some ⟨p, 0, none⟩) N S t w' (hb.turned tt) hs hct)
  have HBr := hide hb
  have HBl := hide hs
  have HCT := hide hct
  have HOK := hide hOk
  have hfi : ¬ (t : Int) < f := by omega
  have hti : ¬ (N : Int) < t := by omega
  have hki : ¬ (k : Int) < 1 := by omega
  obtain ⟨w0, hw0⟩ : ∃ w0, w0 = (w.alloc (.cells #[.pointer (some ⟨p, 0, none⟩)] 24)).alloc (.cells #[.int .i64 0, .int .i64 0, .int .i64 0, .int .i64 0, .int .i64 0, .slice none 0 0, .slice none 0 0, .slice none 0 0, .slice none 0 0] 30) := ⟨_, rfl⟩
  have hs1 : (w.alloc (.cells #[.pointer (some ⟨p, 0, none⟩)] 24)).heap.size = w.heap.size + 1 := by simp
  have hT0 : Turned [] w w0 := by rw [hw0]; exact ((Turned.refl [] w).alloc _).alloc _
  have hb0 : w0.cell? ⟨w.heap.size, 0, none⟩ = some (.pointer (some ⟨p, 0, none⟩)) := by
    rw [hw0, cell_alloc_old _ _ (by rw [hs1]; simp)]
    exact cell_alloc_new _ _ _
  have hr0 : Pb w0 (w.heap.size + 1) ⟨0, 0, 0, 0, 0⟩ (.slice none 0 0) (.slice none 0 0) (.slice none 0 0) (.slice none 0 0) := by
    rw [hw0, ← hs1]
    exact heap_alloc_new _ _
  have HT0 := hide hT0
  have HB0 := hide hb0
  have HR0 := hide hr0
  obtain ⟨bb, hbb⟩ : ∃ bb, bb = w.heap.size := ⟨_, rfl⟩
  obtain ⟨rb, hrb⟩ : ∃ rb, rb = w.heap.size + 1 := ⟨_, rfl⟩
  rw [← hbb] at HB0
  rw [← hrb] at HR0
  have HNb := hide (show bb < rb ∧ w.heap.size ≤ bb by omega)
  clear hb hs hcf hct hOk hT0 hb0 hr0 hs1
  have cb := HB0.out
  go_enter Tryd.func9, Tryd.ntmps9
  go_wp2_with fail
  rw [← hw0, ← hrb, ← hbb]
  clear hw0 hrb hbb
  refine (HW.out _ HT0.out).mono ?_
  rintro e1 w1 ⟨rfl, rfl⟩
  go_wp2_with fail
  refine (HCf.out _ HT0.out).mono ?_
  rintro e1 w2 ⟨rfl, ht2⟩
  have HT2 := hide (HT0.out.trans ht2)
  have HB2 : Hid (w2.cell? ⟨bb, 0, none⟩ = some (.pointer (some ⟨p, 0, none⟩))) := hide (by rw [ht2.cell (block_lt HB0.out) (by simp)]; exact HB0.out)
  have HR2 := hide (HR0.out.turned0 ht2)
  clear ht2 cb HT0 HB0 HR0
  have cb := HB2.out
  go_wp2_with fail
  refine (HCt.out _ HT2.out).mono ?_
  rintro e1 w3 ⟨rfl, ht3⟩
  have HT3 := hide (HT2.out.trans ht3)
  have HB3 : Hid (w3.cell? ⟨bb, 0, none⟩ = some (.pointer (some ⟨p, 0, none⟩))) := hide (by rw [ht3.cell (block_lt HB2.out) (by simp)]; exact HB2.out)
  have HR3 := hide (HR2.out.turned0 ht3)
  clear ht3 cb HT2 HB2 HR2 HW HCf HCt
  have cb := HB3.out
  go_upto_region 4 with fail
  rename_i hcc KK aa
  clear hcc hfi hti hki
  have HM4 := hide (show Mk w (w3.alloc (.cells #[.int .i64 (f : Int), .int .i64 (t : Int), .int .i64 (k : Int), .int .i64 0, .int .i64 0, .slice none 0 0, .slice none 0 0, .slice none 0 0, .slice none 0 0] 30)) (some ⟨p, 0, none⟩) bb w3.heap.size rb ⟨f, t, k, 0, 0⟩ (.slice none 0 0) (.slice none 0 0) (.slice none 0 0) (.slice none 0 0) from ⟨HT3.out.alloc _, by rw [cell_alloc_old _ _ (block_lt HB3.out)]; exact HB3.out, heap_alloc_new _ _, HR3.out.turned0 ((Turned.refl [] w3).alloc _), by have := block_lt HB3.out; simp at this; omega, by have := HR3.out.lt; omega, HT3.out.size, by have := HNb.out; omega⟩)
  generalize w3.alloc (.cells #[Value.int .i64 (f : Int), Value.int .i64 (t : Int), Value.int .i64 (k : Int), Value.int .i64 0, Value.int .i64 0, .slice none 0 0, .slice none 0 0, .slice none 0 0, .slice none 0 0] 30) = w4 at *
  generalize w3.heap.size = pb at *
  clear HT3 HB3 HR3 cb HNb
  have HE := hide (each_live bb pb ⟨f, t, k, 0, 0⟩ (HOK.out 0 0) (.slice none 0 0) (.slice none 0 0) (.slice none 0 0) (.slice none 0 0) (fun r => (lvR ⟨f, t, k, 0, 0⟩ (live S) r : Nat)) w4 (fun w' tt r hr => make1_any (some ⟨p, 0, none⟩) N S ⟨f, t, k, 0, 0⟩ (HOK.out 0 0) (.slice none 0 0) (.slice none 0 0) (.slice none 0 0) (.slice none 0 0) bb pb r w' hr (HBr.out.turned (HM4.out.t.trans tt)) HBl.out htN (by rw [tt.cell (block_lt HM4.out.b) (by simp)]; exact HM4.out.b) (HM4.out.p.turned0 tt)))
  have hpl4 := HM4.out.p.lt
  obtain ⟨c0, c1, c2, c3, c4, c5, c6, c7, c8⟩ := HM4.out.p.cs
  simp only [Int.cast_ofNat_Int] at c0 c1 c2 c3 c4
  go_wp2_with fail
  refine (HE.out).mono ?_
  rintro e1 w5 ⟨lq, rfl, hlq, hl0, ht5⟩
  have HM5 := hide (HM4.out.turned0 ht5)
  have HL5 := hide hlq
  have HLn := hide (show lq ≠ pb by omega)
  have HLr := hide (show lq ≠ rb by have := HM4.out.r.lt; omega)
  clear c0 c1 c2 c3 c4 c5 c6 c7 c8
  clear hlq hl0 ht5 HE HM4 hpl4
  generalize hRR : PN.R ⟨f, t, k, 0, 0⟩ = R at *
  obtain ⟨c0, c1, c2, c3, c4, c5, c6, c7, c8⟩ := HM5.out.p.cs
  simp only [Int.cast_ofNat_Int] at c0 c1 c2 c3 c4
  have fz := HM5.out.p.fz 5
  have pl := HM5.out.p.lt
  go_upto_region 5 with fail
  have HM6 := hide (HM5.out.set 5 (.slice (some ⟨lq, 0, none⟩) R R) (P' := ⟨f, t, k, 0, 0⟩) (l' := .slice (some ⟨lq, 0, none⟩) R R) (a' := .slice none 0 0) (wt' := .slice none 0 0) (tk' := .slice none 0 0) rfl)
  have HL6 := hide (HL5.out.off (i := 5) (v := .slice (some ⟨lq, 0, none⟩) R R) HLn.out)
  generalize w5.setCell ⟨pb, 5, none⟩ (.slice (some ⟨lq, 0, none⟩) R R) = w6 at *
  clear c0 c1 c2 c3 c4 c5 c6 c7 c8
  clear HM5 HL5 fz pl
  have HRR : Hid (∀ d e, PN.R ⟨f, t, k, d, e⟩ = R) := hide (fun d e => hRR)
  clear hRR
  have HPk := hide (fun (w' : World) (tt : Turned [] w6 w') => packed_any ⟨f, t, k, 0, 0⟩ (HOK.out 0 0) (live S) (.slice none 0 0) (.slice none 0 0) (.slice none 0 0) lq R waste w' (by rw [HRR.out]; exact HL6.out.turned0 tt) hw)
  rw [HRR.out] at HPk
  unfold plC at HPk
  simp only [Int.cast_ofNat_Int] at HPk
  have HPa := hide (fun (w' : World) (tt : Turned [] w6 w') x => past_any (some ⟨p, 0, none⟩) N S x w' (HBr.out.turned (HM6.out.t.trans tt)) HBl.out)
  have HMd := hide (HM6.out.turned0 ((Turned.refl [] w6).drew))
  obtain ⟨c0, c1, c2, c3, c4, c5, c6, c7, c8⟩ := HMd.out.p.cs
  simp only [Int.cast_ofNat_Int] at c0 c1 c2 c3 c4
  refine wp_region_held_drew (S := (fun w' => w'.cell? ⟨bb, 0, none⟩ = some (.pointer (some ⟨p, 0, none⟩)))) (by kernel_rfl) HMd.out.b (fun hHeld => ?_)
  refine wpAnyH_take (i := 0) (v := ?_) rfl (by kernel_rfl) (by kernel_rfl) (by kernel_rfl) (fun _ _ _ h => h) (Or.inl ⟨by rfl, ?_⟩) (by assumption) ?_
  rotate_left
  · (intro w hSw; (try dsimp only at hSw); go_simp; all_goals with_reducible rfl)
  (try simp only [List.getElem_toArray, List.getElem_cons_succ, List.getElem_cons_zero, Act.put, List.setIfInBounds_toArray, List.set_cons_zero, List.set_cons_succ])
  refine wpAnyH_take (i := 2) (v := ?_) rfl (by kernel_rfl) (by kernel_rfl) (by kernel_rfl) (fun _ _ _ h => h) (Or.inl ⟨by rfl, ?_⟩) (by assumption) ?_
  rotate_left
  · (intro w hSw; (try dsimp only at hSw); go_simp; all_goals with_reducible rfl)
  (try simp only [List.getElem_toArray, List.getElem_cons_succ, List.getElem_cons_zero, Act.put, List.setIfInBounds_toArray, List.set_cons_zero, List.set_cons_succ])
  refine wpAnyH_ready (rs := [1]) (by kernel_rfl) (by simp) ?_
  refine AllReadyH.cons rfl (fun K hK => ?_) AllReadyH.nil
  (try simp only [List.getElem_toArray, List.getElem_cons_succ, List.getElem_cons_zero])
  go_simp
  refine hK.out _ _ ?_ (fun hHeld => ?_)
  · ((try dsimp only); assumption)
  clear hK K
  (try simp only [List.getElem_toArray, List.getElem_cons_succ, List.getElem_cons_zero, Act.put, List.setIfInBounds_toArray, List.set_cons_zero, List.set_cons_succ])
  refine wpAnyH_ready (rs := [3]) (by kernel_rfl) (by simp) ?_
  refine AllReadyH.cons rfl (fun K hK => ?_) AllReadyH.nil
  (try simp only [List.getElem_toArray, List.getElem_cons_succ, List.getElem_cons_zero])
  go_simp
  refine (HPk.out _ (Turned.refl [] w6).drew).mono ?_
  rintro e1 w7 ⟨K0, rfl, hpk, ht7⟩
  have HK0 := hide hpk
  have HU7 := hide ((Turned.refl [] w6).drew.trans ht7)
  have hb7 := (HM6.out.turned0 HU7.out).b
  clear ht7 hpk c0 c1 c2 c3 c4 c5 c6 c7 c8
  refine hK.out _ _ ?_ (fun hHeld => ?_)
  · ((try dsimp only); exact hb7)
  clear hK K
  (try simp only [List.getElem_toArray, List.getElem_cons_succ, List.getElem_cons_zero, Act.put, List.setIfInBounds_toArray, List.set_cons_zero, List.set_cons_succ])
  refine wpAnyH_ready (rs := [4]) (by kernel_rfl) (by simp) ?_
  refine AllReadyH.cons rfl (fun K hK => ?_) AllReadyH.nil
  (try simp only [List.getElem_toArray, List.getElem_cons_succ, List.getElem_cons_zero])
  go_simp
  refine (HPa.out _ HU7.out _).mono ?_
  rintro e1 w8 ⟨D, rfl, hpa, ht8⟩
  have HPD := hide hpa
  have HU8 := hide (HU7.out.trans ht8)
  have HM8 := hide (HM6.out.turned0 HU8.out)
  have HL8 := hide (HL6.out.turned0 HU8.out)
  have hb8 := HM8.out.b
  clear ht8 hpa hb7
  obtain ⟨c0, c1, c2, c3, c4, c5, c6, c7, c8⟩ := HM8.out.p.cs
  simp only [Int.cast_ofNat_Int] at c0 c1 c2 c3 c4
  have fz := HM8.out.p.fz 3
  have pl := HM8.out.p.lt
  refine hK.out _ _ ?_ (fun hHeld => ?_)
  · ((try dsimp only); exact hb8)
  clear hK K
  (try simp only [List.getElem_toArray, List.getElem_cons_succ, List.getElem_cons_zero, Act.put, List.setIfInBounds_toArray, List.set_cons_zero, List.set_cons_succ])
  refine wpAnyH_take (i := 5) (v := ?_) rfl (by kernel_rfl) (by kernel_rfl) (by kernel_rfl) (fun _ _ _ h => h) (Or.inl ⟨by rfl, ?_⟩) (by assumption) ?_
  rotate_left
  · (intro w hSw; (try dsimp only at hSw); go_simp; all_goals with_reducible rfl)
  (try simp only [List.getElem_toArray, List.getElem_cons_succ, List.getElem_cons_zero, Act.put, List.setIfInBounds_toArray, List.set_cons_zero, List.set_cons_succ])
  have HM9 := hide (HM8.out.set 3 (.int .i64 (D : Int)) (P' := ⟨f, t, k, D, 0⟩) (l' := .slice (some ⟨lq, 0, none⟩) R R) (a' := .slice none 0 0) (wt' := .slice none 0 0) (tk' := .slice none 0 0) rfl)
  have HL9 := hide (HL8.out.off (i := 3) (v := .int .i64 (D : Int)) HLn.out)
  have hb9 := HM9.out.b
  refine wpAnyH_ready (rs := [6]) (by kernel_rfl) (by simp) ?_
  refine AllReadyH.cons rfl (fun K hK => ?_) AllReadyH.nil
  (try simp only [List.getElem_toArray, List.getElem_cons_succ, List.getElem_cons_zero])
  go_simp
  refine hK.out _ _ ?_ (fun hHeld => ?_)
  · ((try dsimp only); exact hb9)
  clear hK K
  (try simp only [List.getElem_toArray, List.getElem_cons_succ, List.getElem_cons_zero, Act.put, List.setIfInBounds_toArray, List.set_cons_zero, List.set_cons_succ])
  refine wpAnyH_done (by kernel_rfl) ?_ _
  generalize w8.setCell ⟨pb, 3, none⟩ (.int .i64 (D : Int)) = w9 at *
  clear c0 c1 c2 c3 c4 c5 c6 c7 c8
  clear HM8 HL8 HM6 HL6 HMd HU7 HU8 HPk HPa fz pl hb8 hb9 hHeld
  have hDt : D ≤ t := by
    have h3 := PN.ed_le ⟨f, t, k, 0, 0⟩ K0
    simp only at h3
    rcases HPD.out with ⟨a, k1, k2, k3⟩ | ⟨_, k1⟩
    · by_cases h4 : D ≤ t
      · exact h4
      · exact absurd (show t < a + S a by omega) (HCT.out a (by omega))
    · omega
  have hfD : f ≤ D := by
    have h3 := PN.ed_ge (HOK.out 0 0) K0
    have h4 := HPD.out.ge
    simp only at h3
    omega
  have hRf : R ≤ 65536 := by rw [← HRR.out 0 0]; exact PN.R_few (HOK.out 0 0)
  have HSA : Hid (∀ e r, sumN (mvR ⟨f, t, k, D, 0⟩ (live S)) r = ahR ⟨f, t, k, D, e⟩ (live S) r) := hide (fun e r => sum_ahead (P := ⟨f, t, k, D, 0⟩) (HOK.out D 0) (live S) hfD r)
  have HTo : Hid (sumN (mvR ⟨f, t, k, D, 0⟩ (live S)) R = cnt (live S) t - cnt (live S) D) := hide (by rw [HSA.out 0]; unfold ahR; rw [← HRR.out D 0, PN.ed_R (HOK.out D 0)])
  have hTo6 : sumN (mvR ⟨f, t, k, D, 0⟩ (live S)) R ≤ 65536 := by rw [HTo.out]; have := cnt_gap (live S) hDt; omega
  have HE := hide (each_moved bb pb ⟨f, t, k, D, 0⟩ (HOK.out D 0) (.slice (some ⟨lq, 0, none⟩) R R) (.slice none 0 0) (.slice none 0 0) (.slice none 0 0) (fun r => (mvR ⟨f, t, k, D, 0⟩ (live S) r : Nat)) w9 (fun w' tt r hr => make2_any (some ⟨p, 0, none⟩) N S ⟨f, t, k, D, 0⟩ (HOK.out D 0) (.slice (some ⟨lq, 0, none⟩) R R) (.slice none 0 0) (.slice none 0 0) (.slice none 0 0) bb pb r w' hr (HBr.out.turned (HM9.out.t.trans tt)) HBl.out htN hDt (by rw [tt.cell (block_lt HM9.out.b) (by simp)]; exact HM9.out.b) (HM9.out.p.turned0 tt)))
  rw [HRR.out] at HE
  unfold plC at HE
  simp only [Int.cast_ofNat_Int] at HE
  obtain ⟨c0, c1, c2, c3, c4, c5, c6, c7, c8⟩ := HM9.out.p.cs
  simp only [Int.cast_ofNat_Int] at c0 c1 c2 c3 c4
  go_wp2_with fail
  refine (HE.out).mono ?_
  rintro e1 w10 ⟨mq, rfl, hmq, hm0, ht10⟩
  have HM10 := hide (HM9.out.turned0 ht10)
  have HL10 := hide (HL9.out.turned0 ht10)
  have HMq := hide hmq
  have hmp : mq ≠ pb := by have := HM9.out.p.lt; omega
  clear c0 c1 c2 c3 c4 c5 c6 c7 c8
  clear hmq hm0 ht10 HE HM9 HL9
  obtain ⟨w11, hw11⟩ : ∃ w11, w11 = w10.alloc (.cells #[.slice (some ⟨mq, 0, none⟩) R R] 57) := ⟨_, rfl⟩
  obtain ⟨mb, hmb⟩ : ∃ mb, mb = w10.heap.size := ⟨_, rfl⟩
  have ht11 : Turned [] w10 w11 := by rw [hw11]; exact (Turned.refl [] w10).alloc _
  have hmc : w11.cell? ⟨mb, 0, none⟩ = some (.slice (some ⟨mq, 0, none⟩) R R) := by rw [hw11, hmb]; exact cell_alloc_new _ _ _
  have hmbp : mb ≠ pb := by have := HM10.out.p.lt; omega
  have HM11 := hide (HM10.out.turned0 ht11)
  have HL11 := hide (HL10.out.turned0 ht11)
  have HMq11 := hide (HMq.out.turned0 ht11)
  have HMc := hide hmc
  clear ht11 hmc HM10 HL10 HMq
  have HPl := hide (plain13 w11 mq R R (mvR ⟨f, t, k, D, 0⟩ (live S)) HMq11.out hRf hTo6)
  go_wp2_with fail
  rw [← hw11, ← hmb]
  clear hw11 hmb
  refine (HPl.out).mono ?_
  rintro e1 w12 ⟨sq, rfl, hsq, hs0, ht12⟩
  have HM12 := hide (HM11.out.turned0 ht12)
  have HL12 := hide (HL11.out.turned0 ht12)
  have HMq12 := hide (HMq11.out.turned0 ht12)
  have HMc12 : Hid (w12.cell? ⟨mb, 0, none⟩ = some (.slice (some ⟨mq, 0, none⟩) R R)) := hide (by rw [ht12.cell (block_lt HMc.out) (by simp)]; exact HMc.out)
  have HSq := hide hsq
  clear hsq hs0 ht12 HM11 HL11 HMq11 HMc HPl
  obtain ⟨w13, hw13⟩ : ∃ w13, w13 = w12.alloc (.cells #[.slice (some ⟨sq, 0, none⟩) R R] 57) := ⟨_, rfl⟩
  obtain ⟨sb, hsb⟩ : ∃ sb, sb = w12.heap.size := ⟨_, rfl⟩
  have ht13 : Turned [] w12 w13 := by rw [hw13]; exact (Turned.refl [] w12).alloc _
  have hsc : w13.cell? ⟨sb, 0, none⟩ = some (.slice (some ⟨sq, 0, none⟩) R R) := by rw [hw13, hsb]; exact cell_alloc_new _ _ _
  have HM13 := hide (HM12.out.turned0 ht13)
  have HL13 := hide (HL12.out.turned0 ht13)
  have HMq13 := hide (HMq12.out.turned0 ht13)
  have HSq13 := hide (HSq.out.turned0 ht13)
  have HMc13 : Hid (w13.cell? ⟨mb, 0, none⟩ = some (.slice (some ⟨mq, 0, none⟩) R R)) := hide (by rw [ht13.cell (block_lt HMc12.out) (by simp)]; exact HMc12.out)
  have hpl12 := HM12.out.p.lt
  obtain ⟨c0, c1, c2, c3, c4, c5, c6, c7, c8⟩ := HM12.out.p.cs
  simp only [Int.cast_ofNat_Int] at c0 c1 c2 c3 c4
  clear ht13 HM12 HL12 HMq12 HMc12 HSq
  have HE := hide (each_ahead sb ⟨f, t, k, D, 0⟩ (HOK.out D 0) (.slice (some ⟨lq, 0, none⟩) R R) (.slice none 0 0) (.slice none 0 0) (.slice none 0 0) (fun r => (sumN (mvR ⟨f, t, k, D, 0⟩ (live S)) r : Nat)) w13 (fun w' tt r hr => make3_any sb sq R R _ r w' (by rw [← HRR.out D 0]; exact hr) (by rw [tt.cell (block_lt hsc) (by simp)]; exact hsc) (HSq13.out.turned0 tt)))
  rw [HRR.out] at HE
  unfold plC at HE
  simp only [Int.cast_ofNat_Int] at HE
  clear hsc
  generalize hTT : sumN (mvR ⟨f, t, k, D, 0⟩ (live S)) R = TT at *
  go_wp2_with fail
  rw [← hw13, ← hsb]
  clear hw13 hsb c0 c1 c2 c3 c4 c5 c6 c7 c8
  refine (HE.out).mono ?_
  rintro e1 w14 ⟨aq, rfl, haq, ha0, ht14⟩
  have HM14 := hide (HM13.out.turned0 ht14)
  have HL14 := hide (HL13.out.turned0 ht14)
  have HMq14 := hide (HMq13.out.turned0 ht14)
  have HMc14 : Hid (w14.cell? ⟨mb, 0, none⟩ = some (.slice (some ⟨mq, 0, none⟩) R R)) := hide (by rw [ht14.cell (block_lt HMc13.out) (by simp)]; exact HMc13.out)
  have HAq := hide haq
  have hap : aq ≠ pb := by have := HM13.out.p.lt; omega
  have HAr := hide (show aq ≠ rb by have := HM13.out.r.lt; omega)
  clear haq ha0 ht14 HM13 HL13 HMq13 HMc13 HSq13 HE hpl12
  obtain ⟨c0, c1, c2, c3, c4, c5, c6, c7, c8⟩ := HM14.out.p.cs
  simp only [Int.cast_ofNat_Int] at c0 c1 c2 c3 c4
  have fz := HM14.out.p.fz 6
  have fz4 := HM14.out.p.fz 4
  have pl := HM14.out.p.lt
  obtain ⟨E, hE⟩ : ∃ E, E = D + TT := ⟨_, rfl⟩
  have hwe : wrap64 ((D : Int) + (TT : Int)) = (E : Int) := by unfold wrap64; omega
  have HNum := hide (And.intro hft (And.intro htN (And.intro hDt (And.intro hfD (And.intro hRf (And.intro hN (And.intro hmp (And.intro hmbp (And.intro hap hE)))))))))
  clear hft htN hDt hfD hRf hk hk2 hw hN hmp hmbp hap hTo6 hE
  go_upto_region 10 with fail
  have HM15 := hide (HM14.out.set 6 (.slice (some ⟨aq, 0, none⟩) R R) (P' := ⟨f, t, k, D, 0⟩) (l' := (.slice (some ⟨lq, 0, none⟩) R R)) (a' := (.slice (some ⟨aq, 0, none⟩) R R)) (wt' := (.slice none 0 0)) (tk' := (.slice none 0 0)) rfl)
  have HM16 := hide (HM15.out.set 4 (.int .i64 (E : Int)) (P' := ⟨f, t, k, D, E⟩) (l' := (.slice (some ⟨lq, 0, none⟩) R R)) (a' := (.slice (some ⟨aq, 0, none⟩) R R)) (wt' := (.slice none 0 0)) (tk' := (.slice none 0 0)) rfl)
  have hpn := HNum.out
  obtain ⟨hft, htN, hDt, hfD, hRf, hN, hmp, hmbp, hap, hE⟩ := hpn
  have HL16 := hide ((HL14.out.off (i := 6) (v := (.slice (some ⟨aq, 0, none⟩) R R)) HLn.out).off (i := 4) (v := .int .i64 (E : Int)) HLn.out)
  have HMq16 := hide ((HMq14.out.off (i := 6) (v := (.slice (some ⟨aq, 0, none⟩) R R)) hmp).off (i := 4) (v := .int .i64 (E : Int)) hmp)
  have HAq16 := hide ((HAq.out.off (i := 6) (v := (.slice (some ⟨aq, 0, none⟩) R R)) hap).off (i := 4) (v := .int .i64 (E : Int)) hap)
  have HMc16 : Hid (((w14.setCell ⟨pb, 6, none⟩ (.slice (some ⟨aq, 0, none⟩) R R)).setCell ⟨pb, 4, none⟩ (.int .i64 (E : Int))).cell? ⟨mb, 0, none⟩ = some (.slice (some ⟨mq, 0, none⟩) R R)) := hide (by rw [World.cell?_setCell_far _ _ _ _ (fun e => hmbp e.symm), World.cell?_setCell_far _ _ _ _ (fun e => hmbp e.symm)]; exact HMc14.out)
  generalize (w14.setCell ⟨pb, 6, none⟩ (.slice (some ⟨aq, 0, none⟩) R R)).setCell ⟨pb, 4, none⟩ (.int .i64 (E : Int)) = w16 at *
  clear c0 c1 c2 c3 c4 c5 c6 c7 c8
  clear HM14 HM15 HL14 HMq14 HMc14 HAq fz fz4 pl hwe
  have HA16 : Hid (Ah w16 ⟨f, t, k, D, E⟩ S aq) := hide (by unfold Ah; rw [HRR.out]; exact HAq16.out.congr (fun r hr => by rw [HSA.out E r]))
  clear HAq16
  have HE := hide (each_takes pb ⟨f, t, k, D, E⟩ (HOK.out D E) (.slice (some ⟨lq, 0, none⟩) R R) (.slice (some ⟨aq, 0, none⟩) R R) (.slice none 0 0) (.slice none 0 0) (fun r s => tkR ⟨f, t, k, D, E⟩ (live S) r s) w16 (fun w' tt r hr => by have h5 := make4_any ⟨f, t, k, D, E⟩ (HOK.out D E) S (.slice (some ⟨lq, 0, none⟩) R R) (.slice none 0 0) (.slice none 0 0) aq R pb r w' hr (HA16.out.turned0 tt) hDt; rw [HRR.out] at h5; exact h5 (HM16.out.p.turned0 tt)))
  rw [HRR.out] at HE
  unfold plC at HE
  simp only [Int.cast_ofNat_Int] at HE
  clear hft htN hDt hfD hRf hN hmp hmbp hap hE
  obtain ⟨c0, c1, c2, c3, c4, c5, c6, c7, c8⟩ := HM16.out.p.cs
  simp only [Int.cast_ofNat_Int] at c0 c1 c2 c3 c4
  go_wp2_with fail
  refine (HE.out).mono ?_
  rintro e1 w17 ⟨tq, rfl, htq, ht0, ht17⟩
  have HM17 := hide (HM16.out.turned0 ht17)
  have HL17 := hide (HL16.out.turned0 ht17)
  have HMq17 := hide (HMq16.out.turned0 ht17)
  have HA17 := hide (HA16.out.turned0 ht17)
  have HMc17 : Hid (w17.cell? ⟨mb, 0, none⟩ = some (.slice (some ⟨mq, 0, none⟩) R R)) := hide (by rw [ht17.cell (block_lt HMc16.out) (by simp)]; exact HMc16.out)
  have HTq := hide htq
  have HTn := hide (show tq ≠ pb by have := HM16.out.p.lt; omega)
  have HTr := hide (show tq ≠ rb by have := HM16.out.r.lt; omega)
  clear c0 c1 c2 c3 c4 c5 c6 c7 c8
  clear htq ht0 ht17 HE HM16 HL16 HMq16 HA16 HMc16
  obtain ⟨c0, c1, c2, c3, c4, c5, c6, c7, c8⟩ := HM17.out.p.cs
  simp only [Int.cast_ofNat_Int] at c0 c1 c2 c3 c4
  have fz := HM17.out.p.fz 8
  have pl := HM17.out.p.lt
  go_upto_region 11 with fail
  have HM18 := hide (HM17.out.set 8 (.slice (some ⟨tq, 0, none⟩) R R) (P' := ⟨f, t, k, D, E⟩) (l' := (.slice (some ⟨lq, 0, none⟩) R R)) (a' := (.slice (some ⟨aq, 0, none⟩) R R)) (wt' := (.slice none 0 0)) (tk' := (.slice (some ⟨tq, 0, none⟩) R R)) rfl)
  have HL18 := hide (HL17.out.off (i := 8) (v := (.slice (some ⟨tq, 0, none⟩) R R)) HLn.out)
  have HMq18 := hide (HMq17.out.off (i := 8) (v := (.slice (some ⟨tq, 0, none⟩) R R)) HNum.out.2.2.2.2.2.2.1)
  have HTq18 := hide (HTq.out.off (i := 8) (v := (.slice (some ⟨tq, 0, none⟩) R R)) HTn.out)
  have HA18 : Hid (Ah (w17.setCell ⟨pb, 8, none⟩ (.slice (some ⟨tq, 0, none⟩) R R)) ⟨f, t, k, D, E⟩ S aq) := hide (Ri.off HA17.out HNum.out.2.2.2.2.2.2.2.2.1)
  have HMc18 : Hid ((w17.setCell ⟨pb, 8, none⟩ (.slice (some ⟨tq, 0, none⟩) R R)).cell? ⟨mb, 0, none⟩ = some (.slice (some ⟨mq, 0, none⟩) R R)) := hide (by rw [World.cell?_setCell_far _ _ _ _ (fun e => HNum.out.2.2.2.2.2.2.2.1 e.symm)]; exact HMc17.out)
  generalize w17.setCell ⟨pb, 8, none⟩ (.slice (some ⟨tq, 0, none⟩) R R) = w18 at *
  clear c0 c1 c2 c3 c4 c5 c6 c7 c8
  clear HM17 HL17 HMq17 HA17 HMc17 HTq fz pl
  have HE := hide (each_waits pb mb ⟨f, t, k, D, E⟩ (HOK.out D E) (.slice (some ⟨lq, 0, none⟩) R R) (.slice (some ⟨aq, 0, none⟩) R R) (.slice none 0 0) (.slice (some ⟨tq, 0, none⟩) R R) (fun r => (wtR ⟨f, t, k, D, E⟩ (live S) r : Nat)) w18 (fun w' tt r hr => by have h5 := make5_any ⟨f, t, k, D, E⟩ (HOK.out D E) S (.slice (some ⟨lq, 0, none⟩) R R) (.slice none 0 0) (.slice (some ⟨tq, 0, none⟩) R R) aq R pb mb mq R r w' hr (HA18.out.turned0 tt) HNum.out.2.2.2.1 HNum.out.2.2.1; rw [HRR.out] at h5; exact h5 (HM18.out.p.turned0 tt) (by rw [tt.cell (block_lt HMc18.out) (by simp)]; exact HMc18.out) (HMq18.out.turned0 tt)))
  rw [HRR.out] at HE
  unfold plC at HE
  simp only [Int.cast_ofNat_Int] at HE
  obtain ⟨c0, c1, c2, c3, c4, c5, c6, c7, c8⟩ := HM18.out.p.cs
  simp only [Int.cast_ofNat_Int] at c0 c1 c2 c3 c4
  go_wp2_with fail
  refine (HE.out).mono ?_
  rintro e1 w19 ⟨wq, rfl, hwq, hw0, ht19⟩
  have HM19 := hide (HM18.out.turned0 ht19)
  have HL19 := hide (HL18.out.turned0 ht19)
  have HA19 := hide (HA18.out.turned0 ht19)
  have HTq19 := hide (HTq18.out.turned0 ht19)
  have HWq := hide hwq
  have HWn := hide (show wq ≠ pb by have := HM18.out.p.lt; omega)
  have HWr := hide (show wq ≠ rb by have := HM18.out.r.lt; omega)
  clear c0 c1 c2 c3 c4 c5 c6 c7 c8
  clear hwq hw0 ht19 HE HM18 HL18 HMq18 HA18 HMc18 HTq18
  obtain ⟨c0, c1, c2, c3, c4, c5, c6, c7, c8⟩ := HM19.out.p.cs
  simp only [Int.cast_ofNat_Int] at c0 c1 c2 c3 c4
  have fz := HM19.out.p.fz 7
  have pl := HM19.out.p.lt
  go_upto_region 12 with fail
  have HM20 := hide (HM19.out.set 7 (.slice (some ⟨wq, 0, none⟩) R R) (P' := ⟨f, t, k, D, E⟩) (l' := (.slice (some ⟨lq, 0, none⟩) R R)) (a' := (.slice (some ⟨aq, 0, none⟩) R R)) (wt' := (.slice (some ⟨wq, 0, none⟩) R R)) (tk' := (.slice (some ⟨tq, 0, none⟩) R R)) rfl)
  have HL20 := hide (HL19.out.off (i := 7) (v := (.slice (some ⟨wq, 0, none⟩) R R)) HLn.out)
  have HTq20 := hide (HTq19.out.off (i := 7) (v := (.slice (some ⟨wq, 0, none⟩) R R)) HTn.out)
  have HWq20 := hide (HWq.out.off (i := 7) (v := (.slice (some ⟨wq, 0, none⟩) R R)) HWn.out)
  have HA20 : Hid (Ah (w19.setCell ⟨pb, 7, none⟩ (.slice (some ⟨wq, 0, none⟩) R R)) ⟨f, t, k, D, E⟩ S aq) := hide (Ri.off HA19.out HNum.out.2.2.2.2.2.2.2.2.1)
  generalize w19.setCell ⟨pb, 7, none⟩ (.slice (some ⟨wq, 0, none⟩) R R) = w20 at *
  clear c0 c1 c2 c3 c4 c5 c6 c7 c8
  clear HM19 HL19 HA19 HTq19 HWq fz pl
  obtain ⟨c0, c1, c2, c3, c4, c5, c6, c7, c8⟩ := HM20.out.p.cs
  simp only [Int.cast_ofNat_Int] at c0 c1 c2 c3 c4
  obtain ⟨r0, r1, r2, r3, r4, r5, r6, r7, r8⟩ := HM20.out.r.cs
  simp only [Int.cast_ofNat_Int] at r0 r1 r2 r3 r4
  have hnr := HM20.out.nr
  have z0 := HM20.out.r.fz 0
  have z1 := HM20.out.r.fz 1
  have z2 := HM20.out.r.fz 2
  have z3 := HM20.out.r.fz 3
  have z4 := HM20.out.r.fz 4
  have z5 := HM20.out.r.fz 5
  have z6 := HM20.out.r.fz 6
  have z7 := HM20.out.r.fz 7
  have z8 := HM20.out.r.fz 8
  have rl := HM20.out.r.lt
  go_wp2_with fail
  have h9 := nine_set HM20.out.r ⟨f, t, k, D, E⟩ (.slice (some ⟨lq, 0, none⟩) R R) (.slice (some ⟨aq, 0, none⟩) R R) (.slice (some ⟨wq, 0, none⟩) R R) (.slice (some ⟨tq, 0, none⟩) R R)
  have t9 := nine_turned w20 rb ⟨f, t, k, D, E⟩ (.slice (some ⟨lq, 0, none⟩) R R) (.slice (some ⟨aq, 0, none⟩) R R) (.slice (some ⟨wq, 0, none⟩) R R) (.slice (some ⟨tq, 0, none⟩) R R)
  have HT21 := hide (nine_new HM20.out.t HM20.out.nq ⟨f, t, k, D, E⟩ (.slice (some ⟨lq, 0, none⟩) R R) (.slice (some ⟨aq, 0, none⟩) R R) (.slice (some ⟨wq, 0, none⟩) R R) (.slice (some ⟨tq, 0, none⟩) R R))
  have HL21 := hide (HL20.out.turned t9 (by simpa using HLr.out))
  have HA21 := hide (Ri.turned HA20.out t9 (by simpa using HAr.out))
  have HW21 := hide (HWq20.out.turned t9 (by simpa using HWr.out))
  have HTq21 := hide (HTq20.out.turned t9 (by simpa using HTr.out))
  have H9 := hide h9
  unfold nine at H9 HT21 HL21 HA21 HW21 HTq21
  simp only at H9 HT21 HL21 HA21 HW21 HTq21
  clear h9 t9 HM20 HL20 HA20 HWq20 HTq20 z0 z1 z2 z3 z4 z5 z6 z7 z8 r0 r1 r2 r3 r4 r5 r6 r7 r8 rl hnr c0 c1 c2 c3 c4 c5 c6 c7 c8
  generalize ((((((((w20.setCell ⟨rb, 0, none⟩ (.int .i64 (f : Int))).setCell ⟨rb, 1, none⟩ (.int .i64 (t : Int))).setCell ⟨rb, 2, none⟩ (.int .i64 (k : Int))).setCell ⟨rb, 3, none⟩ (.int .i64 (D : Int))).setCell ⟨rb, 4, none⟩ (.int .i64 (E : Int))).setCell ⟨rb, 5, none⟩ (.slice (some ⟨lq, 0, none⟩) R R)).setCell ⟨rb, 6, none⟩ (.slice (some ⟨aq, 0, none⟩) R R)).setCell ⟨rb, 7, none⟩ (.slice (some ⟨wq, 0, none⟩) R R)).setCell ⟨rb, 8, none⟩ (.slice (some ⟨tq, 0, none⟩) R R) = w21 at *
  obtain ⟨c0, c1, c2, c3, c4, c5, c6, c7, c8⟩ := H9.out.cs
  simp only at c0 c1 c2 c3 c4
  refine bodyPost_ret (v := .tuple #[.agg (plC ⟨f, t, k, D, E⟩ (.slice (some ⟨lq, 0, none⟩) R R) (.slice (some ⟨aq, 0, none⟩) R R) (.slice (some ⟨wq, 0, none⟩) R R) (.slice (some ⟨tq, 0, none⟩) R R)), .int .i64 0]) (by unfold plC; simp [results, Tryd.results9, go_sem, c0, c1, c2, c3, c4, c5, c6, c7, c8]) rfl ⟨⟨f, t, k, D, E⟩, lq, aq, wq, tq, ?_, ⟨rfl, rfl, rfl, ?_, K0, ⟨HK0.out.le, HK0.out.may, HK0.out.most⟩, HPD.out⟩, ⟨?_, HA21.out, ?_, ?_⟩, HT21.out⟩
  · rw [HRR.out]; rfl
  · have h1 := HNum.out.2.2.2.2.2.2.2.2.2
    have h2 := HTo.out
    show E = D + (cnt (live S) t - cnt (live S) D)
    omega
  · rw [HRR.out]; exact HL21.out
  · rw [HRR.out]; exact HW21.out
  · rw [HRR.out]; exact HTq21.out
end Go.Proofs.YtcckflcjjgckoaaDoor
