/-
  Texts of the proof, several in one: SlideNew, SlideInvA, SlideInvB, SlideInvC, SlideInvD, SlideRise.
-/
import Derived.Test.YtbmlggemheljkaaGreatDoorPack18
import Derived.Test.YtbmlggemheljkaaGreatDoorPack2
/-
  slide.New, where all may be.
-/
namespace Go.Proofs.YtbmlggemheljkaaGreatDoor
open Go.RowKit Bt
set_option linter.unusedVariables false
set_option linter.unusedSimpArgs false

/-- Each region is looked at. -/
def startR (P : PN) (s : SlS) : Nat → SlS
  | 0 => s
  | r + 1 => if gF P r < gT P r then lineS P { startR P s r with left := (startR P s r).left + 1 } r else startR P s r
noncomputable def start0 (P : PN) (S : Nat → Nat) (hw : List Int) (ac : Int) (n : Nat) : SlS := ⟨hw, ac, 0, fun j => wtR P (live S) j, [], [], List.replicate n w0S⟩
/-- A new slider's state. -/
noncomputable def startS (P : PN) (S : Nat → Nat) (hw : List Int) (ac : Int) (n : Nat) : SlS := startR P (start0 P S hw ac n) P.R
theorem startR_left (P : PN) (s : SlS) : ∀ r, (startR P s r).left ≤ s.left + r := by
  intro r
  induction r with
  | zero => exact Nat.le_refl _
  | succ r ih =>
    unfold startR
    split
    · rw [lineS_left]; show (startR P s r).left + 1 ≤ _; omega
    · omega
theorem startR_len (P : PN) (s : SlS) : ∀ r, (startR P s r).H.length ≤ s.H.length + r := by
  intro r
  induction r with
  | zero => exact Nat.le_refl _
  | succ r ih =>
    unfold startR
    split
    · have h1 := lineS_len P { startR P s r with left := (startR P s r).left + 1 } r
      have h2 : ({ startR P s r with left := (startR P s r).left + 1 } : SlS).H.length = (startR P s r).H.length := rfl
      omega
    · omega

theorem lineS_mem (P : PN) (s : SlS) (r : Nat) : (lineS P s r).hw = s.hw ∧ (lineS P s r).ac = s.ac := by unfold lineS; split <;> exact ⟨rfl, rfl⟩
theorem startR_mem (P : PN) (s : SlS) : ∀ r, (startR P s r).hw = s.hw ∧ (startR P s r).ac = s.ac := by
  intro r
  induction r with
  | zero => exact ⟨rfl, rfl⟩
  | succ r ih =>
    unfold startR
    split
    · have h1 := lineS_mem P { startR P s r with left := (startR P s r).left + 1 } r
      exact ⟨h1.1.trans ih.1, h1.2.trans ih.2⟩
    · exact ih
theorem turned_mem {a b : World} {cp cq : Nat} {l : List Int} {s : Int} (t : Turned [cp, cq] a b) (h1 : Mem a cp cq l s) (h2 : Mem b cp cq l s) : Turned [] a b :=
  ⟨t.os, t.tape, t.output, t.size, fun k hk _ => by
    by_cases e1 : k = cp
    · subst e1; rw [h1.head, h2.head]
    · by_cases e2 : k = cq
      · subst e2; rw [h1.row, h2.row]
      · exact t.block k hk (by simp; exact ⟨e1, e2⟩)⟩

set_option maxHeartbeats 4000000 in
set_option maxRecDepth 100000 in
theorem snew_ok (cp cq bp N n : Nat) (S : Nat → Nat) (P : PN) (l a : Value) (wq2 tq2 : Nat) (hw : List Int) (ac : Int) (w : World) (f t k v : Nat) (hm : Mem w cp cq hw ac) (hlN : hw.length = N) (hb : Brd w (some ⟨bp, 0, none⟩) N (sidesOf S)) (hs : Bl N S) (hM : Makes S f t k v P) (hd : DPl w P S l a wq2 tq2) (hft : f ≤ t) (htN : t ≤ N) (hk : 1 ≤ k) (hk2 : k ≤ 65536) (hcf : NoCut S f) (hct : NoCut S t) (h0 : 0 < n) (hn : n ≤ 64) (hc0 : 0 < cp) (hq0 : 0 < cq) (hN0 : 0 < N) (hRs : P.R < 60000) :
    Calls Tryz.prog 12 #[.pointer (some ⟨cp, 0, none⟩), .pointer (some ⟨bp, 0, none⟩), .agg (plC P l a (slc wq2 P.R) (slc tq2 P.R)), .int .i64 (n : Int)] w fun e w' => ∃ (I : SlI) (wb : World) (v' m' : Value), e = .returned (.tuple #[.pointer (some ⟨I.sb, 0, none⟩), .int .i64 0]) ∧ Sl wb w' I P S (startS P S hw ac n) v' m' ∧ I.cp = cp ∧ I.cq = cq ∧ I.bp = bp ∧ I.N = N ∧ I.ws.length = n ∧ w.heap.size ≤ wb.heap.size ∧ Turned [] w w' := by
  have hN6 := hb.few
  have hOk := hM.ok hft (by omega) hk hk2
  have HLen := hide (fun (w' : World) (tt : Turned [] w w') => len_mem cp cq hw ac w' (hm.turned tt (by simp) (by simp)))
  have HWd := hide (fun (w' : World) (tt : Turned [] w w') => words_any (some ⟨bp, 0, none⟩) N (sidesOf S) w' (hb.turned tt))
  have HRm := hide (fun (w' : World) (tt : Turned [] w w') => remade_ok bp N S P l a wq2 tq2 w' f t k v (hb.turned tt) hs hM (hd.turned0 tt) hft htN hk hk2 hcf hct)
  have HFit : Hid (Fit P (live S)) := hide ⟨hOk, by rw [hM.f_]; exact hM.fle hOk, by rw [hM.t_]; exact hM.dle hs hct, by rw [hM.t_]; exact hM.e_⟩
  have HCon : Hid (∀ (w' : World) (I : SlI), Turned [] w w' → Pln w' P S I.lq I.aq I.wq I.tq → I.cp = cp → I.cq = cq → I.bp = bp → I.N = N → SlC w' I P S) := hide (fun w' I tt hp e1 e2 e3 e4 => ⟨by rw [e3, e4]; exact hb.turned tt, by rw [e4]; exact hs, hp, HFit.out, by rw [e4, hM.t_]; exact htN, by rw [e1]; exact hc0, by rw [e2]; exact hq0, by rw [e4]; exact hN0, by rw [e1, e2]; exact ⟨hw, ac, hm.turned tt (by simp) (by simp)⟩⟩)
  have HMm : Hid (∀ w', Turned [] w w' → Mem w' cp cq hw ac) := hide (fun w' tt => hm.turned tt (by simp) (by simp))
  rw [hlN] at HLen
  obtain ⟨lo, lc, hl⟩ : ∃ lo lc, l = .slice lo P.R lc := by
    obtain ⟨B, ho⟩ := hd.lv
    obtain ⟨-, ao, cap, hv, -⟩ := ownsRow_any ho
    exact ⟨ao, cap, hv⟩
  obtain ⟨ao, aca, ha⟩ : ∃ ao ac, a = .slice ao P.R ac := by
    obtain ⟨B, ho⟩ := hd.ah
    obtain ⟨-, ao, cap, hv, -⟩ := ownsRow_any ho
    exact ⟨ao, cap, hv⟩
  subst hl ha
  clear hm hb hs hM hd hcf hct hft htN hk hk2 hlN hOk
  have hnl : ¬ (n : Int) < 1 := by omega
  have hng : ¬ (64 : Int) < (n : Int) := by omega
  have hbp : Pb (w.alloc (.cells (plC P (.slice lo P.R lc) (.slice ao P.R aca) (slc wq2 P.R) (slc tq2 P.R)) 39)) w.heap.size P (.slice lo P.R lc) (.slice ao P.R aca) (slc wq2 P.R) (slc tq2 P.R) := pb_new _ _ _ _ _ _
  have HP0 := hide hbp
  have HT0 := hide ((Turned.refl [] w).alloc (.cells (plC P (.slice lo P.R lc) (.slice ao P.R aca) (slc wq2 P.R) (slc tq2 P.R)) 39))
  clear hbp
  obtain ⟨pf, pt, pk, pd, pe⟩ := P
  obtain ⟨R, hR⟩ : ∃ R, R = PN.R ⟨pf, pt, pk, pd, pe⟩ := ⟨_, rfl⟩
  have HR := hide hR
  rw [← hR] at HP0 HT0 HRm hRs ⊢
  unfold plC slc at HP0 HT0 HRm ⊢
  simp only at HP0 HT0 HRm ⊢
  clear hR
  go_enter Tryz.func12, Tryz.ntmps12
  go_wp2_with fail
  obtain ⟨bb, hbb⟩ : ∃ bb, bb = w.heap.size := ⟨_, rfl⟩
  rw [← hbb] at HP0 ⊢
  generalize w.alloc (.cells #[.int .i64 (pf : Int), .int .i64 (pt : Int), .int .i64 (pk : Int), .int .i64 (pd : Int), .int .i64 (pe : Int), .slice lo R lc, .slice ao R aca, .slice (some ⟨wq2, 0, none⟩) R R, .slice (some ⟨tq2, 0, none⟩) R R] 39) = w0 at *
  clear hbb
  refine (HWd.out _ HT0.out).mono ?_
  rintro e1 w1 ⟨rfl, hw1⟩
  subst hw1
  go_wp2_with fail
  refine (HLen.out _ HT0.out).mono ?_
  rintro e1 w2 ⟨rfl, hw2⟩
  subst hw2
  clear HWd HLen
  obtain ⟨a0, a1, a2, a3, a4, a5, a6, a7, a8⟩ := HP0.out.cs
  simp only at a0 a1 a2 a3 a4
  go_wp2_with fail
  refine (HRm.out _ HT0.out).mono ?_
  rintro e1 w3 ⟨lq, aq, wq, tq, rfl, hpl, t3⟩
  have HT3 := hide (HT0.out.trans t3)
  have HPl3 := hide hpl
  clear hpl t3 HRm HT0 HP0 a0 a1 a2 a3 a4 a5 a6 a7 a8
  go_upto_region 4 with fail
  have HT5 := hide (HT3.out.alloc (.cells #[.int .i64 (pf : Int), .int .i64 (pt : Int), .int .i64 (pk : Int), .int .i64 (pd : Int), .int .i64 (pe : Int), .slice (some ⟨lq, 0, none⟩) R R, .slice (some ⟨aq, 0, none⟩) R R, .slice (some ⟨wq, 0, none⟩) R R, .slice (some ⟨tq, 0, none⟩) R R] 39))
  have HPl5 := hide (HPl3.out.turned0 ((Turned.refl [] w3).alloc (.cells #[.int .i64 (pf : Int), .int .i64 (pt : Int), .int .i64 (pk : Int), .int .i64 (pd : Int), .int .i64 (pe : Int), .slice (some ⟨lq, 0, none⟩) R R, .slice (some ⟨aq, 0, none⟩) R R, .slice (some ⟨wq, 0, none⟩) R R, .slice (some ⟨tq, 0, none⟩) R R] 39)))
  have HM5 : Hid (Pb (w3.alloc (.cells #[.int .i64 (pf : Int), .int .i64 (pt : Int), .int .i64 (pk : Int), .int .i64 (pd : Int), .int .i64 (pe : Int), .slice (some ⟨lq, 0, none⟩) R R, .slice (some ⟨aq, 0, none⟩) R R, .slice (some ⟨wq, 0, none⟩) R R, .slice (some ⟨tq, 0, none⟩) R R] 39)) w3.heap.size ⟨pf, pt, pk, pd, pe⟩ (.slice (some ⟨lq, 0, none⟩) R R) (.slice (some ⟨aq, 0, none⟩) R R) (.slice (some ⟨wq, 0, none⟩) R R) (.slice (some ⟨tq, 0, none⟩) R R)) := hide (heap_alloc_new _ _)
  generalize w3.alloc (.cells #[.int .i64 (pf : Int), .int .i64 (pt : Int), .int .i64 (pk : Int), .int .i64 (pd : Int), .int .i64 (pe : Int), .slice (some ⟨lq, 0, none⟩) R R, .slice (some ⟨aq, 0, none⟩) R R, .slice (some ⟨wq, 0, none⟩) R R, .slice (some ⟨tq, 0, none⟩) R R] 39) = w5 at *
  generalize w3.heap.size = mb at *
  clear HT3 HPl3 hnl hng
  have HCS : Hid (∀ w', Turned [] w5 w' → w'.cell? ⟨mb, 0, none⟩ = some (.int .i64 (pf : Int)) ∧ w'.cell? ⟨mb, 1, none⟩ = some (.int .i64 (pt : Int)) ∧ w'.cell? ⟨mb, 2, none⟩ = some (.int .i64 (pk : Int)) ∧ w'.cell? ⟨mb, 3, none⟩ = some (.int .i64 (pd : Int)) ∧ w'.cell? ⟨mb, 4, none⟩ = some (.int .i64 (pe : Int)) ∧ w'.cell? ⟨mb, 5, none⟩ = some (.slice (some ⟨lq, 0, none⟩) R R) ∧ w'.cell? ⟨mb, 6, none⟩ = some (.slice (some ⟨aq, 0, none⟩) R R) ∧ w'.cell? ⟨mb, 7, none⟩ = some (.slice (some ⟨wq, 0, none⟩) R R) ∧ w'.cell? ⟨mb, 8, none⟩ = some (.slice (some ⟨tq, 0, none⟩) R R)) := hide (fun w' tt => (HM5.out.turned0 tt).cs)
  have HCl : Hid (∀ w', Turned [] w5 w' → Calls Tryz.prog 36 #[.slice (some ⟨wq, 0, none⟩) R R] w' fun e w'' => ∃ z zc, e = .returned (.slice (some ⟨z, 0, none⟩) R zc) ∧ Ri w'' 3 z R (fun r => (wtR ⟨pf, pt, pk, pd, pe⟩ (live S) r : Nat)) ∧ w'.heap.size ≤ z ∧ Turned [] w' w'') := hide (fun w' tt => clone_ints wq R R _ w' (by have := HPl5.out.wt.turned0 tt; rw [← HR.out] at this; exact this) (by omega))
  have HF1 : Hid (∀ (w6 : World) (zq zc : Nat), Turned [] w5 w6 → Ri w6 3 zq R (fun r => (wtR ⟨pf, pt, pk, pd, pe⟩ (live S) r : Nat)) → w5.heap.size ≤ zq → ∃ sb lb z1 c1, Value.pointer (some ⟨w6.heap.size + 1, 0, none⟩) = Value.pointer (some ⟨sb, 0, none⟩) ∧ Aside (((w6.alloc (.cells #[.slice none 0 0] 76)).alloc (.cells #[.pointer (some ⟨cp, 0, none⟩), .pointer (some ⟨bp, 0, none⟩), .int .i64 (pf : Int), .int .i64 (pt : Int), .int .i64 (pk : Int), .int .i64 (pd : Int), .int .i64 (pe : Int), .slice (some ⟨lq, 0, none⟩) R R, .slice (some ⟨aq, 0, none⟩) R R, .slice (some ⟨wq, 0, none⟩) R R, .slice (some ⟨tq, 0, none⟩) R R, .slice none 0 0, .int .i64 0, .slice (some ⟨zq, 0, none⟩) R zc, .iface 73 (.pointer (some ⟨w6.heap.size, 0, none⟩)), .slice none 0 0] 81)).heap[sb]? = some (.cells #[.pointer (some ⟨cp, 0, none⟩), .pointer (some ⟨bp, 0, none⟩), .int .i64 (pf : Int), .int .i64 (pt : Int), .int .i64 (pk : Int), .int .i64 (pd : Int), .int .i64 (pe : Int), .slice (some ⟨lq, 0, none⟩) R R, .slice (some ⟨aq, 0, none⟩) R R, .slice (some ⟨wq, 0, none⟩) R R, .slice (some ⟨tq, 0, none⟩) R R, .slice none 0 0, .int .i64 0, .slice (some ⟨z1, 0, none⟩) R c1, .iface 73 (.pointer (some ⟨lb, 0, none⟩)), .slice none 0 0] 81)) ∧ Aside (((w6.alloc (.cells #[.slice none 0 0] 76)).alloc (.cells #[.pointer (some ⟨cp, 0, none⟩), .pointer (some ⟨bp, 0, none⟩), .int .i64 (pf : Int), .int .i64 (pt : Int), .int .i64 (pk : Int), .int .i64 (pd : Int), .int .i64 (pe : Int), .slice (some ⟨lq, 0, none⟩) R R, .slice (some ⟨aq, 0, none⟩) R R, .slice (some ⟨wq, 0, none⟩) R R, .slice (some ⟨tq, 0, none⟩) R R, .slice none 0 0, .int .i64 0, .slice (some ⟨zq, 0, none⟩) R zc, .iface 73 (.pointer (some ⟨w6.heap.size, 0, none⟩)), .slice none 0 0] 81)).heap[lb]? = some (.cells #[.slice none 0 0] 76)) ∧ Aside (Ri ((w6.alloc (.cells #[.slice none 0 0] 76)).alloc (.cells #[.pointer (some ⟨cp, 0, none⟩), .pointer (some ⟨bp, 0, none⟩), .int .i64 (pf : Int), .int .i64 (pt : Int), .int .i64 (pk : Int), .int .i64 (pd : Int), .int .i64 (pe : Int), .slice (some ⟨lq, 0, none⟩) R R, .slice (some ⟨aq, 0, none⟩) R R, .slice (some ⟨wq, 0, none⟩) R R, .slice (some ⟨tq, 0, none⟩) R R, .slice none 0 0, .int .i64 0, .slice (some ⟨zq, 0, none⟩) R zc, .iface 73 (.pointer (some ⟨w6.heap.size, 0, none⟩)), .slice none 0 0] 81)) 3 z1 R (fun r => (wtR ⟨pf, pt, pk, pd, pe⟩ (live S) r : Nat))) ∧ Aside (Turned [] w5 ((w6.alloc (.cells #[.slice none 0 0] 76)).alloc (.cells #[.pointer (some ⟨cp, 0, none⟩), .pointer (some ⟨bp, 0, none⟩), .int .i64 (pf : Int), .int .i64 (pt : Int), .int .i64 (pk : Int), .int .i64 (pd : Int), .int .i64 (pe : Int), .slice (some ⟨lq, 0, none⟩) R R, .slice (some ⟨aq, 0, none⟩) R R, .slice (some ⟨wq, 0, none⟩) R R, .slice (some ⟨tq, 0, none⟩) R R, .slice none 0 0, .int .i64 0, .slice (some ⟨zq, 0, none⟩) R zc, .iface 73 (.pointer (some ⟨w6.heap.size, 0, none⟩)), .slice none 0 0] 81))) ∧ Aside (w5.heap.size ≤ sb ∧ w5.heap.size ≤ lb ∧ w5.heap.size ≤ z1)) := hide (fun w6 zq zc t6 hz hzn => by
    have hsz := t6.size
    have hs1 : ∀ o : Obj, (w6.alloc o).heap.size = w6.heap.size + 1 := fun o => by simp
    refine ⟨w6.heap.size + 1, w6.heap.size, zq, zc, rfl, ?_, ?_, ?_, ?_, ?_⟩
    · show ((w6.alloc (.cells #[.slice none 0 0] 76)).alloc (.cells #[.pointer (some ⟨cp, 0, none⟩), .pointer (some ⟨bp, 0, none⟩), .int .i64 (pf : Int), .int .i64 (pt : Int), .int .i64 (pk : Int), .int .i64 (pd : Int), .int .i64 (pe : Int), .slice (some ⟨lq, 0, none⟩) R R, .slice (some ⟨aq, 0, none⟩) R R, .slice (some ⟨wq, 0, none⟩) R R, .slice (some ⟨tq, 0, none⟩) R R, .slice none 0 0, .int .i64 0, .slice (some ⟨zq, 0, none⟩) R zc, .iface 73 (.pointer (some ⟨w6.heap.size, 0, none⟩)), .slice none 0 0] 81)).heap[w6.heap.size + 1]? = _
      rw [← hs1 (.cells #[.slice none 0 0] 76)]
      exact heap_alloc_new _ _
    · show ((w6.alloc (.cells #[.slice none 0 0] 76)).alloc (.cells #[.pointer (some ⟨cp, 0, none⟩), .pointer (some ⟨bp, 0, none⟩), .int .i64 (pf : Int), .int .i64 (pt : Int), .int .i64 (pk : Int), .int .i64 (pd : Int), .int .i64 (pe : Int), .slice (some ⟨lq, 0, none⟩) R R, .slice (some ⟨aq, 0, none⟩) R R, .slice (some ⟨wq, 0, none⟩) R R, .slice (some ⟨tq, 0, none⟩) R R, .slice none 0 0, .int .i64 0, .slice (some ⟨zq, 0, none⟩) R zc, .iface 73 (.pointer (some ⟨w6.heap.size, 0, none⟩)), .slice none 0 0] 81)).heap[w6.heap.size]? = _
      rw [Below.heap_alloc _ _ _ (by simp)]
      exact heap_alloc_new _ _
    · exact hz.turned0 (((Turned.refl [] w6).alloc _).alloc _)
    · exact (t6.alloc _).alloc _
    · exact ⟨by omega, hsz, hzn⟩)
  have HF2 : Hid (∀ (w6 : World) (zq zc : Nat), Turned [] (w5.drew.alloc (.cells #[.slice none 0 0] 76)) w6 → Turned [] w5 w6 → Ri w6 3 zq R (fun r => (wtR ⟨pf, pt, pk, pd, pe⟩ (live S) r : Nat)) → (w5.drew.alloc (.cells #[.slice none 0 0] 76)).heap.size ≤ zq → ∃ sb lb z1 c1, Value.pointer (some ⟨w6.heap.size, 0, none⟩) = Value.pointer (some ⟨sb, 0, none⟩) ∧ Aside ((w6.alloc (.cells #[.pointer (some ⟨cp, 0, none⟩), .pointer (some ⟨bp, 0, none⟩), .int .i64 (pf : Int), .int .i64 (pt : Int), .int .i64 (pk : Int), .int .i64 (pd : Int), .int .i64 (pe : Int), .slice (some ⟨lq, 0, none⟩) R R, .slice (some ⟨aq, 0, none⟩) R R, .slice (some ⟨wq, 0, none⟩) R R, .slice (some ⟨tq, 0, none⟩) R R, .slice none 0 0, .int .i64 0, .slice (some ⟨zq, 0, none⟩) R zc, .iface 73 (.pointer (some ⟨w5.heap.size, 0, none⟩)), .slice none 0 0] 81)).heap[sb]? = some (.cells #[.pointer (some ⟨cp, 0, none⟩), .pointer (some ⟨bp, 0, none⟩), .int .i64 (pf : Int), .int .i64 (pt : Int), .int .i64 (pk : Int), .int .i64 (pd : Int), .int .i64 (pe : Int), .slice (some ⟨lq, 0, none⟩) R R, .slice (some ⟨aq, 0, none⟩) R R, .slice (some ⟨wq, 0, none⟩) R R, .slice (some ⟨tq, 0, none⟩) R R, .slice none 0 0, .int .i64 0, .slice (some ⟨z1, 0, none⟩) R c1, .iface 73 (.pointer (some ⟨lb, 0, none⟩)), .slice none 0 0] 81)) ∧ Aside ((w6.alloc (.cells #[.pointer (some ⟨cp, 0, none⟩), .pointer (some ⟨bp, 0, none⟩), .int .i64 (pf : Int), .int .i64 (pt : Int), .int .i64 (pk : Int), .int .i64 (pd : Int), .int .i64 (pe : Int), .slice (some ⟨lq, 0, none⟩) R R, .slice (some ⟨aq, 0, none⟩) R R, .slice (some ⟨wq, 0, none⟩) R R, .slice (some ⟨tq, 0, none⟩) R R, .slice none 0 0, .int .i64 0, .slice (some ⟨zq, 0, none⟩) R zc, .iface 73 (.pointer (some ⟨w5.heap.size, 0, none⟩)), .slice none 0 0] 81)).heap[lb]? = some (.cells #[.slice none 0 0] 76)) ∧ Aside (Ri (w6.alloc (.cells #[.pointer (some ⟨cp, 0, none⟩), .pointer (some ⟨bp, 0, none⟩), .int .i64 (pf : Int), .int .i64 (pt : Int), .int .i64 (pk : Int), .int .i64 (pd : Int), .int .i64 (pe : Int), .slice (some ⟨lq, 0, none⟩) R R, .slice (some ⟨aq, 0, none⟩) R R, .slice (some ⟨wq, 0, none⟩) R R, .slice (some ⟨tq, 0, none⟩) R R, .slice none 0 0, .int .i64 0, .slice (some ⟨zq, 0, none⟩) R zc, .iface 73 (.pointer (some ⟨w5.heap.size, 0, none⟩)), .slice none 0 0] 81)) 3 z1 R (fun r => (wtR ⟨pf, pt, pk, pd, pe⟩ (live S) r : Nat))) ∧ Aside (Turned [] w5 (w6.alloc (.cells #[.pointer (some ⟨cp, 0, none⟩), .pointer (some ⟨bp, 0, none⟩), .int .i64 (pf : Int), .int .i64 (pt : Int), .int .i64 (pk : Int), .int .i64 (pd : Int), .int .i64 (pe : Int), .slice (some ⟨lq, 0, none⟩) R R, .slice (some ⟨aq, 0, none⟩) R R, .slice (some ⟨wq, 0, none⟩) R R, .slice (some ⟨tq, 0, none⟩) R R, .slice none 0 0, .int .i64 0, .slice (some ⟨zq, 0, none⟩) R zc, .iface 73 (.pointer (some ⟨w5.heap.size, 0, none⟩)), .slice none 0 0] 81))) ∧ Aside (w5.heap.size ≤ sb ∧ w5.heap.size ≤ lb ∧ w5.heap.size ≤ z1)) := hide (fun w6 zq zc t6 t5 hz hzn => by
    have hsz := t5.size
    have hsn : w5.heap.size + 1 ≤ zq := by simpa using hzn
    have hl : w6.heap[w5.heap.size]? = some (.cells #[.slice none 0 0] 76) := by
      rw [t6.block _ (by simp) (by simp)]
      exact heap_alloc_new w5.drew _
    refine ⟨w6.heap.size, w5.heap.size, zq, zc, rfl, ?_, ?_, ?_, ?_, ?_⟩
    · exact heap_alloc_new _ _
    · show (w6.alloc (.cells #[.pointer (some ⟨cp, 0, none⟩), .pointer (some ⟨bp, 0, none⟩), .int .i64 (pf : Int), .int .i64 (pt : Int), .int .i64 (pk : Int), .int .i64 (pd : Int), .int .i64 (pe : Int), .slice (some ⟨lq, 0, none⟩) R R, .slice (some ⟨aq, 0, none⟩) R R, .slice (some ⟨wq, 0, none⟩) R R, .slice (some ⟨tq, 0, none⟩) R R, .slice none 0 0, .int .i64 0, .slice (some ⟨zq, 0, none⟩) R zc, .iface 73 (.pointer (some ⟨w5.heap.size, 0, none⟩)), .slice none 0 0] 81)).heap[w5.heap.size]? = _
      rw [Below.heap_alloc _ _ _ (lt_of_heap hl)]
      exact hl
    · exact hz.turned0 ((Turned.refl [] w6).alloc _)
    · exact t5.alloc _
    · exact ⟨hsz, Nat.le_refl _, by omega⟩)
  have ht0 : Turned [] w5 w5.drew := (Turned.refl [] w5).drew
  have S0 := HCS.out _ ht0
  go_upto_region 6 with fail
  go_cut [12] (fun s12 wc => ∃ sb lb z1 c1, s12 = Value.pointer (some ⟨sb, 0, none⟩) ∧ Aside ((wc).heap[sb]? = some (.cells #[.pointer (some ⟨cp, 0, none⟩), .pointer (some ⟨bp, 0, none⟩), .int .i64 (pf : Int), .int .i64 (pt : Int), .int .i64 (pk : Int), .int .i64 (pd : Int), .int .i64 (pe : Int), .slice (some ⟨lq, 0, none⟩) R R, .slice (some ⟨aq, 0, none⟩) R R, .slice (some ⟨wq, 0, none⟩) R R, .slice (some ⟨tq, 0, none⟩) R R, .slice none 0 0, .int .i64 0, .slice (some ⟨z1, 0, none⟩) R c1, .iface 73 (.pointer (some ⟨lb, 0, none⟩)), .slice none 0 0] 81)) ∧ Aside ((wc).heap[lb]? = some (.cells #[.slice none 0 0] 76)) ∧ Aside (Ri (wc) 3 z1 R (fun r => (wtR ⟨pf, pt, pk, pd, pe⟩ (live S) r : Nat))) ∧ Aside (Turned [] w5 (wc)) ∧ Aside (w5.heap.size ≤ sb ∧ w5.heap.size ≤ lb ∧ w5.heap.size ≤ z1))
  case first =>
    refine wp_region_held_drew (S := (fun w' => w'.cell? ⟨mb, 0, none⟩ = some (.int .i64 (pf : Int)) ∧ w'.cell? ⟨mb, 1, none⟩ = some (.int .i64 (pt : Int)) ∧ w'.cell? ⟨mb, 2, none⟩ = some (.int .i64 (pk : Int)) ∧ w'.cell? ⟨mb, 3, none⟩ = some (.int .i64 (pd : Int)) ∧ w'.cell? ⟨mb, 4, none⟩ = some (.int .i64 (pe : Int)) ∧ w'.cell? ⟨mb, 5, none⟩ = some (.slice (some ⟨lq, 0, none⟩) R R) ∧ w'.cell? ⟨mb, 6, none⟩ = some (.slice (some ⟨aq, 0, none⟩) R R) ∧ w'.cell? ⟨mb, 7, none⟩ = some (.slice (some ⟨wq, 0, none⟩) R R) ∧ w'.cell? ⟨mb, 8, none⟩ = some (.slice (some ⟨tq, 0, none⟩) R R))) (by kernel_rfl) S0 (fun hHeld => ?_)
    refine wpAnyH_take (i := 0) (v := ?_) rfl (by kernel_rfl) (by kernel_rfl) (by kernel_rfl) (fun _ _ _ h => h) (Or.inl ⟨by rfl, ?_⟩) (by assumption) ?_
    rotate_left
    · (intro w hSw; (try dsimp only at hSw); go_simp; all_goals with_reducible rfl)
    (try simp only [List.getElem_toArray, List.getElem_cons_succ, List.getElem_cons_zero, Act.put, List.setIfInBounds_toArray, List.set_cons_zero, List.set_cons_succ])
    refine wpAnyH_take (i := 1) (v := ?_) rfl (by kernel_rfl) (by kernel_rfl) (by kernel_rfl) (fun _ _ _ h => h) (Or.inl ⟨by rfl, ?_⟩) (by assumption) ?_
    rotate_left
    · (intro w hSw; (try dsimp only at hSw); go_simp; all_goals with_reducible rfl)
    (try simp only [List.getElem_toArray, List.getElem_cons_succ, List.getElem_cons_zero, Act.put, List.setIfInBounds_toArray, List.set_cons_zero, List.set_cons_succ])
    refine wpAnyH_take (i := 2) (v := ?_) rfl (by kernel_rfl) (by kernel_rfl) (by kernel_rfl) (fun _ _ _ h => h) (Or.inl ⟨by rfl, ?_⟩) (by assumption) ?_
    rotate_left
    · (intro w hSw; (try dsimp only at hSw); go_simp; all_goals with_reducible rfl)
    (try simp only [List.getElem_toArray, List.getElem_cons_succ, List.getElem_cons_zero, Act.put, List.setIfInBounds_toArray, List.set_cons_zero, List.set_cons_succ])
    refine wpAnyH_take (i := 3) (v := ?_) rfl (by kernel_rfl) (by kernel_rfl) (by kernel_rfl) (fun _ _ _ h => h) (Or.inl ⟨by rfl, ?_⟩) (by assumption) ?_
    rotate_left
    · (intro w hSw; (try dsimp only at hSw); go_simp; all_goals with_reducible rfl)
    (try simp only [List.getElem_toArray, List.getElem_cons_succ, List.getElem_cons_zero, Act.put, List.setIfInBounds_toArray, List.set_cons_zero, List.set_cons_succ])
    refine wpAnyH_take (i := 4) (v := ?_) rfl (by kernel_rfl) (by kernel_rfl) (by kernel_rfl) (fun _ _ _ h => h) (Or.inl ⟨by rfl, ?_⟩) (by assumption) ?_
    rotate_left
    · (intro w hSw; (try dsimp only at hSw); go_simp; all_goals with_reducible rfl)
    (try simp only [List.getElem_toArray, List.getElem_cons_succ, List.getElem_cons_zero, Act.put, List.setIfInBounds_toArray, List.set_cons_zero, List.set_cons_succ])
    refine wpAnyH_take (i := 6) (v := ?_) rfl (by kernel_rfl) (by kernel_rfl) (by kernel_rfl) (fun _ _ _ h => h) (Or.inl ⟨by rfl, ?_⟩) (by assumption) ?_
    rotate_left
    · (intro w hSw; (try dsimp only at hSw); go_simp; all_goals with_reducible rfl)
    (try simp only [List.getElem_toArray, List.getElem_cons_succ, List.getElem_cons_zero, Act.put, List.setIfInBounds_toArray, List.set_cons_zero, List.set_cons_succ])
    refine wpAnyH_ready (rs := [5, 7]) (by kernel_rfl) (by simp) ?_
    refine AllReadyH.cons rfl (fun K hK => ?_) ?_
    · (try simp only [List.getElem_toArray, List.getElem_cons_succ, List.getElem_cons_zero])
      go_simp
      refine (HCl.out _ ht0).mono ?_
      rintro e1 w6 ⟨zq, zc, rfl, hz, hzn, t6⟩
      have HT6 := hide (Turned.trans ht0 t6)
      have HZ6 := hide hz
      have HZn := hide hzn
      have S6 := HCS.out _ HT6.out
      clear t6 hz hzn
      refine hK.out _ _ ?_ (fun hHeld => ?_)
      · ((try dsimp only); exact S6)
      clear hK K
      (try simp only [List.getElem_toArray, List.getElem_cons_succ, List.getElem_cons_zero, Act.put, List.setIfInBounds_toArray, List.set_cons_zero, List.set_cons_succ])
      refine wpAnyH_ready (rs := [7]) (by kernel_rfl) (by simp) ?_
      refine AllReadyH.cons rfl (fun K hK => ?_) AllReadyH.nil
      (try simp only [List.getElem_toArray, List.getElem_cons_succ, List.getElem_cons_zero])
      go_simp
      have tA : Turned [] w5 (w6.alloc (.cells #[.slice none 0 0] 76)) := HT6.out.alloc _
      have StA := HCS.out _ tA
      refine hK.out _ _ ?_ (fun hHeld => ?_)
      · ((try dsimp only); exact StA)
      clear hK K
      (try simp only [List.getElem_toArray, List.getElem_cons_succ, List.getElem_cons_zero, Act.put, List.setIfInBounds_toArray, List.set_cons_zero, List.set_cons_succ])
      refine wpAnyH_take (i := 8) (v := ?_) rfl (by kernel_rfl) (by kernel_rfl) (by kernel_rfl) (fun _ _ _ h => h) (Or.inl ⟨by rfl, ?_⟩) (by assumption) ?_
      rotate_left
      · (intro w hSw; (try dsimp only at hSw); go_simp; all_goals with_reducible rfl)
      (try simp only [List.getElem_toArray, List.getElem_cons_succ, List.getElem_cons_zero, Act.put, List.setIfInBounds_toArray, List.set_cons_zero, List.set_cons_succ])
      refine wpAnyH_take (i := 9) (v := ?_) rfl (by kernel_rfl) (by kernel_rfl) (by kernel_rfl) (fun _ _ _ h => h) (Or.inl ⟨by rfl, ?_⟩) (by assumption) ?_
      rotate_left
      · (intro w hSw; (try dsimp only at hSw); go_simp; all_goals with_reducible rfl)
      (try simp only [List.getElem_toArray, List.getElem_cons_succ, List.getElem_cons_zero, Act.put, List.setIfInBounds_toArray, List.set_cons_zero, List.set_cons_succ])
      refine wpAnyH_ready (rs := [10]) (by kernel_rfl) (by simp) ?_
      refine AllReadyH.cons rfl (fun K hK => ?_) AllReadyH.nil
      (try simp only [List.getElem_toArray, List.getElem_cons_succ, List.getElem_cons_zero])
      go_simp
      have tF : Turned [] w5 ((w6.alloc (.cells #[.slice none 0 0] 76)).alloc (.cells #[.pointer (some ⟨cp, 0, none⟩), .pointer (some ⟨bp, 0, none⟩), .int .i64 (pf : Int), .int .i64 (pt : Int), .int .i64 (pk : Int), .int .i64 (pd : Int), .int .i64 (pe : Int), .slice (some ⟨lq, 0, none⟩) R R, .slice (some ⟨aq, 0, none⟩) R R, .slice (some ⟨wq, 0, none⟩) R R, .slice (some ⟨tq, 0, none⟩) R R, .slice none 0 0, .int .i64 0, .slice (some ⟨zq, 0, none⟩) R zc, .iface 73 (.pointer (some ⟨w6.heap.size, 0, none⟩)), .slice none 0 0] 81)) := tA.alloc _
      have SF := HCS.out _ tF
      refine hK.out _ _ ?_ (fun hHeld => ?_)
      · ((try dsimp only); exact SF)
      clear hK K
      (try simp only [List.getElem_toArray, List.getElem_cons_succ, List.getElem_cons_zero, Act.put, List.setIfInBounds_toArray, List.set_cons_zero, List.set_cons_succ])
      refine wpAnyH_take (i := 11) (v := ?_) rfl (by kernel_rfl) (by kernel_rfl) (by kernel_rfl) (fun _ _ _ h => h) (Or.inl ⟨by rfl, ?_⟩) (by assumption) ?_
      rotate_left
      · (intro w hSw; (try dsimp only at hSw); go_simp; all_goals with_reducible rfl)
      (try simp only [List.getElem_toArray, List.getElem_cons_succ, List.getElem_cons_zero, Act.put, List.setIfInBounds_toArray, List.set_cons_zero, List.set_cons_succ])
      refine wpAnyH_done (by kernel_rfl) ?_ _
      go_wp2_with fail
      go_meet
      case rel => exact HF1.out w6 zq zc HT6.out HZ6.out HZn.out
    · refine AllReadyH.cons rfl (fun K hK => ?_) AllReadyH.nil
      (try simp only [List.getElem_toArray, List.getElem_cons_succ, List.getElem_cons_zero])
      go_simp
      have tB : Turned [] w5 (w5.drew.alloc (.cells #[.slice none 0 0] 76)) := ht0.alloc _
      have StB := HCS.out _ tB
      refine hK.out _ _ ?_ (fun hHeld => ?_)
      · ((try dsimp only); exact StB)
      clear hK K
      (try simp only [List.getElem_toArray, List.getElem_cons_succ, List.getElem_cons_zero, Act.put, List.setIfInBounds_toArray, List.set_cons_zero, List.set_cons_succ])
      refine wpAnyH_take (i := 8) (v := ?_) rfl (by kernel_rfl) (by kernel_rfl) (by kernel_rfl) (fun _ _ _ h => h) (Or.inl ⟨by rfl, ?_⟩) (by assumption) ?_
      rotate_left
      · (intro w hSw; (try dsimp only at hSw); go_simp; all_goals with_reducible rfl)
      (try simp only [List.getElem_toArray, List.getElem_cons_succ, List.getElem_cons_zero, Act.put, List.setIfInBounds_toArray, List.set_cons_zero, List.set_cons_succ])
      refine wpAnyH_ready (rs := [5]) (by kernel_rfl) (by simp) ?_
      refine AllReadyH.cons rfl (fun K hK => ?_) AllReadyH.nil
      (try simp only [List.getElem_toArray, List.getElem_cons_succ, List.getElem_cons_zero])
      go_simp
      refine (HCl.out _ tB).mono ?_
      rintro e1 w6 ⟨zq, zc, rfl, hz, hzn, t6⟩
      have HT6b : Turned [] (w5.drew.alloc (.cells #[.slice none 0 0] 76)) w6 := t6
      have HT6 := hide (Turned.trans tB t6)
      have HZ6 := hide hz
      have HZn := hide hzn
      have S6 := HCS.out _ HT6.out
      clear t6 hz hzn
      refine hK.out _ _ ?_ (fun hHeld => ?_)
      · ((try dsimp only); exact S6)
      clear hK K
      (try simp only [List.getElem_toArray, List.getElem_cons_succ, List.getElem_cons_zero, Act.put, List.setIfInBounds_toArray, List.set_cons_zero, List.set_cons_succ])
      refine wpAnyH_take (i := 9) (v := ?_) rfl (by kernel_rfl) (by kernel_rfl) (by kernel_rfl) (fun _ _ _ h => h) (Or.inl ⟨by rfl, ?_⟩) (by assumption) ?_
      rotate_left
      · (intro w hSw; (try dsimp only at hSw); go_simp; all_goals with_reducible rfl)
      (try simp only [List.getElem_toArray, List.getElem_cons_succ, List.getElem_cons_zero, Act.put, List.setIfInBounds_toArray, List.set_cons_zero, List.set_cons_succ])
      refine wpAnyH_ready (rs := [10]) (by kernel_rfl) (by simp) ?_
      refine AllReadyH.cons rfl (fun K hK => ?_) AllReadyH.nil
      (try simp only [List.getElem_toArray, List.getElem_cons_succ, List.getElem_cons_zero])
      go_simp
      have tF : Turned [] w5 (w6.alloc (.cells #[.pointer (some ⟨cp, 0, none⟩), .pointer (some ⟨bp, 0, none⟩), .int .i64 (pf : Int), .int .i64 (pt : Int), .int .i64 (pk : Int), .int .i64 (pd : Int), .int .i64 (pe : Int), .slice (some ⟨lq, 0, none⟩) R R, .slice (some ⟨aq, 0, none⟩) R R, .slice (some ⟨wq, 0, none⟩) R R, .slice (some ⟨tq, 0, none⟩) R R, .slice none 0 0, .int .i64 0, .slice (some ⟨zq, 0, none⟩) R zc, .iface 73 (.pointer (some ⟨w5.heap.size, 0, none⟩)), .slice none 0 0] 81)) := HT6.out.alloc _
      have SF := HCS.out _ tF
      refine hK.out _ _ ?_ (fun hHeld => ?_)
      · ((try dsimp only); exact SF)
      clear hK K
      (try simp only [List.getElem_toArray, List.getElem_cons_succ, List.getElem_cons_zero, Act.put, List.setIfInBounds_toArray, List.set_cons_zero, List.set_cons_succ])
      refine wpAnyH_take (i := 11) (v := ?_) rfl (by kernel_rfl) (by kernel_rfl) (by kernel_rfl) (fun _ _ _ h => h) (Or.inl ⟨by rfl, ?_⟩) (by assumption) ?_
      rotate_left
      · (intro w hSw; (try dsimp only at hSw); go_simp; all_goals with_reducible rfl)
      (try simp only [List.getElem_toArray, List.getElem_cons_succ, List.getElem_cons_zero, Act.put, List.setIfInBounds_toArray, List.set_cons_zero, List.set_cons_succ])
      refine wpAnyH_done (by kernel_rfl) ?_ _
      go_wp2_with fail
      go_meet
      case rel => exact HF2.out w6 zq zc HT6b HT6.out HZ6.out HZn.out
  case rest =>
    clear S0 ht0 HF1 HF2 HCl HCS
    obtain ⟨sb, lb, zq, zc, rfl, hsb, hlb, hzq, ht6, hge⟩ := hcut
    have HSb := hide hsb.out
    have HLb := hide hlb.out
    have HZq := hide hzq.out
    have HT6 := hide ht6.out
    have HGe := hide hge.out
    clear hsb hlb hzq ht6 hge
    obtain ⟨w6, hw6⟩ : ∃ w6, w6 = wc := ⟨_, rfl⟩
    subst hw6
    obtain ⟨q, hq⟩ : ∃ q, q = w6.heap.size := ⟨_, rfl⟩
    have H56 := hide HT6.out.size
    have HNw := hide (snewWorkers w6 sb n h0 hn (lt_of_heap HSb.out))
    rw [← hq] at HNw
    have HQ := hide hq
    clear hq
    go_wp2_with fail
    refine (HNw.out).mono ?_
    rintro e1 w7 ⟨rfl, hrow, hwk, t7, hsz7⟩
    have HRow := hide hrow
    have HWk := hide hwk
    have HT7 := hide (HT6.out.trans t7)
    have HSz7 := hide hsz7
    have hsb7 : w7.heap[sb]? = some (.cells #[.pointer (some ⟨cp, 0, none⟩), .pointer (some ⟨bp, 0, none⟩), .int .i64 (pf : Int), .int .i64 (pt : Int), .int .i64 (pk : Int), .int .i64 (pd : Int), .int .i64 (pe : Int), .slice (some ⟨lq, 0, none⟩) R R, .slice (some ⟨aq, 0, none⟩) R R, .slice (some ⟨wq, 0, none⟩) R R, .slice (some ⟨tq, 0, none⟩) R R, .slice none 0 0, .int .i64 0, .slice (some ⟨zq, 0, none⟩) R zc, .iface 73 (.pointer (some ⟨lb, 0, none⟩)), .slice none 0 0] 81) := by rw [t7.block sb (lt_of_heap HSb.out) (by simp)]; exact HSb.out
    have HLb7 : Hid (w7.heap[lb]? = some (.cells #[.slice none 0 0] 76)) := hide (by rw [t7.block lb (lt_of_heap HLb.out) (by simp)]; exact HLb.out)
    have HZq7 := hide (HZq.out.turned0 t7)
    have HSb7 := hide hsb7
    have c11 : w7.cell? ⟨sb, 11, none⟩ = some (.slice none 0 0) := by rw [cell_of_heap hsb7]; rfl
    have f11 : w7.frozen? ⟨sb, 11, none⟩ = false := by simp [World.frozen?, hsb7]
    have sl7 := lt_of_heap hsb7
    clear hrow hwk t7 hsz7 hsb7 HNw HSb HLb HZq HT6
    go_upto_region 8 with fail
    obtain ⟨I, hI⟩ : ∃ I : SlI, I = ⟨sb, lb, wks q n, q, zq, lq, aq, wq, tq, cp, cq, bp, N, w7.heap.size, zc⟩ := ⟨_, rfl⟩
    have HSl : Hid (Sl w5 (w7.setCell ⟨sb, 11, none⟩ (.slice (some ⟨q, 0, none⟩) n n)) I ⟨pf, pt, pk, pd, pe⟩ S (start0 ⟨pf, pt, pk, pd, pe⟩ S hw ac n) (.slice none 0 0) (.slice none 0 0)) := hide (by
      have t8 : Turned [sb] w7 (w7.setCell ⟨sb, 11, none⟩ (.slice (some ⟨q, 0, none⟩) n n)) := (Turned.refl [sb] w7).setCell (p := ⟨sb, 11, none⟩) (.inl (by simp)) _
      have hT8 : Turned [] w5 (w7.setCell ⟨sb, 11, none⟩ (.slice (some ⟨q, 0, none⟩) n n)) := HT7.out.trans_new t8 (by simp; exact HGe.out.1)
      have hS : ∀ e : TypeId, e ≠ 81 → ∀ i, i ∈ [sb] → ∃ c' e' fr, w7.heap[i]? = some (.cells c' e' fr) ∧ e' ≠ e := by
        intro e h1 i hi
        simp at hi
        subst hi
        exact ⟨_, _, _, HSb7.out, fun e => h1 e.symm⟩
      have hge := HGe.out
      have h67 : w5.heap.size ≤ q := by rw [HQ.out]; exact H56.out
      subst hI
      refine ⟨HCon.out w5 _ HT5.out HPl5.out rfl rfl rfl rfl, hT8.mono (by simp), HMm.out _ (HT5.out.trans hT8), ?_, ⟨keep_ty t8 HLb7.out (hS _ (by decide)), ⟨rfl, .inl ⟨rfl, rfl⟩⟩, Nat.zero_le _, t8.size⟩, ?_, HZq7.out.lt, keep_ty t8 HRow.out (hS _ (by decide)), by simp [start0, wks_len], fun k x hx => ?_, fun i j b hi hj => ?_, ⟨rfl, .inl ⟨rfl, rfl⟩⟩, hge.1, hge.2.1, hge.2.2, fun b hb => ?_, HT7.out.size⟩
      · rw [heap_setCell_at _ _ _ _ _ _ HSb7.out]
        unfold slC slc lnI
        simp only [wks_len, ← HR.out]
        rfl
      · show Ri _ 3 zq (PN.R ⟨pf, pt, pk, pd, pe⟩) (fun j => (wtR ⟨pf, pt, pk, pd, pe⟩ (live S) j : Nat))
        rw [← HR.out]
        exact HZq7.out.ty t8 (hS _ (by decide))
      · have hx2 : (List.replicate n w0S)[k]? = some x := hx
        have hk : k < n := by have := (List.getElem?_eq_some_iff.1 hx2).1; simpa using this
        have hxe : x = w0S := by rw [List.getElem?_replicate, if_pos hk] at hx2; exact (Option.some.inj hx2).symm
        subst hxe
        exact ⟨q + 1 + k, wks_get hk, keep_ty t8 (HWk.out k hk) (hS _ (by decide))⟩
      · have hi2 : (wks q n)[i]? = some b := hi
        have hj2 : (wks q n)[j]? = some b := hj
        have h1 : i < n := by have := (List.getElem?_eq_some_iff.1 hi2).1; rwa [wks_len] at this
        have h2 : j < n := by have := (List.getElem?_eq_some_iff.1 hj2).1; rwa [wks_len] at this
        rw [wks_get h1] at hi2
        rw [wks_get h2] at hj2
        have := Option.some.inj hi2
        have := Option.some.inj hj2
        omega
      · have hb2 : b ∈ wks q n := hb
        unfold wks at hb2
        simp at hb2
        obtain ⟨x, _, rfl⟩ := hb2
        omega)
    have HM8 := hide (HM5.out.turned0 (HT7.out.trans_new ((Turned.refl [sb] w7).setCell (p := ⟨sb, 11, none⟩) (.inl (by simp)) (.slice (some ⟨q, 0, none⟩) n n)) (by simp; exact HGe.out.1)))
    have HIc : Hid (I.cp = cp ∧ I.cq = cq ∧ I.bp = bp ∧ I.N = N ∧ I.ws.length = n ∧ I.sb = sb) := hide (by subst hI; exact ⟨rfl, rfl, rfl, rfl, wks_len _ _, rfl⟩)
    generalize w7.setCell ⟨sb, 11, none⟩ (.slice (some ⟨q, 0, none⟩) n n) = w8 at *
    clear HRow HWk HT7 HSz7 HLb7 HZq7 HSb7 c11 f11 sl7 HGe hI HM5 HCon HQ
    have m5 := HM8.out.cs.2.2.2.2.2.1
    have hR0 : Hid (∀ r, r < R → r < PN.R ⟨pf, pt, pk, pd, pe⟩) := hide (fun r hr => by rw [← HR.out]; exact hr)
    have HL0 : Hid ((start0 ⟨pf, pt, pk, pd, pe⟩ S hw ac n).left = 0 ∧ (start0 ⟨pf, pt, pk, pd, pe⟩ S hw ac n).H.length = 0) := hide ⟨rfl, rfl⟩
    obtain ⟨s0, hs0⟩ : ∃ s0, s0 = start0 ⟨pf, pt, pk, pd, pe⟩ S hw ac n := ⟨_, rfl⟩
    have HS0 := hide hs0
    rw [← hs0] at HSl HL0
    clear hs0
    have hIsb : I.sb = sb := HIc.out.2.2.2.2.2
    subst hIsb
    go_wp2_with fail
    clear m5
    go_loopg [13, 63] R (fun gg s13 s63 wr => ∃ (r : Nat) (v' : Value), gg = R - r ∧ r ≤ R ∧ s63 = .int .i64 (r : Int) ∧ Hid (Sl w5 wr I ⟨pf, pt, pk, pd, pe⟩ S (startR ⟨pf, pt, pk, pd, pe⟩ s0 r) v' (.slice none 0 0)))
    case atStart => exact ⟨0, .slice none 0 0, rfl, Nat.zero_le _, rfl, HSl⟩
    case round =>
      clear HSl HM8
      obtain ⟨r, v', rfl, hr, rfl, HLr⟩ := hrel
      obtain ⟨w9, hw9⟩ : ∃ w9, w9 = wr := ⟨_, rfl⟩
      subst hw9
      by_cases hlt : r < R
      · have hlti : (r : Int) < (R : Int) := by omega
        have hrR := hR0.out r hlt
        have HG := hide (hasgoal_any w5 w9 I ⟨pf, pt, pk, pd, pe⟩ S _ v' (.slice none 0 0) r HLr.out hrR)
        have HSt : Hid (startR ⟨pf, pt, pk, pd, pe⟩ s0 (r + 1) = if gF ⟨pf, pt, pk, pd, pe⟩ r < gT ⟨pf, pt, pk, pd, pe⟩ r then lineS ⟨pf, pt, pk, pd, pe⟩ { startR ⟨pf, pt, pk, pd, pe⟩ s0 r with left := (startR ⟨pf, pt, pk, pd, pe⟩ s0 r).left + 1 } r else startR ⟨pf, pt, pk, pd, pe⟩ s0 r) := hide rfl
        have hleft := startR_left ⟨pf, pt, pk, pd, pe⟩ s0 r
        have hlen := startR_len ⟨pf, pt, pk, pd, pe⟩ s0 r
        rw [HL0.out.1] at hleft
        rw [HL0.out.2] at hlen
        obtain ⟨s1, hs1⟩ : ∃ s1, s1 = startR ⟨pf, pt, pk, pd, pe⟩ s0 r := ⟨_, rfl⟩
        rw [← hs1] at HLr HSt hleft hlen
        clear hs1
        by_cases hg : gF ⟨pf, pt, pk, pd, pe⟩ r < gT ⟨pf, pt, pk, pd, pe⟩ r
        · rw [if_pos hg] at HSt
          rw [decide_eq_true hg] at HG
          have HLen6 : Hid (s1.H.length < 65536) := hide (by omega)
          clear hg hlen
          go_wp2_with fail
          refine (HG.out).mono ?_
          rintro e1 w10 ⟨rfl, t10⟩
          have HL10 := hide (HLr.out.quiet t10)
          clear t10 HG HLr
          obtain ⟨-, -, -, c12, -⟩ := HL10.out.cs
          have f12 := HL10.out.sfz 12
          have sl := lt_of_heap HL10.out.head
          have hs6 : s1.left ≤ 65536 := by omega
          go_upto_region 13 with fail
          have HL11 : Hid (Sl w5 (w10.setCell ⟨I.sb, 12, none⟩ (.int .i64 ((s1.left : Int) + 1))) I ⟨pf, pt, pk, pd, pe⟩ S { s1 with left := s1.left + 1 } v' (.slice none 0 0)) := hide (HL10.out.sets ((Turned.refl [I.sb] w10).setCell (p := ⟨I.sb, 12, none⟩) (.inl (by simp)) _) (by rw [heap_setCell_at _ _ _ _ _ _ HL10.out.head, show (s1.left : Int) + 1 = ((s1.left + 1 : Nat) : Int) by omega]; rfl))
          generalize w10.setCell ⟨I.sb, 12, none⟩ (.int .i64 ((s1.left : Int) + 1)) = w11 at *
          clear HL10 c12 f12 sl
          have HLu := hide (lineup_any w5 w11 I ⟨pf, pt, pk, pd, pe⟩ S _ v' (.slice none 0 0) r HL11.out hrR HLen6.out)
          rw [← HSt.out] at HLu
          go_wp2_with fail
          refine (HLu.out).mono ?_
          rintro e1 w12 ⟨rfl, v12, h12, -⟩
          have HL12 := hide h12
          clear h12 HLu HL11
          go_wp2_with fail
          go_roundg (R - (r + 1))
          case measure => omega
          case rel => exact ⟨r + 1, v12, rfl, hlt, by go_num, HL12⟩
        · rw [if_neg hg] at HSt
          rw [decide_eq_false hg] at HG
          clear hg hlen
          go_wp2_with fail
          refine (HG.out).mono ?_
          rintro e1 w10 ⟨rfl, t10⟩
          have HL10 : Hid (Sl w5 w10 I ⟨pf, pt, pk, pd, pe⟩ S (startR ⟨pf, pt, pk, pd, pe⟩ s0 (r + 1)) v' (.slice none 0 0)) := hide (by rw [HSt.out]; exact HLr.out.quiet t10)
          clear t10 HG HLr
          go_wp2_with fail
          go_roundg (R - (r + 1))
          case measure => omega
          case rel => exact ⟨r + 1, v', rfl, hlt, by go_num, HL10⟩
      · have hlti : ¬ (r : Int) < (R : Int) := by omega
        have hrR : r = R := by omega
        subst hrR
        go_wp2_with fail
        go_ret2
        refine ⟨I, rfl, w5, ⟨v', .slice none 0 0, ?_⟩, HIc.out.1, HIc.out.2.1, HIc.out.2.2.1, HIc.out.2.2.2.1, HIc.out.2.2.2.2.1, HT5.out.size, ?_⟩
        · have h9 := HLr.out
          unfold startS
          rw [← HR.out, ← HS0.out]
          exact h9
        · have hmem : (startR ⟨pf, pt, pk, pd, pe⟩ s0 r).hw = hw ∧ (startR ⟨pf, pt, pk, pd, pe⟩ s0 r).ac = ac := by
            have h1 := startR_mem ⟨pf, pt, pk, pd, pe⟩ s0 r
            rw [h1.1, h1.2, HS0.out]
            exact ⟨rfl, rfl⟩
          have h9 := HLr.out.mem
          rw [hmem.1, hmem.2, HIc.out.1, HIc.out.2.1] at h9
          have h8 := HLr.out.t
          rw [HIc.out.1, HIc.out.2.1] at h8
          exact turned_mem ((HT5.out.mono (by simp)).trans h8) (HMm.out w (Turned.refl _ _)) h9
end Go.Proofs.YtbmlggemheljkaaGreatDoor

/-
  Sliding, without memory: where sources stand, how much a region takes, who waits. No Go is walked here.
-/
namespace Go.Proofs.YtbmlggemheljkaaGreatDoor
open Go.RowKit Bt
set_option linter.unusedVariables false
set_option linter.unusedSimpArgs false

/-- A sum. -/
def sm (f : Nat → Nat) : Nat → Nat
  | 0 => 0
  | n + 1 => sm f n + f n
theorem sm_congr {f g : Nat → Nat} : ∀ {n : Nat}, (∀ j, j < n → f j = g j) → sm f n = sm g n := by
  intro n
  induction n with
  | zero => intro _; rfl
  | succ n ih => intro h; unfold sm; rw [ih (fun j hj => h j (by omega)), h n (by omega)]
theorem sm_le {f g : Nat → Nat} : ∀ {n : Nat}, (∀ j, j < n → f j ≤ g j) → sm f n ≤ sm g n := by
  intro n
  induction n with
  | zero => intro _; exact Nat.le_refl _
  | succ n ih => intro h; unfold sm; have := ih (fun j hj => h j (by omega)); have := h n (by omega); omega
def upd (u : Nat → Nat) (k v : Nat) : Nat → Nat := fun j => if j = k then v else u j
theorem upd_at (u : Nat → Nat) (k v : Nat) : upd u k v k = v := by unfold upd; rw [if_pos rfl]
theorem upd_ne (u : Nat → Nat) {k j : Nat} (v : Nat) (h : j ≠ k) : upd u k v j = u j := by unfold upd; rw [if_neg h]
/-- One number of a sum is another one. -/
theorem sm_one {f g : Nat → Nat} {k : Nat} (h : ∀ j, j ≠ k → g j = f j) : ∀ {n : Nat}, k < n → sm g n + f k = sm f n + g k := by
  intro n
  induction n with
  | zero => intro h; omega
  | succ n ih =>
    intro hk
    unfold sm
    by_cases e : k = n
    · subst e
      rw [sm_congr (fun j hj => h j (by omega))]
      omega
    · have := ih (by omega)
      rw [h n (fun e' => e e'.symm)]
      omega
/-- Some live word has each number. -/
theorem cnt_hit (f : Nat → Bool) (v : Nat) : ∀ n, v < cnt f n → ∃ s, s < n ∧ f s = true ∧ cnt f s = v := by
  intro n
  induction n with
  | zero => intro h; exact absurd h (Nat.not_lt_zero _)
  | succ n ih =>
    intro h
    by_cases h1 : v < cnt f n
    · obtain ⟨s, a, b, c⟩ := ih h1; exact ⟨s, by omega, b, c⟩
    · by_cases hf : f n = true
      · rw [cnt_at hf] at h; exact ⟨n, by omega, hf, by omega⟩
      · rw [Bool.not_eq_true] at hf; rw [cnt_off hf] at h; omega

section
variable {P : PN} {S : Nat → Nat}
theorem Fit.srcs (h : Fit P (live S)) {x : Nat} (h1 : P.d ≤ x) (h2 : x < P.e) : SrcOf P S x (srcN P S x) := by
  have he := h.e_
  have hm := cnt_mono (live S) h.dt
  obtain ⟨s, a, b, c⟩ := cnt_hit (live S) (cnt (live S) P.d + (x - P.d)) P.t (by omega)
  have hs : SrcOf P S x s := by
    refine ⟨?_, a, b, c⟩
    by_cases hh : P.d ≤ s
    · exact hh
    · have := cnt_mono (live S) (show s + 1 ≤ P.d by omega)
      rw [cnt_at b] at this
      omega
  rw [srcN_eq hs]
  exact hs
theorem SrcOf.ge {x s : Nat} (h : SrcOf P S x s) (h1 : P.d ≤ x) : x ≤ s := by
  obtain ⟨a, b, c, d⟩ := h
  have := cnt_gap (live S) a
  omega
theorem SrcOf.lt {x y s r : Nat} (h : SrcOf P S x s) (k : SrcOf P S y r) (h1 : P.d ≤ x) (hxy : x < y) : s < r := by
  obtain ⟨a, b, c, d⟩ := h
  obtain ⟨a', b', c', d'⟩ := k
  by_cases hh : s < r
  · exact hh
  · have := cnt_mono (live S) (show r ≤ s by omega)
    omega
theorem SrcOf.inj {x y s : Nat} (h : SrcOf P S x s) (k : SrcOf P S y s) (h1 : P.d ≤ x) (h2 : P.d ≤ y) : x = y := by
  obtain ⟨a, b, c, d⟩ := h
  obtain ⟨a', b', c', d'⟩ := k
  omega
/-- A goal's words stand in the region. -/
theorem Fit.goal_reg (h : Fit P (live S)) {r y : Nat} (hr : r < P.R) (h1 : gF P r ≤ y) (h2 : y < gT P r) : P.d ≤ y ∧ y < P.e ∧ P.reg y = r := by
  obtain ⟨a, b, c, d⟩ := h.goal (i := r) (by omega)
  exact ⟨by omega, by omega, PN.reg_of h.ok hr (by omega) (by omega)⟩
theorem Fit.reg_goal (h : Fit P (live S)) {y : Nat} (h1 : P.d ≤ y) (h2 : y < P.e) : P.reg y < P.R ∧ gF P (P.reg y) ≤ y ∧ y < gT P (P.reg y) := by
  have := h.fd
  have := h.et
  obtain ⟨a, b, c⟩ := PN.reg_in h.ok (x := y) (by omega) (by omega)
  refine ⟨a, ?_, ?_⟩
  · unfold gF; split <;> omega
  · unfold gT; split <;> omega
theorem goal_lt (h : Fit P (live S)) {r : Nat} (hg : gF P r < gT P r) : r < P.R := by
  by_cases hr : r < P.R
  · exact hr
  · have h1 := PN.ed_mono P (show P.R ≤ r by omega)
    have h2 := PN.ed_R h.ok
    have h3 := PN.ed_le P (r + 1)
    have h4 := h.et
    unfold gF gT at hg
    split at hg <;> omega
/-- The words of all goals together. -/
theorem sm_goal (h : Fit P (live S)) : ∀ n, sm (fun r => gT P r - gF P r) n = max (min (P.ed n) P.e) P.d - P.d := by
  have hde : P.d ≤ P.e := by have := h.e_; omega
  intro n
  induction n with
  | zero =>
    rw [PN.ed_zero h.ok]
    have := h.fd
    show 0 = _
    omega
  | succ n ih =>
    unfold sm
    rw [ih]
    have hm := PN.ed_mono P (show n ≤ n + 1 by omega)
    unfold gF gT
    split <;> omega
theorem sm_goals (h : Fit P (live S)) : sm (fun r => gT P r - gF P r) P.R = P.e - P.d := by
  rw [sm_goal h, PN.ed_R h.ok]
  have := h.et
  have := h.e_
  omega

/-- All steps that a region takes. -/
def fullR (P : PN) (r : Nat) : Nat := if gF P r < gT P r then 1 + 2 * (gT P r - gF P r) else 0
def flU (P : PN) (u : Nat → Nat) (r : Nat) : Bool := decide (u r = fullR P r)
/-- How far a region is stored. -/
def prU (P : PN) (u : Nat → Nat) (r : Nat) : Nat := gF P r + (u r - 1) / 2
def stored (P : PN) (u : Nat → Nat) (y : Nat) : Bool := decide (P.d ≤ y ∧ y < P.e ∧ y < prU P u (P.reg y))
theorem full_goal {r : Nat} : 0 < fullR P r ↔ gF P r < gT P r := by unfold fullR; split <;> omega
theorem full_eq {r : Nat} (h : gF P r < gT P r) : fullR P r = 1 + 2 * (gT P r - gF P r) := by unfold fullR; rw [if_pos h]
theorem full_none {r : Nat} (h : ¬ gF P r < gT P r) : fullR P r = 0 := by unfold fullR; rw [if_neg h]
/-- How many regions have a goal. -/
def goalN (P : PN) : Nat := cnt (fun r => decide (gF P r < gT P r)) P.R
theorem sm_full_aux : ∀ n, sm (fullR P) n = cnt (fun r => decide (gF P r < gT P r)) n + 2 * sm (fun r => gT P r - gF P r) n := by
  intro n
  induction n with
  | zero => rfl
  | succ n ih =>
    unfold sm cnt
    rw [ih]
    by_cases hg : gF P n < gT P n
    · rw [full_eq hg, decide_eq_true hg]; simp; omega
    · rw [full_none hg, decide_eq_false hg]
      have : gT P n - gF P n = 0 := by omega
      simp [this]
theorem sm_full (h : Fit P (live S)) : sm (fullR P) P.R = goalN P + 2 * (P.e - P.d) := by rw [sm_full_aux, sm_goals h]; rfl

/-- The regions out of which one takes words: those that live, between the first and the last one. -/
theorem takes_range (h : Fit P (live S)) {r : Nat} (hg : gF P r < gT P r) : ∃ a n, tkR P (live S) r 0 = (a : Nat) ∧ tkR P (live S) r 1 = (a + n : Nat) ∧ a + n ≤ P.R ∧ ∀ o, o < P.R → (a ≤ o ∧ o < a + n ∧ 0 < lvR P (live S) o ↔ tkB P (live S) r o = true) := by
  have hr := goal_lt h hg
  obtain ⟨g1, g2, g3, g4⟩ := h.goal (i := r) hg
  have s1 := h.srcs (x := gF P r) g1 (by omega)
  have s2 := h.srcs (x := gT P r - 1) (by omega) (by omega)
  generalize hx1 : srcN P S (gF P r) = x1 at *
  generalize hx2 : srcN P S (gT P r - 1) = x2 at *
  have S1 := s1
  have S2 := s2
  have hle : x1 ≤ x2 := by
    by_cases e : gF P r = gT P r - 1
    · rw [← e] at s2; rw [s1.uniq s2]; exact Nat.le_refl _
    · exact Nat.le_of_lt (s1.lt s2 g1 (by omega))
  have hm := PN.reg_mono P hle
  have hfd := h.fd
  obtain ⟨a1, a2, a3, a4⟩ := s1
  obtain ⟨b1, b2, b3, b4⟩ := s2
  obtain ⟨r1, r2, r3⟩ := PN.reg_in h.ok (x := x1) (by omega) a2
  obtain ⟨q1, q2, q3⟩ := PN.reg_in h.ok (x := x2) (by omega) b2
  refine ⟨P.reg x1, P.reg x2 + 1 - P.reg x1, tkR_first h hg ⟨a1, a2, a3, a4⟩, ?_, by omega, fun o ho => ⟨?_, ?_⟩⟩
  · rw [tkR_last h hg ⟨b1, b2, b3, b4⟩]; omega
  · rintro ⟨k1, k2, k3⟩
    -- a live word of o between the two
    have hw : ∃ s, x1 ≤ s ∧ s ≤ x2 ∧ live S s = true ∧ P.reg s = o := by
      by_cases e1 : o = P.reg x1
      · exact ⟨x1, Nat.le_refl _, hle, a3, e1.symm⟩
      · by_cases e2 : o = P.reg x2
        · exact ⟨x2, hle, Nat.le_refl _, b3, e2.symm⟩
        · have m1 := PN.ed_mono P (show P.reg x1 + 1 ≤ o by omega)
          have m2 := PN.ed_mono P (show o + 1 ≤ P.reg x2 by omega)
          have hlv : cnt (live S) (P.ed o) < cnt (live S) (P.ed (o + 1)) := by unfold lvR at k3; omega
          obtain ⟨s, c1, c2, c3⟩ := cnt_hit (live S) (cnt (live S) (P.ed o)) (P.ed (o + 1)) hlv
          have c4 : P.ed o ≤ s := by
            by_cases hh : P.ed o ≤ s
            · exact hh
            · have := cnt_mono (live S) (show s + 1 ≤ P.ed o by omega)
              rw [cnt_at c2] at this
              omega
          exact ⟨s, by omega, by omega, c2, PN.reg_of h.ok ho c4 c1⟩
    obtain ⟨s, t1, t2, t3, t4⟩ := hw
    have n1 := cnt_mono (live S) t1
    have n2 := cnt_mono (live S) t2
    have n3 := cnt_mono (live S) (show P.d ≤ s by omega)
    have := h.src (i := r) (x := P.d + (cnt (live S) s - cnt (live S) P.d)) (s := s) hr (by omega) (by omega) (by omega) (by omega) t3 (by omega)
    rw [t4] at this
    exact this.2.2.2
  · intro ht
    obtain ⟨x, y1, y2, y3, y4⟩ := h.word hr ho ht
    have hs := h.srcs (x := x) (by omega) (by omega)
    generalize srcN P S x = s at hs
    have c1 := h.src (i := r) (x := x) (s := s) hr y1 y2 hs.1 hs.2.1 hs.2.2.1 hs.2.2.2
    have e := h.same c1.1 ho c1.2.1 c1.2.2.1 y3 y4
    have l1 : x1 ≤ s := by
      by_cases e : gF P r = x
      · rw [← e] at hs; rw [S1.uniq hs]; exact Nat.le_refl _
      · exact Nat.le_of_lt (S1.lt hs g1 (by omega))
    have l2 : s ≤ x2 := by
      by_cases e : x = gT P r - 1
      · rw [e] at hs; rw [S2.uniq hs]; exact Nat.le_refl _
      · exact Nat.le_of_lt (hs.lt S2 (by omega) (by omega))
    have m1 := PN.reg_mono P l1
    have m2 := PN.reg_mono P l2
    rw [e] at m1 m2
    refine ⟨m1, by omega, ?_⟩
    have hsl := hs.2.2.1
    obtain ⟨p1, p2, p3⟩ := PN.reg_in h.ok (x := s) (by have := hs.1; omega) hs.2.1
    rw [e] at p2 p3
    unfold lvR
    have n1 := cnt_mono (live S) p2
    have n2 := cnt_mono (live S) (show s + 1 ≤ P.ed (o + 1) by omega)
    rw [cnt_at hsl] at n2
    omega
end
end Go.Proofs.YtbmlggemheljkaaGreatDoor

/-
  Sliding, without memory: what holds at each step. No Go is walked here.
-/
namespace Go.Proofs.YtbmlggemheljkaaGreatDoor
open Go.RowKit Bt
set_option linter.unusedVariables false
set_option linter.unusedSimpArgs false

/-- What holds at each step; u: how many steps each region has had. -/
structure SI (P : PN) (S : Nat → Nat) (n : Nat) (hw0 : List Int) (u : Nat → Nat) (s : SlS) : Prop where
  hl : s.hw.length = hw0.length
  ub : ∀ r, u r ≤ fullR P r
  lf : s.left = cnt (fun r => decide (u r < fullR P r)) P.R
  wt : ∀ q, q < P.R → s.wt q = cnt (wtB P (live S) (flU P u) q) P.R
  w6 : ∀ q, s.wt q ≤ 65536
  hp : Hp s.H s.H.length
  ij : Inj s.H
  hm : ∀ r, Has s.H s.H.length r ↔ (r < P.R ∧ u r = 0 ∧ gF P r < gT P r ∧ s.wt r = 0)
  t0 : ∀ r, r < P.R → 0 < u r → s.wt r = 0
  wl : s.ws.length = n
  ph : ∀ (k : Nat) (x : SlW), s.ws[k]? = some x → x.ph ≤ 2
  wk : ∀ (k : Nat) (x : SlW), s.ws[k]? = some x → x.ph ≠ 0 → gF P x.rg < gT P x.rg ∧ gF P x.rg ≤ x.x ∧ x.x < x.y ∧ x.y = gT P x.rg ∧ x.src = srcN P S x.x ∧ u x.rg = x.ph + 2 * (x.x - gF P x.rg)
  wd : ∀ (k : Nat) (x : SlW), s.ws[k]? = some x → x.ph = 2 → hw0[x.src]? = some x.wd
  un : ∀ (i j : Nat) (x y : SlW), s.ws[i]? = some x → s.ws[j]? = some y → x.ph ≠ 0 → y.ph ≠ 0 → x.rg = y.rg → i = j
  hd : ∀ r, 0 < u r → u r < fullR P r → ∃ (k : Nat) (x : SlW), s.ws[k]? = some x ∧ x.ph ≠ 0 ∧ x.rg = r
  hw : ∀ y, s.hw[y]? = if stored P u y = true then hw0[srcN P S y]? else hw0[y]?
  m1 : ∀ a b, (a, b) ∈ s.mv ↔ stored P u b = true ∧ a = srcN P S b
  m2 : (s.mv.map (·.2)).Nodup
  ml : s.mv.length = sm (fun r => (u r - 1) / 2) P.R

section
variable {P : PN} {S : Nat → Nat} {n : Nat} {hw0 : List Int} {u : Nat → Nat} {s : SlS}
theorem nodup_len : ∀ (R : Nat) (l : List Nat), l.Nodup → (∀ x, x ∈ l → x < R) → l.length ≤ R := by
  intro R
  induction R with
  | zero =>
    intro l _ h
    cases l with
    | nil => exact Nat.le_refl _
    | cons a l => exact absurd (h a (by simp)) (Nat.not_lt_zero _)
  | succ R ih =>
    intro l hn h
    by_cases hR : R ∈ l
    · have h1 := ih (l.erase R) (hn.erase R) (fun x hx => by
        have h2 := (hn.mem_erase_iff).1 hx
        have := h x h2.2
        have := h2.1
        omega)
      rw [List.length_erase_of_mem hR] at h1
      omega
    · have h1 := ih l hn (fun x hx => by
        have := h x hx
        have : x ≠ R := fun e => hR (e ▸ hx)
        omega)
      omega
theorem has_len {H : List Nat} (hj : Inj H) {R : Nat} (h : ∀ r, Has H H.length r → r < R) : H.length ≤ R := by
  -- unlike numbers below R
  have hs : H.Nodup := by
    rw [List.nodup_iff_pairwise_ne, List.pairwise_iff_getElem]
    intro i j hi hj2 hij he
    have g : ∀ k (hk : k < H.length), gt0 H k = H[k] := fun k hk => by unfold gt0; rw [List.getD_eq_getElem?_getD, List.getElem?_eq_getElem hk]; rfl
    have := hj i j hi hj2 (by rw [g i hi, g j hj2]; exact he)
    omega
  refine nodup_len R H hs (fun x hx => ?_)
  obtain ⟨k, hk, e⟩ := List.getElem_of_mem hx
  refine h x ⟨k, hk, ?_⟩
  unfold gt0; rw [List.getD_eq_getElem?_getD, List.getElem?_eq_getElem hk]; exact e
theorem SI.hlen (h : SI P S n hw0 u s) : s.H.length ≤ P.R := has_len h.ij (fun r hr => ((h.hm r).1 hr).1)
theorem SI.done_iff (h : SI P S n hw0 u s) (hf : Fit P (live S)) : s.left = 0 ↔ ∀ r, u r = fullR P r := by
  rw [h.lf, cnt_zero_iff]
  constructor
  · intro hh r
    have hu := h.ub r
    by_cases hr : r < P.R
    · have := hh r hr
      rw [decide_eq_false_iff_not] at this
      omega
    · rw [full_none (fun hg => hr (goal_lt hf hg))] at hu ⊢
      omega
  · intro hh r hr
    rw [hh r]
    exact decide_eq_false (by omega)
theorem SI.lt_full (h : SI P S n hw0 u s) {k : Nat} {x : SlW} (hx : s.ws[k]? = some x) (h0 : x.ph ≠ 0) : u x.rg < fullR P x.rg ∧ 0 < u x.rg := by
  obtain ⟨a, b, c, d, e, f⟩ := h.wk k x hx h0
  have := h.ph k x hx
  rw [full_eq a]
  omega
/-- A source is as it was, as long as the word that wants it isn't stored. -/
theorem SI.src_stays (h : SI P S n hw0 u s) (hf : Fit P (live S)) {k : Nat} {x : SlW} (hx : s.ws[k]? = some x) (h0 : x.ph ≠ 0) : stored P u (srcN P S x.x) = false := by
  obtain ⟨a, b, c, d, e, f⟩ := h.wk k x hx h0
  obtain ⟨l1, l2⟩ := h.lt_full hx h0
  have hr := goal_lt hf a
  obtain ⟨g1, g2, g3⟩ := hf.goal_reg hr b (by omega)
  have hs := hf.srcs g1 g2
  have hge := hs.ge g1
  generalize srcN P S x.x = y at *
  unfold stored
  rw [decide_eq_false_iff_not]
  rintro ⟨y1, y2, y3⟩
  obtain ⟨c1, c2, c3, c4⟩ := hf.src (i := x.rg) (x := x.x) (s := y) hr b (by omega) hs.1 hs.2.1 hs.2.2.1 hs.2.2.2
  have hph := h.ph k x hx
  by_cases hq : P.reg y = x.rg
  · rw [hq] at y3
    unfold prU at y3
    omega
  · have hfl := hf.fills (Fl := flU P u) (i := x.rg) (q := P.reg y) hr (by unfold flU; rw [decide_eq_false]; omega)
    rw [if_pos ⟨c4, hq⟩] at hfl
    have hw := h.wt _ c1
    have hz := h.t0 _ c1 (by
      unfold prU at y3
      obtain ⟨_, k2, _⟩ := hf.reg_goal y1 y2
      omega)
    omega

theorem stored_upd {r : Nat} {v : Nat} (hf : Fit P (live S)) (hv : (v - 1) / 2 = (u r - 1) / 2) (y : Nat) : stored P (upd u r v) y = stored P u y := by
  unfold stored prU upd
  congr 1
  by_cases e : P.reg y = r
  · rw [if_pos e, e, hv]
  · rw [if_neg e]
theorem sm_half {r v : Nat} (hv : (v - 1) / 2 = (u r - 1) / 2) (m : Nat) : sm (fun j => (upd u r v j - 1) / 2) m = sm (fun j => (u j - 1) / 2) m := sm_congr (fun j _ => by
  unfold upd
  by_cases e : j = r
  · rw [if_pos e, e, hv]
  · rw [if_neg e])
theorem flU_upd {r v : Nat} (h1 : u r < fullR P r) (h2 : v < fullR P r) (j : Nat) : flU P (upd u r v) j = flU P u j := by
  unfold flU upd
  by_cases e : j = r
  · rw [if_pos e, e, decide_eq_false (by omega), decide_eq_false (by omega)]
  · rw [if_neg e]
theorem wtB_congr {F G : Nat → Bool} (h : ∀ j, F j = G j) (q : Nat) : cnt (wtB P (live S) F q) P.R = cnt (wtB P (live S) G q) P.R := cnt_congr (fun j _ => by unfold wtB; rw [h])
theorem left_upd {r v : Nat} (h1 : u r < fullR P r) (h2 : v < fullR P r) (m : Nat) : cnt (fun j => decide (upd u r v j < fullR P j)) m = cnt (fun j => decide (u j < fullR P j)) m := cnt_congr (fun j _ => by
  unfold upd
  by_cases e : j = r
  · rw [if_pos e, e, decide_eq_true h1, decide_eq_true h2]
  · rw [if_neg e])
theorem set_get {l : List SlW} {k i : Nat} {x y : SlW} (h : (l.set k x)[i]? = some y) : (i = k ∧ y = x) ∨ (i ≠ k ∧ l[i]? = some y) := by
  by_cases e : i = k
  · subst e
    by_cases hl : i < l.length
    · rw [List.getElem?_set_self hl] at h; exact .inl ⟨rfl, (Option.some.inj h).symm⟩
    · rw [List.getElem?_eq_none (by simp; omega)] at h; cases h
  · rw [List.getElem?_set_ne (fun e' => e e'.symm)] at h; exact .inr ⟨e, h⟩

/-- A region is taken. -/
theorem SI.take (h : SI P S n hw0 u s) (hf : Fit P (live S)) {k : Nat} {x : SlW} (hx : s.ws[k]? = some x) (h0 : x.ph = 0) (hH : s.H.length ≠ 0) : leastV s.H < P.R ∧ gF P (leastV s.H) < gT P (leastV s.H) ∧ u (leastV s.H) = 0 ∧ (∀ y, Has s.H s.H.length y → leastV s.H ≤ y) ∧ SI P S n hw0 (upd u (leastV s.H) 1) (takeS P S s k x) := by
  obtain ⟨p1, p2, p3, p4, p5, p6⟩ := pop_heap h.hp h.ij hH
  have e1 : leastV s.H = gt0 (popL s.H) (s.H.length - 1) := by unfold leastV; rw [if_neg hH]
  have e2 : leastH s.H = (popL s.H).take (s.H.length - 1) := by unfold leastH; rw [if_neg hH]
  rw [← e1] at p1 p2 p5
  rw [← e2] at p3 p4 p5 p6
  obtain ⟨r1, r2, r3, r4⟩ := (h.hm _).1 p1
  have hfu := full_eq r3
  unfold takeS
  rw [if_neg hH]
  generalize leastV s.H = r at *
  generalize leastH s.H = H' at *
  have hk : k < s.ws.length := (List.getElem?_eq_some_iff.1 hx).1
  have u1 : u r < fullR P r := by omega
  have v1 : 1 < fullR P r := by omega
  have hst := stored_upd (S := S) (u := u) (r := r) (v := 1) hf (by rw [r2])
  refine ⟨r1, r3, r2, p2, ?_⟩
  refine ⟨h.hl, fun j => ?_, ?_, fun q hq => ?_, h.w6, by rw [p6]; exact p3, p4, fun y => ?_, fun q hq hu => ?_, by simp [h.wl], fun i y hy => ?_, fun i y hy hp => ?_, fun i y hy hp => ?_, fun i j a b ha hb pa pb hab => ?_, fun q hq1 hq2 => ?_, fun y => ?_, fun a b => ?_, h.m2, ?_⟩
  · unfold upd; split
    · rename_i e; rw [e]; omega
    · exact h.ub j
  · rw [left_upd u1 v1]; exact h.lf
  · show s.wt q = _
    rw [h.wt q hq]
    exact (wtB_congr (flU_upd u1 v1) q).symm
  · show Has H' H'.length y ↔ _
    rw [p6, p5, h.hm]
    unfold upd
    by_cases e : y = r
    · subst e; simp
    · rw [if_neg e]
      exact ⟨fun hh => hh.1, fun hh => ⟨hh, e⟩⟩
  · by_cases e : q = r
    · rw [e]; exact r4
    · rw [upd_ne _ _ e] at hu; exact h.t0 q hq hu
  · rcases set_get hy with ⟨_, rfl⟩ | ⟨_, hy⟩
    · show 1 ≤ 2; omega
    · exact h.ph i y hy
  · rcases set_get hy with ⟨_, rfl⟩ | ⟨hne, hy⟩
    · refine ⟨r3, Nat.le_refl _, r3, rfl, rfl, ?_⟩
      rw [upd_at]
      show 1 = 1 + 2 * (gF P r - gF P r)
      omega
    · obtain ⟨a, b, c, d, e, f⟩ := h.wk i y hy hp
      refine ⟨a, b, c, d, e, ?_⟩
      rw [upd_ne _ _ (fun ee => by rw [ee] at f; omega)]
      exact f
  · rcases set_get hy with ⟨_, rfl⟩ | ⟨hne, hy⟩
    · exact absurd hp (by show ¬ 1 = 2; omega)
    · exact h.wd i y hy hp
  · rcases set_get ha with ⟨i1, rfl⟩ | ⟨i1, ha⟩ <;> rcases set_get hb with ⟨j1, rfl⟩ | ⟨j1, hb⟩
    · omega
    · have := (h.lt_full hb pb).2
      rw [← hab] at this
      exact absurd this (by show ¬ 0 < u r; omega)
    · have := (h.lt_full ha pa).2
      rw [hab] at this
      exact absurd this (by show ¬ 0 < u r; omega)
    · exact h.un i j a b ha hb pa pb hab
  · by_cases e : q = r
    · exact ⟨k, _, List.getElem?_set_self hk, by show 1 ≠ 0; omega, e.symm⟩
    · rw [upd_ne _ _ e] at hq1 hq2
      obtain ⟨i, y, a, b, c⟩ := h.hd q hq1 hq2
      refine ⟨i, y, ?_, b, c⟩
      show (s.ws.set k _)[i]? = _
      rw [List.getElem?_set_ne (fun ee => by subst ee; rw [hx] at a; cases a; exact b h0)]
      exact a
  · show s.hw[y]? = _
    rw [hst]; exact h.hw y
  · show (a, b) ∈ s.mv ↔ _
    rw [hst]; exact h.m1 a b
  · show s.mv.length = _
    rw [sm_half (by rw [r2]), h.ml]

/-- A source is read. -/
theorem SI.read (h : SI P S n hw0 u s) (hf : Fit P (live S)) (hN : P.t ≤ hw0.length) {k : Nat} {x : SlW} (hx : s.ws[k]? = some x) (h0 : x.ph = 1) : x.src < s.hw.length ∧ SI P S n hw0 (upd u x.rg (u x.rg + 1)) (readS s k x) := by
  obtain ⟨a, b, c, d, e, f⟩ := h.wk k x hx (by omega)
  obtain ⟨u1, u0⟩ := h.lt_full hx (by omega)
  have hr := goal_lt hf a
  have hfu := full_eq a
  have v1 : u x.rg + 1 < fullR P x.rg := by omega
  obtain ⟨g1, g2, g3⟩ := hf.goal_reg hr b (by omega)
  have hs := hf.srcs g1 g2
  have hv : (u x.rg + 1 - 1) / 2 = (u x.rg - 1) / 2 := by omega
  have hst := stored_upd (S := S) (u := u) (r := x.rg) (v := u x.rg + 1) hf hv
  have hno := h.src_stays hf hx (by omega)
  have hsl : x.src < hw0.length := by rw [e]; have := hs.2.1; omega
  have hk : k < s.ws.length := (List.getElem?_eq_some_iff.1 hx).1
  refine ⟨by rw [h.hl]; exact hsl, ?_⟩
  unfold readS
  refine ⟨h.hl, fun j => ?_, ?_, fun q hq => ?_, h.w6, h.hp, h.ij, fun y => ?_, fun q hq hu => ?_, by simp [h.wl], fun i y hy => ?_, fun i y hy hp => ?_, fun i y hy hp => ?_, fun i j y z hy hz py pz hyz => ?_, fun q hq1 hq2 => ?_, fun y => ?_, fun a b => ?_, h.m2, ?_⟩
  · unfold upd; split
    · rename_i e; rw [e]; omega
    · exact h.ub j
  · rw [left_upd u1 v1]; exact h.lf
  · show s.wt q = _
    rw [h.wt q hq]
    exact (wtB_congr (flU_upd u1 v1) q).symm
  · show Has s.H s.H.length y ↔ _
    rw [h.hm]
    unfold upd
    by_cases e : y = x.rg
    · subst e; rw [if_pos rfl]; constructor <;> (intro hh; omega)
    · rw [if_neg e]
  · by_cases e : q = x.rg
    · rw [e]; exact h.t0 _ hr u0
    · rw [upd_ne _ _ e] at hu; exact h.t0 q hq hu
  · rcases set_get hy with ⟨_, rfl⟩ | ⟨_, hy⟩
    · show 2 ≤ 2; omega
    · exact h.ph i y hy
  · rcases set_get hy with ⟨_, rfl⟩ | ⟨hne, hy⟩
    · refine ⟨a, b, c, d, e, ?_⟩
      rw [upd_at]
      show u x.rg + 1 = 2 + 2 * (x.x - gF P x.rg)
      omega
    · obtain ⟨a', b', c', d', e', f'⟩ := h.wk i y hy hp
      refine ⟨a', b', c', d', e', ?_⟩
      rw [upd_ne _ _ (fun ee => hne (h.un i k y x hy hx hp (by omega) ee))]
      exact f'
  · rcases set_get hy with ⟨_, rfl⟩ | ⟨hne, hy⟩
    · show hw0[x.src]? = some (s.hw.getD x.src 0)
      have h1 := h.hw x.src
      rw [e, hno, if_neg (by simp)] at h1
      rw [List.getD_eq_getElem?_getD, e, h1, ← e, List.getElem?_eq_getElem hsl]; rfl
    · exact h.wd i y hy hp
  · rcases set_get hy with ⟨i1, rfl⟩ | ⟨i1, hy⟩ <;> rcases set_get hz with ⟨j1, rfl⟩ | ⟨j1, hz⟩
    · omega
    · exact absurd (h.un k j x z hx hz (by omega) pz hyz) (fun ee => j1 ee.symm)
    · exact absurd (h.un i k y x hy hx py (by omega) hyz) i1
    · exact h.un i j y z hy hz py pz hyz
  · by_cases e : q = x.rg
    · exact ⟨k, _, List.getElem?_set_self hk, by show 2 ≠ 0; omega, e.symm⟩
    · rw [upd_ne _ _ e] at hq1 hq2
      obtain ⟨i, y, a, b, c⟩ := h.hd q hq1 hq2
      refine ⟨i, y, ?_, b, c⟩
      show (s.ws.set k _)[i]? = _
      rw [List.getElem?_set_ne (fun ee => by subst ee; rw [hx] at a; cases a; exact e c.symm)]
      exact a
  · show s.hw[y]? = _
    rw [hst]; exact h.hw y
  · show (a, b) ∈ s.mv ↔ _
    rw [hst]; exact h.m1 a b
  · show s.mv.length = _
    rw [sm_half hv, h.ml]
end
end Go.Proofs.YtbmlggemheljkaaGreatDoor

/-
  Sliding, without memory: a store, the start. No Go is walked here.
-/
namespace Go.Proofs.YtbmlggemheljkaaGreatDoor
open Go.RowKit Bt
set_option linter.unusedVariables false
set_option linter.unusedSimpArgs false

section
variable {P : PN} {S : Nat → Nat} {n : Nat} {hw0 : List Int} {u : Nat → Nat} {s : SlS}
/-- A region in line. -/
theorem lineS_spec (s : SlS) (r : Nat) (h1 : Hp s.H s.H.length) (h2 : Inj s.H) (h3 : s.wt r = 0 → gF P r < gT P r → ¬ Has s.H s.H.length r) : Hp (lineS P s r).H (lineS P s r).H.length ∧ Inj (lineS P s r).H ∧ (∀ y, Has (lineS P s r).H (lineS P s r).H.length y ↔ Has s.H s.H.length y ∨ (y = r ∧ s.wt r = 0 ∧ gF P r < gT P r)) ∧ (lineS P s r).hw = s.hw ∧ (lineS P s r).left = s.left ∧ (lineS P s r).mv = s.mv ∧ (lineS P s r).wt = s.wt := by
  unfold lineS
  by_cases h : s.wt r = 0 ∧ gF P r < gT P r
  · rw [if_pos h]
    obtain ⟨a, b, c⟩ := push_heap h1 h2 (h3 h.1 h.2)
    exact ⟨a, b, fun y => (c y).trans ⟨fun hh => hh.imp id (fun e => ⟨e, h⟩), fun hh => hh.imp id (fun e => e.1)⟩, rfl, rfl, rfl, rfl⟩
  · rw [if_neg h]
    exact ⟨h1, h2, fun y => ⟨.inl, fun hh => hh.elim id (fun e => absurd e.2 h)⟩, rfl, rfl, rfl, rfl⟩
/-- Those out of which a filled region took words wait for one less. -/
theorem fillR_spec (L : Nat → Bool) (r a : Nat) (s : SlS) (h1 : Hp s.H s.H.length) (h2 : Inj s.H) : ∀ m, (∀ o, a ≤ o → o < a + m → o ≠ r → 0 < lvR P L o → s.wt o - 1 = 0 → gF P o < gT P o → ¬ Has s.H s.H.length o) → Hp (fillR P L r s a m).H (fillR P L r s a m).H.length ∧ Inj (fillR P L r s a m).H ∧ (∀ y, Has (fillR P L r s a m).H (fillR P L r s a m).H.length y ↔ Has s.H s.H.length y ∨ ((a ≤ y ∧ y < a + m ∧ y ≠ r ∧ 0 < lvR P L y) ∧ s.wt y - 1 = 0 ∧ gF P y < gT P y)) ∧ (∀ i, (fillR P L r s a m).wt i = if a ≤ i ∧ i < a + m ∧ i ≠ r ∧ 0 < lvR P L i then s.wt i - 1 else s.wt i) ∧ (fillR P L r s a m).hw = s.hw ∧ (fillR P L r s a m).left = s.left ∧ (fillR P L r s a m).mv = s.mv := by
  intro m
  induction m with
  | zero =>
    intro _
    refine ⟨h1, h2, fun y => ⟨.inl, fun hh => hh.elim id (fun e => by omega)⟩, fun i => ?_, rfl, rfl, rfl⟩
    rw [if_neg (by omega)]; rfl
  | succ m ih =>
    intro h3
    obtain ⟨a1, a2, a3, a4, a5, a6, a7⟩ := ih (fun o k1 k2 => h3 o k1 (by omega))
    show Hp (fillOne P L r (fillR P L r s a m) (a + m)).H (fillOne P L r (fillR P L r s a m) (a + m)).H.length ∧ Inj (fillOne P L r (fillR P L r s a m) (a + m)).H ∧ (∀ y, Has (fillOne P L r (fillR P L r s a m) (a + m)).H (fillOne P L r (fillR P L r s a m) (a + m)).H.length y ↔ _) ∧ (∀ i, (fillOne P L r (fillR P L r s a m) (a + m)).wt i = _) ∧ (fillOne P L r (fillR P L r s a m) (a + m)).hw = _ ∧ (fillOne P L r (fillR P L r s a m) (a + m)).left = _ ∧ (fillOne P L r (fillR P L r s a m) (a + m)).mv = _
    generalize fillR P L r s a m = t at *
    unfold fillOne
    by_cases hc : a + m ≠ r ∧ 0 < lvR P L (a + m)
    · rw [if_pos hc]
      have w0 := a4 (a + m)
      rw [if_neg (by omega)] at w0
      obtain ⟨b1, b2, b3, b4, b5, b6, b7⟩ := lineS_spec (P := P) ({ t with wt := fun i => if i = a + m then t.wt (a + m) - 1 else t.wt i } : SlS) (a + m) a1 a2 (fun k1 k2 hh => by
        have k1' : (if a + m = a + m then t.wt (a + m) - 1 else t.wt (a + m)) = 0 := k1
        rw [if_pos rfl, w0] at k1'
        rcases (a3 (a + m)).1 hh with k3 | k3
        · exact h3 (a + m) (by omega) (by omega) hc.1 hc.2 k1' k2 k3
        · omega)
      refine ⟨b1, b2, fun y => (b3 y).trans ?_, fun i => ?_, b4.trans a5, b5.trans a6, b6.trans a7⟩
      · show Has t.H t.H.length y ∨ (y = a + m ∧ (if a + m = a + m then t.wt (a + m) - 1 else t.wt (a + m)) = 0 ∧ gF P (a + m) < gT P (a + m)) ↔ _
        rw [if_pos rfl, a3, w0]
        constructor
        · rintro ((k | k) | k)
          · exact .inl k
          · exact .inr ⟨⟨k.1.1, by omega, k.1.2.2⟩, k.2⟩
          · obtain ⟨rfl, k2, k3⟩ := k
            exact .inr ⟨⟨by omega, by omega, hc⟩, k2, k3⟩
        · rintro (k | ⟨k, k2⟩)
          · exact .inl (.inl k)
          · by_cases e : y = a + m
            · subst e; exact .inr ⟨rfl, k2⟩
            · exact .inl (.inr ⟨⟨k.1, by omega, k.2.2⟩, k2⟩)
      · rw [b7]
        show (if i = a + m then t.wt (a + m) - 1 else t.wt i) = _
        by_cases e : i = a + m
        · subst e; rw [if_pos rfl, w0, if_pos ⟨by omega, by omega, hc⟩]
        · rw [if_neg e, a4]
          by_cases hh : a ≤ i ∧ i < a + m ∧ i ≠ r ∧ 0 < lvR P L i
          · rw [if_pos hh, if_pos ⟨hh.1, by omega, hh.2.2⟩]
          · rw [if_neg hh, if_neg (fun k => hh ⟨k.1, by omega, k.2.2⟩)]
    · rw [if_neg hc]
      refine ⟨a1, a2, fun y => (a3 y).trans ?_, fun i => ?_, a5, a6, a7⟩
      · constructor
        · rintro (k | k)
          · exact .inl k
          · exact .inr ⟨⟨k.1.1, by omega, k.1.2.2⟩, k.2⟩
        · rintro (k | ⟨k, k2⟩)
          · exact .inl k
          · by_cases e : y = a + m
            · subst e; exact absurd k.2.2 hc
            · exact .inr ⟨⟨k.1, by omega, k.2.2⟩, k2⟩
      · rw [a4]
        by_cases e : i = a + m
        · subst e
          rw [if_neg (by omega), if_neg (fun k => hc k.2.2)]
        · by_cases hh : a ≤ i ∧ i < a + m ∧ i ≠ r ∧ 0 < lvR P L i
          · rw [if_pos hh, if_pos ⟨hh.1, by omega, hh.2.2⟩]
          · rw [if_neg hh, if_neg (fun k => hh ⟨k.1, by omega, k.2.2⟩)]

theorem stored_more {r x : Nat} (hf : Fit P (live S)) (hr : r < P.R) (h1 : gF P r ≤ x) (h2 : x < gT P r) (hu : u r = 2 + 2 * (x - gF P r)) (y : Nat) : stored P (upd u r (u r + 1)) y = true ↔ stored P u y = true ∨ y = x := by
  unfold stored
  rw [decide_eq_true_eq, decide_eq_true_eq]
  obtain ⟨g1, g2, g3⟩ := hf.goal_reg hr h1 h2
  by_cases e : y = x
  · subst e
    refine ⟨fun _ => .inr rfl, fun _ => ⟨g1, g2, ?_⟩⟩
    rw [g3]
    unfold prU
    rw [upd_at, hu]
    omega
  · by_cases e2 : P.reg y = r
    · rw [e2]
      unfold prU
      rw [upd_at, hu]
      constructor
      · rintro ⟨a, b, c⟩
        exact .inl ⟨a, b, by omega⟩
      · rintro (⟨a, b, c⟩ | h)
        · exact ⟨a, b, by omega⟩
        · exact absurd h e
    · unfold prU
      rw [upd_ne _ _ e2]
      constructor
      · intro h; exact .inl h
      · rintro (h | h)
        · exact h
        · exact absurd h e
theorem half_more {r v : Nat} (hr : r < P.R) (hv : v = u r + 1) (h2 : ∃ d, u r = 2 + 2 * d) : sm (fun j => (upd u r v j - 1) / 2) P.R = sm (fun j => (u j - 1) / 2) P.R + 1 := by
  obtain ⟨d, hd⟩ := h2
  have := sm_one (f := fun j => (u j - 1) / 2) (g := fun j => (upd u r v j - 1) / 2) (k := r) (fun j hj => by show (upd u r v j - 1) / 2 = _; rw [upd_ne _ _ hj]) hr
  simp only [upd_at] at this
  omega

/-- What a store has done, but for the worker and those who wait. -/
theorem SI.put (h : SI P S n hw0 u s) (hf : Fit P (live S)) (hN : P.t ≤ hw0.length) {k : Nat} {x : SlW} (hx : s.ws[k]? = some x) (h0 : x.ph = 2) : (∀ y, (s.hw.set x.x x.wd)[y]? = if stored P (upd u x.rg (u x.rg + 1)) y = true then hw0[srcN P S y]? else hw0[y]?) ∧ (∀ a b, (a, b) ∈ s.mv ++ [(x.src, x.x)] ↔ stored P (upd u x.rg (u x.rg + 1)) b = true ∧ a = srcN P S b) ∧ ((s.mv ++ [(x.src, x.x)]).map (·.2)).Nodup ∧ (s.mv ++ [(x.src, x.x)]).length = sm (fun r => (upd u x.rg (u x.rg + 1) r - 1) / 2) P.R ∧ stored P u x.x = false := by
  obtain ⟨a, b, c, d, e, f⟩ := h.wk k x hx (by omega)
  have hr := goal_lt hf a
  obtain ⟨g1, g2, g3⟩ := hf.goal_reg hr b (by omega)
  have hst := stored_more (S := S) (u := u) hf hr b (by omega) (by omega)
  have hno : stored P u x.x = false := by
    unfold stored
    rw [decide_eq_false_iff_not]
    rintro ⟨_, _, k3⟩
    rw [g3] at k3
    unfold prU at k3
    omega
  have het := hf.et
  refine ⟨fun y => ?_, fun p q => ?_, ?_, ?_, hno⟩
  · by_cases ey : y = x.x
    · subst ey
      rw [if_pos ((hst _).2 (.inr rfl)), ← e, h.wd k x hx h0]
      exact List.getElem?_set_self (by rw [h.hl]; omega)
    · rw [List.getElem?_set_ne (fun ee => ey ee.symm), h.hw y]
      by_cases hs : stored P u y = true
      · rw [if_pos hs, if_pos ((hst y).2 (.inl hs))]
      · rw [if_neg hs, if_neg (fun hh => ((hst y).1 hh).elim hs ey)]
  · rw [List.mem_append, h.m1, hst]
    constructor
    · rintro (⟨k1, k2⟩ | k)
      · exact ⟨.inl k1, k2⟩
      · simp only [List.mem_singleton, Prod.mk.injEq] at k
        obtain ⟨rfl, rfl⟩ := k
        exact ⟨.inr rfl, e⟩
    · rintro ⟨k1 | rfl, k2⟩
      · exact .inl ⟨k1, k2⟩
      · right; rw [k2, e]; simp
  · rw [List.map_append, List.nodup_append]
    refine ⟨h.m2, by simp, ?_⟩
    intro p hp q hq epq
    simp at hq
    subst hq; subst epq
    obtain ⟨m, hm, hme⟩ := List.mem_map.1 hp
    have := ((h.m1 m.1 m.2).1 hm).1
    rw [hme, hno] at this
    cases this
  · rw [List.length_append, half_more hr rfl ⟨x.x - gF P x.rg, f.trans (by omega)⟩, h.ml]; rfl

/-- A store that doesn't fill. -/
theorem SI.store_on (h : SI P S n hw0 u s) (hf : Fit P (live S)) (hN : P.t ≤ hw0.length) {k : Nat} {x : SlW} (hx : s.ws[k]? = some x) (h0 : x.ph = 2) (he : x.x + 1 ≠ x.y) : SI P S n hw0 (upd u x.rg (u x.rg + 1)) { storeA s k x with ws := s.ws.set k ⟨1, x.rg, x.x + 1, x.y, srcN P S (x.x + 1), x.wd⟩ } := by
  obtain ⟨p1, p2, p3, p4, p5⟩ := h.put hf hN hx h0
  obtain ⟨a, b, c, d, e, f⟩ := h.wk k x hx (by omega)
  obtain ⟨u1, u0⟩ := h.lt_full hx (by omega)
  have hr := goal_lt hf a
  have hfu := full_eq a
  have v1 : u x.rg + 1 < fullR P x.rg := by omega
  have hk : k < s.ws.length := (List.getElem?_eq_some_iff.1 hx).1
  refine ⟨by show (s.hw.set _ _).length = _; rw [List.length_set]; exact h.hl, fun j => ?_, ?_, fun q hq => ?_, h.w6, h.hp, h.ij, fun y => ?_, fun q hq hu => ?_, by simp [h.wl], fun i y hy => ?_, fun i y hy hp => ?_, fun i y hy hp => ?_, fun i j y z hy hz py pz hyz => ?_, fun q hq1 hq2 => ?_, p1, p2, p3, p4⟩
  · unfold upd; split
    · rename_i e; rw [e]; omega
    · exact h.ub j
  · rw [left_upd u1 v1]; exact h.lf
  · show s.wt q = _
    rw [h.wt q hq]
    exact (wtB_congr (flU_upd u1 v1) q).symm
  · show Has s.H s.H.length y ↔ _
    rw [h.hm]
    unfold upd
    by_cases e : y = x.rg
    · subst e; rw [if_pos rfl]; constructor <;> (intro hh; omega)
    · rw [if_neg e]; exact Iff.rfl
  · by_cases e : q = x.rg
    · rw [e]; exact h.t0 _ hr u0
    · rw [upd_ne _ _ e] at hu; exact h.t0 q hq hu
  · rcases set_get hy with ⟨_, rfl⟩ | ⟨_, hy⟩
    · show 1 ≤ 2; omega
    · exact h.ph i y hy
  · rcases set_get hy with ⟨_, rfl⟩ | ⟨hne, hy⟩
    · refine ⟨a, by show gF P x.rg ≤ x.x + 1; omega, by show x.x + 1 < x.y; omega, d, rfl, ?_⟩
      rw [upd_at]
      show u x.rg + 1 = 1 + 2 * (x.x + 1 - gF P x.rg)
      omega
    · obtain ⟨a', b', c', d', e', f'⟩ := h.wk i y hy hp
      refine ⟨a', b', c', d', e', ?_⟩
      rw [upd_ne _ _ (fun ee => hne (h.un i k y x hy hx hp (by omega) ee))]
      exact f'
  · rcases set_get hy with ⟨_, rfl⟩ | ⟨hne, hy⟩
    · exact absurd hp (by show ¬ 1 = 2; omega)
    · exact h.wd i y hy hp
  · rcases set_get hy with ⟨i1, rfl⟩ | ⟨i1, hy⟩ <;> rcases set_get hz with ⟨j1, rfl⟩ | ⟨j1, hz⟩
    · omega
    · exact absurd (h.un k j x z hx hz (by omega) pz hyz) (fun ee => j1 ee.symm)
    · exact absurd (h.un i k y x hy hx py (by omega) hyz) i1
    · exact h.un i j y z hy hz py pz hyz
  · by_cases e : q = x.rg
    · exact ⟨k, _, List.getElem?_set_self hk, by show 1 ≠ 0; omega, e.symm⟩
    · rw [upd_ne _ _ e] at hq1 hq2
      obtain ⟨i, y, a, b, c⟩ := h.hd q hq1 hq2
      refine ⟨i, y, ?_, b, c⟩
      show (s.ws.set k _)[i]? = _
      rw [List.getElem?_set_ne (fun ee => by subst ee; rw [hx] at a; cases a; exact e c.symm)]
      exact a

/-- A store that fills. -/
theorem SI.store_end (h : SI P S n hw0 u s) (hf : Fit P (live S)) (hN : P.t ≤ hw0.length) (hR : P.R ≤ 30000) {k : Nat} {x : SlW} (hx : s.ws[k]? = some x) (h0 : x.ph = 2) (he : x.x + 1 = x.y) : (∃ a m, MayF P (live S) (storeA s k x) x.rg a m) ∧ SI P S n hw0 (upd u x.rg (u x.rg + 1)) { fillS P (live S) (storeA s k x) x.rg with ws := s.ws.set k ⟨0, x.rg, x.x + 1, x.y, x.src, x.wd⟩ } := by
  obtain ⟨p1, p2, p3, p4, p5⟩ := h.put hf hN hx h0
  obtain ⟨a, b, c, d, e, f⟩ := h.wk k x hx (by omega)
  obtain ⟨u1, u0⟩ := h.lt_full hx (by omega)
  have hr := goal_lt hf a
  have hfu := full_eq a
  have v1 : u x.rg + 1 = fullR P x.rg := by omega
  have hk : k < s.ws.length := (List.getElem?_eq_some_iff.1 hx).1
  obtain ⟨A, m, t0, t1, hAm, hrg⟩ := takes_range hf a
  -- who waits for one less
  have hFl : ∀ j, flU P (upd u x.rg (u x.rg + 1)) j = fill (flU P u) x.rg j := fun j => by
    unfold flU fill upd
    by_cases ej : j = x.rg
    · rw [if_pos ej, if_pos ej, ej, decide_eq_true v1]
    · rw [if_neg ej, if_neg ej]
  have hF0 : flU P u x.rg = false := by unfold flU; rw [decide_eq_false]; omega
  have hfl := fun q => hf.fills (Fl := flU P u) (i := x.rg) (q := q) hr hF0
  have hin : ∀ o, A ≤ o ∧ o < A + m ∧ o ≠ x.rg ∧ 0 < lvR P (live S) o → o < P.R ∧ 1 ≤ s.wt o ∧ u o = 0 := fun o ho => by
    have hoR : o < P.R := by omega
    have ht := (hrg o hoR).1 ⟨ho.1, ho.2.1, ho.2.2.2⟩
    have h1 := hfl o
    rw [if_pos ⟨ht, ho.2.2.1⟩] at h1
    have h2 := h.wt o hoR
    refine ⟨hoR, by omega, ?_⟩
    by_cases hu : u o = 0
    · exact hu
    · have := h.t0 o hoR (by omega); omega
  have hle : s.left ≤ P.R := by rw [h.lf]; exact cnt_le _ _
  have hl1 : 1 ≤ s.left := by
    have : ¬ s.left = 0 := fun hh => by have := (h.done_iff hf).1 hh x.rg; omega
    omega
  have hwt6 := h.w6
  have hHl := h.hlen
  refine ⟨⟨A, m, hr, hl1, by show s.left ≤ 1000000; omega, t0, t1, hAm, fun o k1 k2 k3 k4 => (hin o ⟨k1, k2, k3, k4⟩).2.1, fun o => by have := hwt6 o; show s.wt o ≤ 1000000; omega, by show s.H.length + P.R < 65536; omega⟩, ?_⟩
  have hfs : fillS P (live S) (storeA s k x) x.rg = fillR P (live S) x.rg { storeA s k x with left := s.left - 1 } A m := by
    unfold fillS
    rw [t0, t1]
    rw [show ((A : Int)).toNat = A by omega, show (((A + m : Nat) : Int) - (A : Int)).toNat = m by omega]
    rfl
  rw [hfs]
  obtain ⟨b1, b2, b3, b4, b5, b6, b7⟩ := fillR_spec (P := P) (live S) x.rg A { storeA s k x with left := s.left - 1 } h.hp h.ij m (fun o k1 k2 k3 k4 _ _ hh => by
    have := (hin o ⟨k1, k2, k3, k4⟩).2.1
    have := ((h.hm o).1 hh).2.2.2
    omega)
  have b4' : ∀ i, (fillR P (live S) x.rg { storeA s k x with left := s.left - 1 } A m).wt i = if A ≤ i ∧ i < A + m ∧ i ≠ x.rg ∧ 0 < lvR P (live S) i then s.wt i - 1 else s.wt i := b4
  have b3' : ∀ y, Has (fillR P (live S) x.rg { storeA s k x with left := s.left - 1 } A m).H (fillR P (live S) x.rg { storeA s k x with left := s.left - 1 } A m).H.length y ↔ Has s.H s.H.length y ∨ ((A ≤ y ∧ y < A + m ∧ y ≠ x.rg ∧ 0 < lvR P (live S) y) ∧ s.wt y - 1 = 0 ∧ gF P y < gT P y) := b3
  have b6' : (fillR P (live S) x.rg { storeA s k x with left := s.left - 1 } A m).left = s.left - 1 := b6
  have b5' : (fillR P (live S) x.rg { storeA s k x with left := s.left - 1 } A m).hw = s.hw.set x.x x.wd := b5
  have b7' : (fillR P (live S) x.rg { storeA s k x with left := s.left - 1 } A m).mv = s.mv ++ [(x.src, x.x)] := b7
  clear b3 b4 b5 b6 b7
  generalize fillR P (live S) x.rg { storeA s k x with left := s.left - 1 } A m = t at *
  have hwle : ∀ i, t.wt i ≤ s.wt i := fun i => by rw [b4']; split <;> omega
  refine ⟨by show t.hw.length = _; rw [b5', List.length_set]; exact h.hl, fun j => ?_, ?_, fun q hq => ?_, fun q => Nat.le_trans (hwle q) (h.w6 q), b1, b2, fun y => ?_, fun q hq hu => ?_, by simp [h.wl], fun i y hy => ?_, fun i y hy hp => ?_, fun i y hy hp => ?_, fun i j y z hy hz py pz hyz => ?_, fun q hq1 hq2 => ?_, by intro y; show t.hw[y]? = _; rw [b5']; exact p1 y, by intro q r; show (q, r) ∈ t.mv ↔ _; rw [b7']; exact p2 q r, by show (t.mv.map _).Nodup; rw [b7']; exact p3, by show t.mv.length = _; rw [b7']; exact p4⟩
  · unfold upd; split
    · rename_i e; rw [e]; omega
    · exact h.ub j
  · show t.left = _
    rw [b6', h.lf]
    have := cnt_less (f := fun r => decide (u r < fullR P r)) (g := fun r => decide (upd u x.rg (u x.rg + 1) r < fullR P r)) (k := x.rg) (fun j hj => by show decide (upd u x.rg (u x.rg + 1) j < fullR P j) = _; rw [upd_ne _ _ hj]) (decide_eq_true u1) (decide_eq_false (by rw [upd_at]; omega)) P.R hr
    omega
  · show t.wt q = _
    rw [b4', wtB_congr hFl]
    have h1 := hfl q
    have h2 := h.wt q hq
    by_cases hh : A ≤ q ∧ q < A + m ∧ q ≠ x.rg ∧ 0 < lvR P (live S) q
    · rw [if_pos hh]
      rw [if_pos ⟨(hrg q hq).1 ⟨hh.1, hh.2.1, hh.2.2.2⟩, hh.2.2.1⟩] at h1
      omega
    · rw [if_neg hh]
      rw [if_neg (fun hh2 => hh (by have := (hrg q hq).2 hh2.1; exact ⟨this.1, this.2.1, hh2.2, this.2.2⟩))] at h1
      omega
  · show Has t.H t.H.length y ↔ _ ∧ _ ∧ _ ∧ t.wt y = 0
    rw [b3', h.hm, b4']
    by_cases ey : y = x.rg
    · subst ey
      rw [upd_at]
      constructor
      · rintro (k1 | k1)
        · omega
        · exact absurd rfl k1.1.2.2.1
      · rintro ⟨_, k2, _⟩; omega
    · rw [upd_ne _ _ ey]
      by_cases hh : A ≤ y ∧ y < A + m ∧ y ≠ x.rg ∧ 0 < lvR P (live S) y
      · rw [if_pos hh]
        obtain ⟨q1, q2, q3⟩ := hin y hh
        constructor
        · rintro (k1 | k1)
          · omega
          · exact ⟨q1, q3, k1.2.2, k1.2.1⟩
        · rintro ⟨k1, k2, k3, k4⟩
          exact .inr ⟨hh, k4, k3⟩
      · rw [if_neg hh]
        exact ⟨fun k1 => k1.elim id (fun k2 => absurd k2.1 hh), .inl⟩
  · show t.wt q = 0
    have := hwle q
    by_cases e : q = x.rg
    · have h1 := h.t0 _ hr u0; have h2 := hwle x.rg; rw [e]; omega
    · rw [upd_ne _ _ e] at hu; have := h.t0 q hq hu; omega
  · rcases set_get hy with ⟨_, rfl⟩ | ⟨_, hy⟩
    · show 0 ≤ 2; omega
    · exact h.ph i y hy
  · rcases set_get hy with ⟨_, rfl⟩ | ⟨hne, hy⟩
    · exact absurd rfl hp
    · obtain ⟨a', b', c', d', e', f'⟩ := h.wk i y hy hp
      refine ⟨a', b', c', d', e', ?_⟩
      rw [upd_ne _ _ (fun ee => hne (h.un i k y x hy hx hp (by omega) ee))]
      exact f'
  · rcases set_get hy with ⟨_, rfl⟩ | ⟨hne, hy⟩
    · exact absurd hp (by show ¬ 0 = 2; omega)
    · exact h.wd i y hy hp
  · rcases set_get hy with ⟨i1, rfl⟩ | ⟨i1, hy⟩ <;> rcases set_get hz with ⟨j1, rfl⟩ | ⟨j1, hz⟩
    · omega
    · exact absurd rfl py
    · exact absurd rfl pz
    · exact h.un i j y z hy hz py pz hyz
  · by_cases e : q = x.rg
    · rw [e, upd_at] at hq2; omega
    · rw [upd_ne _ _ e] at hq1 hq2
      obtain ⟨i, y, a, b, c⟩ := h.hd q hq1 hq2
      refine ⟨i, y, ?_, b, c⟩
      show (s.ws.set k _)[i]? = _
      rw [List.getElem?_set_ne (fun ee => by subst ee; rw [hx] at a; cases a; exact e c.symm)]
      exact a
end
end Go.Proofs.YtbmlggemheljkaaGreatDoor

/-
  Sliding, without memory: the start, a step, that all ends, by turns. No Go is walked here.
-/
namespace Go.Proofs.YtbmlggemheljkaaGreatDoor
open Go.RowKit Bt
set_option linter.unusedVariables false
set_option linter.unusedSimpArgs false

section
variable {P : PN} {S : Nat → Nat} {n : Nat} {hw0 : List Int} {u : Nat → Nat} {s : SlS}
theorem startR_spec (s : SlS) (h0 : s.H = []) : ∀ r, Hp (startR P s r).H (startR P s r).H.length ∧ Inj (startR P s r).H ∧ (∀ y, Has (startR P s r).H (startR P s r).H.length y ↔ y < r ∧ s.wt y = 0 ∧ gF P y < gT P y) ∧ (startR P s r).left = s.left + cnt (fun r => decide (gF P r < gT P r)) r ∧ (startR P s r).wt = s.wt ∧ (startR P s r).hw = s.hw ∧ (startR P s r).mv = s.mv ∧ (startR P s r).ws = s.ws := by
  intro r
  induction r with
  | zero =>
    refine ⟨fun k hk hkn => ?_, fun i j hi hj _ => ?_, fun y => ⟨fun ⟨k, hk, _⟩ => ?_, fun h => by omega⟩, rfl, rfl, rfl, rfl, rfl⟩
    · change k < s.H.length at hkn; rw [h0] at hkn; simp at hkn
    · change i < s.H.length at hi; rw [h0] at hi; simp at hi
    · change k < s.H.length at hk; rw [h0] at hk; simp at hk
  | succ r ih =>
    obtain ⟨a1, a2, a3, a4, a5, a6, a7, a8⟩ := ih
    unfold startR
    by_cases hg : gF P r < gT P r
    · rw [if_pos hg]
      obtain ⟨b1, b2, b3, b4, b5, b6, b7⟩ := lineS_spec (P := P) ({ startR P s r with left := (startR P s r).left + 1 } : SlS) r a1 a2 (fun _ _ hh => by have := ((a3 r).1 hh).1; omega)
      refine ⟨b1, b2, fun y => (b3 y).trans ?_, b5.trans ?_, b7.trans a5, b4.trans a6, b6.trans a7, (lineS_ws _ _ _).trans a8⟩
      · show Has (startR P s r).H (startR P s r).H.length y ∨ (y = r ∧ (startR P s r).wt r = 0 ∧ _) ↔ _
        rw [a3, a5]
        constructor
        · rintro (h | ⟨rfl, h⟩)
          · exact ⟨by omega, h.2⟩
          · exact ⟨by omega, h⟩
        · rintro ⟨h1, h2⟩
          by_cases e : y = r
          · exact .inr ⟨e, by rw [← e]; exact h2⟩
          · exact .inl ⟨by omega, h2⟩
      · show (startR P s r).left + 1 = _
        rw [a4, cnt_at (decide_eq_true hg)]; omega
    · rw [if_neg hg]
      refine ⟨a1, a2, fun y => (a3 y).trans ⟨fun h => ⟨by omega, h.2⟩, fun h => ⟨?_, h.2⟩⟩, ?_, a5, a6, a7, a8⟩
      · have : y ≠ r := fun e => hg (by rw [← e]; exact h.2.2)
        omega
      · rw [a4, cnt_off (decide_eq_false hg)]
/-- No region has had a step. -/
def zeroU : Nat → Nat := fun _ => 0
theorem zeroU_at (r : Nat) : zeroU r = 0 := rfl
theorem stored_none (hf : Fit P (live S)) (y : Nat) : stored P zeroU y = false := by
  unfold stored
  rw [decide_eq_false_iff_not]
  rintro ⟨a, b, c⟩
  have := (hf.reg_goal a b).2.1
  unfold prU at c
  rw [zeroU_at] at c
  omega
/-- A new slider. -/
theorem SI.start (hf : Fit P (live S)) (hw : List Int) (ac : Int) (n : Nat) : SI P S n hw zeroU (startS P S hw ac n) := by
  unfold startS
  obtain ⟨a1, a2, a3, a4, a5, a6, a7, a8⟩ := startR_spec (P := P) (start0 P S hw ac n) rfl P.R
  have hR6 := PN.R_few hf.ok
  have hwt : ∀ q, q < P.R → wtR P (live S) q = cnt (wtB P (live S) (flU P zeroU) q) P.R := fun q hq => by
    rw [hf.wait0 hq]
    refine cnt_congr fun j hj => ?_
    unfold wtB
    by_cases ht : tkB P (live S) j q = true
    · have hg := hf.tk_goal hq hj ht
      have : flU P zeroU j = false := by unfold flU; rw [zeroU_at, decide_eq_false]; have := full_goal.2 hg; omega
      rw [this]
    · rw [Bool.not_eq_true] at ht; rw [ht]; rfl
  have hws : ∀ (k : Nat) (x : SlW), (startR P (start0 P S hw ac n) P.R).ws[k]? = some x → x.ph = 0 := fun k x hx => by
    rw [a8] at hx
    have hx2 : (List.replicate n w0S)[k]? = some x := hx
    have hk : k < n := by have := (List.getElem?_eq_some_iff.1 hx2).1; simpa using this
    rw [List.getElem?_replicate, if_pos hk] at hx2
    cases hx2; rfl
  refine ⟨by rw [a6]; rfl, fun r => Nat.zero_le _, ?_, fun q hq => ?_, fun q => ?_, a1, a2, fun y => ?_, fun r _ h => absurd h (Nat.lt_irrefl _), by rw [a8]; simp [start0], fun k x hx => by rw [hws k x hx]; omega, fun k x hx h0 => absurd (hws k x hx) h0, fun k x hx h0 => (by rw [hws k x hx] at h0; cases h0), fun i j x y hx hy px => absurd (hws i x hx) px, fun r h => absurd h (Nat.lt_irrefl _), fun y => ?_, fun a b => ?_, ?_, ?_⟩
  · rw [a4]
    show 0 + _ = _
    rw [Nat.zero_add]
    refine cnt_congr fun j _ => ?_
    exact decide_eq_decide.2 full_goal.symm
  · rw [a5]; exact hwt q hq
  · rw [a5]
    show wtR P (live S) q ≤ _
    by_cases hq : q < P.R
    · rw [hwt q hq]; exact Nat.le_trans (cnt_le _ _) hR6
    · unfold wtR
      have h1 := PN.ed_mono P (show P.R ≤ q by omega)
      have h2 := PN.ed_R hf.ok
      have h3 := PN.ed_le P (q + 1)
      have h4 := PN.ed_mono P (show q ≤ q + 1 by omega)
      have : mvR P (live S) q = 0 := by
        unfold mvR
        have := cnt_mono (live S) (show P.ed (q + 1) ≤ max (P.ed q) P.d by omega)
        omega
      rw [if_pos this]; omega
  · rw [a3, a5]
    exact ⟨fun h => ⟨h.1, rfl, h.2.2, h.2.1⟩, fun h => ⟨h.1, h.2.2.2, h.2.2.1⟩⟩
  · rw [stored_none hf, if_neg (by simp), a6]; rfl
  · rw [stored_none hf, a7]
    show (a, b) ∈ [] ↔ _
    simp
  · rw [a7]; exact List.nodup_nil
  · rw [a7]
    have : ∀ m, sm (fun r => (zeroU r - 1) / 2) m = 0 := by
      intro m; induction m with
      | zero => rfl
      | succ m ih => unfold sm; rw [ih, zeroU_at]
    rw [this]; rfl

theorem fillOne_acm (P : PN) (L : Nat → Bool) (r : Nat) (s : SlS) (o : Nat) : (fillOne P L r s o).ac = s.ac ∧ (fillOne P L r s o).mv = s.mv := by
  unfold fillOne lineS
  split
  · split <;> exact ⟨rfl, rfl⟩
  · exact ⟨rfl, rfl⟩
theorem fillS_acm (P : PN) (L : Nat → Bool) (s : SlS) (r : Nat) : (fillS P L s r).ac = s.ac ∧ (fillS P L s r).mv = s.mv := by
  unfold fillS
  generalize (tkR P L r 0).toNat = a
  generalize ((tkR P L r 1) - (tkR P L r 0)).toNat = m
  induction m with
  | zero => exact ⟨rfl, rfl⟩
  | succ m ih =>
    have := fillOne_acm P L r (fillR P L r { s with left := s.left - 1 } a m) (a + m)
    exact ⟨this.1.trans ih.1, this.2.trans ih.2⟩
/-- What a step has done: the numbers of accesses, the moves. -/
structure Did (P : PN) (S : Nat → Nat) (u : Nat → Nat) (s s' : SlS) : Prop where
  ac : s'.ac = s.ac ∨ s'.ac = wrap64 (s.ac + 1)
  mv : s'.mv = s.mv ∨ ∃ b, s'.mv = s.mv ++ [(srcN P S b, b)] ∧ P.d ≤ b ∧ b < P.e ∧ stored P u b = false ∧ s.wt (P.reg b) = 0
theorem SI.mv_len (h : SI P S n hw0 u s) (hf : Fit P (live S)) : s.mv.length ≤ P.e - P.d := by
  rw [h.ml, ← sm_goals hf]
  refine sm_le fun r _ => ?_
  have := h.ub r
  unfold fullR at this
  split at this <;> omega
theorem work_did (h : SI P S n hw0 u s) (hf : Fit P (live S)) {k : Nat} {x : SlW} (hx : s.ws[k]? = some x) : Did P S u s (workS P S s k x) := by
  unfold workS
  by_cases h0 : x.ph = 0
  · rw [if_pos h0]
    unfold takeS
    split <;> exact ⟨.inl rfl, .inl rfl⟩
  · rw [if_neg h0]
    by_cases h1 : x.ph = 1
    · rw [if_pos h1]; exact ⟨.inr rfl, .inl rfl⟩
    · rw [if_neg h1]
      obtain ⟨a, b, c, d, e, f⟩ := h.wk k x hx h0
      have hr := goal_lt hf a
      obtain ⟨g1, g2, g3⟩ := hf.goal_reg hr b (by omega)
      have hph := h.ph k x hx
      have hmv : ∃ b, s.mv ++ [(x.src, x.x)] = s.mv ++ [(srcN P S b, b)] ∧ P.d ≤ b ∧ b < P.e ∧ stored P u b = false ∧ s.wt (P.reg b) = 0 := ⟨x.x, by rw [e], g1, g2, by
        unfold stored
        rw [decide_eq_false_iff_not]
        rintro ⟨_, _, k3⟩
        rw [g3] at k3
        unfold prU at k3
        omega, by rw [g3]; exact h.t0 _ hr (h.lt_full hx h0).2⟩
      unfold storeS
      by_cases hend : x.x + 1 = x.y
      · rw [if_pos hend]
        have := fillS_acm P (live S) (storeA s k x) x.rg
        exact ⟨.inr this.1, .inr (by obtain ⟨b, hb⟩ := hmv; exact ⟨b, this.2.trans hb.1, hb.2⟩)⟩
      · rw [if_neg hend]
        exact ⟨.inr rfl, .inr hmv⟩
/-- A step: it may be done; it does nothing, or a region has had one more. -/
theorem SI.step (h : SI P S n hw0 u s) (hf : Fit P (live S)) (hN : P.t ≤ hw0.length) (hR : P.R ≤ 30000) {k : Nat} {x : SlW} (hx : s.ws[k]? = some x) : MayW P S s k x ∧ ((s.H.length = 0 ∧ x.ph = 0 ∧ workS P S s k x = s) ∨ ((s.H.length ≠ 0 ∨ x.ph ≠ 0) ∧ ∃ r, r < P.R ∧ u r < fullR P r ∧ SI P S n hw0 (upd u r (u r + 1)) (workS P S s k x))) := by
  have hph := h.ph k x hx
  by_cases h0 : x.ph = 0
  · refine ⟨⟨hph, fun _ hH => ?_, fun hh => by omega, fun hh => by omega⟩, ?_⟩
    · have := h.take hf hx h0 hH; exact ⟨this.1, this.2.1⟩
    · unfold workS
      rw [if_pos h0]
      by_cases hH : s.H.length = 0
      · left; exact ⟨hH, h0, by unfold takeS; rw [if_pos hH]⟩
      · right
        obtain ⟨t1, t2, t3, t4, t5⟩ := h.take hf hx h0 hH
        exact ⟨.inl hH, leastV s.H, t1, by rw [t3]; exact full_goal.2 t2, by rw [t3]; exact t5⟩
  · obtain ⟨a, b, c, d, e, f⟩ := h.wk k x hx h0
    have hr := goal_lt hf a
    obtain ⟨g1, g2, g3⟩ := hf.goal_reg hr b (by omega)
    have hlt := (h.lt_full hx h0).1
    by_cases h1 : x.ph = 1
    · obtain ⟨t1, t2⟩ := h.read hf hN hx h1
      refine ⟨⟨hph, fun hh => by omega, fun _ => t1, fun hh => by omega⟩, .inr ⟨.inr h0, x.rg, hr, hlt, ?_⟩⟩
      unfold workS
      rw [if_neg h0, if_pos h1]
      exact t2
    · have h2 : x.ph = 2 := by omega
      have het := hf.et
      have hml := h.mv_len hf
      have hgl := hf.goal a
      have hfw := hf.ok.few
      refine ⟨⟨hph, fun hh => by omega, fun hh => by omega, fun _ => ⟨by rw [h.hl]; omega, g1, by rw [e]; exact hf.srcs g1 g2, by omega, by omega, fun hlt => ?_, fun hend => (h.store_end hf hN hR hx h2 hend).1⟩⟩, .inr ⟨.inr h0, x.rg, hr, hlt, ?_⟩⟩
      · obtain ⟨g4, g5, g6⟩ := hf.goal_reg (y := x.x + 1) hr (by omega) (by omega)
        exact ⟨_, hf.srcs g4 g5⟩
      · unfold workS
        rw [if_neg h0, if_neg h1]
        unfold storeS
        by_cases hend : x.x + 1 = x.y
        · rw [if_pos hend]; exact (h.store_end hf hN hR hx h2 hend).2
        · rw [if_neg hend]; exact h.store_on hf hN hx h2 hend

/-- A step of the worker k does something. -/
def Acts (s : SlS) (k : Nat) : Prop := s.H.length ≠ 0 ∨ ∃ x, s.ws[k]? = some x ∧ x.ph ≠ 0
theorem SI.acts (h : SI P S n hw0 u s) (hf : Fit P (live S)) (hn : 0 < n) (hl : s.left ≠ 0) : ∃ k, k < n ∧ Acts s k := by
  have : ∃ r, u r ≠ fullR P r := Classical.byContradiction fun hh => hl ((h.done_iff hf).2 (fun r => Classical.byContradiction fun e => hh ⟨r, e⟩))
  obtain ⟨r, hr⟩ := this
  have hub := h.ub r
  have hg : gF P r < gT P r := full_goal.1 (by omega)
  obtain ⟨j, j1, j2, j3, j4⟩ := hf.ready (Fl := flU P u) r (goal_lt hf hg) hg (by unfold flU; rw [decide_eq_false hr])
  have j5 : u j ≠ fullR P j := by unfold flU at j3; rwa [decide_eq_false_iff_not] at j3
  have hubj := h.ub j
  by_cases hu : u j = 0
  · refine ⟨0, hn, .inl ?_⟩
    have hjR := goal_lt hf j2
    have : Has s.H s.H.length j := (h.hm j).2 ⟨hjR, hu, j2, by rw [h.wt j hjR]; exact j4⟩
    obtain ⟨k, hk, _⟩ := this
    omega
  · obtain ⟨k, x, h1, h2, h3⟩ := h.hd j (by omega) (by omega)
    refine ⟨k, ?_, .inr ⟨x, h1, h2⟩⟩
    have := (List.getElem?_eq_some_iff.1 h1).1
    rwa [h.wl] at this
/-- What is left. -/
def remU (P : PN) (u : Nat → Nat) : Nat := sm (fullR P) P.R - sm u P.R
theorem SI.sm_le (h : SI P S n hw0 u s) : sm u P.R ≤ sm (fullR P) P.R := Go.Proofs.YtbmlggemheljkaaGreatDoor.sm_le (fun r _ => h.ub r)
theorem sm_next {r : Nat} (hr : r < P.R) : sm (upd u r (u r + 1)) P.R = sm u P.R + 1 := by
  have := sm_one (f := u) (g := upd u r (u r + 1)) (k := r) (fun j hj => upd_ne _ _ hj) hr
  rw [upd_at] at this
  omega
theorem rem_next {r : Nat} (hr : r < P.R) (hn : SI P S n hw0 (upd u r (u r + 1)) s) : remU P (upd u r (u r + 1)) + 1 = remU P u := by
  have h1 := sm_next (u := u) hr
  have h2 := hn.sm_le
  unfold remU
  omega
/-- By turns (the worker i % n at the i-th step): somebody who does something has its turn soon, and so much is left. -/
def Tl (P : PN) (n : Nat) (u : Nat → Nat) (s : SlS) (i K : Nat) : Prop := s.left = 0 ∨ ∃ d, d < n ∧ Acts s ((i + d) % n) ∧ remU P u * n + d + i ≤ K
theorem Tl.start (h : SI P S n hw0 u s) (hf : Fit P (live S)) (hn : 0 < n) {i K : Nat} (hK : remU P u * n + n + i ≤ K + 1) : Tl P n u s i K := by
  by_cases hl : s.left = 0
  · exact .inl hl
  · obtain ⟨k, hk, ha⟩ := h.acts hf hn hl
    refine .inr ⟨(k + (n - i % n)) % n, Nat.mod_lt _ hn, ?_, ?_⟩
    · have hi := Nat.mod_lt i hn
      have : (i + (k + (n - i % n)) % n) % n = k := by
        rw [Nat.add_mod_mod]
        have e : i + (k + (n - i % n)) = k + n * (i / n + 1) := by
          have := Nat.div_add_mod i n
          rw [Nat.mul_add, Nat.mul_one]
          omega
        rw [e, Nat.add_mul_mod_self_left]
        exact Nat.mod_eq_of_lt hk
      rw [this]; exact ha
    · have := Nat.mod_lt (k + (n - i % n)) hn
      omega
theorem Tl.over {i K : Nat} (h : Tl P n u s i K) (hi : K < i) : s.left = 0 := by
  rcases h with h | ⟨d, _, _, h⟩
  · exact h
  · omega
/-- Step, as it stands. -/
theorem SI.next (h : SI P S n hw0 u s) (hf : Fit P (live S)) (hN : P.t ≤ hw0.length) (hR : P.R ≤ 30000) {k : Nat} (hk : k < n) : (s.left ≠ 0 → ∀ x, s.ws[k]? = some x → MayW P S s k x) ∧ ∃ u', SI P S n hw0 u' (stepSl P S s k) ∧ Did P S u s (stepSl P S s k) ∧ (remU P u' ≤ remU P u) ∧ (s.left ≠ 0 → Acts s k → remU P u' + 1 = remU P u ∧ sm u' P.R = sm u P.R + 1 ∧ ∃ r, r < P.R ∧ u' = upd u r (u r + 1)) ∧ (¬ (s.left ≠ 0 ∧ Acts s k) → u' = u ∧ stepSl P S s k = s) := by
  by_cases hl : s.left = 0
  · have he : stepSl P S s k = s := by unfold stepSl; rw [if_pos hl]
    rw [he]
    exact ⟨fun hh => absurd hl hh, u, h, ⟨.inl rfl, .inl rfl⟩, Nat.le_refl _, fun hh => absurd hl hh, fun _ => ⟨rfl, rfl⟩⟩
  · obtain ⟨x, hx⟩ : ∃ x, s.ws[k]? = some x := ⟨_, List.getElem?_eq_getElem (by rw [h.wl]; exact hk)⟩
    obtain ⟨m, hs⟩ := h.step hf hN hR hx
    refine ⟨fun _ y hy => by rw [hx] at hy; cases hy; exact m, ?_⟩
    have he : stepSl P S s k = workS P S s k x := by unfold stepSl; rw [if_neg hl, hx]
    rw [he]
    have hd := work_did h hf hx
    rcases hs with ⟨k1, k2, k3⟩ | ⟨k1, r, hr, hlt, hn⟩
    · refine ⟨u, by rw [k3]; exact h, by exact hd, Nat.le_refl _, fun _ ha => ?_, fun _ => ⟨rfl, k3⟩⟩
      rcases ha with ha | ⟨y, hy, hp⟩
      · exact absurd k1 ha
      · rw [hx] at hy; cases hy; exact absurd k2 hp
    · have e1 := rem_next hr hn
      refine ⟨upd u r (u r + 1), hn, hd, by omega, fun _ _ => ⟨e1, sm_next hr, r, hr, rfl⟩, fun hh => absurd ⟨hl, ?_⟩ hh⟩
      rcases k1 with k1 | k1
      · exact .inl k1
      · exact .inr ⟨x, hx, k1⟩
theorem Tl.step (h : SI P S n hw0 u s) (hf : Fit P (live S)) (hn : 0 < n) {i K : Nat} (ht : Tl P n u s i K) (hl : s.left ≠ 0) {u' : Nat → Nat} {s' : SlS} (h' : SI P S n hw0 u' s') (h1 : Acts s (i % n) → remU P u' + 1 = remU P u) (h2 : ¬ Acts s (i % n) → u' = u ∧ s' = s) : Tl P n u' s' (i + 1) K := by
  obtain ⟨d, hd, ha, hK⟩ := Or.resolve_left ht hl
  by_cases hc : Acts s (i % n)
  · have := h1 hc
    refine Tl.start h' hf hn ?_
    have e : remU P u = remU P u' + 1 := this.symm
    rw [e, Nat.add_mul, Nat.one_mul] at hK
    omega
  · obtain ⟨rfl, rfl⟩ := h2 hc
    right
    cases d with
    | zero => exact absurd ha hc
    | succ d => exact ⟨d, by omega, by rw [show i + 1 + d = i + (d + 1) by omega]; exact ha, by omega⟩
/-- At the end: all words are where they go. -/
theorem SI.end_ (h : SI P S n hw0 u s) (hf : Fit P (live S)) (hl : s.left = 0) : (∀ y, stored P u y = true ↔ P.d ≤ y ∧ y < P.e) ∧ s.mv.length = P.e - P.d ∧ (∀ q, q < P.R → s.wt q = 0) ∧ s.H.length = 0 ∧ sm u P.R = sm (fullR P) P.R ∧ (∀ (k : Nat) (x : SlW), s.ws[k]? = some x → x.ph = 0) := by
  have hu := (h.done_iff hf).1 hl
  refine ⟨fun y => ?_, ?_, fun q hq => ?_, ?_, sm_congr (fun j _ => hu j), fun k x hx => ?_⟩
  · unfold stored
    rw [decide_eq_true_eq]
    refine ⟨fun k => ⟨k.1, k.2.1⟩, fun k => ⟨k.1, k.2, ?_⟩⟩
    obtain ⟨g1, g2, g3⟩ := hf.reg_goal k.1 k.2
    unfold prU
    rw [hu, full_eq (by omega)]
    omega
  · rw [h.ml, ← sm_goals hf]
    refine sm_congr fun j _ => ?_
    rw [hu]
    unfold fullR
    split <;> omega
  · rw [h.wt q hq]
    refine cnt_zero fun j _ => ?_
    unfold wtB flU
    rw [decide_eq_true (hu j)]
    simp
  · cases hH : s.H.length with
    | zero => rfl
    | succ m =>
      have hh := (h.hm (gt0 s.H 0)).1 ⟨0, by omega, rfl⟩
      have := hu (gt0 s.H 0)
      have := full_goal.2 hh.2.2.1
      omega
  · by_cases hp : x.ph = 0
    · exact hp
    · have := (h.lt_full hx hp).1
      have := hu x.rg
      omega
end
end Go.Proofs.YtbmlggemheljkaaGreatDoor

/-
  One worker alone: all words in their order. No Go is walked here.
-/
namespace Go.Proofs.YtbmlggemheljkaaGreatDoor
open Go.RowKit Bt
set_option linter.unusedVariables false
set_option linter.unusedSimpArgs false

section
variable {P : PN} {S : Nat → Nat} {hw0 : List Int} {u : Nat → Nat} {s : SlS}
/-- Regions are filled in their order. -/
def RI1 (P : PN) (u : Nat → Nat) : Prop := ∀ r q, r < q → 0 < u q → u r = fullR P r
theorem RI1.more (h : RI1 P u) {r : Nat} (h1 : 0 < u r) (h2 : u r < fullR P r) (v : Nat) : RI1 P (upd u r v) := by
  intro a b hab hb
  have hb' : 0 < u b := by
    by_cases e : b = r
    · rw [e]; exact h1
    · rw [upd_ne _ _ e] at hb; exact hb
  have ha := h a b hab hb'
  have e : a ≠ r := fun e => by rw [e] at ha; omega
  rw [upd_ne _ _ e]; exact ha
/-- One worker alone. -/
structure RI (P : PN) (S : Nat → Nat) (u : Nat → Nat) (s : SlS) : Prop where
  r1 : RI1 P u
  r2 : ∀ i, i < s.mv.length → s.mv[i]? = some (srcN P S (P.d + i), P.d + i)
  r3 : ∀ y, stored P u y = true ↔ P.d ≤ y ∧ y < P.d + s.mv.length
theorem RI.start (hf : Fit P (live S)) (hw : List Int) (ac : Int) (n : Nat) : RI P S zeroU (startS P S hw ac n) := by
  have hm : (startS P S hw ac n).mv = [] := (startR_spec (P := P) (start0 P S hw ac n) rfl P.R).2.2.2.2.2.2.1
  refine ⟨fun r q _ h => absurd h (Nat.lt_irrefl _), fun i hi => ?_, fun y => ?_⟩
  · rw [hm] at hi; exact absurd hi (Nat.not_lt_zero _)
  · rw [hm, stored_none hf]
    constructor
    · intro h; cases h
    · rintro ⟨a, b⟩; change y < P.d + 0 at b; omega
theorem RI.work (h : SI P S 1 hw0 u s) (hr : RI P S u s) (hf : Fit P (live S)) (hN : P.t ≤ hw0.length) (hR : P.R ≤ 30000) (hl : s.left ≠ 0) {x : SlW} (hx : s.ws[0]? = some x) : ∃ u', SI P S 1 hw0 u' (workS P S s 0 x) ∧ RI P S u' (workS P S s 0 x) ∧ sm u' P.R = sm u P.R + 1 := by
  obtain ⟨k, hk, ha⟩ := h.acts hf (by omega) hl
  have hk0 : k = 0 := by omega
  subst hk0
  by_cases h0 : x.ph = 0
  · have hH : s.H.length ≠ 0 := by
      rcases ha with ha | ⟨y, hy, hp⟩
      · exact ha
      · rw [hx] at hy; cases hy; exact absurd h0 hp
    obtain ⟨t1, t2, t3, t4, t5⟩ := h.take hf hx h0 hH
    have hmin : ∀ r', r' < leastV s.H → u r' = fullR P r' := fun r' hr' => Classical.byContradiction fun hne => by
      have hub := h.ub r'
      have hg : gF P r' < gT P r' := full_goal.1 (by omega)
      obtain ⟨j, j1, j2, j3, j4⟩ := hf.ready (Fl := flU P u) r' (goal_lt hf hg) hg (by unfold flU; rw [decide_eq_false hne])
      have j5 : u j ≠ fullR P j := by unfold flU at j3; rwa [decide_eq_false_iff_not] at j3
      have hubj := h.ub j
      by_cases hu : u j = 0
      · have hjR := goal_lt hf j2
        have := t4 j ((h.hm j).2 ⟨hjR, hu, j2, by rw [h.wt j hjR]; exact j4⟩)
        omega
      · obtain ⟨i, y, h1, h2, h3⟩ := h.hd j (by omega) (by omega)
        have hi := (List.getElem?_eq_some_iff.1 h1).1
        rw [h.wl] at hi
        have : i = 0 := by omega
        subst this
        rw [hx] at h1; cases h1
        exact h2 h0
    have hw : workS P S s 0 x = takeS P S s 0 x := by unfold workS; rw [if_pos h0]
    have hmv : (takeS P S s 0 x).mv = s.mv := by unfold takeS; rw [if_neg hH]
    rw [hw]
    refine ⟨_, t5, ⟨fun r' q hrq hq => ?_, by rw [hmv]; exact hr.r2, fun y => ?_⟩, ?_⟩
    · by_cases e : q = leastV s.H
      · rw [upd_ne _ _ (by omega)]; exact hmin r' (by omega)
      · rw [upd_ne _ _ e] at hq
        have := hr.r1 r' q hrq hq
        have e2 : r' ≠ leastV s.H := fun e2 => by rw [e2, t3] at this; have := full_goal.2 t2; omega
        rw [upd_ne _ _ e2]; exact this
    · rw [hmv, stored_upd hf (by rw [t3])]; exact hr.r3 y
    · have := sm_next (u := u) t1
      rw [t3] at this
      exact this
  · obtain ⟨a, b, c, d, e, f⟩ := h.wk 0 x hx h0
    have hrR := goal_lt hf a
    obtain ⟨g1, g2, g3⟩ := hf.goal_reg hrR b (by omega)
    obtain ⟨l1, l2⟩ := h.lt_full hx h0
    have hph := h.ph 0 x hx
    by_cases h1 : x.ph = 1
    · have hw : workS P S s 0 x = readS s 0 x := by unfold workS; rw [if_neg h0, if_pos h1]
      rw [hw]
      refine ⟨_, (h.read hf hN hx h1).2, ⟨hr.r1.more l2 l1 _, hr.r2, fun y => ?_⟩, sm_next hrR⟩
      rw [stored_upd hf (by omega)]; exact hr.r3 y
    · have h2 : x.ph = 2 := by omega
      have hst := stored_more (S := S) (u := u) hf hrR b (by omega) (by omega)
      have hno := (h.put hf hN hx h2).2.2.2.2
      -- the next word
      have hnext : x.x = P.d + s.mv.length := by
        have k1 : ¬ (P.d ≤ x.x ∧ x.x < P.d + s.mv.length) := fun hh => by rw [(hr.r3 x.x).2 hh] at hno; cases hno
        by_cases hxd : x.x = P.d
        · omega
        · have k2 : stored P u (x.x - 1) = true := by
            unfold stored
            rw [decide_eq_true_eq]
            refine ⟨by omega, by omega, ?_⟩
            obtain ⟨q1, q2, q3⟩ := hf.reg_goal (y := x.x - 1) (by omega) (by omega)
            have hm := PN.reg_mono P (show x.x - 1 ≤ x.x by omega)
            rw [g3] at hm
            by_cases e2 : P.reg (x.x - 1) = x.rg
            · rw [e2]; unfold prU; rw [e2] at q2; omega
            · have := hr.r1 (P.reg (x.x - 1)) x.rg (by omega) l2
              unfold prU
              rw [this, full_eq (by omega)]
              omega
          have := (hr.r3 _).1 k2
          omega
      have hmv : (workS P S s 0 x).mv = s.mv ++ [(x.src, x.x)] := by
        unfold workS storeS
        rw [if_neg h0, if_neg h1]
        split
        · exact (fillS_acm P (live S) (storeA s 0 x) x.rg).2
        · rfl
      have hsi : SI P S 1 hw0 (upd u x.rg (u x.rg + 1)) (workS P S s 0 x) := by
        unfold workS storeS
        rw [if_neg h0, if_neg h1]
        by_cases hend : x.x + 1 = x.y
        · rw [if_pos hend]; exact (h.store_end hf hN hR hx h2 hend).2
        · rw [if_neg hend]; exact h.store_on hf hN hx h2 hend
      refine ⟨_, hsi, ⟨hr.r1.more l2 l1 _, fun i hi => ?_, fun y => ?_⟩, sm_next hrR⟩
      · rw [hmv] at hi ⊢
        rw [List.length_append] at hi
        by_cases ei : i < s.mv.length
        · rw [List.getElem?_append_left ei]; exact hr.r2 i ei
        · have : i = s.mv.length := by change i < s.mv.length + 1 at hi; omega
          subst this
          rw [List.getElem?_append_right (Nat.le_refl _), Nat.sub_self, e, hnext]; rfl
      · rw [hst, hr.r3, hmv, List.length_append]
        show _ ↔ P.d ≤ y ∧ y < P.d + (s.mv.length + 1)
        omega
theorem RI.next (h : SI P S 1 hw0 u s) (hr : RI P S u s) (hf : Fit P (live S)) (hN : P.t ≤ hw0.length) (hR : P.R ≤ 30000) (hl : s.left ≠ 0) : ∃ u', SI P S 1 hw0 u' (stepSl P S s 0) ∧ RI P S u' (stepSl P S s 0) ∧ sm u' P.R = sm u P.R + 1 := by
  obtain ⟨x, hx⟩ : ∃ x, s.ws[0]? = some x := ⟨_, List.getElem?_eq_getElem (by rw [h.wl]; omega)⟩
  have he : stepSl P S s 0 = workS P S s 0 x := by unfold stepSl; rw [if_neg hl, hx]
  rw [he]
  exact RI.work h hr hf hN hR hl hx
end
end Go.Proofs.YtbmlggemheljkaaGreatDoor
