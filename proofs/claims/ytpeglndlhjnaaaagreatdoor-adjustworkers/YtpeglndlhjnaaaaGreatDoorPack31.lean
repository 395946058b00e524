/-
  Texts of the proof, several in one: AdjWalks, AdjRoots.
-/
import Derived.Test.YtpeglndlhjnaaaaGreatDoorPack30
import Derived.Test.YtpeglndlhjnaaaaGreatDoorPack13
import Derived.Test.YtpeglndlhjnaaaaGreatDoorPack3
import Derived.Test.YtpeglndlhjnaaaaGreatDoorPack22
import Derived.Laws.EntriesVeiled
import Derived.Deep.RegionHeld3
import Derived.Deep.QuietTactic
import Derived.BigQuiet
import Derived.Test.YtpeglndlhjnaaaaGreatDoorPack21
import Derived.Test.YtpeglndlhjnaaaaGreatDoorPack1
/-
  An adjuster's worker: small parts: turned, placed, goOn; stores into its cells.
-/
namespace Go.Proofs.YtpeglndlhjnaaaaGreatDoor
open Go.RowKit Bt
set_option linter.unusedVariables false
set_option linter.unusedSimpArgs false

set_option maxRecDepth 100000 in
theorem slice_oneA (b off n cap : Nat) (hn : n + 1 ≤ cap) :
    ∃ off', (off' = off + 1 ∨ (n = 0 ∧ cap = 1 ∧ off' = off)) ∧ ∀ w : World, (Instr.slice 23 (.slice (some ⟨b, off, none⟩) (n + 1) cap) (some (.int .i64 1)) none none).run Tryz.prog w = .ok (.slice (some ⟨b, off', none⟩) n (cap - 1)) w := by
  refine ⟨if cap = 1 then off else off + 1, ?_, fun w => ?_⟩
  · by_cases h : cap = 1
    · rw [if_pos h]; exact .inr ⟨by omega, h, rfl⟩
    · rw [if_neg h]; exact .inl rfl
  · rw [run_slice_l (P := Tryz.prog) w 23 _ _ _ Tryz.underlying23 .i64 1 (by omega) (by omega)]
    show Result.ok (sliced _ (1 : Int).toNat (n + 1) cap 1) w = _
    by_cases h : cap = 1 <;> simp [sliced, Addr.add, h]

section
variable {w w' : World} {I : AdI} {P : PN} {S : Nat → Nat} {cs : List Cls} {s : AdS} {k b : Nat} {x : AdW}
theorem cell_putA {c : Array Value} {e : TypeId} {fr : Nat × Nat} (hb : w.heap[b]? = some (.cells c e fr)) {i j : Nat} (hij : i ≠ j) (u : Value) : (w.setCell ⟨b, i, none⟩ u).cell? ⟨b, j, none⟩ = w.cell? ⟨b, j, none⟩ := by
  rw [cell_of_heap (heap_setCell_at _ _ _ _ _ _ hb u), cell_of_heap hb, Array.getElem?_setIfInBounds_ne hij]
/-- One store into a worker's cells. -/
theorem Ad.put (h : Ad w I P S cs s) (hk : I.ws[k]? = some b) {x : AdW} (hx : s.ws[k]? = some x) {pv : Value} (hb : w.heap[b]? = some (.cells (wkA b I.ab x pv) 103)) (i : Nat) (u : Value) (x' : AdW) (pv' : Value) (ho : x'.on = x.on) (he : (wkA b I.ab x pv).setIfInBounds i u = wkA b I.ab x' pv') (hp : Plc w pv' x'.pl) : Ad (w.setCell ⟨b, i, none⟩ u) I P S cs { s with ws := s.ws.set k x' } ∧ (w.setCell ⟨b, i, none⟩ u).heap[b]? = some (.cells (wkA b I.ab x' pv') 103) ∧ Plc (w.setCell ⟨b, i, none⟩ u) pv' x'.pl := by
  have t : Turned [b] w (w.setCell ⟨b, i, none⟩ u) := (Turned.refl [b] w).setCell (p := ⟨b, i, none⟩) (.inl (by simp)) u
  have h1 : (w.setCell ⟨b, i, none⟩ u).heap[b]? = some (.cells (wkA b I.ab x' pv') 103) := by rw [heap_setCell_at _ _ _ _ _ _ hb, he]
  have h2 : Plc (w.setCell ⟨b, i, none⟩ u) pv' x'.pl := hp.keep t (fun j hj c e fr hc => by
    simp at hj
    subst hj
    rw [hb] at hc
    cases hc
    decide)
  exact ⟨h.setw hk hx ho t h1 h2, h1, h2⟩
theorem Ad.wset (h : Ad w I P S cs s) (hk : I.ws[k]? = some b) (x' : AdW) : (s.ws.set k x')[k]? = some x' := List.getElem?_set_self (by rw [h.len]; exact (List.getElem?_eq_some_iff.1 hk).1)
end

set_option maxHeartbeats 1000000 in
set_option maxRecDepth 100000 in
/-- goOn. -/
theorem agoOn_any (w : World) (I : AdI) (P : PN) (S : Nat → Nat) (cs : List Cls) (s : AdS) (k b : Nat) (x : AdW) (h : Ad w I P S cs s) (hk : I.ws[k]? = some b) (hx : s.ws[k]? = some x) :
    Calls Tryz.prog 126 #[.pointer (some ⟨b, 0, none⟩)] w fun e w' => e = .returned (.int .i64 0) ∧ Ad w' I P S cs { s with ws := s.ws.set k (goA14 x) } ∧ Turned [b] w w' := by
  obtain ⟨pv, hb, hp⟩ := h.wblk hk hx
  obtain ⟨ao, cap, rfl⟩ := hp.shape
  have f0 : w.frozen? ⟨b, 0, none⟩ = false := by simp [World.frozen?, hb]
  have bl := lt_of_heap hb
  have c0 : w.cell? ⟨b, 0, none⟩ = some (.func (.func (fnA x.ph)) #[.pointer (some ⟨b, 0, none⟩)] #[]) := by rw [cell_of_heap hb]; rfl
  obtain ⟨q1, q2, q3⟩ := h.put hk hx hb 0 (.func (.func 87) #[.pointer (some ⟨b, 0, none⟩)] #[]) { x with ph := 0 } _ rfl rfl hp
  have c4 : (w.setCell ⟨b, 0, none⟩ (.func (.func 87) #[.pointer (some ⟨b, 0, none⟩)] #[])).cell? ⟨b, 4, none⟩ = some (.slice ao x.pl.length cap) := by rw [cell_of_heap q2]; rfl
  have hx1 : ({ s with ws := s.ws.set k { x with ph := 0 } } : AdS).ws[k]? = some { x with ph := 0 } := h.wset hk _
  have t1 : Turned [b] w (w.setCell ⟨b, 0, none⟩ (.func (.func 87) #[.pointer (some ⟨b, 0, none⟩)] #[])) := (Turned.refl [b] w).setCell (p := ⟨b, 0, none⟩) (.inl (by simp)) _
  have HT1 := hide t1
  have HQ1 := hide q1
  have HQ2 := hide q2
  have f1 : (w.setCell ⟨b, 0, none⟩ (.func (.func 87) #[.pointer (some ⟨b, 0, none⟩)] #[])).frozen? ⟨b, 0, none⟩ = false := by simp [World.frozen?, q2]
  have d0 : (w.setCell ⟨b, 0, none⟩ (.func (.func 87) #[.pointer (some ⟨b, 0, none⟩)] #[])).cell? ⟨b, 0, none⟩ = some (.func (.func 87) #[.pointer (some ⟨b, 0, none⟩)] #[]) := by rw [cell_of_heap q2]; rfl
  have b1 : b < (w.setCell ⟨b, 0, none⟩ (.func (.func 87) #[.pointer (some ⟨b, 0, none⟩)] #[])).heap.size := lt_of_heap q2
  by_cases h0 : x.pl = []
  · have HE : Hid (Ad (w.setCell ⟨b, 0, none⟩ (.func (.func 87) #[.pointer (some ⟨b, 0, none⟩)] #[])) I P S cs { s with ws := s.ws.set k (goA14 x) }) := hide (by unfold goA14; rw [if_pos h0]; exact q1)
    have hl : x.pl.length = 0 := by rw [h0]; rfl
    rw [hl] at c4
    clear h hk hx hb hp q1 q2 q3 hx1 t1 h0 hl HQ1 HQ2
    go_enter Tryz.func126, Tryz.ntmps126
    go_upto_region 2 with fail
    generalize w.setCell ⟨b, 0, none⟩ (.func (.func 87) #[.pointer (some ⟨b, 0, none⟩)] #[]) = w1 at *
    go_wp2_with fail
    first | refine bodyPost_end (results_none rfl _ _ _) rfl ?_ | refine bodyPost_ret (results_none rfl _ _ _) rfl ?_ | go_ret
    exact ⟨rfl, HE.out, HT1.out⟩
  · obtain ⟨m, hm⟩ : ∃ m, x.pl.length = m + 1 := by
      cases hp2 : x.pl with
      | nil => exact absurd hp2 h0
      | cons a l => exact ⟨l.length, rfl⟩
    obtain ⟨r1, r2, r3⟩ := q1.put hk hx1 q2 0 (.func (.func 134) #[.pointer (some ⟨b, 0, none⟩)] #[]) (goA14 x) _ rfl (by unfold goA14; rw [if_neg h0]; rfl) q3
    have HE := hide r1
    have t2 := t1.setCell (p := ⟨b, 0, none⟩) (.inl (by simp)) (.func (.func 134) #[.pointer (some ⟨b, 0, none⟩)] #[])
    have HT2 := hide t2
    simp only [List.set_set] at HE
    rw [hm] at c4
    have hgt : (0 : Int) < ((m + 1 : Nat) : Int) := by omega
    clear h hk hx hb hp q1 q2 q3 hx1 t1 h0 hm HQ1 HQ2 r1 r2 r3 t2
    go_enter Tryz.func126, Tryz.ntmps126
    go_upto_region 2 with fail
    generalize w.setCell ⟨b, 0, none⟩ (.func (.func 87) #[.pointer (some ⟨b, 0, none⟩)] #[]) = w1 at *
    go_wp2_with fail
    first | refine bodyPost_end (results_none rfl _ _ _) rfl ?_ | refine bodyPost_ret (results_none rfl _ _ _) rfl ?_ | go_ret
    exact ⟨rfl, HE.out, HT2.out⟩

set_option maxHeartbeats 2000000 in
set_option maxRecDepth 100000 in
/-- turned. -/
theorem aturned_any (ov : Option Addr) (N : Nat) (P : PN) (h : P.Ok) (S : Nat → Nat) (l wt tk : Value) (aq c : Nat) (r : Int) (w : World) (hb : Brd w ov N (sidesOf S)) (hs : Bl N S) (ha : Ah w P S aq) (ht : P.t ≤ N) (hf : P.f ≤ P.d) (hd : P.d ≤ P.t) (hi : ∀ i, 0 < S i → P.f ≤ i ∧ i < P.t) (hr : -9223372036854775808 ≤ r ∧ r ≤ 9223372036854775807) :
    Calls Tryz.prog 45 #[.pointer ov, .agg (plC P l (.slice (some ⟨aq, 0, none⟩) P.R c) wt tk), .int .i64 r] w fun e w' => e = .returned (.tuple #[.int .i64 (toA P S N r), .bool (okA S N r)]) ∧ Turned [] w w' := by
  have HW := hide (fun (w' : World) (t : Turned [] w w') => words_any ov N _ w' (hb.turned t))
  have HH := hide (fun (w' : World) (t : Turned [] w w') => bhas_any ov N S r w' (hb.turned t) hs)
  have hN := hb.few
  obtain ⟨bl, hbl⟩ : ∃ bl, bl = w.heap.size := ⟨_, rfl⟩
  obtain ⟨w0, hw0⟩ : ∃ w0, w0 = w.alloc (.cells (plC P l (.slice (some ⟨aq, 0, none⟩) P.R c) wt tk) 42) := ⟨_, rfl⟩
  have ht0 : Turned [] w w0 := by rw [hw0]; exact (Turned.refl [] w).alloc _
  have hh0 : w0.heap[bl]? = some (.cells (plC P l (.slice (some ⟨aq, 0, none⟩) P.R c) wt tk) 42) := by rw [hw0, hbl]; exact heap_alloc_new _ _
  have HT0 := hide ht0
  have HH0 := hide hh0
  have hsz : 0 ≤ r → szI S r = S r.toNat := fun h => by
    unfold szI
    first | rw [if_pos h] | rw [if_neg (by omega)]
  by_cases h0 : r = 0
  · subst h0
    have e1 : toA P S N 0 = 0 := by unfold toA; rw [if_pos rfl]
    have e2 : okA S N 0 = true := by unfold okA; rw [decide_eq_true_eq]; exact .inl rfl
    rw [e1, e2]
    clear hb hs ha ht hf hd hi hr HW HH hsz e1 e2 hh0 ht0 hbl
    unfold plC
    go_enter Tryz.func45, Tryz.ntmps45
    go_wp2_with fail
    go_ret2
    exact ⟨rfl, (Turned.refl [] w).alloc _⟩
  · by_cases hneg : r < 0
    · have e1 : toA P S N r = r := by unfold toA; rw [if_neg h0, if_neg (by omega)]
      have e2 : okA S N r = false := by unfold okA; rw [decide_eq_false_iff_not]; omega
      rw [e1, e2]
      have h0' : ¬ (r == 0) = true := by simpa using h0
      clear hb hs ha ht hf hd hi hr HW HH hsz e1 e2 hh0 ht0 hbl
      unfold plC
      go_enter Tryz.func45, Tryz.ntmps45
      go_wp2_with fail
      go_ret2
      exact ⟨rfl, (Turned.refl [] w).alloc _⟩
    · by_cases hbig : (N : Int) ≤ r
      · have e1 : toA P S N r = r := by unfold toA; rw [if_neg h0, if_neg (by omega)]
        have e2 : okA S N r = false := by unfold okA; rw [decide_eq_false_iff_not]; omega
        rw [e1, e2]
        clear hb hs ha ht hf hd hi hr HH hsz e1 e2
        unfold plC at *
        go_enter Tryz.func45, Tryz.ntmps45
        go_upto_region 3 with fail
        rw [← hw0]
        clear hw0
        go_wp2_with fail
        refine (HW.out _ HT0.out).mono ?_
        rintro e w1 ⟨rfl, hw1⟩
        rw [hw1]; clear hw1 w1 HW
        go_wp2_with fail
        go_ret2
        exact ⟨rfl, HT0.out⟩
      · obtain ⟨x, rfl⟩ : ∃ x : Nat, r = (x : Int) := ⟨r.toNat, by omega⟩
        have hxN : x < N := by omega
        have hge : ¬ (N : Int) ≤ (x : Int) := hbig
        have hl0 : ¬ (x : Int) < 0 := by omega
        rw [hsz (by omega), Int.toNat_natCast] at HH
        by_cases hS : 0 < S x
        · have e1 : toA P S N (x : Int) = ((fwA P S x : Nat) : Int) := by unfold toA; rw [if_neg h0, if_pos ⟨by omega, by omega, by rw [Int.toNat_natCast]; exact hS⟩, Int.toNat_natCast]
          have e2 : okA S N (x : Int) = true := by unfold okA; rw [decide_eq_true_eq]; exact .inr ⟨by omega, by omega, by rw [Int.toNat_natCast]; exact hS⟩
          obtain ⟨i1, i2⟩ := hi x hS
          have hL : live S x = true := by unfold live; rw [bo_true]; exact ⟨x, by unfold Cov; omega⟩
          have HF := hide (fun (w' : World) (t : Turned [] w w') => forward_live ov N P h S l wt tk aq c x w' (hb.turned t) hs (ha.turned0 t) i1 i2 ht hf hd hL)
          have e3 : ((if x < P.d then x else P.d + (cnt (live S) x - cnt (live S) P.d) : Nat) : Int) = ((fwA P S x : Nat) : Int) := rfl
          rw [e3] at HF
          rw [e1, e2]
          rw [decide_eq_true hS] at HH
          generalize fwA P S x = y at *
          clear hb hs ha ht hf hd hi hr hsz e1 e2 e3 hL i1 i2 hS
          unfold plC at *
          have d0 : w0.cell? ⟨bl, 0, none⟩ = some (.int .i64 P.f) := by rw [cell_of_heap hh0]; rfl
          have d1 : w0.cell? ⟨bl, 1, none⟩ = some (.int .i64 P.t) := by rw [cell_of_heap hh0]; rfl
          have d2 : w0.cell? ⟨bl, 2, none⟩ = some (.int .i64 P.k) := by rw [cell_of_heap hh0]; rfl
          have d3 : w0.cell? ⟨bl, 3, none⟩ = some (.int .i64 P.d) := by rw [cell_of_heap hh0]; rfl
          have d4 : w0.cell? ⟨bl, 4, none⟩ = some (.int .i64 P.e) := by rw [cell_of_heap hh0]; rfl
          have d5 : w0.cell? ⟨bl, 5, none⟩ = some l := by rw [cell_of_heap hh0]; rfl
          have d6 : w0.cell? ⟨bl, 6, none⟩ = some (.slice (some ⟨aq, 0, none⟩) P.R c) := by rw [cell_of_heap hh0]; rfl
          have d7 : w0.cell? ⟨bl, 7, none⟩ = some wt := by rw [cell_of_heap hh0]; rfl
          have d8 : w0.cell? ⟨bl, 8, none⟩ = some tk := by rw [cell_of_heap hh0]; rfl
          clear hh0 ht0
          go_enter Tryz.func45, Tryz.ntmps45
          go_upto_region 3 with fail
          rw [← hw0, ← hbl]
          clear hw0 hbl
          go_wp2_with fail
          refine (HW.out _ HT0.out).mono ?_
          rintro e w1 ⟨rfl, hw1⟩
          rw [hw1]; clear hw1 w1 HW
          go_wp2_with fail
          refine (HH.out _ HT0.out).mono ?_
          rintro e w1 ⟨rfl, m, hw1⟩
          have HT1 : Hid (Turned [] w w1) := hide (by rw [hw1]; exact HT0.out.drewN m)
          have HC : Hid (∀ a : Addr, w1.cell? a = w0.cell? a) := hide (fun a => by rw [hw1]; exact World.cell?_drewN w0 m a)
          have g0 := (HC.out _).trans d0
          have g1 := (HC.out _).trans d1
          have g2 := (HC.out _).trans d2
          have g3 := (HC.out _).trans d3
          have g4 := (HC.out _).trans d4
          have g5 := (HC.out _).trans d5
          have g6 := (HC.out _).trans d6
          have g7 := (HC.out _).trans d7
          have g8 := (HC.out _).trans d8
          clear hw1 HH d0 d1 d2 d3 d4 d5 d6 d7 d8 HC
          go_wp2_with fail
          refine (HF.out _ HT1.out).mono ?_
          rintro e w2 ⟨rfl, t2⟩
          have HT2 := hide (HT1.out.trans t2)
          clear t2 HF
          go_wp2_with fail
          go_ret2
          exact ⟨rfl, HT2.out⟩
        · have e1 : toA P S N (x : Int) = (x : Int) := by unfold toA; rw [if_neg h0, if_neg (fun hc => hS (by have := hc.2.2; rwa [Int.toNat_natCast] at this))]
          have e2 : okA S N (x : Int) = false := by unfold okA; rw [decide_eq_false_iff_not]; rintro (hc | ⟨_, _, hc⟩); exact h0 hc; rw [Int.toNat_natCast] at hc; exact hS hc
          rw [e1, e2]
          rw [decide_eq_false hS] at HH
          clear hb hs ha ht hf hd hi hr hsz e1 e2 hS
          unfold plC at *
          go_enter Tryz.func45, Tryz.ntmps45
          go_upto_region 3 with fail
          rw [← hw0]
          clear hw0
          go_wp2_with fail
          refine (HW.out _ HT0.out).mono ?_
          rintro e w1 ⟨rfl, hw1⟩
          rw [hw1]; clear hw1 w1 HW
          go_wp2_with fail
          refine (HH.out _ HT0.out).mono ?_
          rintro e w1 ⟨rfl, m, hw1⟩
          have HT1 : Hid (Turned [] w w1) := hide (by rw [hw1]; exact HT0.out.drewN m)
          clear hw1 HH
          go_wp2_with fail
          go_ret2
          exact ⟨rfl, HT1.out⟩
end Go.Proofs.YtpeglndlhjnaaaaGreatDoor

/-
  Roots: references turned at once.
-/
namespace Go.Proofs.YtpeglndlhjnaaaaGreatDoor
open Go.RowKit Bt
set_option linter.unusedVariables false
set_option linter.unusedSimpArgs false

set_option maxHeartbeats 4000000 in
set_option maxRecDepth 100000 in
theorem aroots_any (ov : Option Addr) (N : Nat) (P : PN) (h : P.Ok) (S : Nat → Nat) (l wt tk : Value) (aq c : Nat) (ro : Option Addr) (n rcap : Nat) (rs : List Int) (w : World) (hb : Brd w ov N (sidesOf S)) (hs : Bl N S) (ha : Ah w P S aq) (ht : P.t ≤ N) (hf : P.f ≤ P.d) (hd : P.d ≤ P.t) (hi : ∀ i, 0 < S i → P.f ≤ i ∧ i < P.t) (hr : IRd w ro n rs) (hn : n ≤ 65536) :
    Calls Tryz.prog 19 #[.pointer ov, .agg (plC P l (.slice (some ⟨aq, 0, none⟩) P.R c) wt tk), .slice ro n rcap] w fun e w' => ∃ q, e = .returned (.slice (some ⟨q, 0, none⟩) n n) ∧ Ri w' 2 q n (fun i => toA P S N (rs.getD i 0)) ∧ w.heap.size ≤ q ∧ Turned [] w w' := by
  have HC := hide (fun (w' : World) (t : Turned [] w w') (r : Int) (hr : -9223372036854775808 ≤ r ∧ r ≤ 9223372036854775807) => aturned_any ov N P h S l wt tk aq c r w' (hb.turned t) hs (ha.turned0 t) ht hf hd hi hr)
  have HB := hide (pb_new w P l (.slice (some ⟨aq, 0, none⟩) P.R c) wt tk)
  have HT := hide ((Turned.refl [] w).alloc (.cells (plC P l (.slice (some ⟨aq, 0, none⟩) P.R c) wt tk) 42))
  have HI := hide hr
  clear hb hs ha ht hf hd hi h hr
  obtain ⟨g, hg⟩ : ∃ g : Int → Int, g = toA P S N := ⟨_, rfl⟩
  rw [← hg] at HC
  rw [← hg]
  clear hg
  generalize P.R = R at *
  obtain ⟨f, t, k, d, e⟩ := P
  unfold plC at HC HB HT ⊢
  simp only at HC HB HT ⊢
  obtain ⟨i0, hi, hi0⟩ := Option.map_eq_some_iff.1 Tryz.infoI64
  simp only [Prod.mk.injEq] at hi0
  obtain ⟨hz0, hz1, hz2⟩ := hi0
  have hmk : ∀ w : World, (Instr.makeSlice 28 (.int .i64 (n : Int)) (.int .i64 (n : Int))).run Tryz.prog w = .ok (.slice (some ⟨w.heap.size, 0, none⟩) n n) (w.alloc (.cells (madeCells #[Value.int .i64 0] n) 2)) := fun w => by
    have hr := run_make (P := Tryz.prog) w 28 2 i0 (.int .i64 0) Tryz.underlying28 hi hz0 .i64 .i64 n n (by omega) (by omega) (by rw [hz2]; omega) (by omega)
    simp only [hz1, Int.toNat_natCast, Nat.mul_one] at hr
    exact hr
  clear hi hz0 hz1 hz2
  go_enter Tryz.func19, Tryz.ntmps19
  go_upto_region 1 with fail
  obtain ⟨z, hz⟩ : ∃ z, z = w.heap.size := ⟨_, rfl⟩
  have HZ := hide hz
  rw [← hz] at HB ⊢
  generalize w.alloc (.cells #[Value.int .i64 f, Value.int .i64 t, Value.int .i64 k, Value.int .i64 d, Value.int .i64 e, l, .slice (some ⟨aq, 0, none⟩) R c, wt, tk] 42) = w1 at *
  clear hz
  obtain ⟨w2, hw2⟩ : ∃ w2, w2 = w1.alloc (.cells (madeCells #[Value.int .i64 0] n) 2) := ⟨_, rfl⟩
  have hT2 : Turned [] w1 w2 := by rw [hw2]; exact (Turned.refl [] w1).alloc _
  obtain ⟨q, hq⟩ : ∃ q, q = w1.heap.size := ⟨_, rfl⟩
  have HRd2 : Hid (Ri w2 2 q n (fun i => if i < 0 then g (rs.getD i 0) else 0)) := hide ⟨_, by rw [hw2, hq]; exact heap_alloc_new _ _, fun i hi => by simpa using made_int n i hi⟩
  have HQ := hide (show w.heap.size ≤ q by rw [hq]; exact HT.out.size)
  have HT2 := hide (HT.out.trans hT2)
  have HB2 := hide (HB.out.turned0 hT2)
  have HQz := hide (show q ≠ z by rw [hq]; exact Nat.ne_of_gt HB.out.lt)
  clear hT2 HT HB
  go_wp2_with fail
  rw [← hw2, ← hq]
  clear hw2 hq hmk
  go_loopw [15] (fun i wr => ∃ (j : Nat), j ≤ n ∧ i = .int .i64 j ∧ Hid (Ri wr 2 q n (fun i => if i < j then g (rs.getD i 0) else 0)) ∧ Hid (Pb wr z ⟨f, t, k, d, e⟩ l (.slice (some ⟨aq, 0, none⟩) R c) wt tk) ∧ Hid (Turned [] w wr)) (fun i _ => n - (intOf i).toNat)
  case atStart => exact ⟨0, Nat.zero_le _, rfl, HRd2, HB2, HT2⟩
  case round =>
    clear HRd2 HB2 HT2
    obtain ⟨j, hj, rfl, HRd, HPb, HTr⟩ := hrel
    by_cases hlt : j < n
    · obtain ⟨r, hr⟩ : ∃ r, rs[j]? = some r := ⟨_, List.getElem?_eq_getElem (by have := HI.out.size; omega)⟩
      obtain ⟨lb, loff, hbo, cr⟩ := (HI.out.turned HTr.out).cell j r hr
      subst hbo
      have H := hide (HC.out wr HTr.out r (HI.out.inn r (List.mem_of_getElem? hr)))
      have HGr : Hid (g (rs.getD j 0) = g r) := hide (by rw [List.getD_eq_getElem?_getD, hr]; rfl)
      have hji : (j : Int) < n := by omega
      obtain ⟨c0, c1, c2, c3, c4, c5, c6, c7, c8⟩ := HPb.out.cs
      clear hr
      go_wp2_with fail
      refine (H.out).mono ?_
      rintro e1 w5 ⟨rfl, ht5⟩
      have hq2 := (HRd.out.turned (S := []) ht5 (by simp))
      have e0 : w5.cell? ⟨q, j, none⟩ = some (.int .i64 0) := by
        have := hq2.cell hlt
        simpa using this
      have f0 := hq2.fz j
      have HS := hide ((hq2.set j (g r)).congr (g' := fun i => if i < j + 1 then g (rs.getD i 0) else 0) (fun i hi => by
        by_cases hij : i = j
        · subst hij; rw [if_pos rfl, if_pos (Nat.lt_succ_self _)]; exact HGr.out.symm
        · simp only [hij, if_false]
          by_cases h3 : i < j
          · rw [if_pos h3, if_pos (by omega)]
          · rw [if_neg h3, if_neg (by omega)]))
      have HT5 := hide ((HTr.out.trans ht5).setCell (p := ⟨q, j, none⟩) (.inr HQ.out) (.int .i64 (g r)))
      have HPb5 : Hid (Pb (w5.setCell ⟨q, j, none⟩ (.int .i64 (g r))) z ⟨f, t, k, d, e⟩ l (.slice (some ⟨aq, 0, none⟩) R c) wt tk) := hide ((HPb.out.turned0 ht5).turned ((Turned.refl [q] w5).setCell (p := ⟨q, j, none⟩) (.inl (by simp)) _) (by simpa using HQz.out.symm))
      have hq5 := hq2.lt
      clear ht5 HRd HTr H hq2 c0 c1 c2 c3 c4 c5 c6 c7 c8 cr HPb
      go_wp2_with fail
      go_roundw
      case rel => exact ⟨j + 1, by omega, by go_num, HS, HPb5, HT5⟩
      case measure => simp [intOf]; omega
    · have hjn : j = n := by omega
      subst hjn
      go_wp2_with fail
      go_ret
      exact ⟨q, rfl, HRd.out.congr (fun i hi => by rw [if_pos hi]), HQ.out, HTr.out⟩
end Go.Proofs.YtpeglndlhjnaaaaGreatDoor
