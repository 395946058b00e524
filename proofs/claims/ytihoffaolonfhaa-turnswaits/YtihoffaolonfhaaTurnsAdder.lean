/-
  The task of TurnsAdds that adds another one and wakes it: its three steps.
-/
import Derived.Test.YtihoffaolonfhaaTurnsCount
import Derived.Deep.RegionHeld3
namespace Go.Proofs.Ytihoffaolonfhaa
open Go.RowKit
set_option linter.unusedVariables false

/-- The law's own memory: the adder in block ad; the told task's struct in block x, its states in a row. -/
structure Ad (B : Nat) (w : World) (p : Nat) (F : List Nat) (ts : List Task) (ad x : Nat) (ao : Option Addr) (len cap : Nat) (l : List Int) (n made tn : Int) : Prop where
  trn : Trn B w p F ts
  adr : w.heap[ad]? = some (.cells #[.pointer (some ⟨p, 0, none⟩), .int .i64 n, .int .i64 made, .pointer (some ⟨x, 0, none⟩)] 63)
  told : ToldD B x ao len cap l w tn
  lo : B ≤ ad ∧ B ≤ x
  hl : len ≤ 9223372036854775807

section
variable {B : Nat} {w : World} {p : Nat} {F : List Nat} {ts : List Task} {ad x : Nat} {ao : Option Addr} {len cap : Nat} {l : List Int} {n made tn : Int}
theorem Ad.good (h : Ad B w p F ts ad x ao len cap l n made tn) : Good B ⟨0, toldFv x, [x], x :: rowA ao l, ToldD B x ao len cap l, fun n => tellOf l n.toNat, 0, 0⟩ := good_told B x ao len cap l h.hl 0 0 0
theorem Ad.awx (h : Ad B w p F ts ad x ao len cap l n made tn) {k : Nat} (hk : k ∈ x :: rowA ao l) : k < w.heap.size ∧ Aw B w k := h.good.aw w tn h.told k hk
theorem Ad.ada (h : Ad B w p F ts ad x ao len cap l n made tn) : Aw B w ad := .inr ⟨_, _, _, h.adr, by decide, by decide, by decide⟩
theorem Ad.nex (h : Ad B w p F ts ad x ao len cap l n made tn) {k : Nat} (hk : k ∈ x :: rowA ao l) : k ≠ ad := by
  intro e
  subst e
  rcases List.mem_cons.1 hk with e | hk
  · have h1 := h.told.1
    rw [← e, h.adr] at h1
    simp at h1
  · rcases h.told.2.2 k hk with h1 | ⟨c, fr, h1⟩
    · have := h.lo.1; omega
    · rw [h.adr] at h1
      simp at h1
/-- What turns none of the law's own memory, and of the object's no block. -/
theorem Ad.same (h : Ad B w p F ts ad x ao len cap l n made tn) {w' : World} (t : Turned [] w w') : Ad B w' p F ts ad x ao len cap l n made tn :=
  ⟨h.trn.turned t (by simp), by rw [t.block ad (lt_of_heap h.adr) (by simp)]; exact h.adr, h.good.keep w w' tn h.told (fun k hk => t.block k (h.awx hk).1 (by simp)), h.lo, h.hl⟩
/-- A number of the adder's is stored. -/
theorem Ad.store (h : Ad B w p F ts ad x ao len cap l n made tn) (v : Int) : Ad B (w.setCell ⟨ad, 1, none⟩ (.int .i64 v)) p F ts ad x ao len cap l v made tn := by
  have hT : Turned [ad] w (w.setCell ⟨ad, 1, none⟩ (.int .i64 v)) := (Turned.refl _ _).setCell (by simp) _
  exact ⟨h.trn.keep2 hT (fun k hk => by simp at hk; subst hk; exact h.ada), by rw [heap_setCell_at _ _ _ _ _ _ h.adr]; rfl, h.good.keep w _ tn h.told (fun k hk => hT.block k (h.awx hk).1 (by simp; exact h.nex hk)), h.lo, h.hl⟩
theorem Ad.stored (h : Ad B w p F ts ad x ao len cap l n made tn) (v : Int) : Ad B (w.setCell ⟨ad, 2, none⟩ (.int .i64 v)) p F ts ad x ao len cap l n v tn := by
  have hT : Turned [ad] w (w.setCell ⟨ad, 2, none⟩ (.int .i64 v)) := (Turned.refl _ _).setCell (by simp) _
  exact ⟨h.trn.keep2 hT (fun k hk => by simp at hk; subst hk; exact h.ada), by rw [heap_setCell_at _ _ _ _ _ _ h.adr]; rfl, h.good.keep w _ tn h.told (fun k hk => hT.block k (h.awx hk).1 (by simp; exact h.nex hk)), h.lo, h.hl⟩
theorem Ad.c (h : Ad B w p F ts ad x ao len cap l n made tn) : w.cell? ⟨ad, 0, none⟩ = some (.pointer (some ⟨p, 0, none⟩)) ∧ w.cell? ⟨ad, 1, none⟩ = some (.int .i64 n) ∧ w.cell? ⟨ad, 2, none⟩ = some (.int .i64 made) ∧ w.cell? ⟨ad, 3, none⟩ = some (.pointer (some ⟨x, 0, none⟩)) := by
  refine ⟨?_, ?_, ?_, ?_⟩ <;> (rw [cell_of_heap h.adr]; rfl)
theorem Ad.fz (h : Ad B w p F ts ad x ao len cap l n made tn) (i : Nat) : w.frozen? ⟨ad, i, none⟩ = false := by simp [World.frozen?, h.adr]
end

/-- A task is added, the law's own memory being as it was. -/
theorem ad_add (B : Nat) (w : World) (p : Nat) (F : List Nat) (ts : List Task) (ad x : Nat) (ao : Option Addr) (len cap : Nat) (l : List Int) (n made tn : Int) (fn : Fn) (first caps : Array Value) (S A : List Nat) (D : World → Int → Prop) (tell : Int → Int) (hts : ts.length < 128) (h : Ad B w p F ts ad x ao len cap l n made tn) :
    Calls Try.prog 13 #[.pointer (some ⟨p, 0, none⟩), .func fn first caps] w fun e w' =>
      e = .returned (.tuple #[.int .i64 ((ts.length : Int) + 1), .int .i64 0]) ∧ ∃ F' b, Ad B w' p F' (ts ++ [⟨b, .func fn first caps, S, A, D, tell, 0, 0⟩]) ad x ao len cap l n made tn ∧ Turned F w w' := by
  refine (add_ok B w p F ts fn first caps S A D tell hts h.trn).mono ?_
  rintro e w' ⟨rfl, F', h1, h2, h3, M, hM, hM2⟩
  have hawM : ∀ k, Aw B w k → k ∉ M := by
    intro k hk hm
    obtain ⟨hF, c, e, h4, h5⟩ := hM2 k hm
    rcases hk with hk | ⟨c', e', fr, h6, h7, h8, _⟩
    · have := (h.trn.lo k hF).1; omega
    · rw [h4] at h6
      simp at h6
      rcases h5 with rfl | rfl
      · exact h7 h6.2.1.symm
      · exact h8 h6.2.1.symm
  refine ⟨rfl, F', _, ⟨h1, ?_, h.good.keep w w' tn h.told (fun k hk => hM.block k (h.awx hk).1 (hawM k (h.awx hk).2)), h.lo, h.hl⟩, hM.mono (fun k hk => (hM2 k hk).1)⟩
  rw [hM.block ad (lt_of_heap h.adr) (hawM ad h.ada)]
  exact h.adr
/-- Add of the told task, out of the adder's step. -/
theorem add_adder (B : Nat) (w : World) (p : Nat) (F : List Nat) (ts : List Task) (ad x : Nat) (ao : Option Addr) (len cap : Nat) (l : List Int) (n made tn : Int) (hts : ts.length < 128) (h : Ad B w p F ts ad x ao len cap l n made tn) :
    Calls Try.prog 13 #[.pointer (some ⟨p, 0, none⟩), .func (.func 14) #[.pointer (some ⟨x, 0, none⟩)] #[]] w fun e w' =>
      e = .returned (.tuple #[.int .i64 ((ts.length : Int) + 1), .int .i64 0]) ∧ ∃ F' b, Ad B w' p F' (ts ++ [⟨b, toldFv x, [x], x :: rowA ao l, ToldD B x ao len cap l, fun n => tellOf l n.toNat, 0, 0⟩]) ad x ao len cap l n made tn ∧ Turned F w w' :=
  ad_add B w p F ts ad x ao len cap l n made tn (.func 14) #[.pointer (some ⟨x, 0, none⟩)] #[] [x] (x :: rowA ao l) (ToldD B x ao len cap l) (fun n => tellOf l n.toNat) hts h

/-- Wake of the told task, out of the adder's step. -/
theorem wake_adder (B : Nat) (w wa : World) (p : Nat) (F : List Nat) (ts : List Task) (ad x : Nat) (ao : Option Addr) (len cap : Nat) (l : List Int) (n made tn : Int) (hwa : wa.heap = (w.alloc (.cells #[.int .i64 2] 3)).heap ∧ wa.os = w.os ∧ wa.tape = w.tape ∧ wa.output = w.output) (h : Ad B w p F ts ad x ao len cap l n made tn) :
    Calls Try.prog 12 #[.pointer (some ⟨p, 0, none⟩), .slice (some ⟨w.heap.size, 0, none⟩) 1 1] wa fun e w' =>
      e = .returned (.int .i64 ((wakeNum ts [2] : Nat) : Int)) ∧ Ad B w' p F (wakeAll ts [2]) ad x ao len cap l n made tn ∧ Turned F w w' := by
  have hTa : Turned [] w wa := ⟨hwa.2.1, hwa.2.2.1, hwa.2.2.2, by rw [hwa.1]; simp, fun k hk _ => by rw [hwa.1]; exact Below.heap_alloc _ _ _ hk⟩
  have ha := h.same hTa
  have hrd : Rd wa F (some ⟨w.heap.size, 0, none⟩) 1 [2] := by
    refine ⟨rfl, fun i y hy => ⟨w.heap.size, 0, rfl, fun hk => by have := (h.trn.lo _ hk).2; omega, ?_⟩⟩
    have h1 : wa.heap[w.heap.size]? = some (.cells #[.int .i64 2] 3) := by rw [hwa.1]; exact heap_alloc_new _ _
    rw [cell_of_heap h1, Nat.zero_add]
    match i, hy with
    | 0, hy => simp at hy; subst hy; rfl
    | i + 1, hy => simp at hy
  refine (wake_any B wa p F ts _ 1 1 [2] (by omega) hrd ha.trn).mono ?_
  rintro e w' ⟨rfl, h1, h2⟩
  have hnb : ∀ k, Aw B wa k → k ∉ ts.map Task.b := fun k hk hm => by
    obtain ⟨u, hu, e⟩ := List.mem_map.1 hm
    exact (ha.trn.aw hk).2.1 u hu e.symm
  refine ⟨rfl, ⟨h1, ?_, ha.good.keep wa w' tn ha.told (fun k hk => h2.block k (ha.awx hk).1 (hnb k (ha.awx hk).2)), h.lo, h.hl⟩, (hTa.mono (by simp)).trans (h2.mono (fun k hk => ?_))⟩
  · rw [h2.block ad (lt_of_heap ha.adr) (hnb ad ha.ada)]
    exact ha.adr
  · obtain ⟨u, hu, e⟩ := List.mem_map.1 hk
    rw [← e]
    exact (h.trn.task u hu).2

theorem Turned.setCell2 {F : List Nat} {a w : World} (h : Turned F a w) (k i : Nat) (u : Value) : Turned (k :: F) a (w.setCell ⟨k, i, none⟩ u) :=
  (h.mono (fun j hj => List.mem_cons_of_mem _ hj)).setCell (by simp) u

theorem adder_two (B : Nat) (w : World) (p : Nat) (F : List Nat) (ts : List Task) (ad x : Nat) (ao : Option Addr) (len cap : Nat) (l : List Int) (made tn : Int) (h : Ad B w p F ts ad x ao len cap l 1 made tn) :
    Calls Try.prog 29 #[.pointer (some ⟨ad, 0, none⟩)] w fun e w' => e = .returned (.int .i64 0) ∧ Ad B w' p F ts ad x ao len cap l 2 made tn ∧ Turned [ad] w w' := by
  obtain ⟨c0, c1, c2, c3⟩ := h.c
  have f1 := h.fz 1
  obtain ⟨d0, d1, d2, d3⟩ := (h.store 2).c
  have HH := hide (h.store 2)
  have HT : Hid (Turned [ad] w (w.setCell ⟨ad, 1, none⟩ (.int .i64 2))) := (Turned.refl _ _).setCell (by simp) _
  clear h
  go_enter Try.func29, Try.ntmps29
  go_wp2
  go_ret
  exact ⟨rfl, HH.out, HT.out⟩

set_option maxRecDepth 100000 in
set_option maxHeartbeats 4000000 in
theorem adder_one (B : Nat) (w : World) (p : Nat) (F : List Nat) (ts : List Task) (ad x : Nat) (ao : Option Addr) (len cap : Nat) (l : List Int) (made tn : Int) (hts : ts.length = 1) (h : Ad B w p F ts ad x ao len cap l 0 made tn) :
    Calls Try.prog 29 #[.pointer (some ⟨ad, 0, none⟩)] w fun e w' => e = .returned (.int .i64 0) ∧ ∃ F' b, Ad B w' p F' (ts ++ [⟨b, toldFv x, [x], x :: rowA ao l, ToldD B x ao len cap l, fun n => tellOf l n.toNat, 0, 0⟩]) ad x ao len cap l 1 2 tn ∧ Turned (ad :: F) w w' := by
  obtain ⟨c0, c1, c2, c3⟩ := h.c
  have f1 := h.fz 1
  have hmf : ∀ (fn : Fn) (first cap : Array Value) (w : World), (Instr.makeFunc fn first cap).run Try.prog w = .ok (.func fn first cap) w := fun _ _ _ _ => rfl
  have h1 := h.store 1
  obtain ⟨d0, d1, d2, d3⟩ := h1.c
  have HT : Hid (Turned (ad :: F) w (w.setCell ⟨ad, 1, none⟩ (.int .i64 1))) := (Turned.refl _ _).setCell (by simp) _
  have HH := hide h1
  clear h h1
  go_enter Try.func29, Try.ntmps29
  go_wp2_with fail
  generalize w.setCell ⟨ad, 1, none⟩ (.int .i64 1) = w1 at *
  go_region_held3 (fun w' => w'.cell? ⟨ad, 0, none⟩ = some (.pointer (some ⟨p, 0, none⟩)) ∧ w'.cell? ⟨ad, 3, none⟩ = some (.pointer (some ⟨x, 0, none⟩))) (go_keep)
    (first
      | (go_at_call 13; refine (add_adder B _ p F ts ad x ao len cap l 1 made tn (by omega) (HH.out.same (Turned.refl _ _).drew)).mono ?_; rintro e w2 ⟨rfl, F2, b2, hm, ht⟩; obtain ⟨g0, g1, g2, g3⟩ := hm.c; have gf := hm.fz 2; obtain ⟨k0, k1, k2, k3⟩ := (hm.stored 2).c; have HM2 := hide (hm.stored 2); have HT3 := hide (ht.setCell2 ad 2 (.int .i64 2)); have HT2 := hide (HT.out.drew.trans HT3.out); clear hm ht))
  go_wp2_with fail
  go_ret
  exact ⟨rfl, F2, b2, HM2.out, HT2.out⟩

set_option maxRecDepth 100000 in
set_option maxHeartbeats 4000000 in
theorem adder_three (B : Nat) (w : World) (p : Nat) (F : List Nat) (ts : List Task) (ad x : Nat) (ao : Option Addr) (len cap : Nat) (l : List Int) (tn : Int) (h : Ad B w p F ts ad x ao len cap l 2 2 tn) :
    Calls Try.prog 29 #[.pointer (some ⟨ad, 0, none⟩)] w fun e w' => e = .returned (.int .i64 2) ∧ Ad B w' p F (wakeAll ts [2]) ad x ao len cap l 3 2 tn ∧ Turned (ad :: F) w w' := by
  obtain ⟨c0, c1, c2, c3⟩ := h.c
  have f1 := h.fz 1
  have h1 := h.store 3
  obtain ⟨d0, d1, d2, d3⟩ := h1.c
  have HT : Hid (Turned (ad :: F) w (w.setCell ⟨ad, 1, none⟩ (.int .i64 3))) := (Turned.refl _ _).setCell (by simp) _
  have HH := hide h1
  clear h h1
  go_enter Try.func29, Try.ntmps29
  go_wp2_with fail
  generalize w.setCell ⟨ad, 1, none⟩ (.int .i64 3) = w1 at *
  have HH2 := hide (HH.out.same ((Turned.refl [] w1).alloc (.cells #[.int .i64 2] 3)))
  obtain ⟨g0, g1, g2, g3⟩ := HH2.out.c
  go_region_held3 (fun w' => w'.cell? ⟨ad, 0, none⟩ = some (.pointer (some ⟨p, 0, none⟩)) ∧ w'.cell? ⟨ad, 2, none⟩ = some (.int .i64 2)) (go_keep)
    (first
      | (go_at_call 12; refine (wake_adder B w1 (w1.alloc (.cells #[.int .i64 2] 3)).drew p F ts ad x ao len cap l 3 2 tn ⟨rfl, rfl, rfl, rfl⟩ HH.out).mono ?_; rintro e w2 ⟨rfl, hm, ht⟩; obtain ⟨k0, k1, k2, k3⟩ := hm.c; have HM2 := hide hm; have HT2 := hide (HT.out.trans (ht.mono (fun k hk => List.mem_cons_of_mem _ hk))); clear hm ht))
  go_wp2_with fail
  go_ret
  exact ⟨rfl, HM2.out, HT2.out⟩
end Go.Proofs.Ytihoffaolonfhaa
