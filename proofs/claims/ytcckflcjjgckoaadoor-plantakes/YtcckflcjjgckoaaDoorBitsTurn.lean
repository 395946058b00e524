/-
  A Bits object as it is turned ('Bts'); what turn does.
-/
import Derived.Test.YtcckflcjjgckoaaDoorBitsLive
import Derived.Deep.RegionHeld3
import Derived.Deep.Cut
import Derived.Deep.CutBlock
import Derived.Deep.CutRange
import Derived.Deep.DeepCutAuto
import Derived.Deep.LoopGhost
namespace Go.Proofs.YtcckflcjjgckoaaDoor.Bt
open Go.RowKit
set_option linter.unusedVariables false

/-- A Bits object: block p is the struct, block q its rows. -/
structure Bts (w : World) (p q n : Nat) (F : Nat → Nat → Bool) : Prop where
  few : n ≤ 65536
  tab : Tab w
  p0 : p ≠ 0
  q0 : q ≠ 0
  ne : p ≠ q
  head : w.heap[p]? = some (.cells #[.int .i64 (n : Int), .slice (some ⟨q, 0, none⟩) ((n + 63) / 64) ((n + 63) / 64)] 71)
  row : ∃ c, w.heap[q]? = some (.cells c 78) ∧ ∀ i s, i < (n + 63) / 64 → s < 2 → c[i * 2 + s]? = some (.int .u64 ((rowN (F s) i : Nat) : Int))

section
variable {w w' : World} {p q n : Nat} {F G : Nat → Nat → Bool}
theorem Bts.brd (h : Bts w p q n F) : Brd w (some ⟨p, 0, none⟩) n F := by
  obtain ⟨c, hc, hr⟩ := h.row
  refine ⟨h.few, h.tab, ?_, ?_, by simp⟩
  · intro a ha
    cases ha
    exact ⟨p, rfl, by rw [cell_of_heap h.head]; rfl⟩
  · intro _
    exact ⟨p, q, _, rfl, by rw [cell_of_heap h.head]; rfl, by rw [cell_of_heap h.head]; rfl, rfl, fun i s hi hs => by rw [cell_of_heap hc]; exact hr i s hi hs⟩
theorem Bts.turned (h : Bts w p q n F) {S : List Nat} (t : Turned S w w') (hp : p ∉ S) (hq : q ∉ S) (h0 : 0 ∉ S) : Bts w' p q n F := by
  obtain ⟨c, hc, hr⟩ := h.row
  exact ⟨h.few, h.tab.turned t h0, h.p0, h.q0, h.ne, by rw [t.block p (lt_of_heap h.head) hp]; exact h.head, c, by rw [t.block q (lt_of_heap hc) hq]; exact hc, hr⟩
theorem Bts.turned0 (h : Bts w p q n F) (t : Turned [] w w') : Bts w' p q n F := h.turned t (by simp) (by simp) (by simp)
theorem Bts.drewN (h : Bts w p q n F) (m : Nat) : Bts (w.drewN m) p q n F := h.turned0 ((Turned.refl _ _).drewN m)
theorem Bts.congr (h : Bts w p q n F) (e : ∀ s k, s < 2 → F s k = G s k) : Bts w p q n G := by
  obtain ⟨c, hc, hr⟩ := h.row
  refine ⟨h.few, h.tab, h.p0, h.q0, h.ne, h.head, c, hc, fun i s hi hs => ?_⟩
  rw [hr i s hi hs]
  unfold rowN
  rw [num_congr (fun j hj => e s (64 * i + j) hs)]
theorem Bts.ltp (h : Bts w p q n F) : p < w.heap.size := lt_of_heap h.head
theorem Bts.ltq (h : Bts w p q n F) : q < w.heap.size := by obtain ⟨c, hc, _⟩ := h.row; exact lt_of_heap hc
theorem Bts.fq (h : Bts w p q n F) (i : Nat) : w.frozen? ⟨q, i, none⟩ = false := by
  obtain ⟨c, hc, _⟩ := h.row
  simp [World.frozen?, hc]
theorem Bts.store (h : Bts w p q n F) {i s : Nat} (hi : i < (n + 63) / 64) (hs : s < 2) {x : Nat} (hx : x = rowN (G s) i)
    (hG : ∀ t k, t < 2 → (t ≠ s ∨ k / 64 ≠ i) → G t k = F t k) : Bts (w.setCell ⟨q, i * 2 + s, none⟩ (.int .u64 (x : Int))) p q n G := by
  obtain ⟨c, hc, hr⟩ := h.row
  refine ⟨h.few, h.tab.turned ((Turned.refl [q] w).setCell (p := ⟨q, i * 2 + s, none⟩) (.inl (by simp)) _) (by simp; exact fun e => h.q0 e.symm), h.p0, h.q0, h.ne, by rw [Below.heap_setCell _ _ _ _ (fun e => h.ne e)]; exact h.head, _, heap_setCell_at _ _ _ _ _ _ hc _, fun j t hj ht => ?_⟩
  have hlt : i * 2 + s < c.size := by
    have := hr i s hi hs
    exact (Array.getElem?_eq_some_iff.1 this).1
  rw [Array.getElem?_setIfInBounds]
  by_cases he : i * 2 + s = j * 2 + t
  · rw [if_pos he, if_pos hlt]
    have h1 : i = j := by omega
    have h2 : s = t := by omega
    subst h1; subst h2
    rw [hx]
  · rw [if_neg he, hr j t hj ht]
    have h3 : t ≠ s ∨ j ≠ i := by omega
    unfold rowN
    refine congrArg (fun z : Nat => some (Value.int .u64 (z : Int))) (num_congr fun l hl => (hG t (64 * j + l) ht ?_).symm)
    rcases h3 with h3 | h3
    · exact .inl h3
    · exact .inr (by omega)
end

def In64 (z : Int) : Prop := -9223372036854775808 ≤ z ∧ z ≤ 9223372036854775807
/-- A word's bit turned. -/
def flip (f : Nat → Bool) (k : Nat) : Nat → Bool := fun j => f j ^^ decide (j = k)
theorem bits_xor_u64_nat (a b : Nat) (ha : a < 18446744073709551616) (hb : b < 18446744073709551616) :
    bits .xor .u64 (a : Int) (b : Int) = ((a ^^^ b : Nat) : Int) := by
  have hx : a ^^^ b < 2 ^ 64 := Nat.xor_lt_two_pow (by omega) (by omega)
  have h1 : (BitVec.ofInt 64 (a : Int)).toNat = a := by
    rw [BitVec.ofInt_natCast, BitVec.toNat_ofNat]; exact Nat.mod_eq_of_lt (by omega)
  have h2 : (BitVec.ofInt 64 (b : Int)).toNat = b := by
    rw [BitVec.ofInt_natCast, BitVec.toNat_ofNat]; exact Nat.mod_eq_of_lt (by omega)
  show IntKind.u64.wrap ((BitVec.ofInt 64 (a : Int) ^^^ BitVec.ofInt 64 (b : Int)).toNat : Int) = _
  rw [BitVec.toNat_xor, h1, h2, IntKind.wrap_u64]
  omega
theorem row_flip (f : Nat → Bool) (k : Nat) : bits .xor .u64 ((rowN f (k / 64) : Nat) : Int) ((num (fun j => decide (j = k % 64)) 64 : Nat) : Int) = ((rowN (flip f k) (k / 64) : Nat) : Int) := by
  rw [bits_xor_u64_nat _ _ (rowN_lt _ _) (num_lt64 _)]
  unfold rowN
  rw [num_xor]
  refine congrArg (fun z : Nat => (z : Int)) (num_congr fun j hj => ?_)
  unfold flip
  have : (decide (j = k % 64)) = decide (64 * (k / 64) + j = k) := by
    by_cases h : j = k % 64
    · rw [decide_eq_true h, decide_eq_true (by omega)]
    · rw [decide_eq_false h, decide_eq_false (by omega)]
  rw [this]
theorem flip_far (f : Nat → Bool) (k j : Nat) (h : j / 64 ≠ k / 64) : flip f k j = f j := by
  unfold flip
  have : ¬ j = k := by intro e; subst e; exact h rfl
  simp [this]

/-- Both sides turned. -/
def turnF (F : Nat → Nat → Bool) (a l : Nat) : Nat → Nat → Bool := fun s => if s = 0 then flip (F 0) a else flip (F 1) l

set_option maxHeartbeats 4000000 in
theorem turn_any (p q n : Nat) (F : Nat → Nat → Bool) (a z : Nat) (w : World) (h : Bts w p q n F) (hz : 1 ≤ z) (ha : a + z ≤ n) :
    Calls Tryd.prog 47 #[.pointer (some ⟨p, 0, none⟩), .int .i64 (a : Int), .int .i64 (z : Int)] w fun e w' => e = .returned (.tuple #[]) ∧ Bts w' p q n (turnF F a (a + z - 1)) ∧ Turned [q] w w' := by
  have hn := h.few
  have HB := hide h
  have hia : a / 64 < (n + 63) / 64 := by omega
  have hil : (a + z - 1) / 64 < (n + 63) / 64 := by omega
  have c1 : w.cell? ⟨p, 1, none⟩ = some (.slice (some ⟨q, 0, none⟩) ((n + 63) / 64) ((n + 63) / 64)) := by rw [cell_of_heap h.head]; rfl
  obtain ⟨c, hc, hr⟩ := h.row
  have c2 := hr (a / 64) 0 hia (by omega)
  rw [← cell_of_heap hc, Nat.add_zero] at c2
  have f2 := h.fq (a / 64 * 2)
  have HB1 := hide (fun w => bit_any a w (by omega))
  obtain ⟨l, hl⟩ : ∃ l : Nat, l = a + z - 1 := ⟨_, rfl⟩
  rw [← hl]
  have HB2 := hide (fun w => bit_any l w (by omega))
  have HL := hide hl
  have k1 := row_flip (F 0) a
  have ei : ((a : Int) / 64) = ((a / 64 : Nat) : Int) := by omega
  have HIA := hide hia
  obtain ⟨i, hi⟩ : ∃ i, i = a / 64 := ⟨_, rfl⟩
  obtain ⟨R, hR⟩ : ∃ R, R = (n + 63) / 64 := ⟨_, rfl⟩
  rw [← hi] at c2 f2 k1 ei hia
  rw [← hR] at c1 hia
  have wi : IntKind.i64.wrap (i : Int) = (i : Int) := by rw [IntKind.wrap_i64]; omega
  have HI := hide hi
  have HRR := hide hR
  clear h hr hc hi hR hil hl
  generalize rowN (F 0) i = X at *
  obtain ⟨X', hX⟩ : ∃ X', X' = rowN (flip (F 0) a) i := ⟨_, rfl⟩
  rw [← hX] at k1
  have HX : Hid (X' = rowN (if (0 : Nat) = 0 then flip (F 0) a else F 0) i) := hX
  clear hX
  generalize num (fun j => decide (j = a % 64)) 64 = Y at *
  have hturn1 : Hid (Bts ((w.setCell ⟨q, i * 2, none⟩ (.int .u64 (X' : Int))).drew) p q n (fun s => if s = 0 then flip (F 0) a else F s) ∧ Turned [q] w ((w.setCell ⟨q, i * 2, none⟩ (.int .u64 (X' : Int))).drew)) := by
    refine ⟨?_, ((Turned.refl [q] w).setCell (p := ⟨q, i * 2, none⟩) (.inl (by simp)) _).drew⟩
    have := HB.out.store (G := fun s => if s = 0 then flip (F 0) a else F s) (i := i) (s := 0) (x := X') (by rw [← HRR.out]; exact hia) (by omega) HX.out (fun t k ht hk => by
      by_cases h0 : t = 0
      · subst h0
        have h2 : k / 64 ≠ a / 64 := by rw [← HI.out]; omega
        simp only [if_true]
        exact flip_far _ _ _ h2
      · simp only [if_neg h0])
    exact this.turned0 (Turned.refl [] _).drew
  go_enter Tryd.func47, Tryd.ntmps47
  go_upto_region 1 with fail
  go_cut [11, 12, 13, 14, 15, 16, 17, 18, 19, 20, 21, 22, 23, 24] (fun _ _ _ _ _ _ _ _ _ _ _ _ _ _ wc => Aside (Bts wc p q n (fun s => if s = 0 then flip (F 0) a else F s) ∧ Turned [q] w wc))
  case first =>
    go_region_with ((go_at_call 60; refine (HB1.out _).mono ?_; rintro e w' ⟨rfl, rfl⟩))
    all_goals (go_wp2_with fail; go_meet; exact hturn1.out)
  case rest =>
    obtain ⟨hb2, ht2⟩ := hcut.out
    have hl := HL.out
    have el : (a : Int) + (z : Int) - 1 = (l : Int) := by omega
    rw [el]
    have hil : l / 64 < (n + 63) / 64 := by omega
    have d1 : wc.cell? ⟨p, 1, none⟩ = some (.slice (some ⟨q, 0, none⟩) ((n + 63) / 64) ((n + 63) / 64)) := by rw [cell_of_heap hb2.head]; rfl
    obtain ⟨c', hc', hr'⟩ := hb2.row
    have d2 := hr' (l / 64) 1 hil (by omega)
    rw [← cell_of_heap hc'] at d2
    simp only [if_neg (show ¬ (1 : Nat) = 0 by omega)] at d2
    have g2 := hb2.fq (l / 64 * 2 + 1)
    have k2 := row_flip (F 1) l
    have ej : ((l : Int) / 64) = ((l / 64 : Nat) : Int) := by omega
    obtain ⟨j, hj⟩ : ∃ j, j = l / 64 := ⟨_, rfl⟩
    rw [← hj] at d2 g2 k2 ej hil
    rw [← HRR.out] at d1
    have hjR : j < R := by rw [HRR.out]; exact hil
    have wj : IntKind.i64.wrap (j : Int) = (j : Int) := by rw [IntKind.wrap_i64]; omega
    obtain ⟨Z', hZ⟩ : ∃ Z', Z' = rowN (flip (F 1) l) j := ⟨_, rfl⟩
    rw [← hZ] at k2
    have hturn2 : Hid (Bts ((wc.setCell ⟨q, j * 2 + 1, none⟩ (.int .u64 (Z' : Int))).drew) p q n (turnF F a l) ∧ Turned [q] w ((wc.setCell ⟨q, j * 2 + 1, none⟩ (.int .u64 (Z' : Int))).drew)) := by
      refine ⟨?_, (ht2.setCell (p := ⟨q, j * 2 + 1, none⟩) (.inl (by simp)) _).drew⟩
      have := hb2.store (G := turnF F a l) (i := j) (s := 1) (x := Z') hil (by omega) hZ (fun t k ht hk => by
        unfold turnF
        by_cases h0 : t = 0
        · subst h0; rfl
        · have h1 : t = 1 := by omega
          subst h1
          have h2 : k / 64 ≠ l / 64 := by rw [← hj]; omega
          exact flip_far _ _ _ h2)
      exact this.turned0 (Turned.refl [] _).drew
    clear hcut hb2 ht2 hc' hr' hZ hj hl hil el HB HB1 hturn1 c1 c2 f2 k1 ei wi hia
    generalize rowN (F 1) j = Z at *
    generalize num (fun j => decide (j = l % 64)) 64 = Y2 at *
    go_wp2_with fail
    go_region_with ((go_at_call 60; refine (HB2.out _).mono ?_; rintro e w' ⟨rfl, rfl⟩))
    all_goals (go_wp2_with fail; refine bodyPost_end (results_none rfl _ _ _) rfl ?_; exact ⟨rfl, hturn2.out⟩)
end Go.Proofs.YtcckflcjjgckoaaDoor.Bt
