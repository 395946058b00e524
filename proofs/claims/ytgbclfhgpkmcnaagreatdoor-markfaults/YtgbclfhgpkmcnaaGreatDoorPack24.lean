/-
  Texts of the proof, several in one: BitsTurn, BitsUpd, BitsMark, BitsClear, BitsNew, BitsSums.
-/
import Derived.Test.YtgbclfhgpkmcnaaGreatDoorPack15
import Derived.Deep.RegionHeld3
import Derived.Deep.Cut
import Derived.Deep.CutBlock
import Derived.Deep.CutRange
import Derived.Deep.DeepCutAuto
import Derived.Deep.LoopGhost
/-
  A Bits object as it is turned ('Bts'); what turn does.
-/
namespace Go.Proofs.YtgbclfhgpkmcnaaGreatDoor.Bt
open Go.RowKit
set_option linter.unusedVariables false

/-- A Bits object: block p is the struct, block q its rows. -/
structure Bts (w : World) (p q n : Nat) (F : Nat → Nat → Bool) : Prop where
  few : n ≤ 65536
  tab : Tab w
  p0 : p ≠ 0
  q0 : q ≠ 0
  ne : p ≠ q
  head : w.heap[p]? = some (.cells #[.int .i64 (n : Int), .slice (some ⟨q, 0, none⟩) ((n + 63) / 64) ((n + 63) / 64)] 76)
  row : ∃ c, w.heap[q]? = some (.cells c 99) ∧ ∀ i s, i < (n + 63) / 64 → s < 2 → c[i * 2 + s]? = some (.int .u64 ((rowN (F s) i : Nat) : Int))

section
variable {w w' : World} {p q n : Nat} {F G : Nat → Nat → Bool}
theorem Bts.brd (h : Bts w p q n F) : Brd w (some ⟨p, 0, none⟩) n F := by
  obtain ⟨c, hc, hr⟩ := h.row
  refine ⟨h.few, h.tab, ?_, ?_, by simp⟩
  · intro a ha
    cases ha
    exact ⟨p, rfl, by rw [cell_of_heap h.head]; rfl⟩
  · intro _
    exact ⟨p, q, _, rfl, by rw [cell_of_heap h.head]; rfl, by rw [cell_of_heap h.head]; rfl, rfl, fun i s hi hs => by rw [cell_of_heap hc]; exact hr i s hi hs⟩
theorem Bts.turned (h : Bts w p q n F) {S : List Nat} (t : Turned S w w') (hp : p ∉ S) (hq : q ∉ S) (h0 : 0 ∉ S) : Bts w' p q n F := by
  obtain ⟨c, hc, hr⟩ := h.row
  exact ⟨h.few, h.tab.turned t h0, h.p0, h.q0, h.ne, by rw [t.block p (lt_of_heap h.head) hp]; exact h.head, c, by rw [t.block q (lt_of_heap hc) hq]; exact hc, hr⟩
theorem Bts.turned0 (h : Bts w p q n F) (t : Turned [] w w') : Bts w' p q n F := h.turned t (by simp) (by simp) (by simp)
theorem Bts.drewN (h : Bts w p q n F) (m : Nat) : Bts (w.drewN m) p q n F := h.turned0 ((Turned.refl _ _).drewN m)
theorem Bts.congr (h : Bts w p q n F) (e : ∀ s k, s < 2 → F s k = G s k) : Bts w p q n G := by
  obtain ⟨c, hc, hr⟩ := h.row
  refine ⟨h.few, h.tab, h.p0, h.q0, h.ne, h.head, c, hc, fun i s hi hs => ?_⟩
  rw [hr i s hi hs]
  unfold rowN
  rw [num_congr (fun j hj => e s (64 * i + j) hs)]
theorem Bts.ltp (h : Bts w p q n F) : p < w.heap.size := lt_of_heap h.head
theorem Bts.ltq (h : Bts w p q n F) : q < w.heap.size := by obtain ⟨c, hc, _⟩ := h.row; exact lt_of_heap hc
theorem Bts.fq (h : Bts w p q n F) (i : Nat) : w.frozen? ⟨q, i, none⟩ = false := by
  obtain ⟨c, hc, _⟩ := h.row
  simp [World.frozen?, hc]
theorem Bts.store (h : Bts w p q n F) {i s : Nat} (hi : i < (n + 63) / 64) (hs : s < 2) {x : Nat} (hx : x = rowN (G s) i)
    (hG : ∀ t k, t < 2 → (t ≠ s ∨ k / 64 ≠ i) → G t k = F t k) : Bts (w.setCell ⟨q, i * 2 + s, none⟩ (.int .u64 (x : Int))) p q n G := by
  obtain ⟨c, hc, hr⟩ := h.row
  refine ⟨h.few, h.tab.turned ((Turned.refl [q] w).setCell (p := ⟨q, i * 2 + s, none⟩) (.inl (by simp)) _) (by simp; exact fun e => h.q0 e.symm), h.p0, h.q0, h.ne, by rw [Below.heap_setCell _ _ _ _ (fun e => h.ne e)]; exact h.head, _, heap_setCell_at _ _ _ _ _ _ hc _, fun j t hj ht => ?_⟩
  have hlt : i * 2 + s < c.size := by
    have := hr i s hi hs
    exact (Array.getElem?_eq_some_iff.1 this).1
  rw [Array.getElem?_setIfInBounds]
  by_cases he : i * 2 + s = j * 2 + t
  · rw [if_pos he, if_pos hlt]
    have h1 : i = j := by omega
    have h2 : s = t := by omega
    subst h1; subst h2
    rw [hx]
  · rw [if_neg he, hr j t hj ht]
    have h3 : t ≠ s ∨ j ≠ i := by omega
    unfold rowN
    refine congrArg (fun z : Nat => some (Value.int .u64 (z : Int))) (num_congr fun l hl => (hG t (64 * j + l) ht ?_).symm)
    rcases h3 with h3 | h3
    · exact .inl h3
    · exact .inr (by omega)
end

def In64 (z : Int) : Prop := -9223372036854775808 ≤ z ∧ z ≤ 9223372036854775807
/-- A word's bit turned. -/
def flip (f : Nat → Bool) (k : Nat) : Nat → Bool := fun j => f j ^^ decide (j = k)
theorem bits_xor_u64_nat (a b : Nat) (ha : a < 18446744073709551616) (hb : b < 18446744073709551616) :
    bits .xor .u64 (a : Int) (b : Int) = ((a ^^^ b : Nat) : Int) := by
  have hx : a ^^^ b < 2 ^ 64 := Nat.xor_lt_two_pow (by omega) (by omega)
  have h1 : (BitVec.ofInt 64 (a : Int)).toNat = a := by
    rw [BitVec.ofInt_natCast, BitVec.toNat_ofNat]; exact Nat.mod_eq_of_lt (by omega)
  have h2 : (BitVec.ofInt 64 (b : Int)).toNat = b := by
    rw [BitVec.ofInt_natCast, BitVec.toNat_ofNat]; exact Nat.mod_eq_of_lt (by omega)
  show IntKind.u64.wrap ((BitVec.ofInt 64 (a : Int) ^^^ BitVec.ofInt 64 (b : Int)).toNat : Int) = _
  rw [BitVec.toNat_xor, h1, h2, IntKind.wrap_u64]
  omega
theorem row_flip (f : Nat → Bool) (k : Nat) : bits .xor .u64 ((rowN f (k / 64) : Nat) : Int) ((num (fun j => decide (j = k % 64)) 64 : Nat) : Int) = ((rowN (flip f k) (k / 64) : Nat) : Int) := by
  rw [bits_xor_u64_nat _ _ (rowN_lt _ _) (num_lt64 _)]
  unfold rowN
  rw [num_xor]
  refine congrArg (fun z : Nat => (z : Int)) (num_congr fun j hj => ?_)
  unfold flip
  have : (decide (j = k % 64)) = decide (64 * (k / 64) + j = k) := by
    by_cases h : j = k % 64
    · rw [decide_eq_true h, decide_eq_true (by omega)]
    · rw [decide_eq_false h, decide_eq_false (by omega)]
  rw [this]
theorem flip_far (f : Nat → Bool) (k j : Nat) (h : j / 64 ≠ k / 64) : flip f k j = f j := by
  unfold flip
  have : ¬ j = k := by intro e; subst e; exact h rfl
  simp [this]

/-- Both sides turned. -/
def turnF (F : Nat → Nat → Bool) (a l : Nat) : Nat → Nat → Bool := fun s => if s = 0 then flip (F 0) a else flip (F 1) l

set_option maxHeartbeats 4000000 in
theorem turn_any (p q n : Nat) (F : Nat → Nat → Bool) (a z : Nat) (w : World) (h : Bts w p q n F) (hz : 1 ≤ z) (ha : a + z ≤ n) :
    Calls Tryz.prog 102 #[.pointer (some ⟨p, 0, none⟩), .int .i64 (a : Int), .int .i64 (z : Int)] w fun e w' => e = .returned (.tuple #[]) ∧ Bts w' p q n (turnF F a (a + z - 1)) ∧ Turned [q] w w' := by
  have hn := h.few
  have HB := hide h
  have hia : a / 64 < (n + 63) / 64 := by omega
  have hil : (a + z - 1) / 64 < (n + 63) / 64 := by omega
  have c1 : w.cell? ⟨p, 1, none⟩ = some (.slice (some ⟨q, 0, none⟩) ((n + 63) / 64) ((n + 63) / 64)) := by rw [cell_of_heap h.head]; rfl
  obtain ⟨c, hc, hr⟩ := h.row
  have c2 := hr (a / 64) 0 hia (by omega)
  rw [← cell_of_heap hc, Nat.add_zero] at c2
  have f2 := h.fq (a / 64 * 2)
  have HB1 := hide (fun w => bit_any a w (by omega))
  obtain ⟨l, hl⟩ : ∃ l : Nat, l = a + z - 1 := ⟨_, rfl⟩
  rw [← hl]
  have HB2 := hide (fun w => bit_any l w (by omega))
  have HL := hide hl
  have k1 := row_flip (F 0) a
  have ei : ((a : Int) / 64) = ((a / 64 : Nat) : Int) := by omega
  have HIA := hide hia
  obtain ⟨i, hi⟩ : ∃ i, i = a / 64 := ⟨_, rfl⟩
  obtain ⟨R, hR⟩ : ∃ R, R = (n + 63) / 64 := ⟨_, rfl⟩
  rw [← hi] at c2 f2 k1 ei hia
  rw [← hR] at c1 hia
  have wi : IntKind.i64.wrap (i : Int) = (i : Int) := by rw [IntKind.wrap_i64]; omega
  have HI := hide hi
  have HRR := hide hR
  clear h hr hc hi hR hil hl
  generalize rowN (F 0) i = X at *
  obtain ⟨X', hX⟩ : ∃ X', X' = rowN (flip (F 0) a) i := ⟨_, rfl⟩
  rw [← hX] at k1
  have HX : Hid (X' = rowN (if (0 : Nat) = 0 then flip (F 0) a else F 0) i) := hX
  clear hX
  generalize num (fun j => decide (j = a % 64)) 64 = Y at *
  have hturn1 : Hid (Bts ((w.setCell ⟨q, i * 2, none⟩ (.int .u64 (X' : Int))).drew) p q n (fun s => if s = 0 then flip (F 0) a else F s) ∧ Turned [q] w ((w.setCell ⟨q, i * 2, none⟩ (.int .u64 (X' : Int))).drew)) := by
    refine ⟨?_, ((Turned.refl [q] w).setCell (p := ⟨q, i * 2, none⟩) (.inl (by simp)) _).drew⟩
    have := HB.out.store (G := fun s => if s = 0 then flip (F 0) a else F s) (i := i) (s := 0) (x := X') (by rw [← HRR.out]; exact hia) (by omega) HX.out (fun t k ht hk => by
      by_cases h0 : t = 0
      · subst h0
        have h2 : k / 64 ≠ a / 64 := by rw [← HI.out]; omega
        simp only [if_true]
        exact flip_far _ _ _ h2
      · simp only [if_neg h0])
    exact this.turned0 (Turned.refl [] _).drew
  go_enter Tryz.func102, Tryz.ntmps102
  go_upto_region 1 with fail
  go_cut [11, 12, 13, 14, 15, 16, 17, 18, 19, 20, 21, 22, 23, 24] (fun _ _ _ _ _ _ _ _ _ _ _ _ _ _ wc => Aside (Bts wc p q n (fun s => if s = 0 then flip (F 0) a else F s) ∧ Turned [q] w wc))
  case first =>
    go_region_with ((go_at_call 42; refine (HB1.out _).mono ?_; rintro e w' ⟨rfl, rfl⟩))
    all_goals (go_wp2_with fail; go_meet; exact hturn1.out)
  case rest =>
    obtain ⟨hb2, ht2⟩ := hcut.out
    have hl := HL.out
    have el : (a : Int) + (z : Int) - 1 = (l : Int) := by omega
    rw [el]
    have hil : l / 64 < (n + 63) / 64 := by omega
    have d1 : wc.cell? ⟨p, 1, none⟩ = some (.slice (some ⟨q, 0, none⟩) ((n + 63) / 64) ((n + 63) / 64)) := by rw [cell_of_heap hb2.head]; rfl
    obtain ⟨c', hc', hr'⟩ := hb2.row
    have d2 := hr' (l / 64) 1 hil (by omega)
    rw [← cell_of_heap hc'] at d2
    simp only [if_neg (show ¬ (1 : Nat) = 0 by omega)] at d2
    have g2 := hb2.fq (l / 64 * 2 + 1)
    have k2 := row_flip (F 1) l
    have ej : ((l : Int) / 64) = ((l / 64 : Nat) : Int) := by omega
    obtain ⟨j, hj⟩ : ∃ j, j = l / 64 := ⟨_, rfl⟩
    rw [← hj] at d2 g2 k2 ej hil
    rw [← HRR.out] at d1
    have hjR : j < R := by rw [HRR.out]; exact hil
    have wj : IntKind.i64.wrap (j : Int) = (j : Int) := by rw [IntKind.wrap_i64]; omega
    obtain ⟨Z', hZ⟩ : ∃ Z', Z' = rowN (flip (F 1) l) j := ⟨_, rfl⟩
    rw [← hZ] at k2
    have hturn2 : Hid (Bts ((wc.setCell ⟨q, j * 2 + 1, none⟩ (.int .u64 (Z' : Int))).drew) p q n (turnF F a l) ∧ Turned [q] w ((wc.setCell ⟨q, j * 2 + 1, none⟩ (.int .u64 (Z' : Int))).drew)) := by
      refine ⟨?_, (ht2.setCell (p := ⟨q, j * 2 + 1, none⟩) (.inl (by simp)) _).drew⟩
      have := hb2.store (G := turnF F a l) (i := j) (s := 1) (x := Z') hil (by omega) hZ (fun t k ht hk => by
        unfold turnF
        by_cases h0 : t = 0
        · subst h0; rfl
        · have h1 : t = 1 := by omega
          subst h1
          have h2 : k / 64 ≠ l / 64 := by rw [← hj]; omega
          exact flip_far _ _ _ h2)
      exact this.turned0 (Turned.refl [] _).drew
    clear hcut hb2 ht2 hc' hr' hZ hj hl hil el HB HB1 hturn1 c1 c2 f2 k1 ei wi hia
    generalize rowN (F 1) j = Z at *
    generalize num (fun j => decide (j = l % 64)) 64 = Y2 at *
    go_wp2_with fail
    go_region_with ((go_at_call 42; refine (HB2.out _).mono ?_; rintro e w' ⟨rfl, rfl⟩))
    all_goals (go_wp2_with fail; refine bodyPost_end (results_none rfl _ _ _) rfl ?_; exact ⟨rfl, hturn2.out⟩)
end Go.Proofs.YtgbclfhgpkmcnaaGreatDoor.Bt

/-
  One block marked, one taken away, ranges cleared: by the sizes. No Go is walked here.
-/
namespace Go.Proofs.YtgbclfhgpkmcnaaGreatDoor.Bt
open Go.RowKit
set_option linter.unusedVariables false

def upd (S : Nat → Nat) (a z : Nat) : Nat → Nat := fun k => if k = a then z else S k
theorem upd_at (S : Nat → Nat) (a z : Nat) : upd S a z a = z := by unfold upd; rw [if_pos rfl]
theorem upd_ne (S : Nat → Nat) {a z k : Nat} (h : k ≠ a) : upd S a z k = S k := by unfold upd; rw [if_neg h]
theorem upd_upd (S : Nat → Nat) (a z y : Nat) : upd (upd S a z) a y = upd S a y := by
  funext k; unfold upd; split <;> rfl
theorem upd_same (S : Nat → Nat) (a : Nat) : upd S a (S a) = S := by
  funext k; unfold upd; split
  · rename_i h; rw [h]
  · rfl

/-- The words from a to a + z are nobody's. -/
def Free (S : Nat → Nat) (a z : Nat) : Prop := ∀ k, a ≤ k → k < a + z → live S k = false
theorem free_no {S : Nat → Nat} {a z b : Nat} (h : Free S a z) (hz : 1 ≤ z) (hb : 0 < S b) : b + S b ≤ a ∨ a + z ≤ b := by
  by_cases h1 : a < b + S b
  · by_cases h2 : b < a + z
    · exfalso
      have h3 := h (max a b) (by omega) (by omega)
      unfold live at h3
      rw [bo_false] at h3
      exact h3 ⟨b, by unfold Cov; omega⟩
    · omega
  · omega
theorem Bl.mark {n : Nat} {S : Nat → Nat} (h : Bl n S) {a z : Nat} (hz : 1 ≤ z) (ha : a + z ≤ n) (hf : Free S a z) : Bl n (upd S a z) := by
  constructor
  · intro b hb
    by_cases hba : b = a
    · subst hba; rw [upd_at]; exact ha
    · rw [upd_ne S hba] at hb ⊢; exact h.into b hb
  · intro b c hbc hb hc
    by_cases hba : b = a
    · subst hba
      rw [upd_at]
      rw [upd_ne S (by omega)] at hc
      have := free_no hf hz hc
      omega
    · rw [upd_ne S hba] at hb ⊢
      by_cases hca : c = a
      · subst hca
        have := free_no hf hz hb
        omega
      · rw [upd_ne S hca] at hc
        exact h.apart b c hbc hb hc
theorem Bl.off {n : Nat} {S : Nat → Nat} (h : Bl n S) (a : Nat) : Bl n (upd S a 0) := by
  have k : ∀ b, 0 < upd S a 0 b → upd S a 0 b = S b := by
    intro b hb
    by_cases hba : b = a
    · subst hba; rw [upd_at] at hb; omega
    · exact upd_ne S hba
  constructor
  · intro b hb
    have e := k b hb
    rw [e] at hb ⊢
    exact h.into b hb
  · intro b c hbc hb hc
    have e := k b hb
    have e2 := k c hc
    rw [e] at hb ⊢
    rw [e2] at hc
    exact h.apart b c hbc hb hc
theorem Bl.free_off {n : Nat} {S : Nat → Nat} (h : Bl n S) (a : Nat) : Free (upd S a 0) a (S a) := by
  intro k h1 h2
  unfold live
  rw [bo_false]
  rintro ⟨b, hb1, hb2⟩
  by_cases hba : b = a
  · subst hba; rw [upd_at] at hb2; omega
  · rw [upd_ne S hba] at hb2
    exact hba (h.one (k := k) ⟨hb1, hb2⟩ ⟨h1, h2⟩)

/-- The bits turned are those of the block. -/
theorem sides_mark {n : Nat} {S : Nat → Nat} {a z : Nat} (h0 : S a = 0) (hz : 1 ≤ z) (hf : Free S a z) (s k : Nat) (hs : s < 2) : turnF (sidesOf S) a (a + z - 1) s k = sidesOf (upd S a z) s k := by
  unfold turnF
  by_cases h : s = 0
  · subst h
    simp only [if_true]
    rw [sidesOf0, sidesOf0]
    unfold flip begs
    by_cases hk : k = a
    · subst hk
      rw [upd_at]
      simp [h0]
      omega
    · rw [upd_ne S hk]
      simp [hk]
  · have h1 : s = 1 := by omega
    subst h1
    simp only [if_neg (show ¬ (1 : Nat) = 0 by omega)]
    rw [sidesOf1, sidesOf1]
    unfold flip
    by_cases hk : k = a + z - 1
    · have e1 : ends S k = false := by
        unfold ends; rw [bo_false]
        rintro ⟨b, hb, hb2⟩
        have := free_no hf hz hb
        omega
      have e2 : ends (upd S a z) k = true := by
        unfold ends; rw [bo_true]
        exact ⟨a, by rw [upd_at]; omega, by rw [upd_at]; omega⟩
      rw [e1, e2, decide_eq_true hk]; rfl
    · rw [decide_eq_false hk, Bool.xor_false]
      rw [Bool.eq_iff_iff]
      unfold ends
      rw [bo_true, bo_true]
      constructor
      · rintro ⟨b, hb, hb2⟩
        have hba : b ≠ a := by intro e; subst e; omega
        exact ⟨b, by rw [upd_ne S hba]; exact hb, by rw [upd_ne S hba]; exact hb2⟩
      · rintro ⟨b, hb, hb2⟩
        have hba : b ≠ a := by intro e; subst e; rw [upd_at] at hb2; omega
        rw [upd_ne S hba] at hb hb2
        exact ⟨b, hb, hb2⟩
theorem flip_flip (f : Nat → Bool) (k : Nat) (j : Nat) : flip (flip f k) k j = f j := by
  unfold flip
  cases f j <;> cases decide (j = k) <;> rfl
theorem sides_off {n : Nat} {S : Nat → Nat} (h : Bl n S) {a : Nat} (ha : 0 < S a) (s k : Nat) (hs : s < 2) : turnF (sidesOf S) a (a + S a - 1) s k = sidesOf (upd S a 0) s k := by
  have h1 := fun k => sides_mark (n := n) (S := upd S a 0) (a := a) (z := S a) (upd_at S a 0) (by omega) (h.free_off a) s k hs
  rw [upd_upd, upd_same] at h1
  unfold turnF at h1 ⊢
  by_cases h0 : s = 0
  · subst h0
    simp only [if_true] at h1 ⊢
    have : flip (sidesOf S 0) a = flip (flip (sidesOf (upd S a 0) 0) a) a := by
      congr 1; funext k; exact (h1 k).symm
    rw [this, flip_flip]
  · have h2 : s = 1 := by omega
    subst h2
    simp only [if_neg (show ¬ (1 : Nat) = 0 by omega)] at h1 ⊢
    have : flip (sidesOf S 1) (a + S a - 1) = flip (flip (sidesOf (upd S a 0) 1) (a + S a - 1)) (a + S a - 1) := by
      congr 1; funext k; exact (h1 k).symm
    rw [this, flip_flip]

open Classical in
/-- What Mark tells, and the sizes behind it. -/
noncomputable def markT (n : Nat) (S : Nat → Nat) (x z : Int) : Bool × Int × (Nat → Nat) :=
  if ¬ (0 ≤ x ∧ x < n) then (false, 10, S)
  else if z < 1 ∨ n - x < z then (false, 11, S)
  else if 0 < S x.toNat then (false, 0, S)
  else if Free S x.toNat z.toNat then (true, 0, upd S x.toNat z.toNat)
  else (false, 11, S)
theorem markT_bl {n : Nat} {S : Nat → Nat} (h : Bl n S) (x z : Int) : Bl n (markT n S x z).2.2 := by
  unfold markT
  split
  · exact h
  · split
    · exact h
    · split
      · exact h
      · split
        · rename_i h1 h2 h3 h4
          exact h.mark (by omega) (by omega) h4
        · exact h
/-- What a range is cleared to. -/
def clr (S : Nat → Nat) (a b : Nat) : Nat → Nat := fun k => if a ≤ k ∧ k < b then 0 else S k
theorem Bl.clr {n : Nat} {S : Nat → Nat} (h : Bl n S) (a b : Nat) : Bl n (clr S a b) := by
  have k : ∀ c, 0 < YtgbclfhgpkmcnaaGreatDoor.Bt.clr S a b c → YtgbclfhgpkmcnaaGreatDoor.Bt.clr S a b c = S c := by
    intro c hc
    unfold YtgbclfhgpkmcnaaGreatDoor.Bt.clr at hc ⊢
    split
    · rename_i h1; rw [if_pos h1] at hc; omega
    · rfl
  constructor
  · intro b hb
    have e := k b hb
    rw [e] at hb ⊢
    exact h.into b hb
  · intro b c hbc hb hc
    have e := k b hb
    have e2 := k c hc
    rw [e] at hb ⊢
    rw [e2] at hc
    exact h.apart b c hbc hb hc
theorem free_cnt (S : Nat → Nat) (a z : Nat) : Free S a z ↔ cntIn (live S) a (a + z) = 0 := by
  unfold cntIn
  rw [cnt_zero_iff]
  constructor
  · intro h j hj
    unfold inn
    by_cases h1 : a ≤ j
    · rw [h j h1 hj]; simp
    · simp [h1]
  · intro h k h1 h2
    have h3 := h k h2
    unfold inn at h3
    simpa [h1, h2] using h3
end Go.Proofs.YtgbclfhgpkmcnaaGreatDoor.Bt

/-
  What Mark does and tells.
-/
namespace Go.Proofs.YtgbclfhgpkmcnaaGreatDoor.Bt
open Go.RowKit
set_option linter.unusedVariables false

theorem mark_any (p q n : Nat) (S : Nat → Nat) (x z : Int) (w : World) (h : Bts w p q n (sidesOf S)) (hs : Bl n S) (hz : In64 z) :
    Calls Tryz.prog 89 #[.pointer (some ⟨p, 0, none⟩), .int .i64 x, .int .i64 z] w fun e w' => e = .returned (.tuple #[.bool (markT n S x z).1, .int .i64 (markT n S x z).2.1]) ∧ Bts w' p q n (sidesOf (markT n S x z).2.2) ∧ Turned [q] w w' := by
  have hn := h.few
  unfold In64 at hz
  obtain ⟨M, hM⟩ : ∃ M, M = markT n S x z := ⟨_, rfl⟩
  rw [← hM]
  unfold markT at hM
  have H := hide (inside_any (some ⟨p, 0, none⟩) n _ x w h.brd)
  have HB := hide h
  have HS := hide hs
  by_cases h0 : 0 ≤ x ∧ x < n
  · rw [if_neg (by simpa using h0)] at hM
    have e1 : (decide (0 ≤ x) && decide (x < n)) = true := by simp only [Bool.and_eq_true, decide_eq_true_eq]; exact h0
    rw [e1] at H
    obtain ⟨a, rfl⟩ := Int.eq_ofNat_of_zero_le h0.1
    rw [Int.toNat_natCast] at hM
    have han : a < n := by omega
    have c0 : w.cell? ⟨p, 0, none⟩ = some (.int .i64 (n : Int)) := by rw [cell_of_heap h.head]; rfl
    by_cases h1 : z < 1 ∨ (n : Int) - a < z
    · rw [if_pos h1] at hM
      subst hM
      clear h hs e1
      by_cases h2 : z < 1
      · go_enter Tryz.func89, Tryz.ntmps89
        go_wp2_with fail
        refine (H.out).mono ?_
        rintro e w1 ⟨rfl, rfl⟩
        go_wp2_with fail
        go_ret2
        exact ⟨rfl, HB.out, Turned.refl _ _⟩
      · have hd : decide (z < 1) = false := decide_eq_false h2
        have h3 : (n : Int) - a < z := by omega
        go_enter Tryz.func89, Tryz.ntmps89
        go_wp2_with fail
        refine (H.out).mono ?_
        rintro e w1 ⟨rfl, rfl⟩
        go_wp2_with fail
        go_ret2
        exact ⟨rfl, HB.out, Turned.refl _ _⟩
    · rw [if_neg h1] at hM
      have hz1 : ¬ z < 1 := by omega
      obtain ⟨y, rfl⟩ := Int.eq_ofNat_of_zero_le (show 0 ≤ z by omega)
      rw [Int.toNat_natCast] at hM
      have hay : a + y ≤ n := by omega
      have hd : decide ((y : Int) < 1) = false := decide_eq_false hz1
      have hd2 : ¬ ((n : Int) - a < y) := by omega
      have HH := hide (bhas_any (some ⟨p, 0, none⟩) n S a w h.brd hs)
      rw [szI_nat] at HH
      by_cases h2 : 0 < S a
      · rw [if_pos h2] at hM
        subst hM
        rw [decide_eq_true h2] at HH
        clear h hs e1 h1 h0
        go_enter Tryz.func89, Tryz.ntmps89
        go_wp2_with fail
        refine (H.out).mono ?_
        rintro e w1 ⟨rfl, rfl⟩
        go_wp2_with fail
        refine (HH.out).mono ?_
        rintro e w2 ⟨rfl, m, rfl⟩
        go_wp2_with fail
        go_ret2
        exact ⟨rfl, HB.out.drewN m, (Turned.refl _ _).drewN m⟩
      · rw [if_neg h2] at hM
        rw [decide_eq_false h2] at HH
        have HL := hide (fun m => live_any (some ⟨p, 0, none⟩) n S a ((a : Int) + y) (w.drewN m) (h.drewN m).brd hs)
        have k1 : kp n (a : Int) = a := by unfold kp; omega
        have k2 : kp n ((a : Int) + y) = a + y := by unfold kp; omega
        rw [k1, k2] at HL
        by_cases h3 : Free S a y
        · rw [if_pos h3] at hM
          subst hM
          rw [(free_cnt S a y).1 h3] at HL
          have HT := hide (fun w h => turn_any p q n (sidesOf S) a y w h (by omega) hay)
          have HF := hide (fun s k hs => sides_mark (n := n) (S := S) (a := a) (z := y) (by omega) (by omega) h3 s k hs)
          clear h hs e1 h1 h0 h3 k1 k2
          go_enter Tryz.func89, Tryz.ntmps89
          go_wp2_with fail
          refine (H.out).mono ?_
          rintro e w1 ⟨rfl, rfl⟩
          go_wp2_with fail
          refine (HH.out).mono ?_
          rintro e w2 ⟨rfl, m, rfl⟩
          go_wp2_with fail
          refine (HL.out m).mono ?_
          rintro e w3 ⟨rfl, ht3⟩
          go_wp2_with fail
          refine (HT.out w3 ((HB.out.drewN m).turned0 ht3)).mono ?_
          rintro e w4 ⟨rfl, hb4, ht4⟩
          have HR := hide (And.intro (hb4.congr HF.out) (((((Turned.refl [q] w1).drewN m).trans (ht3.mono (by simp)))).trans ht4))
          clear hb4 ht4 ht3
          go_wp2_with fail
          go_ret2
          exact ⟨rfl, HR.out⟩
        · rw [if_neg h3] at hM
          subst hM
          have hpos : 0 < cntIn (live S) a (a + y) := by
            have := mt (free_cnt S a y).2 h3
            omega
          have hle := cntIn_le (live S) a (a + y)
          generalize cntIn (live S) a (a + y) = c at *
          clear h hs e1 h1 h0 h3 k1 k2
          go_enter Tryz.func89, Tryz.ntmps89
          go_wp2_with fail
          refine (H.out).mono ?_
          rintro e w1 ⟨rfl, rfl⟩
          go_wp2_with fail
          refine (HH.out).mono ?_
          rintro e w2 ⟨rfl, m, rfl⟩
          go_wp2_with fail
          refine (HL.out m).mono ?_
          rintro e w3 ⟨rfl, ht3⟩
          go_wp2_with fail
          go_ret2
          exact ⟨rfl, (HB.out.drewN m).turned0 ht3, ((Turned.refl [q] w1).drewN m).trans (ht3.mono (by simp))⟩
  · rw [if_pos h0] at hM
    subst hM
    have e1 : (decide (0 ≤ x) && decide (x < n)) = false := by
      rw [← Bool.not_eq_true]; simp only [Bool.and_eq_true, decide_eq_true_eq]; exact h0
    rw [e1] at H
    clear h hs e1
    go_enter Tryz.func89, Tryz.ntmps89
    go_wp2_with fail
    refine (H.out).mono ?_
    rintro e w1 ⟨rfl, rfl⟩
    go_wp2_with fail
    go_ret2
    exact ⟨rfl, HB.out, Turned.refl _ _⟩

/-- Mark of no object, or of one without words. -/
theorem mark_nil (ov : Option Addr) (F : Nat → Nat → Bool) (x z : Int) (w : World) (h : Brd w ov 0 F) :
    Calls Tryz.prog 89 #[.pointer ov, .int .i64 x, .int .i64 z] w fun e w' => e = .returned (.tuple #[.bool false, .int .i64 10]) ∧ w' = w := by
  have H := hide (inside_any ov 0 _ x w h)
  have e1 : (decide (0 ≤ x) && decide (x < ((0 : Nat) : Int))) = false := by
    rw [← Bool.not_eq_true]; simp only [Bool.and_eq_true, decide_eq_true_eq]; omega
  rw [e1] at H
  clear h e1
  go_enter Tryz.func89, Tryz.ntmps89
  go_wp2_with fail
  refine (H.out).mono ?_
  rintro e w1 ⟨rfl, rfl⟩
  go_wp2_with fail
  go_ret2
  exact ⟨rfl, rfl⟩
end Go.Proofs.YtgbclfhgpkmcnaaGreatDoor.Bt

/-
  What Clear does.
-/
namespace Go.Proofs.YtgbclfhgpkmcnaaGreatDoor.Bt
open Go.RowKit
set_option linter.unusedVariables false

/-- An object, nil or not; with words it is Bts. -/
structure Ob (w : World) (ov : Option Addr) (p q n : Nat) (S : Nat → Nat) : Prop where
  rd : Brd w ov n (sidesOf S)
  bl : Bl n S
  own : 0 < n → ov = some ⟨p, 0, none⟩ ∧ Bts w p q n (sidesOf S)
theorem Bts.ob {w : World} {p q n : Nat} {S : Nat → Nat} (h : Bts w p q n (sidesOf S)) (hs : Bl n S) : Ob w (some ⟨p, 0, none⟩) p q n S := ⟨h.brd, hs, fun _ => ⟨rfl, h⟩⟩
theorem Ob.turned0 {w w' : World} {ov : Option Addr} {p q n : Nat} {S : Nat → Nat} (h : Ob w ov p q n S) (t : Turned [] w w') : Ob w' ov p q n S :=
  ⟨h.rd.turned t, h.bl, fun hn => ⟨(h.own hn).1, (h.own hn).2.turned0 t⟩⟩

/-- Spans, one behind the other. -/
def clrs (n : Nat) (S : Nat → Nat) (sp : List (Int × Int)) : Nat → Nat := sp.foldl (fun S r => clr S (kp n r.1) (kp n r.2)) S
theorem clrs_snoc (n : Nat) (S : Nat → Nat) (sp : List (Int × Int)) (k : Nat) (r : Int × Int) (h : sp[k]? = some r) : clrs n S (sp.take (k + 1)) = clr (clrs n S (sp.take k)) (kp n r.1) (kp n r.2) := by
  have hk : k < sp.length := (List.getElem?_eq_some_iff.1 h).1
  have e : sp.take (k + 1) = sp.take k ++ [r] := by rw [List.take_add_one, h]; rfl
  unfold clrs
  rw [e, List.foldl_append]
  rfl
theorem clrs_bl {n : Nat} {S : Nat → Nat} (h : Bl n S) (sp : List (Int × Int)) : Bl n (clrs n S sp) := by
  unfold clrs
  induction sp generalizing S with
  | nil => exact h
  | cons r sp ih => exact ih (h.clr _ _)
/-- Spans that can be read. -/
structure SpRd (w : World) (g : Nat) (sp : List (Int × Int)) : Prop where
  cell : ∀ i r, sp[i]? = some r → w.cell? ⟨g, i * 2, none⟩ = some (.int .i64 r.1) ∧ w.cell? ⟨g, i * 2 + 1, none⟩ = some (.int .i64 r.2)
theorem SpRd.turned {w w' : World} {g : Nat} {sp : List (Int × Int)} {T : List Nat} (h : SpRd w g sp) (t : Turned T w w') (hg : g ∉ T) : SpRd w' g sp :=
  ⟨fun i r hr => by
    obtain ⟨h1, h2⟩ := h.cell i r hr
    exact ⟨by rw [t.cell (block_lt h1) hg]; exact h1, by rw [t.cell (block_lt h2) hg]; exact h2⟩⟩

/-- What the inner loop keeps: outside the range all is as it was; within it, as it was or nothing. -/
def Part (S T : Nat → Nat) (a b : Nat) : Prop := ∀ k, T k = S k ∨ (a ≤ k ∧ k < b ∧ T k = 0)
theorem part_done {S T : Nat → Nat} {a b : Nat} (h : Part S T a b) (hn : ∀ k, a ≤ k → k < b → begs T k = false) : T = clr S a b := by
  funext k
  unfold clr
  split
  · rename_i h1
    have h2 := hn k h1.1 h1.2
    unfold begs at h2
    simp at h2
    exact h2
  · rename_i h1
    rcases h k with h2 | ⟨h2, h3, _⟩
    · exact h2
    · exact absurd ⟨h2, h3⟩ h1
theorem part_off {S T : Nat → Nat} {a b k : Nat} (h : Part S T a b) (h1 : a ≤ k) (h2 : k < b) : Part S (upd T k 0) a b := by
  intro j
  by_cases hj : j = k
  · subst hj; exact .inr ⟨h1, h2, upd_at _ _ _⟩
  · rw [upd_ne T hj]; exact h j
theorem next_off {T : Nat → Nat} {a b k : Nat} {r : Int} (h1 : a ≤ k) (h2 : k < b) (hl : ∀ j, a ≤ j → j < k → begs T j = false) (hr : IsNext (begs (upd T k 0)) k b r) : IsNext (begs (upd T k 0)) a b r ∧ (r = -1 ∨ (k : Int) < r) := by
  have hk : begs (upd T k 0) k = false := by unfold begs; rw [upd_at]; rfl
  have hl2 : ∀ j, a ≤ j → j < k → begs (upd T k 0) j = false := by
    intro j h3 h4
    have := hl j h3 h4
    unfold begs at this ⊢
    rw [upd_ne T (by omega)]
    exact this
  rcases hr with ⟨rfl, h3⟩ | ⟨j, rfl, h3, h4, h5, h6⟩
  · refine ⟨.inl ⟨rfl, fun j h4 h5 => ?_⟩, .inl rfl⟩
    by_cases hj : j < k
    · exact hl2 j h4 hj
    · exact h3 j (by omega) h5
  · have hjk : j ≠ k := by intro e; subst e; rw [hk] at h5; cases h5
    refine ⟨.inr ⟨j, rfl, by omega, h4, h5, fun i h7 h8 => ?_⟩, .inr (by omega)⟩
    by_cases hi : i < k
    · exact hl2 i h7 hi
    · exact h6 i (by omega) h8

/-- The inner loop's measure. -/
def msr (n : Nat) (v : Value) : Nat := if intOf v < 0 then 0 else (n + 1 - intOf v).toNat
theorem msr_down {n j : Nat} {r : Int} (hj : j ≤ n) (h : r = -1 ∨ (j : Int) < r) : msr n (.int .i64 r) < msr n (.int .i64 (j : Int)) := by
  unfold msr
  have e1 : intOf (Value.int .i64 r) = r := rfl
  have e2 : intOf (Value.int .i64 (j : Int)) = (j : Int) := rfl
  rw [e1, e2, if_neg (show ¬ ((j : Int) < 0) by omega)]
  split <;> omega
theorem IsNext.range {f : Nat → Bool} {a b : Nat} {r : Int} (h : IsNext f a b r) (hb : b ≤ 65536) : -1 ≤ r ∧ r < 65536 := by
  rcases h with ⟨rfl, _⟩ | ⟨k, rfl, _, h2, _⟩ <;> omega

end Go.Proofs.YtgbclfhgpkmcnaaGreatDoor.Bt

/-
  What New makes.
-/
namespace Go.Proofs.YtgbclfhgpkmcnaaGreatDoor.Bt
open Go.RowKit
set_option linter.unusedVariables false

theorem Tryz.infoRow : (Tryz.prog.info? 99).map (fun i => (i.zero, i.size, i.bytes)) = some (some (.agg #[.int .u64 0, .int .u64 0]), 2, 16) := by kernel_rfl
theorem Bl.none (n : Nat) : Bl n (fun _ => 0) := ⟨fun a h => absurd h (by simp), fun a b _ h => absurd h (by simp)⟩
theorem sides_none (s k : Nat) : sidesOf (fun _ => 0) s k = false := by
  unfold sidesOf
  split
  · rfl
  · unfold ends; rw [bo_false]; rintro ⟨a, h, _⟩; exact absurd h (by simp)
theorem row_none (s i : Nat) : rowN (sidesOf (fun _ => 0) s) i = 0 := num_zero fun j _ => sides_none _ _
theorem made_zero (R i s : Nat) (hi : i < R) (hs : s < 2) : (madeCells #[Value.int .u64 0, Value.int .u64 0] (R * 2))[i * 2 + s]? = some (.int .u64 0) := by
  unfold madeCells
  rw [Array.getElem?_map, Array.getElem?_range, if_pos (by omega)]
  have : (i * 2 + s) % 2 = 0 ∨ (i * 2 + s) % 2 = 1 := by omega
  rcases this with h | h <;> simp [h]

theorem new_any (x : Int) (w : World) (hx : In64 x) (hT : Tab w) :
    Calls Tryz.prog 11 #[.int .i64 x] w fun e w' => ∃ p q, e = .returned (.pointer (some ⟨p, 0, none⟩)) ∧ Bts w' p q (kp 65536 x) (sidesOf (fun _ => 0)) ∧ w.heap.size ≤ p ∧ w.heap.size ≤ q ∧ Turned [] w w' := by
  unfold In64 at hx
  have hn := kp_le 65536 x
  have ex : min (max x 0) 65536 = (kp 65536 x : Int) := by unfold kp; omega
  have HR := hide (fun w => rows_any (kp 65536 x) w hn)
  generalize kp 65536 x = n at *
  obtain ⟨R, hR⟩ : ∃ R, R = (n + 63) / 64 := ⟨_, rfl⟩
  rw [← hR] at HR
  have HRR := hide hR
  have hRl : R ≤ 1024 := by omega
  have HT := hide hT
  clear hR
  obtain ⟨i0, hi, hi0⟩ := Option.map_eq_some_iff.1 Tryz.infoRow
  simp only [Prod.mk.injEq] at hi0
  obtain ⟨hz0, hz1, hz2⟩ := hi0
  have hmk : ∀ w : World, (Instr.makeSlice 74 (.int .i64 (R : Int)) (.int .i64 (R : Int))).run Tryz.prog w = .ok (.slice (some ⟨w.heap.size, 0, none⟩) R R) (w.alloc (.cells (madeCells #[.int .u64 0, .int .u64 0] (R * 2)) 99)) := fun w => by
    have hr := run_make (P := Tryz.prog) w 74 99 i0 (.agg #[.int .u64 0, .int .u64 0]) Tryz.underlying74 hi hz0 .i64 .i64 R R (by omega) (by omega) (by rw [hz2]; omega) (by omega)
    simp only [hz1, Int.toNat_natCast] at hr
    exact hr
  go_enter Tryz.func11, Tryz.ntmps11
  go_wp2_with fail
  refine (HR.out _).mono ?_
  rintro e w1 ⟨rfl, rfl⟩
  go_wp2_with fail
  go_ret
  have h0 : 0 < w1.heap.size := block_lt (HT.out 0 (by omega))
  have ht : Turned [] w1 ((w1.alloc (.cells (madeCells #[.int .u64 0, .int .u64 0] (R * 2)) 99)).alloc (.cells #[.int .i64 (n : Int), .slice (some ⟨w1.heap.size, 0, none⟩) R R] 76)) := ((Turned.refl [] w1).alloc _).alloc _
  have hs1 : (w1.alloc (.cells (madeCells #[.int .u64 0, .int .u64 0] (R * 2)) 99)).heap.size = w1.heap.size + 1 := by simp
  refine ⟨w1.heap.size + 1, w1.heap.size, rfl, ⟨hn, HT.out.turned ht (by simp), by omega, by omega, by omega, ?_, ⟨madeCells #[.int .u64 0, .int .u64 0] (R * 2), ?_, fun i s hi hs => ?_⟩⟩, by omega, by omega, ht⟩
  · rw [← HRR.out]
    have h1 := heap_alloc_new (w1.alloc (.cells (madeCells #[.int .u64 0, .int .u64 0] (R * 2)) 99)) (.cells #[.int .i64 (n : Int), .slice (some ⟨w1.heap.size, 0, none⟩) R R] 76)
    rw [hs1] at h1
    exact h1
  · rw [Below.heap_alloc _ _ _ (by rw [hs1]; omega)]
    exact heap_alloc_new _ _
  · rw [row_none]
    exact made_zero R i s (by rw [HRR.out]; exact hi) hs
end Go.Proofs.YtgbclfhgpkmcnaaGreatDoor.Bt

/-
  Sums of sizes and counts of live words. No Go is walked here.
-/
namespace Go.Proofs.YtgbclfhgpkmcnaaGreatDoor.Bt
open Go.RowKit
set_option linter.unusedVariables false

def S0 : Nat → Nat := fun _ => 0
/-- The sizes together, below m. -/
def tot (S : Nat → Nat) : Nat → Nat
  | 0 => 0
  | m + 1 => tot S m + S m
theorem tot_live_aux {n : Nat} {S : Nat → Nat} (h : Bl n S) (m : Nat) : ∃ r, tot S m = cnt (live S) m + r ∧ ((r = 0 ∧ opn S m = false) ∨ ∃ a, a < m ∧ m < a + S a ∧ r = a + S a - m) := by
  induction m with
  | zero => exact ⟨0, rfl, .inl ⟨rfl, opn_zero S⟩⟩
  | succ m ih =>
    obtain ⟨r, h1, h2⟩ := ih
    have hl := live_eq h m
    rw [tot, cnt, h1]
    by_cases hs : 0 < S m
    · have hb : begs S m = true := by unfold begs; simpa using hs
      have hr : r = 0 := by
        rcases h2 with ⟨h3, _⟩ | ⟨a, h3, h4, _⟩
        · exact h3
        · have := h.apart a m h3 (by omega) hs
          omega
      have hlv : live S m = true := by unfold live; rw [bo_true]; exact ⟨m, by unfold Cov; omega⟩
      refine ⟨S m - 1, by rw [hlv]; simp; omega, ?_⟩
      by_cases h1s : S m = 1
      · refine .inl ⟨by omega, ?_⟩
        unfold opn; rw [bo_false]; rintro ⟨a, h3, h4⟩
        have := h.one (a := a) (b := m) (k := m) ⟨by omega, by omega⟩ ⟨by omega, by omega⟩
        subst this; omega
      · exact .inr ⟨m, by omega, by omega, by omega⟩
    · have hs0 : S m = 0 := by omega
      rcases h2 with ⟨h3, h4⟩ | ⟨a, h3, h4, h5⟩
      · have hb : begs S m = false := by unfold begs; simpa using hs
        have hlv : (live S m).toNat = 0 := by rw [hl, hb, h4]; rfl
        refine ⟨0, by omega, .inl ⟨rfl, ?_⟩⟩
        have h6 := opn_succ h m
        cases ho : opn S (m + 1)
        · rfl
        · rw [ho] at h6
          have h7 : (true).toNat = 1 := rfl
          omega
      · have hlv : live S m = true := by unfold live; rw [bo_true]; exact ⟨a, by unfold Cov; omega⟩
        refine ⟨r - 1, by rw [hlv]; simp; omega, ?_⟩
        by_cases h6 : m + 1 < a + S a
        · exact .inr ⟨a, by omega, h6, by omega⟩
        · refine .inl ⟨by omega, ?_⟩
          unfold opn; rw [bo_false]; rintro ⟨b, h7, h8⟩
          have hbm : b ≠ m := by intro e; subst e; omega
          have := h.one (a := a) (b := b) (k := m) ⟨by omega, by omega⟩ ⟨by omega, by omega⟩
          subst this; omega
theorem tot_live {n : Nat} {S : Nat → Nat} (h : Bl n S) : tot S n = cnt (live S) n := by
  obtain ⟨r, h1, h2⟩ := tot_live_aux h n
  rcases h2 with ⟨h3, _⟩ | ⟨a, h3, h4, _⟩
  · omega
  · have := h.into a (by omega)
    omega
theorem tot_none (m : Nat) : tot S0 m = 0 := by
  induction m with
  | zero => rfl
  | succ m ih => rw [tot, ih]; rfl
theorem tot_congr {S T : Nat → Nat} {m : Nat} (h : ∀ k, k < m → S k = T k) : tot S m = tot T m := by
  induction m with
  | zero => rfl
  | succ m ih => rw [tot, tot, ih (fun k hk => h k (by omega)), h m (by omega)]
theorem tot_upd (S : Nat → Nat) (a z n : Nat) (ha : a < n) : tot (upd S a z) n + S a = tot S n + z := by
  induction n with
  | zero => omega
  | succ n ih =>
    rw [tot, tot]
    by_cases h : a = n
    · subst h
      rw [upd_at, tot_congr (S := upd S a z) (T := S) (fun k hk => upd_ne S (by omega))]
      omega
    · rw [upd_ne S (fun e => h e.symm)]
      have := ih (by omega)
      omega
theorem tot_skip {S : Nat → Nat} {a b : Nat} (hab : a ≤ b) (h : ∀ k, a ≤ k → k < b → begs S k = false) : tot S b = tot S a := by
  obtain ⟨d, rfl⟩ := Nat.exists_eq_add_of_le hab
  induction d with
  | zero => rfl
  | succ d ih =>
    rw [← Nat.add_assoc, tot, ih (by omega) (fun k h1 h2 => h k h1 (by omega))]
    have h1 := h (a + d) (by omega) (by omega)
    unfold begs at h1
    simp at h1
    omega
theorem cntIn_add (f : Nat → Bool) {x y : Nat} (h : x ≤ y) : cnt f x + cntIn f x y = cnt f y := by
  unfold cntIn
  obtain ⟨d, rfl⟩ := Nat.exists_eq_add_of_le h
  rw [cnt_add, cnt_add f x d]
  have h1 : cnt (inn f x (x + d)) x = 0 := cnt_zero fun j hj => by
    unfold inn
    have : ¬ x ≤ j := by omega
    simp [this]
  have h2 : cnt (fun j => inn f x (x + d) (x + j)) d = cnt (fun j => f (x + j)) d := cnt_congr fun j hj => by
    unfold inn
    have : x + j < x + d := by omega
    simp [this]
  omega
theorem cntIn_zero (f : Nat → Bool) (y : Nat) : cntIn f 0 y = cnt f y := by
  have := cntIn_add f (Nat.zero_le y)
  rw [show cnt f 0 = 0 from rfl] at this
  omega
/-- What Mark tells, in short. -/
theorem mark_sum {n : Nat} {S : Nat → Nat} (x z : Int) : ((markT n S x z).1 = true ∧ 0 ≤ x ∧ x < n ∧ 1 ≤ z ∧ z ≤ n - x ∧ S x.toNat = 0 ∧ Free S x.toNat z.toNat ∧ (markT n S x z).2.1 = 0 ∧ (markT n S x z).2.2 = upd S x.toNat z.toNat) ∨ ((markT n S x z).1 = false ∧ (markT n S x z).2.2 = S) := by
  unfold markT
  split
  · exact .inr ⟨rfl, rfl⟩
  · split
    · exact .inr ⟨rfl, rfl⟩
    · split
      · exact .inr ⟨rfl, rfl⟩
      · split
        · rename_i h1 h2 h3 h4
          exact .inl ⟨rfl, by omega, by omega, by omega, by omega, by omega, h4, rfl, rfl⟩
        · exact .inr ⟨rfl, rfl⟩
/-- Mark, reckoned. -/
def liveC (S : Nat → Nat) (k : Nat) : Bool := (List.range (k + 1)).any fun a => decide (k < a + S a)
def freeC (S : Nat → Nat) (a z : Nat) : Bool := (List.range z).all fun i => !liveC S (a + i)
def markC (n : Nat) (S : Nat → Nat) (x z : Int) : Bool × Int × (Nat → Nat) :=
  if ¬ (0 ≤ x ∧ x < n) then (false, 10, S)
  else if z < 1 ∨ n - x < z then (false, 11, S)
  else if 0 < S x.toNat then (false, 0, S)
  else if freeC S x.toNat z.toNat = true then (true, 0, upd S x.toNat z.toNat)
  else (false, 11, S)
theorem liveC_eq (S : Nat → Nat) (k : Nat) : liveC S k = live S k := by
  have h : liveC S k = true ↔ live S k = true := by
    unfold liveC live
    rw [bo_true, List.any_eq_true]
    constructor
    · rintro ⟨a, h1, h2⟩
      rw [List.mem_range] at h1
      exact ⟨a, by omega, by simpa using h2⟩
    · rintro ⟨a, h1, h2⟩
      exact ⟨a, by rw [List.mem_range]; omega, by simpa using h2⟩
  cases h1 : liveC S k <;> cases h2 : live S k <;> simp_all
theorem freeC_iff (S : Nat → Nat) (a z : Nat) : freeC S a z = true ↔ Free S a z := by
  unfold freeC Free
  rw [List.all_eq_true]
  constructor
  · intro h k h1 h2
    have := h (k - a) (by rw [List.mem_range]; omega)
    rw [show a + (k - a) = k by omega, liveC_eq] at this
    simpa using this
  · intro h i hi
    rw [List.mem_range] at hi
    rw [liveC_eq, h (a + i) (by omega) (by omega)]
    rfl
theorem markC_eq (n : Nat) (S : Nat → Nat) (x z : Int) : markC n S x z = markT n S x z := by
  unfold markC markT
  by_cases h : freeC S x.toNat z.toNat = true
  · have h' := (freeC_iff S x.toNat z.toNat).1 h
    rw [if_pos h, if_pos h']
  · have h' : ¬ Free S x.toNat z.toNat := fun g => h ((freeC_iff S x.toNat z.toNat).2 g)
    rw [if_neg h, if_neg h']
end Go.Proofs.YtgbclfhgpkmcnaaGreatDoor.Bt
