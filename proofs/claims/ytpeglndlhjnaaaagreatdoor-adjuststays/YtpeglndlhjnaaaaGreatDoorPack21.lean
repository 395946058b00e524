/-
  Texts of the proof, several in one: BitsTurn, BitsUpd, BitsMark, BitsClear, BitsNew, BitsAwake, BitsTot, BitsRef, BitsRefB, BitsRefC, PlanP, PlanSmall, PlanBits, PlanRows, PlanEach, PlanRb, DocPlanA.
-/
import Derived.Test.YtpeglndlhjnaaaaGreatDoorPack13
import Derived.Deep.RegionHeld3
import Derived.Deep.Cut
import Derived.Deep.CutBlock
import Derived.Deep.CutRange
import Derived.Deep.DeepCutAuto
import Derived.Deep.LoopGhost
import Derived.Deep.QuietTactic
import Derived.BigQuiet
import Derived.Test.YtpeglndlhjnaaaaGreatDoorPack1
/-
  A Bits object as it is turned ('Bts'); what turn does.
-/
namespace Go.Proofs.YtpeglndlhjnaaaaGreatDoor.Bt
open Go.RowKit
set_option linter.unusedVariables false

/-- A Bits object: block p is the struct, block q its rows. -/
structure Bts (w : World) (p q n : Nat) (F : Nat → Nat → Bool) : Prop where
  few : n ≤ 65536
  tab : Tab w
  p0 : p ≠ 0
  q0 : q ≠ 0
  ne : p ≠ q
  head : w.heap[p]? = some (.cells #[.int .i64 (n : Int), .slice (some ⟨q, 0, none⟩) ((n + 63) / 64) ((n + 63) / 64)] 114)
  row : ∃ c, w.heap[q]? = some (.cells c 164) ∧ ∀ i s, i < (n + 63) / 64 → s < 2 → c[i * 2 + s]? = some (.int .u64 ((rowN (F s) i : Nat) : Int))

section
variable {w w' : World} {p q n : Nat} {F G : Nat → Nat → Bool}
theorem Bts.brd (h : Bts w p q n F) : Brd w (some ⟨p, 0, none⟩) n F := by
  obtain ⟨c, hc, hr⟩ := h.row
  refine ⟨h.few, h.tab, ?_, ?_, by simp⟩
  · intro a ha
    cases ha
    exact ⟨p, rfl, by rw [cell_of_heap h.head]; rfl⟩
  · intro _
    exact ⟨p, q, _, rfl, by rw [cell_of_heap h.head]; rfl, by rw [cell_of_heap h.head]; rfl, rfl, fun i s hi hs => by rw [cell_of_heap hc]; exact hr i s hi hs⟩
theorem Bts.turned (h : Bts w p q n F) {S : List Nat} (t : Turned S w w') (hp : p ∉ S) (hq : q ∉ S) (h0 : 0 ∉ S) : Bts w' p q n F := by
  obtain ⟨c, hc, hr⟩ := h.row
  exact ⟨h.few, h.tab.turned t h0, h.p0, h.q0, h.ne, by rw [t.block p (lt_of_heap h.head) hp]; exact h.head, c, by rw [t.block q (lt_of_heap hc) hq]; exact hc, hr⟩
theorem Bts.turned0 (h : Bts w p q n F) (t : Turned [] w w') : Bts w' p q n F := h.turned t (by simp) (by simp) (by simp)
theorem Bts.drewN (h : Bts w p q n F) (m : Nat) : Bts (w.drewN m) p q n F := h.turned0 ((Turned.refl _ _).drewN m)
theorem Bts.congr (h : Bts w p q n F) (e : ∀ s k, s < 2 → F s k = G s k) : Bts w p q n G := by
  obtain ⟨c, hc, hr⟩ := h.row
  refine ⟨h.few, h.tab, h.p0, h.q0, h.ne, h.head, c, hc, fun i s hi hs => ?_⟩
  rw [hr i s hi hs]
  unfold rowN
  rw [num_congr (fun j hj => e s (64 * i + j) hs)]
theorem Bts.ltp (h : Bts w p q n F) : p < w.heap.size := lt_of_heap h.head
theorem Bts.ltq (h : Bts w p q n F) : q < w.heap.size := by obtain ⟨c, hc, _⟩ := h.row; exact lt_of_heap hc
theorem Bts.fq (h : Bts w p q n F) (i : Nat) : w.frozen? ⟨q, i, none⟩ = false := by
  obtain ⟨c, hc, _⟩ := h.row
  simp [World.frozen?, hc]
theorem Bts.store (h : Bts w p q n F) {i s : Nat} (hi : i < (n + 63) / 64) (hs : s < 2) {x : Nat} (hx : x = rowN (G s) i)
    (hG : ∀ t k, t < 2 → (t ≠ s ∨ k / 64 ≠ i) → G t k = F t k) : Bts (w.setCell ⟨q, i * 2 + s, none⟩ (.int .u64 (x : Int))) p q n G := by
  obtain ⟨c, hc, hr⟩ := h.row
  refine ⟨h.few, h.tab.turned ((Turned.refl [q] w).setCell (p := ⟨q, i * 2 + s, none⟩) (.inl (by simp)) _) (by simp; exact fun e => h.q0 e.symm), h.p0, h.q0, h.ne, by rw [Below.heap_setCell _ _ _ _ (fun e => h.ne e)]; exact h.head, _, heap_setCell_at _ _ _ _ _ _ hc _, fun j t hj ht => ?_⟩
  have hlt : i * 2 + s < c.size := by
    have := hr i s hi hs
    exact (Array.getElem?_eq_some_iff.1 this).1
  rw [Array.getElem?_setIfInBounds]
  by_cases he : i * 2 + s = j * 2 + t
  · rw [if_pos he, if_pos hlt]
    have h1 : i = j := by omega
    have h2 : s = t := by omega
    subst h1; subst h2
    rw [hx]
  · rw [if_neg he, hr j t hj ht]
    have h3 : t ≠ s ∨ j ≠ i := by omega
    unfold rowN
    refine congrArg (fun z : Nat => some (Value.int .u64 (z : Int))) (num_congr fun l hl => (hG t (64 * j + l) ht ?_).symm)
    rcases h3 with h3 | h3
    · exact .inl h3
    · exact .inr (by omega)
end

def In64 (z : Int) : Prop := -9223372036854775808 ≤ z ∧ z ≤ 9223372036854775807
/-- A word's bit turned. -/
def flip (f : Nat → Bool) (k : Nat) : Nat → Bool := fun j => f j ^^ decide (j = k)
theorem bits_xor_u64_nat (a b : Nat) (ha : a < 18446744073709551616) (hb : b < 18446744073709551616) :
    bits .xor .u64 (a : Int) (b : Int) = ((a ^^^ b : Nat) : Int) := by
  have hx : a ^^^ b < 2 ^ 64 := Nat.xor_lt_two_pow (by omega) (by omega)
  have h1 : (BitVec.ofInt 64 (a : Int)).toNat = a := by
    rw [BitVec.ofInt_natCast, BitVec.toNat_ofNat]; exact Nat.mod_eq_of_lt (by omega)
  have h2 : (BitVec.ofInt 64 (b : Int)).toNat = b := by
    rw [BitVec.ofInt_natCast, BitVec.toNat_ofNat]; exact Nat.mod_eq_of_lt (by omega)
  show IntKind.u64.wrap ((BitVec.ofInt 64 (a : Int) ^^^ BitVec.ofInt 64 (b : Int)).toNat : Int) = _
  rw [BitVec.toNat_xor, h1, h2, IntKind.wrap_u64]
  omega
theorem row_flip (f : Nat → Bool) (k : Nat) : bits .xor .u64 ((rowN f (k / 64) : Nat) : Int) ((num (fun j => decide (j = k % 64)) 64 : Nat) : Int) = ((rowN (flip f k) (k / 64) : Nat) : Int) := by
  rw [bits_xor_u64_nat _ _ (rowN_lt _ _) (num_lt64 _)]
  unfold rowN
  rw [num_xor]
  refine congrArg (fun z : Nat => (z : Int)) (num_congr fun j hj => ?_)
  unfold flip
  have : (decide (j = k % 64)) = decide (64 * (k / 64) + j = k) := by
    by_cases h : j = k % 64
    · rw [decide_eq_true h, decide_eq_true (by omega)]
    · rw [decide_eq_false h, decide_eq_false (by omega)]
  rw [this]
theorem flip_far (f : Nat → Bool) (k j : Nat) (h : j / 64 ≠ k / 64) : flip f k j = f j := by
  unfold flip
  have : ¬ j = k := by intro e; subst e; exact h rfl
  simp [this]

/-- Both sides turned. -/
def turnF (F : Nat → Nat → Bool) (a l : Nat) : Nat → Nat → Bool := fun s => if s = 0 then flip (F 0) a else flip (F 1) l

set_option maxHeartbeats 4000000 in
theorem turn_any (p q n : Nat) (F : Nat → Nat → Bool) (a z : Nat) (w : World) (h : Bts w p q n F) (hz : 1 ≤ z) (ha : a + z ≤ n) :
    Calls Tryz.prog 58 #[.pointer (some ⟨p, 0, none⟩), .int .i64 (a : Int), .int .i64 (z : Int)] w fun e w' => e = .returned (.tuple #[]) ∧ Bts w' p q n (turnF F a (a + z - 1)) ∧ Turned [q] w w' := by
  have hn := h.few
  have HB := hide h
  have hia : a / 64 < (n + 63) / 64 := by omega
  have hil : (a + z - 1) / 64 < (n + 63) / 64 := by omega
  have c1 : w.cell? ⟨p, 1, none⟩ = some (.slice (some ⟨q, 0, none⟩) ((n + 63) / 64) ((n + 63) / 64)) := by rw [cell_of_heap h.head]; rfl
  obtain ⟨c, hc, hr⟩ := h.row
  have c2 := hr (a / 64) 0 hia (by omega)
  rw [← cell_of_heap hc, Nat.add_zero] at c2
  have f2 := h.fq (a / 64 * 2)
  have HB1 := hide (fun w => bit_any a w (by omega))
  obtain ⟨l, hl⟩ : ∃ l : Nat, l = a + z - 1 := ⟨_, rfl⟩
  rw [← hl]
  have HB2 := hide (fun w => bit_any l w (by omega))
  have HL := hide hl
  have k1 := row_flip (F 0) a
  have ei : ((a : Int) / 64) = ((a / 64 : Nat) : Int) := by omega
  have HIA := hide hia
  obtain ⟨i, hi⟩ : ∃ i, i = a / 64 := ⟨_, rfl⟩
  obtain ⟨R, hR⟩ : ∃ R, R = (n + 63) / 64 := ⟨_, rfl⟩
  rw [← hi] at c2 f2 k1 ei hia
  rw [← hR] at c1 hia
  have wi : IntKind.i64.wrap (i : Int) = (i : Int) := by rw [IntKind.wrap_i64]; omega
  have HI := hide hi
  have HRR := hide hR
  clear h hr hc hi hR hil hl
  generalize rowN (F 0) i = X at *
  obtain ⟨X', hX⟩ : ∃ X', X' = rowN (flip (F 0) a) i := ⟨_, rfl⟩
  rw [← hX] at k1
  have HX : Hid (X' = rowN (if (0 : Nat) = 0 then flip (F 0) a else F 0) i) := hX
  clear hX
  generalize num (fun j => decide (j = a % 64)) 64 = Y at *
  have hturn1 : Hid (Bts ((w.setCell ⟨q, i * 2, none⟩ (.int .u64 (X' : Int))).drew) p q n (fun s => if s = 0 then flip (F 0) a else F s) ∧ Turned [q] w ((w.setCell ⟨q, i * 2, none⟩ (.int .u64 (X' : Int))).drew)) := by
    refine ⟨?_, ((Turned.refl [q] w).setCell (p := ⟨q, i * 2, none⟩) (.inl (by simp)) _).drew⟩
    have := HB.out.store (G := fun s => if s = 0 then flip (F 0) a else F s) (i := i) (s := 0) (x := X') (by rw [← HRR.out]; exact hia) (by omega) HX.out (fun t k ht hk => by
      by_cases h0 : t = 0
      · subst h0
        have h2 : k / 64 ≠ a / 64 := by rw [← HI.out]; omega
        simp only [if_true]
        exact flip_far _ _ _ h2
      · simp only [if_neg h0])
    exact this.turned0 (Turned.refl [] _).drew
  go_enter Tryz.func58, Tryz.ntmps58
  go_upto_region 1 with fail
  go_cut [11, 12, 13, 14, 15, 16, 17, 18, 19, 20, 21, 22, 23, 24] (fun _ _ _ _ _ _ _ _ _ _ _ _ _ _ wc => Aside (Bts wc p q n (fun s => if s = 0 then flip (F 0) a else F s) ∧ Turned [q] w wc))
  case first =>
    go_region_with ((go_at_call 96; refine (HB1.out _).mono ?_; rintro e w' ⟨rfl, rfl⟩))
    all_goals (go_wp2_with fail; go_meet; exact hturn1.out)
  case rest =>
    obtain ⟨hb2, ht2⟩ := hcut.out
    have hl := HL.out
    have el : (a : Int) + (z : Int) - 1 = (l : Int) := by omega
    rw [el]
    have hil : l / 64 < (n + 63) / 64 := by omega
    have d1 : wc.cell? ⟨p, 1, none⟩ = some (.slice (some ⟨q, 0, none⟩) ((n + 63) / 64) ((n + 63) / 64)) := by rw [cell_of_heap hb2.head]; rfl
    obtain ⟨c', hc', hr'⟩ := hb2.row
    have d2 := hr' (l / 64) 1 hil (by omega)
    rw [← cell_of_heap hc'] at d2
    simp only [if_neg (show ¬ (1 : Nat) = 0 by omega)] at d2
    have g2 := hb2.fq (l / 64 * 2 + 1)
    have k2 := row_flip (F 1) l
    have ej : ((l : Int) / 64) = ((l / 64 : Nat) : Int) := by omega
    obtain ⟨j, hj⟩ : ∃ j, j = l / 64 := ⟨_, rfl⟩
    rw [← hj] at d2 g2 k2 ej hil
    rw [← HRR.out] at d1
    have hjR : j < R := by rw [HRR.out]; exact hil
    have wj : IntKind.i64.wrap (j : Int) = (j : Int) := by rw [IntKind.wrap_i64]; omega
    obtain ⟨Z', hZ⟩ : ∃ Z', Z' = rowN (flip (F 1) l) j := ⟨_, rfl⟩
    rw [← hZ] at k2
    have hturn2 : Hid (Bts ((wc.setCell ⟨q, j * 2 + 1, none⟩ (.int .u64 (Z' : Int))).drew) p q n (turnF F a l) ∧ Turned [q] w ((wc.setCell ⟨q, j * 2 + 1, none⟩ (.int .u64 (Z' : Int))).drew)) := by
      refine ⟨?_, (ht2.setCell (p := ⟨q, j * 2 + 1, none⟩) (.inl (by simp)) _).drew⟩
      have := hb2.store (G := turnF F a l) (i := j) (s := 1) (x := Z') hil (by omega) hZ (fun t k ht hk => by
        unfold turnF
        by_cases h0 : t = 0
        · subst h0; rfl
        · have h1 : t = 1 := by omega
          subst h1
          have h2 : k / 64 ≠ l / 64 := by rw [← hj]; omega
          exact flip_far _ _ _ h2)
      exact this.turned0 (Turned.refl [] _).drew
    clear hcut hb2 ht2 hc' hr' hZ hj hl hil el HB HB1 hturn1 c1 c2 f2 k1 ei wi hia
    generalize rowN (F 1) j = Z at *
    generalize num (fun j => decide (j = l % 64)) 64 = Y2 at *
    go_wp2_with fail
    go_region_with ((go_at_call 96; refine (HB2.out _).mono ?_; rintro e w' ⟨rfl, rfl⟩))
    all_goals (go_wp2_with fail; refine bodyPost_end (results_none rfl _ _ _) rfl ?_; exact ⟨rfl, hturn2.out⟩)
end Go.Proofs.YtpeglndlhjnaaaaGreatDoor.Bt

/-
  One block marked, one taken away, ranges cleared: by the sizes. No Go is walked here.
-/
namespace Go.Proofs.YtpeglndlhjnaaaaGreatDoor.Bt
open Go.RowKit
set_option linter.unusedVariables false

def upd (S : Nat → Nat) (a z : Nat) : Nat → Nat := fun k => if k = a then z else S k
theorem upd_at (S : Nat → Nat) (a z : Nat) : upd S a z a = z := by unfold upd; rw [if_pos rfl]
theorem upd_ne (S : Nat → Nat) {a z k : Nat} (h : k ≠ a) : upd S a z k = S k := by unfold upd; rw [if_neg h]
theorem upd_upd (S : Nat → Nat) (a z y : Nat) : upd (upd S a z) a y = upd S a y := by
  funext k; unfold upd; split <;> rfl
theorem upd_same (S : Nat → Nat) (a : Nat) : upd S a (S a) = S := by
  funext k; unfold upd; split
  · rename_i h; rw [h]
  · rfl

/-- The words from a to a + z are nobody's. -/
def Free (S : Nat → Nat) (a z : Nat) : Prop := ∀ k, a ≤ k → k < a + z → live S k = false
theorem free_no {S : Nat → Nat} {a z b : Nat} (h : Free S a z) (hz : 1 ≤ z) (hb : 0 < S b) : b + S b ≤ a ∨ a + z ≤ b := by
  by_cases h1 : a < b + S b
  · by_cases h2 : b < a + z
    · exfalso
      have h3 := h (max a b) (by omega) (by omega)
      unfold live at h3
      rw [bo_false] at h3
      exact h3 ⟨b, by unfold Cov; omega⟩
    · omega
  · omega
theorem Bl.mark {n : Nat} {S : Nat → Nat} (h : Bl n S) {a z : Nat} (hz : 1 ≤ z) (ha : a + z ≤ n) (hf : Free S a z) : Bl n (upd S a z) := by
  constructor
  · intro b hb
    by_cases hba : b = a
    · subst hba; rw [upd_at]; exact ha
    · rw [upd_ne S hba] at hb ⊢; exact h.into b hb
  · intro b c hbc hb hc
    by_cases hba : b = a
    · subst hba
      rw [upd_at]
      rw [upd_ne S (by omega)] at hc
      have := free_no hf hz hc
      omega
    · rw [upd_ne S hba] at hb ⊢
      by_cases hca : c = a
      · subst hca
        have := free_no hf hz hb
        omega
      · rw [upd_ne S hca] at hc
        exact h.apart b c hbc hb hc
theorem Bl.off {n : Nat} {S : Nat → Nat} (h : Bl n S) (a : Nat) : Bl n (upd S a 0) := by
  have k : ∀ b, 0 < upd S a 0 b → upd S a 0 b = S b := by
    intro b hb
    by_cases hba : b = a
    · subst hba; rw [upd_at] at hb; omega
    · exact upd_ne S hba
  constructor
  · intro b hb
    have e := k b hb
    rw [e] at hb ⊢
    exact h.into b hb
  · intro b c hbc hb hc
    have e := k b hb
    have e2 := k c hc
    rw [e] at hb ⊢
    rw [e2] at hc
    exact h.apart b c hbc hb hc
theorem Bl.free_off {n : Nat} {S : Nat → Nat} (h : Bl n S) (a : Nat) : Free (upd S a 0) a (S a) := by
  intro k h1 h2
  unfold live
  rw [bo_false]
  rintro ⟨b, hb1, hb2⟩
  by_cases hba : b = a
  · subst hba; rw [upd_at] at hb2; omega
  · rw [upd_ne S hba] at hb2
    exact hba (h.one (k := k) ⟨hb1, hb2⟩ ⟨h1, h2⟩)

/-- The bits turned are those of the block. -/
theorem sides_mark {n : Nat} {S : Nat → Nat} {a z : Nat} (h0 : S a = 0) (hz : 1 ≤ z) (hf : Free S a z) (s k : Nat) (hs : s < 2) : turnF (sidesOf S) a (a + z - 1) s k = sidesOf (upd S a z) s k := by
  unfold turnF
  by_cases h : s = 0
  · subst h
    simp only [if_true]
    rw [sidesOf0, sidesOf0]
    unfold flip begs
    by_cases hk : k = a
    · subst hk
      rw [upd_at]
      simp [h0]
      omega
    · rw [upd_ne S hk]
      simp [hk]
  · have h1 : s = 1 := by omega
    subst h1
    simp only [if_neg (show ¬ (1 : Nat) = 0 by omega)]
    rw [sidesOf1, sidesOf1]
    unfold flip
    by_cases hk : k = a + z - 1
    · have e1 : ends S k = false := by
        unfold ends; rw [bo_false]
        rintro ⟨b, hb, hb2⟩
        have := free_no hf hz hb
        omega
      have e2 : ends (upd S a z) k = true := by
        unfold ends; rw [bo_true]
        exact ⟨a, by rw [upd_at]; omega, by rw [upd_at]; omega⟩
      rw [e1, e2, decide_eq_true hk]; rfl
    · rw [decide_eq_false hk, Bool.xor_false]
      rw [Bool.eq_iff_iff]
      unfold ends
      rw [bo_true, bo_true]
      constructor
      · rintro ⟨b, hb, hb2⟩
        have hba : b ≠ a := by intro e; subst e; omega
        exact ⟨b, by rw [upd_ne S hba]; exact hb, by rw [upd_ne S hba]; exact hb2⟩
      · rintro ⟨b, hb, hb2⟩
        have hba : b ≠ a := by intro e; subst e; rw [upd_at] at hb2; omega
        rw [upd_ne S hba] at hb hb2
        exact ⟨b, hb, hb2⟩
theorem flip_flip (f : Nat → Bool) (k : Nat) (j : Nat) : flip (flip f k) k j = f j := by
  unfold flip
  cases f j <;> cases decide (j = k) <;> rfl
theorem sides_off {n : Nat} {S : Nat → Nat} (h : Bl n S) {a : Nat} (ha : 0 < S a) (s k : Nat) (hs : s < 2) : turnF (sidesOf S) a (a + S a - 1) s k = sidesOf (upd S a 0) s k := by
  have h1 := fun k => sides_mark (n := n) (S := upd S a 0) (a := a) (z := S a) (upd_at S a 0) (by omega) (h.free_off a) s k hs
  rw [upd_upd, upd_same] at h1
  unfold turnF at h1 ⊢
  by_cases h0 : s = 0
  · subst h0
    simp only [if_true] at h1 ⊢
    have : flip (sidesOf S 0) a = flip (flip (sidesOf (upd S a 0) 0) a) a := by
      congr 1; funext k; exact (h1 k).symm
    rw [this, flip_flip]
  · have h2 : s = 1 := by omega
    subst h2
    simp only [if_neg (show ¬ (1 : Nat) = 0 by omega)] at h1 ⊢
    have : flip (sidesOf S 1) (a + S a - 1) = flip (flip (sidesOf (upd S a 0) 1) (a + S a - 1)) (a + S a - 1) := by
      congr 1; funext k; exact (h1 k).symm
    rw [this, flip_flip]

open Classical in
/-- What Mark tells, and the sizes behind it. -/
noncomputable def markT (n : Nat) (S : Nat → Nat) (x z : Int) : Bool × Int × (Nat → Nat) :=
  if ¬ (0 ≤ x ∧ x < n) then (false, 10, S)
  else if z < 1 ∨ n - x < z then (false, 11, S)
  else if 0 < S x.toNat then (false, 0, S)
  else if Free S x.toNat z.toNat then (true, 0, upd S x.toNat z.toNat)
  else (false, 11, S)
theorem markT_bl {n : Nat} {S : Nat → Nat} (h : Bl n S) (x z : Int) : Bl n (markT n S x z).2.2 := by
  unfold markT
  split
  · exact h
  · split
    · exact h
    · split
      · exact h
      · split
        · rename_i h1 h2 h3 h4
          exact h.mark (by omega) (by omega) h4
        · exact h
/-- What a range is cleared to. -/
def clr (S : Nat → Nat) (a b : Nat) : Nat → Nat := fun k => if a ≤ k ∧ k < b then 0 else S k
theorem Bl.clr {n : Nat} {S : Nat → Nat} (h : Bl n S) (a b : Nat) : Bl n (clr S a b) := by
  have k : ∀ c, 0 < YtpeglndlhjnaaaaGreatDoor.Bt.clr S a b c → YtpeglndlhjnaaaaGreatDoor.Bt.clr S a b c = S c := by
    intro c hc
    unfold YtpeglndlhjnaaaaGreatDoor.Bt.clr at hc ⊢
    split
    · rename_i h1; rw [if_pos h1] at hc; omega
    · rfl
  constructor
  · intro b hb
    have e := k b hb
    rw [e] at hb ⊢
    exact h.into b hb
  · intro b c hbc hb hc
    have e := k b hb
    have e2 := k c hc
    rw [e] at hb ⊢
    rw [e2] at hc
    exact h.apart b c hbc hb hc
theorem free_cnt (S : Nat → Nat) (a z : Nat) : Free S a z ↔ cntIn (live S) a (a + z) = 0 := by
  unfold cntIn
  rw [cnt_zero_iff]
  constructor
  · intro h j hj
    unfold inn
    by_cases h1 : a ≤ j
    · rw [h j h1 hj]; simp
    · simp [h1]
  · intro h k h1 h2
    have h3 := h k h2
    unfold inn at h3
    simpa [h1, h2] using h3
end Go.Proofs.YtpeglndlhjnaaaaGreatDoor.Bt

/-
  What Mark does and tells.
-/
namespace Go.Proofs.YtpeglndlhjnaaaaGreatDoor.Bt
open Go.RowKit
set_option linter.unusedVariables false

theorem mark_any (p q n : Nat) (S : Nat → Nat) (x z : Int) (w : World) (h : Bts w p q n (sidesOf S)) (hs : Bl n S) (hz : In64 z) :
    Calls Tryz.prog 28 #[.pointer (some ⟨p, 0, none⟩), .int .i64 x, .int .i64 z] w fun e w' => e = .returned (.tuple #[.bool (markT n S x z).1, .int .i64 (markT n S x z).2.1]) ∧ Bts w' p q n (sidesOf (markT n S x z).2.2) ∧ Turned [q] w w' := by
  have hn := h.few
  unfold In64 at hz
  obtain ⟨M, hM⟩ : ∃ M, M = markT n S x z := ⟨_, rfl⟩
  rw [← hM]
  unfold markT at hM
  have H := hide (inside_any (some ⟨p, 0, none⟩) n _ x w h.brd)
  have HB := hide h
  have HS := hide hs
  by_cases h0 : 0 ≤ x ∧ x < n
  · rw [if_neg (by simpa using h0)] at hM
    have e1 : (decide (0 ≤ x) && decide (x < n)) = true := by simp only [Bool.and_eq_true, decide_eq_true_eq]; exact h0
    rw [e1] at H
    obtain ⟨a, rfl⟩ := Int.eq_ofNat_of_zero_le h0.1
    rw [Int.toNat_natCast] at hM
    have han : a < n := by omega
    have c0 : w.cell? ⟨p, 0, none⟩ = some (.int .i64 (n : Int)) := by rw [cell_of_heap h.head]; rfl
    by_cases h1 : z < 1 ∨ (n : Int) - a < z
    · rw [if_pos h1] at hM
      subst hM
      clear h hs e1
      by_cases h2 : z < 1
      · go_enter Tryz.func28, Tryz.ntmps28
        go_wp2_with fail
        refine (H.out).mono ?_
        rintro e w1 ⟨rfl, rfl⟩
        go_wp2_with fail
        go_ret2
        exact ⟨rfl, HB.out, Turned.refl _ _⟩
      · have hd : decide (z < 1) = false := decide_eq_false h2
        have h3 : (n : Int) - a < z := by omega
        go_enter Tryz.func28, Tryz.ntmps28
        go_wp2_with fail
        refine (H.out).mono ?_
        rintro e w1 ⟨rfl, rfl⟩
        go_wp2_with fail
        go_ret2
        exact ⟨rfl, HB.out, Turned.refl _ _⟩
    · rw [if_neg h1] at hM
      have hz1 : ¬ z < 1 := by omega
      obtain ⟨y, rfl⟩ := Int.eq_ofNat_of_zero_le (show 0 ≤ z by omega)
      rw [Int.toNat_natCast] at hM
      have hay : a + y ≤ n := by omega
      have hd : decide ((y : Int) < 1) = false := decide_eq_false hz1
      have hd2 : ¬ ((n : Int) - a < y) := by omega
      have HH := hide (bhas_any (some ⟨p, 0, none⟩) n S a w h.brd hs)
      rw [szI_nat] at HH
      by_cases h2 : 0 < S a
      · rw [if_pos h2] at hM
        subst hM
        rw [decide_eq_true h2] at HH
        clear h hs e1 h1 h0
        go_enter Tryz.func28, Tryz.ntmps28
        go_wp2_with fail
        refine (H.out).mono ?_
        rintro e w1 ⟨rfl, rfl⟩
        go_wp2_with fail
        refine (HH.out).mono ?_
        rintro e w2 ⟨rfl, m, rfl⟩
        go_wp2_with fail
        go_ret2
        exact ⟨rfl, HB.out.drewN m, (Turned.refl _ _).drewN m⟩
      · rw [if_neg h2] at hM
        rw [decide_eq_false h2] at HH
        have HL := hide (fun m => live_any (some ⟨p, 0, none⟩) n S a ((a : Int) + y) (w.drewN m) (h.drewN m).brd hs)
        have k1 : kp n (a : Int) = a := by unfold kp; omega
        have k2 : kp n ((a : Int) + y) = a + y := by unfold kp; omega
        rw [k1, k2] at HL
        by_cases h3 : Free S a y
        · rw [if_pos h3] at hM
          subst hM
          rw [(free_cnt S a y).1 h3] at HL
          have HT := hide (fun w h => turn_any p q n (sidesOf S) a y w h (by omega) hay)
          have HF := hide (fun s k hs => sides_mark (n := n) (S := S) (a := a) (z := y) (by omega) (by omega) h3 s k hs)
          clear h hs e1 h1 h0 h3 k1 k2
          go_enter Tryz.func28, Tryz.ntmps28
          go_wp2_with fail
          refine (H.out).mono ?_
          rintro e w1 ⟨rfl, rfl⟩
          go_wp2_with fail
          refine (HH.out).mono ?_
          rintro e w2 ⟨rfl, m, rfl⟩
          go_wp2_with fail
          refine (HL.out m).mono ?_
          rintro e w3 ⟨rfl, ht3⟩
          go_wp2_with fail
          refine (HT.out w3 ((HB.out.drewN m).turned0 ht3)).mono ?_
          rintro e w4 ⟨rfl, hb4, ht4⟩
          have HR := hide (And.intro (hb4.congr HF.out) (((((Turned.refl [q] w1).drewN m).trans (ht3.mono (by simp)))).trans ht4))
          clear hb4 ht4 ht3
          go_wp2_with fail
          go_ret2
          exact ⟨rfl, HR.out⟩
        · rw [if_neg h3] at hM
          subst hM
          have hpos : 0 < cntIn (live S) a (a + y) := by
            have := mt (free_cnt S a y).2 h3
            omega
          have hle := cntIn_le (live S) a (a + y)
          generalize cntIn (live S) a (a + y) = c at *
          clear h hs e1 h1 h0 h3 k1 k2
          go_enter Tryz.func28, Tryz.ntmps28
          go_wp2_with fail
          refine (H.out).mono ?_
          rintro e w1 ⟨rfl, rfl⟩
          go_wp2_with fail
          refine (HH.out).mono ?_
          rintro e w2 ⟨rfl, m, rfl⟩
          go_wp2_with fail
          refine (HL.out m).mono ?_
          rintro e w3 ⟨rfl, ht3⟩
          go_wp2_with fail
          go_ret2
          exact ⟨rfl, (HB.out.drewN m).turned0 ht3, ((Turned.refl [q] w1).drewN m).trans (ht3.mono (by simp))⟩
  · rw [if_pos h0] at hM
    subst hM
    have e1 : (decide (0 ≤ x) && decide (x < n)) = false := by
      rw [← Bool.not_eq_true]; simp only [Bool.and_eq_true, decide_eq_true_eq]; exact h0
    rw [e1] at H
    clear h hs e1
    go_enter Tryz.func28, Tryz.ntmps28
    go_wp2_with fail
    refine (H.out).mono ?_
    rintro e w1 ⟨rfl, rfl⟩
    go_wp2_with fail
    go_ret2
    exact ⟨rfl, HB.out, Turned.refl _ _⟩

/-- Mark of no object, or of one without words. -/
theorem mark_nil (ov : Option Addr) (F : Nat → Nat → Bool) (x z : Int) (w : World) (h : Brd w ov 0 F) :
    Calls Tryz.prog 28 #[.pointer ov, .int .i64 x, .int .i64 z] w fun e w' => e = .returned (.tuple #[.bool false, .int .i64 10]) ∧ w' = w := by
  have H := hide (inside_any ov 0 _ x w h)
  have e1 : (decide (0 ≤ x) && decide (x < ((0 : Nat) : Int))) = false := by
    rw [← Bool.not_eq_true]; simp only [Bool.and_eq_true, decide_eq_true_eq]; omega
  rw [e1] at H
  clear h e1
  go_enter Tryz.func28, Tryz.ntmps28
  go_wp2_with fail
  refine (H.out).mono ?_
  rintro e w1 ⟨rfl, rfl⟩
  go_wp2_with fail
  go_ret2
  exact ⟨rfl, rfl⟩
end Go.Proofs.YtpeglndlhjnaaaaGreatDoor.Bt

/-
  What Clear does.
-/
namespace Go.Proofs.YtpeglndlhjnaaaaGreatDoor.Bt
open Go.RowKit
set_option linter.unusedVariables false

/-- An object, nil or not; with words it is Bts. -/
structure Ob (w : World) (ov : Option Addr) (p q n : Nat) (S : Nat → Nat) : Prop where
  rd : Brd w ov n (sidesOf S)
  bl : Bl n S
  own : 0 < n → ov = some ⟨p, 0, none⟩ ∧ Bts w p q n (sidesOf S)
theorem Bts.ob {w : World} {p q n : Nat} {S : Nat → Nat} (h : Bts w p q n (sidesOf S)) (hs : Bl n S) : Ob w (some ⟨p, 0, none⟩) p q n S := ⟨h.brd, hs, fun _ => ⟨rfl, h⟩⟩
theorem Ob.turned0 {w w' : World} {ov : Option Addr} {p q n : Nat} {S : Nat → Nat} (h : Ob w ov p q n S) (t : Turned [] w w') : Ob w' ov p q n S :=
  ⟨h.rd.turned t, h.bl, fun hn => ⟨(h.own hn).1, (h.own hn).2.turned0 t⟩⟩

/-- Spans, one behind the other. -/
def clrs (n : Nat) (S : Nat → Nat) (sp : List (Int × Int)) : Nat → Nat := sp.foldl (fun S r => clr S (kp n r.1) (kp n r.2)) S
theorem clrs_snoc (n : Nat) (S : Nat → Nat) (sp : List (Int × Int)) (k : Nat) (r : Int × Int) (h : sp[k]? = some r) : clrs n S (sp.take (k + 1)) = clr (clrs n S (sp.take k)) (kp n r.1) (kp n r.2) := by
  have hk : k < sp.length := (List.getElem?_eq_some_iff.1 h).1
  have e : sp.take (k + 1) = sp.take k ++ [r] := by rw [List.take_add_one, h]; rfl
  unfold clrs
  rw [e, List.foldl_append]
  rfl
theorem clrs_bl {n : Nat} {S : Nat → Nat} (h : Bl n S) (sp : List (Int × Int)) : Bl n (clrs n S sp) := by
  unfold clrs
  induction sp generalizing S with
  | nil => exact h
  | cons r sp ih => exact ih (h.clr _ _)
/-- Spans that can be read. -/
structure SpRd (w : World) (g : Nat) (sp : List (Int × Int)) : Prop where
  cell : ∀ i r, sp[i]? = some r → w.cell? ⟨g, i * 2, none⟩ = some (.int .i64 r.1) ∧ w.cell? ⟨g, i * 2 + 1, none⟩ = some (.int .i64 r.2)
theorem SpRd.turned {w w' : World} {g : Nat} {sp : List (Int × Int)} {T : List Nat} (h : SpRd w g sp) (t : Turned T w w') (hg : g ∉ T) : SpRd w' g sp :=
  ⟨fun i r hr => by
    obtain ⟨h1, h2⟩ := h.cell i r hr
    exact ⟨by rw [t.cell (block_lt h1) hg]; exact h1, by rw [t.cell (block_lt h2) hg]; exact h2⟩⟩

/-- What the inner loop keeps: outside the range all is as it was; within it, as it was or nothing. -/
def Part (S T : Nat → Nat) (a b : Nat) : Prop := ∀ k, T k = S k ∨ (a ≤ k ∧ k < b ∧ T k = 0)
theorem part_done {S T : Nat → Nat} {a b : Nat} (h : Part S T a b) (hn : ∀ k, a ≤ k → k < b → begs T k = false) : T = clr S a b := by
  funext k
  unfold clr
  split
  · rename_i h1
    have h2 := hn k h1.1 h1.2
    unfold begs at h2
    simp at h2
    exact h2
  · rename_i h1
    rcases h k with h2 | ⟨h2, h3, _⟩
    · exact h2
    · exact absurd ⟨h2, h3⟩ h1
theorem part_off {S T : Nat → Nat} {a b k : Nat} (h : Part S T a b) (h1 : a ≤ k) (h2 : k < b) : Part S (upd T k 0) a b := by
  intro j
  by_cases hj : j = k
  · subst hj; exact .inr ⟨h1, h2, upd_at _ _ _⟩
  · rw [upd_ne T hj]; exact h j
theorem next_off {T : Nat → Nat} {a b k : Nat} {r : Int} (h1 : a ≤ k) (h2 : k < b) (hl : ∀ j, a ≤ j → j < k → begs T j = false) (hr : IsNext (begs (upd T k 0)) k b r) : IsNext (begs (upd T k 0)) a b r ∧ (r = -1 ∨ (k : Int) < r) := by
  have hk : begs (upd T k 0) k = false := by unfold begs; rw [upd_at]; rfl
  have hl2 : ∀ j, a ≤ j → j < k → begs (upd T k 0) j = false := by
    intro j h3 h4
    have := hl j h3 h4
    unfold begs at this ⊢
    rw [upd_ne T (by omega)]
    exact this
  rcases hr with ⟨rfl, h3⟩ | ⟨j, rfl, h3, h4, h5, h6⟩
  · refine ⟨.inl ⟨rfl, fun j h4 h5 => ?_⟩, .inl rfl⟩
    by_cases hj : j < k
    · exact hl2 j h4 hj
    · exact h3 j (by omega) h5
  · have hjk : j ≠ k := by intro e; subst e; rw [hk] at h5; cases h5
    refine ⟨.inr ⟨j, rfl, by omega, h4, h5, fun i h7 h8 => ?_⟩, .inr (by omega)⟩
    by_cases hi : i < k
    · exact hl2 i h7 hi
    · exact h6 i (by omega) h8

/-- The inner loop's measure. -/
def msr (n : Nat) (v : Value) : Nat := if intOf v < 0 then 0 else (n + 1 - intOf v).toNat
theorem msr_down {n j : Nat} {r : Int} (hj : j ≤ n) (h : r = -1 ∨ (j : Int) < r) : msr n (.int .i64 r) < msr n (.int .i64 (j : Int)) := by
  unfold msr
  have e1 : intOf (Value.int .i64 r) = r := rfl
  have e2 : intOf (Value.int .i64 (j : Int)) = (j : Int) := rfl
  rw [e1, e2, if_neg (show ¬ ((j : Int) < 0) by omega)]
  split <;> omega
theorem IsNext.range {f : Nat → Bool} {a b : Nat} {r : Int} (h : IsNext f a b r) (hb : b ≤ 65536) : -1 ≤ r ∧ r < 65536 := by
  rcases h with ⟨rfl, _⟩ | ⟨k, rfl, _, h2, _⟩ <;> omega

end Go.Proofs.YtpeglndlhjnaaaaGreatDoor.Bt

/-
  What New makes.
-/
namespace Go.Proofs.YtpeglndlhjnaaaaGreatDoor.Bt
open Go.RowKit
set_option linter.unusedVariables false

theorem Tryz.infoRow : (Tryz.prog.info? 164).map (fun i => (i.zero, i.size, i.bytes)) = some (some (.agg #[.int .u64 0, .int .u64 0]), 2, 16) := by kernel_rfl
theorem Bl.none (n : Nat) : Bl n (fun _ => 0) := ⟨fun a h => absurd h (by simp), fun a b _ h => absurd h (by simp)⟩
theorem sides_none (s k : Nat) : sidesOf (fun _ => 0) s k = false := by
  unfold sidesOf
  split
  · rfl
  · unfold ends; rw [bo_false]; rintro ⟨a, h, _⟩; exact absurd h (by simp)
theorem row_none (s i : Nat) : rowN (sidesOf (fun _ => 0) s) i = 0 := num_zero fun j _ => sides_none _ _
theorem made_zero (R i s : Nat) (hi : i < R) (hs : s < 2) : (madeCells #[Value.int .u64 0, Value.int .u64 0] (R * 2))[i * 2 + s]? = some (.int .u64 0) := by
  unfold madeCells
  rw [Array.getElem?_map, Array.getElem?_range, if_pos (by omega)]
  have : (i * 2 + s) % 2 = 0 ∨ (i * 2 + s) % 2 = 1 := by omega
  rcases this with h | h <;> simp [h]

theorem new_any (x : Int) (w : World) (hx : In64 x) (hT : Tab w) :
    Calls Tryz.prog 21 #[.int .i64 x] w fun e w' => ∃ p q, e = .returned (.pointer (some ⟨p, 0, none⟩)) ∧ Bts w' p q (kp 65536 x) (sidesOf (fun _ => 0)) ∧ w.heap.size ≤ p ∧ w.heap.size ≤ q ∧ Turned [] w w' := by
  unfold In64 at hx
  have hn := kp_le 65536 x
  have ex : min (max x 0) 65536 = (kp 65536 x : Int) := by unfold kp; omega
  have HR := hide (fun w => rows_any (kp 65536 x) w hn)
  generalize kp 65536 x = n at *
  obtain ⟨R, hR⟩ : ∃ R, R = (n + 63) / 64 := ⟨_, rfl⟩
  rw [← hR] at HR
  have HRR := hide hR
  have hRl : R ≤ 1024 := by omega
  have HT := hide hT
  clear hR
  obtain ⟨i0, hi, hi0⟩ := Option.map_eq_some_iff.1 Tryz.infoRow
  simp only [Prod.mk.injEq] at hi0
  obtain ⟨hz0, hz1, hz2⟩ := hi0
  have hmk : ∀ w : World, (Instr.makeSlice 112 (.int .i64 (R : Int)) (.int .i64 (R : Int))).run Tryz.prog w = .ok (.slice (some ⟨w.heap.size, 0, none⟩) R R) (w.alloc (.cells (madeCells #[.int .u64 0, .int .u64 0] (R * 2)) 164)) := fun w => by
    have hr := run_make (P := Tryz.prog) w 112 164 i0 (.agg #[.int .u64 0, .int .u64 0]) Tryz.underlying112 hi hz0 .i64 .i64 R R (by omega) (by omega) (by rw [hz2]; omega) (by omega)
    simp only [hz1, Int.toNat_natCast] at hr
    exact hr
  go_enter Tryz.func21, Tryz.ntmps21
  go_wp2_with fail
  refine (HR.out _).mono ?_
  rintro e w1 ⟨rfl, rfl⟩
  go_wp2_with fail
  go_ret
  have h0 : 0 < w1.heap.size := block_lt (HT.out 0 (by omega))
  have ht : Turned [] w1 ((w1.alloc (.cells (madeCells #[.int .u64 0, .int .u64 0] (R * 2)) 164)).alloc (.cells #[.int .i64 (n : Int), .slice (some ⟨w1.heap.size, 0, none⟩) R R] 114)) := ((Turned.refl [] w1).alloc _).alloc _
  have hs1 : (w1.alloc (.cells (madeCells #[.int .u64 0, .int .u64 0] (R * 2)) 164)).heap.size = w1.heap.size + 1 := by simp
  refine ⟨w1.heap.size + 1, w1.heap.size, rfl, ⟨hn, HT.out.turned ht (by simp), by omega, by omega, by omega, ?_, ⟨madeCells #[.int .u64 0, .int .u64 0] (R * 2), ?_, fun i s hi hs => ?_⟩⟩, by omega, by omega, ht⟩
  · rw [← HRR.out]
    have h1 := heap_alloc_new (w1.alloc (.cells (madeCells #[.int .u64 0, .int .u64 0] (R * 2)) 164)) (.cells #[.int .i64 (n : Int), .slice (some ⟨w1.heap.size, 0, none⟩) R R] 114)
    rw [hs1] at h1
    exact h1
  · rw [Below.heap_alloc _ _ _ (by rw [hs1]; omega)]
    exact heap_alloc_new _ _
  · rw [row_none]
    exact made_zero R i s (by rw [HRR.out]; exact hi) hs
end Go.Proofs.YtpeglndlhjnaaaaGreatDoor.Bt

/-
  awake: the answers that the document fixes.
-/
namespace Go.Proofs.YtpeglndlhjnaaaaGreatDoor.Bt
open Go.RowKit
set_option linter.unusedVariables false

def S0 : Nat → Nat := fun _ => 0
def S1 : Nat → Nat := upd S0 10 5
def S2 : Nat → Nat := upd S1 15 3
theorem S1_at (k : Nat) : S1 k = if k = 10 then 5 else 0 := rfl
theorem S2_at (k : Nat) : S2 k = if k = 15 then 3 else if k = 10 then 5 else 0 := rfl
theorem live0 (k : Nat) : live S0 k = false := by
  unfold live; rw [bo_false]
  rintro ⟨a, h1, h2⟩
  unfold S0 at h2
  omega
theorem live1 (k : Nat) : live S1 k = decide (10 ≤ k ∧ k < 15) := by
  rw [Bool.eq_iff_iff]
  unfold live
  rw [bo_true, decide_eq_true_eq]
  constructor
  · rintro ⟨a, h1, h2⟩
    rw [S1_at] at h2
    split at h2 <;> omega
  · intro h
    exact ⟨10, by omega, by rw [S1_at, if_pos rfl]; omega⟩
theorem live2 (k : Nat) : live S2 k = decide (10 ≤ k ∧ k < 18) := by
  rw [Bool.eq_iff_iff]
  unfold live
  rw [bo_true, decide_eq_true_eq]
  constructor
  · rintro ⟨a, h1, h2⟩
    rw [S2_at] at h2
    split at h2
    · omega
    · split at h2 <;> omega
  · intro h
    by_cases h1 : k < 15
    · exact ⟨10, by omega, by rw [S2_at, if_neg (by omega), if_pos rfl]; omega⟩
    · exact ⟨15, by omega, by rw [S2_at, if_pos rfl]; omega⟩
theorem mark_free {n : Nat} {S : Nat → Nat} {x z : Int} (h1 : 0 ≤ x ∧ x < n) (h2 : 1 ≤ z ∧ z ≤ n - x) (h3 : S x.toNat = 0) (h4 : Free S x.toNat z.toNat) : markT n S x z = (true, 0, upd S x.toNat z.toNat) := by
  unfold markT
  rw [if_neg (by simpa using h1), if_neg (by omega), if_neg (by omega), if_pos h4]
theorem mark_again {n : Nat} {S : Nat → Nat} {x z : Int} (h1 : 0 ≤ x ∧ x < n) (h2 : 1 ≤ z ∧ z ≤ n - x) (h3 : 0 < S x.toNat) : markT n S x z = (false, 0, S) := by
  unfold markT
  rw [if_neg (by simpa using h1), if_neg (by omega), if_pos h3]
theorem mark_over {n : Nat} {S : Nat → Nat} {x z : Int} (h1 : 0 ≤ x ∧ x < n) (h2 : 1 ≤ z ∧ z ≤ n - x) (h3 : S x.toNat = 0) (h4 : ¬ Free S x.toNat z.toNat) : markT n S x z = (false, 11, S) := by
  unfold markT
  rw [if_neg (by simpa using h1), if_neg (by omega), if_neg (by omega), if_neg h4]
theorem mark_big {n : Nat} {S : Nat → Nat} {x z : Int} (h1 : 0 ≤ x ∧ x < n) (h2 : z < 1 ∨ n - x < z) : markT n S x z = (false, 11, S) := by
  unfold markT
  rw [if_neg (by simpa using h1), if_pos h2]
theorem m1_eq : markT 100 S0 10 5 = (true, 0, S1) := mark_free (by omega) (by omega) rfl (fun k _ _ => live0 k)
theorem m2_eq : markT 100 S1 10 5 = (false, 0, S1) := mark_again (by omega) (by omega) (by decide)
theorem m3_eq : markT 100 S1 14 1 = (false, 11, S1) := mark_over (by omega) (by omega) rfl (fun h => by
  have := h 14 (by decide) (by decide)
  rw [live1] at this
  exact absurd this (by decide))
theorem m4_eq : markT 100 S1 15 3 = (true, 0, S2) := mark_free (by omega) (by omega) rfl (fun k h1 h2 => by
  rw [live1, decide_eq_false]
  have h3 : (15 : Int).toNat = 15 := rfl
  rw [h3] at h1
  omega)
theorem m5_eq : markT 100 S2 99 2 = (false, 11, S2) := mark_big (by omega) (by omega)
theorem bl1 : Bl 100 S1 := by have := markT_bl (Bl.none 100) 10 5; rw [show (fun _ => 0 : Nat → Nat) = S0 from rfl, m1_eq] at this; exact this
theorem bl2 : Bl 100 S2 := by have := markT_bl bl1 15 3; rw [m4_eq] at this; exact this
theorem cl_eq : cntIn (live S2) 0 100 = 8 := by
  have : live S2 = fun k => decide (10 ≤ k ∧ k < 18) := funext live2
  rw [this]; decide +kernel
theorem cl2_eq : cntIn (live S2) 12 16 = 4 := by
  have : live S2 = fun k => decide (10 ≤ k ∧ k < 18) := funext live2
  rw [this]; decide +kernel
theorem cc_eq : cntIn (begs S2) 0 15 = 1 := by decide +kernel
theorem IsNext.uniq {f : Nat → Bool} {a b : Nat} {r s : Int} (h : IsNext f a b r) (k : IsNext f a b s) : r = s := by
  rcases h with ⟨rfl, h1⟩ | ⟨i, rfl, h1, h2, h3, h4⟩ <;> rcases k with ⟨rfl, k1⟩ | ⟨j, rfl, k1, k2, k3, k4⟩
  · rfl
  · rw [h1 j k1 k2] at k3; cases k3
  · rw [k1 i h1 h2] at h3; cases h3
  · rcases Nat.lt_trichotomy i j with h5 | h5 | h5
    · rw [k4 i h1 h5] at h3; cases h3
    · rw [h5]
    · rw [h4 j k1 h5] at k3; cases k3
theorem nx_eq {r : Int} (h : IsNext (begs S2) 11 100 r) : r = 15 := by
  refine h.uniq (.inr ⟨15, rfl, by omega, by omega, by decide, fun j h1 h2 => ?_⟩)
  unfold begs
  rw [S2_at, if_neg (by omega), if_neg (by omega)]
  rfl
theorem IsOver.at {n : Nat} {S : Nat → Nat} (h : Bl n S) {k j : Nat} {a z : Int} {t : Bool} (hc : Cov S k j) (ho : IsOver S j a z t) : a = k ∧ z = S k ∧ t = true := by
  rcases ho with ⟨k2, j2, h1, h2, h3, h4, h5⟩ | ⟨h1, _⟩
  · have h6 : j2 = j := by omega
    subst h6
    have h7 := h.one h2 hc
    subst h7
    exact ⟨h3, h4, h5⟩
  · exact absurd hc (h1 k j rfl)
theorem ov_eq {a z : Int} {t : Bool} (h : IsOver S2 13 a z t) : a = 10 ∧ z = 5 ∧ t = true := by
  have := IsOver.at bl2 (k := 10) (j := 13) (by unfold Cov; rw [S2_at]; decide) h
  exact this
theorem ov2_eq {a z : Int} {t : Bool} (h : IsOver S2 9 a z t) : t = false := by
  rcases h with ⟨k, j, h1, h2, _⟩ | ⟨_, _, _, h⟩
  · exfalso
    have h3 : j = 9 := by omega
    subst h3
    have h4 : live S2 9 = true := by unfold live; rw [bo_true]; exact ⟨k, h2⟩
    rw [live2] at h4
    exact absurd h4 (by decide)
  · exact h

end Go.Proofs.YtpeglndlhjnaaaaGreatDoor.Bt

/-
  Sums of sizes and counts of live words. No Go is walked here.
-/
namespace Go.Proofs.YtpeglndlhjnaaaaGreatDoor.Bt
open Go.RowKit
set_option linter.unusedVariables false

/-- The sizes together, below m. -/
def tot (S : Nat → Nat) : Nat → Nat
  | 0 => 0
  | m + 1 => tot S m + S m
theorem tot_live_aux {n : Nat} {S : Nat → Nat} (h : Bl n S) (m : Nat) : ∃ r, tot S m = cnt (live S) m + r ∧ ((r = 0 ∧ opn S m = false) ∨ ∃ a, a < m ∧ m < a + S a ∧ r = a + S a - m) := by
  induction m with
  | zero => exact ⟨0, rfl, .inl ⟨rfl, opn_zero S⟩⟩
  | succ m ih =>
    obtain ⟨r, h1, h2⟩ := ih
    have hl := live_eq h m
    rw [tot, cnt, h1]
    by_cases hs : 0 < S m
    · have hb : begs S m = true := by unfold begs; simpa using hs
      have hr : r = 0 := by
        rcases h2 with ⟨h3, _⟩ | ⟨a, h3, h4, _⟩
        · exact h3
        · have := h.apart a m h3 (by omega) hs
          omega
      have hlv : live S m = true := by unfold live; rw [bo_true]; exact ⟨m, by unfold Cov; omega⟩
      refine ⟨S m - 1, by rw [hlv]; simp; omega, ?_⟩
      by_cases h1s : S m = 1
      · refine .inl ⟨by omega, ?_⟩
        unfold opn; rw [bo_false]; rintro ⟨a, h3, h4⟩
        have := h.one (a := a) (b := m) (k := m) ⟨by omega, by omega⟩ ⟨by omega, by omega⟩
        subst this; omega
      · exact .inr ⟨m, by omega, by omega, by omega⟩
    · have hs0 : S m = 0 := by omega
      rcases h2 with ⟨h3, h4⟩ | ⟨a, h3, h4, h5⟩
      · have hb : begs S m = false := by unfold begs; simpa using hs
        have hlv : (live S m).toNat = 0 := by rw [hl, hb, h4]; rfl
        refine ⟨0, by omega, .inl ⟨rfl, ?_⟩⟩
        have h6 := opn_succ h m
        cases ho : opn S (m + 1)
        · rfl
        · rw [ho] at h6
          have h7 : (true).toNat = 1 := rfl
          omega
      · have hlv : live S m = true := by unfold live; rw [bo_true]; exact ⟨a, by unfold Cov; omega⟩
        refine ⟨r - 1, by rw [hlv]; simp; omega, ?_⟩
        by_cases h6 : m + 1 < a + S a
        · exact .inr ⟨a, by omega, h6, by omega⟩
        · refine .inl ⟨by omega, ?_⟩
          unfold opn; rw [bo_false]; rintro ⟨b, h7, h8⟩
          have hbm : b ≠ m := by intro e; subst e; omega
          have := h.one (a := a) (b := b) (k := m) ⟨by omega, by omega⟩ ⟨by omega, by omega⟩
          subst this; omega
theorem tot_live {n : Nat} {S : Nat → Nat} (h : Bl n S) : tot S n = cnt (live S) n := by
  obtain ⟨r, h1, h2⟩ := tot_live_aux h n
  rcases h2 with ⟨h3, _⟩ | ⟨a, h3, h4, _⟩
  · omega
  · have := h.into a (by omega)
    omega
theorem tot_none (m : Nat) : tot S0 m = 0 := by
  induction m with
  | zero => rfl
  | succ m ih => rw [tot, ih]; rfl
theorem tot_congr {S T : Nat → Nat} {m : Nat} (h : ∀ k, k < m → S k = T k) : tot S m = tot T m := by
  induction m with
  | zero => rfl
  | succ m ih => rw [tot, tot, ih (fun k hk => h k (by omega)), h m (by omega)]
theorem tot_upd (S : Nat → Nat) (a z n : Nat) (ha : a < n) : tot (upd S a z) n + S a = tot S n + z := by
  induction n with
  | zero => omega
  | succ n ih =>
    rw [tot, tot]
    by_cases h : a = n
    · subst h
      rw [upd_at, tot_congr (S := upd S a z) (T := S) (fun k hk => upd_ne S (by omega))]
      omega
    · rw [upd_ne S (fun e => h e.symm)]
      have := ih (by omega)
      omega
theorem tot_skip {S : Nat → Nat} {a b : Nat} (hab : a ≤ b) (h : ∀ k, a ≤ k → k < b → begs S k = false) : tot S b = tot S a := by
  obtain ⟨d, rfl⟩ := Nat.exists_eq_add_of_le hab
  induction d with
  | zero => rfl
  | succ d ih =>
    rw [← Nat.add_assoc, tot, ih (by omega) (fun k h1 h2 => h k h1 (by omega))]
    have h1 := h (a + d) (by omega) (by omega)
    unfold begs at h1
    simp at h1
    omega
theorem cntIn_add (f : Nat → Bool) {x y : Nat} (h : x ≤ y) : cnt f x + cntIn f x y = cnt f y := by
  unfold cntIn
  obtain ⟨d, rfl⟩ := Nat.exists_eq_add_of_le h
  rw [cnt_add, cnt_add f x d]
  have h1 : cnt (inn f x (x + d)) x = 0 := cnt_zero fun j hj => by
    unfold inn
    have : ¬ x ≤ j := by omega
    simp [this]
  have h2 : cnt (fun j => inn f x (x + d) (x + j)) d = cnt (fun j => f (x + j)) d := cnt_congr fun j hj => by
    unfold inn
    have : x + j < x + d := by omega
    simp [this]
  omega
theorem cntIn_zero (f : Nat → Bool) (y : Nat) : cntIn f 0 y = cnt f y := by
  have := cntIn_add f (Nat.zero_le y)
  rw [show cnt f 0 = 0 from rfl] at this
  omega
/-- What Mark tells, in short. -/
theorem mark_sum {n : Nat} {S : Nat → Nat} (x z : Int) : ((markT n S x z).1 = true ∧ 0 ≤ x ∧ x < n ∧ 1 ≤ z ∧ z ≤ n - x ∧ S x.toNat = 0 ∧ Free S x.toNat z.toNat ∧ (markT n S x z).2.1 = 0 ∧ (markT n S x z).2.2 = upd S x.toNat z.toNat) ∨ ((markT n S x z).1 = false ∧ (markT n S x z).2.2 = S) := by
  unfold markT
  split
  · exact .inr ⟨rfl, rfl⟩
  · split
    · exact .inr ⟨rfl, rfl⟩
    · split
      · exact .inr ⟨rfl, rfl⟩
      · split
        · rename_i h1 h2 h3 h4
          exact .inl ⟨rfl, by omega, by omega, by omega, by omega, by omega, h4, rfl, rfl⟩
        · exact .inr ⟨rfl, rfl⟩
theorem wrap_few (n : Nat) (h : n < 9223372036854775808) : IntKind.i64.wrap (n : Int) = (n : Int) := by
  rw [IntKind.wrap_i64]
  omega
theorem ofInt_nat64 (n : Int) : (BitVec.ofInt 64 n).toNat = (n % 18446744073709551616).toNat := by
  simp [BitVec.toNat_ofInt]
theorem and1023 (n : Int) : bits .and .i64 n 1023 = n % 1024 := by
  show IntKind.i64.wrap ((BitVec.ofInt 64 n &&& BitVec.ofInt 64 1023).toNat : Int) = _
  have e1 : (BitVec.ofInt 64 1023).toNat = 2 ^ 10 - 1 := by decide
  rw [BitVec.toNat_and, ofInt_nat64, e1, Nat.and_two_pow_sub_one_eq_mod, wrap_few _ (by omega)]
  omega
end Go.Proofs.YtpeglndlhjnaaaaGreatDoor.Bt

/-
  The document's own object of layer 5 (its sizes in a slice): Size, span, Next, Count, Over, Live tell by the same pure functions as the program.
-/
namespace Go.Proofs.YtpeglndlhjnaaaaGreatDoor.Bt
open Go.RowKit
set_option linter.unusedVariables false

/-- The document's object: block p the struct, block q the sizes. -/
structure RB (w : World) (p q n : Nat) (S : Nat → Nat) : Prop where
  few : n ≤ 65536
  bl : Bl n S
  p0 : p ≠ 0
  q0 : q ≠ 0
  ne : p ≠ q
  head : w.heap[p]? = some (.cells #[.slice (some ⟨q, 0, none⟩) n n] 105)
  row : ∃ c, w.heap[q]? = some (.cells c 3) ∧ ∀ i, i < n → c[i]? = some (.int .i64 (S i : Nat))
section
variable {w w' : World} {p q n : Nat} {S : Nat → Nat}
theorem RB.c0 (h : RB w p q n S) : w.cell? ⟨p, 0, none⟩ = some (.slice (some ⟨q, 0, none⟩) n n) := by rw [cell_of_heap h.head]; rfl
theorem RB.cell (h : RB w p q n S) {i : Nat} (hi : i < n) : w.cell? ⟨q, i, none⟩ = some (.int .i64 (S i : Nat)) := by
  obtain ⟨c, hc, hr⟩ := h.row
  rw [cell_of_heap hc]
  exact hr i hi
theorem RB.fq (h : RB w p q n S) (i : Nat) : w.frozen? ⟨q, i, none⟩ = false := by
  obtain ⟨c, hc, _⟩ := h.row
  simp [World.frozen?, hc]
theorem RB.ltp (h : RB w p q n S) : p < w.heap.size := lt_of_heap h.head
theorem RB.ltq (h : RB w p q n S) : q < w.heap.size := by obtain ⟨c, hc, _⟩ := h.row; exact lt_of_heap hc
theorem RB.turned (h : RB w p q n S) {T : List Nat} (t : Turned T w w') (hp : p ∉ T) (hq : q ∉ T) : RB w' p q n S := by
  obtain ⟨c, hc, hr⟩ := h.row
  exact ⟨h.few, h.bl, h.p0, h.q0, h.ne, by rw [t.block p h.ltp hp]; exact h.head, c, by rw [t.block q h.ltq hq]; exact hc, hr⟩
theorem RB.turned0 (h : RB w p q n S) (t : Turned [] w w') : RB w' p q n S := h.turned t (by simp) (by simp)
theorem RB.small (h : RB w p q n S) (i : Nat) : S i ≤ 65536 := by
  by_cases h1 : 0 < S i
  · have := h.bl.into i h1; have := h.few; omega
  · omega
end

end Go.Proofs.YtpeglndlhjnaaaaGreatDoor.Bt

/-
  The document's own Count, Live and Over.
-/
namespace Go.Proofs.YtpeglndlhjnaaaaGreatDoor.Bt
open Go.RowKit
set_option linter.unusedVariables false

/-- The end of the last block that began ahead of i. -/
def EndAt (S : Nat → Nat) (i en : Nat) : Prop := (en ≤ i ∧ opn S i = false) ∨ ∃ a, a < i ∧ i < a + S a ∧ en = a + S a
theorem end_next {n : Nat} {S : Nat → Nat} (h : Bl n S) {i en : Nat} (he : EndAt S i en) : (live S i = decide (i < if 0 < S i then i + S i else en)) ∧ EndAt S (i + 1) (if 0 < S i then i + S i else en) := by
  have h1 := live_eq h i
  have h2 := opn_succ h i
  have hone : ∀ a, a ≤ i → i < a + S a → a + S a = i + 1 → opn S (i + 1) = false := by
    intro a ha1 ha2 ha3
    unfold opn; rw [bo_false]; rintro ⟨b, h3, h4⟩
    have := h.one (a := a) (b := b) (k := i) ⟨ha1, ha2⟩ ⟨by omega, by omega⟩
    subst this; omega
  by_cases hs : 0 < S i
  · rw [if_pos hs]
    have hl : live S i = true := by unfold live; rw [bo_true]; exact ⟨i, by unfold Cov; omega⟩
    refine ⟨by rw [hl]; simp; omega, ?_⟩
    by_cases h3 : S i = 1
    · exact .inl ⟨by omega, hone i (by omega) (by omega) (by omega)⟩
    · exact .inr ⟨i, by omega, by omega, rfl⟩
  · rw [if_neg hs]
    rcases he with ⟨h3, h4⟩ | ⟨a, h3, h4, h5⟩
    · have hb : begs S i = false := by unfold begs; simpa using hs
      rw [hb, h4] at h1
      have hl : live S i = false := by
        cases hl : live S i
        · rfl
        · rw [hl] at h1; simp at h1
      refine ⟨by rw [hl]; simp; omega, .inl ⟨by omega, ?_⟩⟩
      rw [hl] at h2
      cases ho : opn S (i + 1)
      · rfl
      · rw [ho] at h2; simp at h2
    · have hl : live S i = true := by unfold live; rw [bo_true]; exact ⟨a, by unfold Cov; omega⟩
      refine ⟨by rw [hl]; simp; omega, ?_⟩
      by_cases h6 : i + 1 < a + S a
      · exact .inr ⟨a, by omega, h6, h5⟩
      · exact .inl ⟨by omega, hone a (by omega) h4 (by omega)⟩
theorem end_le {n : Nat} {S : Nat → Nat} (h : Bl n S) {i en : Nat} (hi : i ≤ n) (he : EndAt S i en) : en ≤ n := by
  rcases he with ⟨h3, _⟩ | ⟨a, h3, h4, h5⟩
  · omega
  · have := h.into a (by omega); omega

theorem rover_any (p q n : Nat) (S : Nat → Nat) (x : Int) (w : World) (h : RB w p q n S) :
    Calls Tryz.prog 79 #[.pointer (some ⟨p, 0, none⟩), .int .i64 x] w fun e w' => ∃ (a z : Int) (t : Bool), e = .returned (.tuple #[.int .i64 a, .int .i64 z, .bool t]) ∧ IsOver S x a z t ∧ ∃ m, w' = w.drewN m := by
  have hn := h.few
  have c0 := h.c0
  have HB := hide h
  clear h
  go_enter Tryz.func79, Tryz.ntmps79
  go_wp2_with fail
  go_loop [7] (fun i => ∃ k : Nat, k ≤ n ∧ i = .int .i64 k ∧ Hid (∀ j m : Nat, j < k → x = m → ¬ Cov S j m)) (fun i => n - (intOf i).toNat)
  case atStart => exact ⟨0, by omega, rfl, fun j m h1 => by omega⟩
  case round =>
    obtain ⟨k, hk, rfl, HF⟩ := hrel
    by_cases hlt : k < n
    · have c1 := HB.out.cell hlt
      have hsm := HB.out.small k
      have hkn : (k : Int) < (n : Int) := by omega
      by_cases hc : 0 < S k ∧ (k : Int) ≤ x ∧ x < (k : Int) + S k
      · obtain ⟨h1, h2, h3⟩ := hc
        obtain ⟨m, rfl⟩ := Int.eq_ofNat_of_zero_le (show 0 ≤ x by omega)
        have HR : Hid (IsOver S (m : Int) (k : Int) (S k : Int) true) := .inl ⟨k, m, rfl, ⟨by omega, by omega⟩, rfl, rfl, rfl⟩
        generalize S k = sk at *
        go_wp2_with fail
        go_quiet (fail)
        go_wp2_with fail
        go_ret3
        exact ⟨_, _, _, rfl, HR.out, _, rfl⟩
      · have HF2 : Hid (∀ j m : Nat, j < k + 1 → x = m → ¬ Cov S j m) := by
          intro j m h1 h2 h3
          by_cases hj : j = k
          · subst hj
            unfold Cov at h3
            exact hc ⟨by omega, by omega, by omega⟩
          · exact HF.out j m (by omega) h2 h3
        clear HF
        by_cases h1 : 0 < S k
        · by_cases h2 : (k : Int) ≤ x
          · have h3 : ¬ (x < (k : Int) + S k) := fun h3 => hc ⟨h1, h2, h3⟩
            clear hc
            generalize S k = sk at *
            go_wp2_with fail
            go_round
            case rel => exact ⟨k + 1, by omega, by go_num, HF2⟩
            case measure => simp [intOf]; omega
          · have hd : decide ((k : Int) ≤ x) = false := decide_eq_false h2
            clear hc
            generalize S k = sk at *
            go_wp2_with fail
            go_round
            case rel => exact ⟨k + 1, by omega, by go_num, HF2⟩
            case measure => simp [intOf]; omega
        · have hs0 : S k = 0 := by omega
          rw [hs0] at c1
          clear hc
          go_wp2_with fail
          go_round
          case rel => exact ⟨k + 1, by omega, by go_num, HF2⟩
          case measure => simp [intOf]; omega
    · have HR : Hid (IsOver S x 0 0 false) := by
        refine .inr ⟨fun j m h1 h2 => ?_, rfl, rfl, rfl⟩
        have h3 := HB.out.bl.into j (by have := h2.1; have := h2.2; omega)
        exact HF.out j m (by have := h2.1; have := h2.2; omega) h1 h2
      go_wp2_with fail
      go_ret3
      first | exact ⟨0, 0, false, rfl, HR.out, 0, rfl⟩ | exact ⟨0, 0, .inl ⟨rfl, HR.out, 0, rfl⟩⟩
end Go.Proofs.YtpeglndlhjnaaaaGreatDoor.Bt

/-
  The document's own Mark and New.
-/
namespace Go.Proofs.YtpeglndlhjnaaaaGreatDoor.Bt
open Go.RowKit
set_option linter.unusedVariables false

theorem RB.put {w : World} {p q n : Nat} {S S' : Nat → Nat} (h : RB w p q n S) {a z : Nat} (ha : a < n) (hb : Bl n S') (hS : ∀ i, i < n → S' i = if i = a then z else S i) : RB (w.setCell ⟨q, a, none⟩ (.int .i64 (z : Int))) p q n S' := by
  obtain ⟨c, hc, hr⟩ := h.row
  refine ⟨h.few, hb, h.p0, h.q0, h.ne, by rw [Below.heap_setCell _ _ _ _ (fun e => h.ne e)]; exact h.head, _, heap_setCell_at _ _ _ _ _ _ hc _, fun i hi => ?_⟩
  have hlt : a < c.size := (Array.getElem?_eq_some_iff.1 (hr a ha)).1
  rw [Array.getElem?_setIfInBounds, hS i hi]
  by_cases he : a = i
  · subst he
    rw [if_pos rfl, if_pos hlt, if_pos rfl]
  · rw [if_neg he, hr i hi, if_neg (fun e => he e.symm)]

theorem not_free {S : Nat → Nat} {a z k : Nat} (h1 : 0 < S k) (h2 : k < a + z) (h3 : a < k + S k) (hz : 1 ≤ z) : ¬ Free S a z := by
  intro hf
  have := free_no hf hz h1
  omega
theorem is_free {S : Nat → Nat} {a z : Nat} (h : ∀ k, 0 < S k → ¬ (k < a + z ∧ a < k + S k)) : Free S a z := by
  intro k h1 h2
  unfold live
  rw [bo_false]
  rintro ⟨b, hb1, hb2⟩
  exact h b (by omega) ⟨by omega, by omega⟩

set_option maxHeartbeats 1000000 in
theorem rmark_any (p q n : Nat) (S : Nat → Nat) (x z : Int) (w : World) (hz : In64 z) (h : RB w p q n S) :
    Calls Tryz.prog 29 #[.pointer (some ⟨p, 0, none⟩), .int .i64 x, .int .i64 z] w fun e w' => e = .returned (.tuple #[.bool (markT n S x z).1, .int .i64 (markT n S x z).2.1]) ∧ RB w' p q n (markT n S x z).2.2 ∧ Turned [q] w w' := by
  have hn := h.few
  have c0 := h.c0
  unfold In64 at hz
  have HB := hide h
  obtain ⟨M, hM⟩ : ∃ M, M = markT n S x z := ⟨_, rfl⟩
  rw [← hM]
  unfold markT at hM
  by_cases h0 : 0 ≤ x ∧ x < n
  · rw [if_neg (by simpa using h0)] at hM
    obtain ⟨a, rfl⟩ := Int.eq_ofNat_of_zero_le h0.1
    rw [Int.toNat_natCast] at hM
    have han : a < n := by omega
    have hd0 : decide ((a : Int) < 0) = false := decide_eq_false (by omega)
    by_cases h1 : z < 1 ∨ (n : Int) - a < z
    · rw [if_pos h1] at hM
      subst hM
      clear h
      by_cases h2 : z < 1
      · go_enter Tryz.func29, Tryz.ntmps29
        go_wp2_with fail
        go_ret2
        exact ⟨rfl, HB.out, Turned.refl _ _⟩
      · have hd : decide (z < 1) = false := decide_eq_false h2
        have h3 : (n : Int) - a < z := by omega
        go_enter Tryz.func29, Tryz.ntmps29
        go_wp2_with fail
        go_ret2
        exact ⟨rfl, HB.out, Turned.refl _ _⟩
    · rw [if_neg h1] at hM
      have hz1 : ¬ z < 1 := by omega
      obtain ⟨y, rfl⟩ := Int.eq_ofNat_of_zero_le (show 0 ≤ z by omega)
      rw [Int.toNat_natCast] at hM
      have hay : a + y ≤ n := by omega
      have hd : decide ((y : Int) < 1) = false := decide_eq_false hz1
      have hd2 : ¬ ((n : Int) - a < y) := by omega
      have ca := h.cell han
      have hsa := h.small a
      by_cases h2 : 0 < S a
      · rw [if_pos h2] at hM
        subst hM
        clear h h1 h0
        generalize S a = sa at *
        go_enter Tryz.func29, Tryz.ntmps29
        go_wp2_with fail
        go_ret2
        exact ⟨rfl, HB.out, Turned.refl _ _⟩
      · rw [if_neg h2] at hM
        have hs0 : S a = 0 := by omega
        rw [hs0] at ca
        have fa := h.fq a
        have HM := hide hM
        clear h h1 h0 hM
        go_enter Tryz.func29, Tryz.ntmps29
        go_wp2_with fail
        go_loop [9] (fun i => ∃ k : Nat, k ≤ n ∧ i = .int .i64 k ∧ Hid (∀ j, j < k → 0 < S j → ¬ (j < a + y ∧ a < j + S j))) (fun i => n - (intOf i).toNat)
        case atStart => exact ⟨0, by omega, rfl, fun j h1 => by omega⟩
        case round =>
          obtain ⟨k, hk, rfl, HF⟩ := hrel
          by_cases hlt : k < n
          · have c1 := HB.out.cell hlt
            have hsm := HB.out.small k
            have hkn : (k : Int) < (n : Int) := by omega
            by_cases hc : 0 < S k ∧ k < a + y ∧ a < k + S k
            · obtain ⟨h3, h4, h5⟩ := hc
              have hM := HM.out
              rw [if_neg (not_free h3 h4 h5 (by omega))] at hM
              subst hM
              have h4i : (k : Int) < (a : Int) + y := by omega
              have h5i : (a : Int) < (k : Int) + (S k : Int) := by omega
              generalize S k = sk at *
              go_wp2_with fail
              go_ret2
              exact ⟨rfl, HB.out, Turned.refl _ _⟩
            · have HF2 : Hid (∀ j, j < k + 1 → 0 < S j → ¬ (j < a + y ∧ a < j + S j)) := by
                intro j h3 h4 h5
                by_cases hj : j = k
                · subst hj; exact hc ⟨h4, h5.1, h5.2⟩
                · exact HF.out j (by omega) h4 h5
              clear HF
              by_cases h3 : 0 < S k
              · by_cases h4 : (k : Int) < (a : Int) + y
                · have h5 : ¬ ((a : Int) < (k : Int) + (S k : Int)) := fun h5 => hc ⟨h3, by omega, by omega⟩
                  clear hc
                  generalize S k = sk at *
                  go_wp2_with fail
                  go_round
                  case rel => exact ⟨k + 1, by omega, by go_num, HF2⟩
                  case measure => simp [intOf]; omega
                · have hd4 : decide ((k : Int) < (a : Int) + y) = false := decide_eq_false h4
                  clear hc
                  generalize S k = sk at *
                  go_wp2_with fail
                  go_round
                  case rel => exact ⟨k + 1, by omega, by go_num, HF2⟩
                  case measure => simp [intOf]; omega
              · have hs0 : S k = 0 := by omega
                rw [hs0] at c1
                clear hc
                go_wp2_with fail
                go_round
                case rel => exact ⟨k + 1, by omega, by go_num, HF2⟩
                case measure => simp [intOf]; omega
          · have hf : Free S a y := is_free (fun j h3 h4 => HF.out j (by have := HB.out.bl.into j h3; omega) h3 h4)
            have hM := HM.out
            rw [if_pos hf] at hM
            subst hM
            have HR := hide (HB.out.put (a := a) (z := y) han (HB.out.bl.mark (by omega) hay hf) (fun i _ => rfl))
            have HTt := hide ((Turned.refl [q] w).setCell (p := ⟨q, a, none⟩) (.inl (by simp)) (.int .i64 (y : Int)))
            have hai : (a : Int) < (n : Int) := by omega
            clear hf HF
            go_wp2_with fail
            go_ret2
            exact ⟨rfl, HR.out, HTt.out⟩
  · rw [if_pos h0] at hM
    subst hM
    clear h
    by_cases h1 : x < 0
    · go_enter Tryz.func29, Tryz.ntmps29
      go_wp2_with fail
      go_ret2
      exact ⟨rfl, HB.out, Turned.refl _ _⟩
    · have hd : decide (x < 0) = false := decide_eq_false h1
      have h2 : (n : Int) ≤ x := by omega
      go_enter Tryz.func29, Tryz.ntmps29
      go_wp2_with fail
      go_ret2
      exact ⟨rfl, HB.out, Turned.refl _ _⟩

theorem Tryz.infoInt : (Tryz.prog.info? 3).map (fun i => (i.zero, i.size, i.bytes)) = some (some (.int .i64 0), 1, 8) := by kernel_rfl
theorem rnew_any (x : Int) (w : World) (hx : In64 x) (hT : Tab w) :
    Calls Tryz.prog 23 #[.int .i64 x] w fun e w' => ∃ p q, e = .returned (.pointer (some ⟨p, 0, none⟩)) ∧ RB w' p q (kp 65536 x) S0 ∧ w.heap.size ≤ p ∧ w.heap.size ≤ q ∧ Turned [] w w' := by
  unfold In64 at hx
  have h0 : 0 < w.heap.size := block_lt (hT 0 (by omega))
  obtain ⟨n, hn⟩ : ∃ n, n = kp 65536 x := ⟨_, rfl⟩
  rw [← hn]
  have hn2 : n ≤ 65536 := by rw [hn]; exact kp_le _ _
  have HN := hide hn
  clear hn hT
  obtain ⟨i0, hi, hi0⟩ := Option.map_eq_some_iff.1 Tryz.infoInt
  simp only [Prod.mk.injEq] at hi0
  obtain ⟨hz0, hz1, hz2⟩ := hi0
  have hmk : ∀ w : World, (Instr.makeSlice 23 (.int .i64 (n : Int)) (.int .i64 (n : Int))).run Tryz.prog w = .ok (.slice (some ⟨w.heap.size, 0, none⟩) n n) (w.alloc (.cells (madeCells #[.int .i64 0] n) 3)) := fun w => by
    have hr := run_make (P := Tryz.prog) w 23 3 i0 (.int .i64 0) Tryz.underlying23 hi hz0 .i64 .i64 n n (by omega) (by omega) (by rw [hz2]; omega) (by omega)
    simp only [hz1, Int.toNat_natCast, Nat.mul_one] at hr
    exact hr
  have fin : ∀ w1 : World, w1 = w → (∃ p q, Ending.returned (.pointer (some ⟨w1.heap.size + 1, 0, none⟩)) = Ending.returned (.pointer (some ⟨p, 0, none⟩)) ∧ RB ((w1.alloc (.cells (madeCells #[.int .i64 0] n) 3)).alloc (.cells #[.slice (some ⟨w1.heap.size, 0, none⟩) n n] 105)) p q n S0 ∧ w1.heap.size ≤ p ∧ w1.heap.size ≤ q ∧ Turned [] w1 ((w1.alloc (.cells (madeCells #[.int .i64 0] n) 3)).alloc (.cells #[.slice (some ⟨w1.heap.size, 0, none⟩) n n] 105))) := by
    rintro w1 rfl
    have hs1 : (w1.alloc (.cells (madeCells #[.int .i64 0] n) 3)).heap.size = w1.heap.size + 1 := by simp
    refine ⟨w1.heap.size + 1, w1.heap.size, rfl, ⟨hn2, Bl.none n, by omega, by omega, by omega, ?_, ⟨madeCells #[.int .i64 0] n, ?_, fun i hi => ?_⟩⟩, by omega, by omega, ((Turned.refl [] w1).alloc _).alloc _⟩
    · have h1 := heap_alloc_new (w1.alloc (.cells (madeCells #[.int .i64 0] n) 3)) (.cells #[.slice (some ⟨w1.heap.size, 0, none⟩) n n] 105)
      rw [hs1] at h1
      exact h1
    · rw [Below.heap_alloc _ _ _ (by rw [hs1]; omega)]
      exact heap_alloc_new _ _
    · unfold madeCells
      rw [Array.getElem?_map, Array.getElem?_range, if_pos (by omega)]
      simp [S0, Nat.mod_one]
  have HF := hide (fin w rfl)
  clear fin
  by_cases h1 : x < 0
  · have e : n = 0 := by have := HN.out; unfold kp at this; omega
    subst e
    have hmk0 : ∀ w : World, (Instr.makeSlice 23 (.int .i64 0) (.int .i64 0)).run Tryz.prog w = .ok (.slice (some ⟨w.heap.size, 0, none⟩) 0 0) (w.alloc (.cells (madeCells #[.int .i64 0] 0) 3)) := hmk
    clear hmk
    go_enter Tryz.func23, Tryz.ntmps23
    go_wp2_with fail
    go_ret
    obtain ⟨p', q', e1, r1, r2, r3, r4⟩ := HF.out
    first | exact ⟨p', q', e1, r1, r2, r3, r4⟩ | exact ⟨p', e1, q', r1, r2, r3, r4⟩
  · by_cases h2 : 65536 < x
    · have e : n = 65536 := by have := HN.out; unfold kp at this; omega
      subst e
      have hmk0 : ∀ w : World, (Instr.makeSlice 23 (.int .i64 65536) (.int .i64 65536)).run Tryz.prog w = .ok (.slice (some ⟨w.heap.size, 0, none⟩) 65536 65536) (w.alloc (.cells (madeCells #[.int .i64 0] 65536) 3)) := hmk
      clear hmk
      go_enter Tryz.func23, Tryz.ntmps23
      go_wp2_with fail
      go_ret
      obtain ⟨p', q', e1, r1, r2, r3, r4⟩ := HF.out
      first | exact ⟨p', q', e1, r1, r2, r3, r4⟩ | exact ⟨p', e1, q', r1, r2, r3, r4⟩
    · have e : x = (n : Int) := by have := HN.out; unfold kp at this; omega
      subst e
      go_enter Tryz.func23, Tryz.ntmps23
      go_wp2_with fail
      go_ret
      obtain ⟨p', q', e1, r1, r2, r3, r4⟩ := HF.out
      first | exact ⟨p', q', e1, r1, r2, r3, r4⟩ | exact ⟨p', e1, q', r1, r2, r3, r4⟩
end Go.Proofs.YtpeglndlhjnaaaaGreatDoor.Bt

/-
  A plan without memory: regions by their edges, what lives ahead of a place, where words go. No Go is walked here.
-/
namespace Go.Proofs.YtpeglndlhjnaaaaGreatDoor
open Bt
set_option linter.unusedVariables false

theorem cnt_mono (f : Nat → Bool) {a b : Nat} (h : a ≤ b) : cnt f a ≤ cnt f b := by
  obtain ⟨d, rfl⟩ := Nat.exists_eq_add_of_le h
  rw [cnt_add]; omega
theorem cnt_gap (f : Nat → Bool) {a b : Nat} (h : a ≤ b) : cnt f b ≤ cnt f a + (b - a) := by
  obtain ⟨d, rfl⟩ := Nat.exists_eq_add_of_le h
  rw [cnt_add]; have := cnt_le (fun j => f (a + j)) d; omega
theorem cntIn_sub (f : Nat → Bool) (a b : Nat) : cntIn f a b = cnt f b - cnt f a := by
  by_cases h : a ≤ b
  · have := cntIn_add f h; omega
  · have h1 := cnt_mono f (show b ≤ a by omega)
    have : cntIn f a b = 0 := by
      unfold cntIn
      rw [cnt_zero_iff]
      intro j hj
      unfold inn
      have : ¬ a ≤ j := by omega
      simp [this]
    omega
theorem cnt_at {f : Nat → Bool} {k : Nat} (h : f k = true) : cnt f (k + 1) = cnt f k + 1 := by rw [cnt, h]; rfl
theorem cnt_off {f : Nat → Bool} {k : Nat} (h : f k = false) : cnt f (k + 1) = cnt f k := by rw [cnt, h]; rfl

/-- A plan's numbers. -/
structure PN where
  f : Nat
  t : Nat
  k : Nat
  d : Nat
  e : Nat

namespace PN
/-- How many regions there are. -/
def R (P : PN) : Nat := if P.f < P.t then (P.t - P.f - 1) / P.k + 1 else 0
/-- Where the region r begins. -/
def ed (P : PN) (r : Nat) : Nat := min (P.f + r * P.k) P.t
structure Ok (P : PN) : Prop where
  le : P.f ≤ P.t
  few : P.t ≤ 65536
  k1 : 1 ≤ P.k
  kk : P.k ≤ 65536
theorem ed_zero {P : PN} (h : P.Ok) : P.ed 0 = P.f := by unfold ed; have := h.le; omega
theorem ed_le (P : PN) (r : Nat) : P.ed r ≤ P.t := by unfold ed; omega
theorem ed_ge {P : PN} (h : P.Ok) (r : Nat) : P.f ≤ P.ed r := by
  unfold ed
  have := h.le
  have : P.f ≤ P.f + r * P.k := Nat.le_add_right _ _
  omega
theorem ed_mono (P : PN) {r s : Nat} (h : r ≤ s) : P.ed r ≤ P.ed s := by
  unfold ed
  have : r * P.k ≤ s * P.k := Nat.mul_le_mul_right _ h
  omega
theorem lt_R {P : PN} (h : P.Ok) {r : Nat} (hr : r < P.R) : P.f + r * P.k < P.t := by
  unfold R at hr
  split at hr
  · have h1 : r ≤ (P.t - P.f - 1) / P.k := by omega
    have h2 := (Nat.le_div_iff_mul_le h.k1).1 h1
    omega
  · omega
theorem ed_eq {P : PN} (h : P.Ok) {r : Nat} (hr : r < P.R) : P.ed r = P.f + r * P.k := by
  have := lt_R h hr
  unfold ed; omega
theorem ed_lt {P : PN} (h : P.Ok) {r : Nat} (hr : r < P.R) : P.ed r < P.ed (r + 1) := by
  have h1 := lt_R h hr
  have h2 := h.k1
  unfold ed
  rw [Nat.succ_mul]
  omega
theorem ed_R {P : PN} (h : P.Ok) : P.ed P.R = P.t := by
  unfold ed R
  have := h.le
  have h1 := h.k1
  split
  · have h2 : P.t - P.f - 1 < ((P.t - P.f - 1) / P.k + 1) * P.k := by
      have := Nat.lt_succ_self ((P.t - P.f - 1) / P.k)
      have h3 := Nat.lt_mul_div_succ (P.t - P.f - 1) (show 0 < P.k by omega)
      rw [Nat.mul_comm] at h3
      exact h3
    omega
  · omega
theorem R_few {P : PN} (h : P.Ok) : P.R ≤ 65536 := by
  unfold R
  have := h.few
  split
  · have := Nat.div_le_self (P.t - P.f - 1) P.k
    omega
  · omega
theorem R_pos {P : PN} (h : P.f < P.t) : 0 < P.R := by unfold R; rw [if_pos h]; exact Nat.succ_pos _
theorem R_none {P : PN} (h : P.Ok) (h0 : P.R = 0) : P.f = P.t := by
  unfold R at h0
  split at h0
  · exact absurd h0 (Nat.succ_ne_zero _)
  · have := h.le; omega
/-- The region of a word. -/
def reg (P : PN) (x : Nat) : Nat := (x - P.f) / P.k
theorem reg_in {P : PN} (h : P.Ok) {x : Nat} (h1 : P.f ≤ x) (h2 : x < P.t) : P.reg x < P.R ∧ P.ed (P.reg x) ≤ x ∧ x < P.ed (P.reg x + 1) := by
  have hk := h.k1
  have e1 : P.reg x * P.k ≤ x - P.f := Nat.div_mul_le_self _ _
  have e2 : x - P.f < (P.reg x + 1) * P.k := by
    have h3 := Nat.lt_mul_div_succ (x - P.f) (show 0 < P.k by omega)
    rw [Nat.mul_comm] at h3
    exact h3
  refine ⟨?_, ?_, ?_⟩
  · unfold R
    rw [if_pos (by omega)]
    have : P.reg x ≤ (P.t - P.f - 1) / P.k := Nat.div_le_div_right (by omega)
    omega
  · unfold ed; omega
  · unfold ed; omega
theorem reg_mono (P : PN) {x y : Nat} (h : x ≤ y) : P.reg x ≤ P.reg y := Nat.div_le_div_right (by omega)
/-- Between two edges that is the region. -/
theorem reg_of {P : PN} (h : P.Ok) {x r : Nat} (hr : r < P.R) (h1 : P.ed r ≤ x) (h2 : x < P.ed (r + 1)) : P.reg x = r := by
  have hf := ed_ge h r
  have ht := ed_le P (r + 1)
  obtain ⟨a, b, c⟩ := reg_in h (x := x) (by omega) (by omega)
  rcases Nat.lt_trichotomy (P.reg x) r with h3 | h3 | h3
  · have := ed_mono P (show P.reg x + 1 ≤ r by omega); omega
  · exact h3
  · have := ed_mono P (show r + 1 ≤ P.reg x by omega); omega
end PN

/-- The live words of the region r, those from d on, and those ahead of it from d on. -/
def lvR (P : PN) (L : Nat → Bool) (r : Nat) : Nat := cnt L (P.ed (r + 1)) - cnt L (P.ed r)
def mvR (P : PN) (L : Nat → Bool) (r : Nat) : Nat := cnt L (P.ed (r + 1)) - cnt L (max (P.ed r) P.d)
def ahR (P : PN) (L : Nat → Bool) (r : Nat) : Nat := cnt L (P.ed r) - cnt L P.d
def ddR (P : PN) (L : Nat → Bool) (r : Nat) : Nat := (P.ed (r + 1) - P.ed r) - lvR P L r
/-- Dead words ahead of a place. -/
def deadTo (P : PN) (L : Nat → Bool) (x : Nat) : Nat := (x - P.f) - (cnt L x - cnt L P.f)

theorem ahR_succ (P : PN) (L : Nat → Bool) (r : Nat) : ahR P L r + mvR P L r = ahR P L (r + 1) := by
  unfold ahR mvR
  have h1 := PN.ed_mono P (show r ≤ r + 1 by omega)
  have h2 := cnt_mono L h1
  by_cases h : P.d ≤ P.ed r
  · rw [show max (P.ed r) P.d = P.ed r by omega]
    have := cnt_mono L h
    omega
  · rw [show max (P.ed r) P.d = P.d by omega]
    have := cnt_mono L (show P.ed r ≤ P.d by omega)
    omega
theorem ahR_zero {P : PN} (h : P.Ok) (L : Nat → Bool) (hd : P.f ≤ P.d) : ahR P L 0 = 0 := by
  unfold ahR
  rw [PN.ed_zero h]
  have := cnt_mono L hd
  omega
theorem ahR_mono (P : PN) (L : Nat → Bool) {r s : Nat} (h : r ≤ s) : ahR P L r ≤ ahR P L s := by
  unfold ahR
  have := cnt_mono L (PN.ed_mono P h)
  omega
theorem deadTo_mono {P : PN} (L : Nat → Bool) {x y : Nat} (hx : P.f ≤ x) (h : x ≤ y) : deadTo P L x ≤ deadTo P L y := by
  unfold deadTo
  have h1 := cnt_gap L h
  have h2 := cnt_mono L h
  have h3 := cnt_mono L hx
  have h4 := cnt_gap L hx
  omega
theorem dd_succ {P : PN} (h : P.Ok) (L : Nat → Bool) (r : Nat) : deadTo P L (P.ed r) + ddR P L r = deadTo P L (P.ed (r + 1)) := by
  unfold deadTo ddR lvR
  have h0 := PN.ed_ge h r
  have h1 := PN.ed_mono P (show r ≤ r + 1 by omega)
  have h2 := cnt_gap L h1
  have h3 := cnt_mono L h1
  have h4 := cnt_gap L h0
  have h5 := cnt_mono L h0
  omega
/-- K regions are as many as may stay. -/
structure Packs (P : PN) (L : Nat → Bool) (waste K : Nat) : Prop where
  le : K ≤ P.R
  may : deadTo P L (P.ed K) ≤ waste
  most : K = P.R ∨ waste < deadTo P L (P.ed (K + 1))

/-- The region out of which the word comes that goes to d + j. -/
def org (P : PN) (L : Nat → Bool) (j : Nat) : Nat := cnt (fun r => decide (ahR P L r ≤ j)) P.R - 1
theorem org_eq {P : PN} {L : Nat → Bool} {j r : Nat} (hr : r < P.R) (h1 : ahR P L r ≤ j) (h2 : r + 1 = P.R ∨ j < ahR P L (r + 1)) : cnt (fun r => decide (ahR P L r ≤ j)) P.R = r + 1 := by
  have h3 : cnt (fun r => decide (ahR P L r ≤ j)) P.R = cnt (fun r => decide (ahR P L r ≤ j)) (r + 1) := by
    refine cnt_stop (by omega) fun k hk1 hk2 => ?_
    have := ahR_mono P L hk1
    rw [decide_eq_false]
    omega
  rw [h3]
  have h4 : ∀ m, m ≤ r + 1 → cnt (fun r => decide (ahR P L r ≤ j)) m = m := by
    intro m
    induction m with
    | zero => intro _; rfl
    | succ m ih =>
      intro hm
      rw [cnt, ih (by omega), decide_eq_true (by have := ahR_mono P L (show m ≤ r by omega); omega)]
      rfl
  exact h4 _ (Nat.le_refl _)
end Go.Proofs.YtpeglndlhjnaaaaGreatDoor

/-
  The small calls of package plan: regions, Region, Span, moving, Goal.
-/
namespace Go.Proofs.YtpeglndlhjnaaaaGreatDoor
open Go.RowKit Bt
set_option linter.unusedVariables false

theorem wrap_small (n : Int) (h : -9223372036854775808 ≤ n ∧ n ≤ 9223372036854775807) : wrap64 n = n := by unfold wrap64; omega
/-- A plan's cells: its numbers and its four lists. -/
def plC (P : PN) (l a wt tk : Value) : Array Value := #[.int .i64 P.f, .int .i64 P.t, .int .i64 P.k, .int .i64 P.d, .int .i64 P.e, l, a, wt, tk]

/-- A plan in memory. -/
def Pb (w : World) (q : Nat) (P : PN) (l a wt tk : Value) : Prop := w.heap[q]? = some (.cells (plC P l a wt tk) 42)
section
variable {w w' : World} {q : Nat} {P : PN} {l a wt tk : Value}
theorem Pb.lt (h : Pb w q P l a wt tk) : q < w.heap.size := lt_of_heap h
theorem Pb.turned (h : Pb w q P l a wt tk) {S : List Nat} (t : Turned S w w') (hq : q ∉ S) : Pb w' q P l a wt tk := by unfold Pb; rw [t.block q h.lt hq]; exact h
theorem Pb.turned0 (h : Pb w q P l a wt tk) (t : Turned [] w w') : Pb w' q P l a wt tk := h.turned t (by simp)
theorem Pb.cs (h : Pb w q P l a wt tk) : w.cell? ⟨q, 0, none⟩ = some (.int .i64 P.f) ∧ w.cell? ⟨q, 1, none⟩ = some (.int .i64 P.t) ∧ w.cell? ⟨q, 2, none⟩ = some (.int .i64 P.k) ∧ w.cell? ⟨q, 3, none⟩ = some (.int .i64 P.d) ∧ w.cell? ⟨q, 4, none⟩ = some (.int .i64 P.e) ∧ w.cell? ⟨q, 5, none⟩ = some l ∧ w.cell? ⟨q, 6, none⟩ = some a ∧ w.cell? ⟨q, 7, none⟩ = some wt ∧ w.cell? ⟨q, 8, none⟩ = some tk := by
  refine ⟨?_, ?_, ?_, ?_, ?_, ?_, ?_, ?_, ?_⟩ <;> (rw [cell_of_heap h]; rfl)
end
theorem pb_new (w : World) (P : PN) (l a wt tk : Value) : Pb (w.alloc (.cells (plC P l a wt tk) 42)) w.heap.size P l a wt tk := heap_alloc_new _ _

theorem regions_any (P : PN) (h : P.Ok) (l a wt tk : Value) (w : World) :
    Calls Tryz.prog 102 #[.agg (plC P l a wt tk)] w fun e w' => e = .returned (.int .i64 (P.R : Nat)) ∧ Turned [] w w' := by
  obtain ⟨f, t, k, d, e⟩ := P
  have h1 := h.le
  have h2 := h.few
  have h3 := h.k1
  have h4 := h.kk
  simp only at h1 h2 h3 h4
  have HR := hide (PN.R_few h)
  obtain ⟨R, hR⟩ : ∃ R, R = PN.R ⟨f, t, k, d, e⟩ := ⟨_, rfl⟩
  rw [← hR] at HR ⊢
  unfold PN.R at hR
  simp only at hR
  unfold plC
  by_cases h0 : f < t
  · rw [if_pos h0] at hR
    have hc : ((R : Nat) : Int) = ((t : Int) - f - 1) / k + 1 := by
      rw [hR]
      rw [Int.natCast_add, Int.natCast_ediv]
      congr 2
      omega
    have HC := hide hc
    clear hc hR h
    go_enter Tryz.func102, Tryz.ntmps102
    go_wp2_with fail
    go_ret
    refine ⟨?_, (Turned.refl _ _).alloc _⟩
    rw [← HC.out, wrap_small _ (by have := HR.out; omega)]; rfl
  · rw [if_neg h0] at hR
    subst hR
    have h00 : ¬ (f : Int) < t := by omega
    clear h
    go_enter Tryz.func102, Tryz.ntmps102
    go_wp2_with fail
    go_ret
    exact ⟨rfl, (Turned.refl _ _).alloc _⟩

/-- What Region tells. -/
def rgI (P : PN) (x : Int) : Int := if (P.f : Int) ≤ x ∧ x < P.t then (P.reg x.toNat : Nat) else -1
theorem region_any (P : PN) (h : P.Ok) (l a wt tk : Value) (x : Int) (w : World) :
    Calls Tryz.prog 84 #[.agg (plC P l a wt tk), .int .i64 x] w fun e w' => e = .returned (.int .i64 (rgI P x)) ∧ Turned [] w w' := by
  have HR := hide (fun w => regions_any P h l a wt tk w)
  have HF := hide (PN.R_few h)
  have HN := hide (PN.R_none h)
  have HP := hide (fun hh => PN.R_pos (P := P) hh)
  obtain ⟨r, hr⟩ : ∃ r, r = rgI P x := ⟨_, rfl⟩
  rw [← hr]
  unfold rgI PN.reg at hr
  have h1 := h.le
  have h2 := h.few
  have h3 := h.k1
  have h4 := h.kk
  generalize hRR : P.R = R at *
  obtain ⟨f, t, k, d, e⟩ := P
  simp only at h1 h2 h3 h4 hr HN HP
  unfold plC at HR ⊢
  simp only at HR ⊢
  clear hRR h
  by_cases h0 : (f : Int) ≤ x ∧ x < t
  · rw [if_pos h0] at hr
    have hR0 : 0 < R := HP.out (by omega)
    have hc : r = (x - f) / k := by
      rw [hr, Int.natCast_ediv]
      congr 1
      omega
    have hR1 : ((R : Int) == 0) = false := by simp; omega
    have h01 := h0.1
    have h02 := h0.2
    have HB := hide (pb_new w ⟨f, t, k, d, e⟩ l a wt tk)
    have HT := hide ((Turned.refl [] w).alloc (.cells (plC ⟨f, t, k, d, e⟩ l a wt tk) 42))
    unfold plC at HB HT
    simp only at HB HT
    clear hr
    go_enter Tryz.func84, Tryz.ntmps84
    go_wp2_with fail
    generalize w.alloc (.cells #[Value.int .i64 f, Value.int .i64 t, Value.int .i64 k, Value.int .i64 d, Value.int .i64 e, l, a, wt, tk] 42) = w0 at *
    generalize w.heap.size = q at *
    refine (HR.out _).mono ?_
    rintro e1 w1 ⟨rfl, ht1⟩
    obtain ⟨c0, c1, c2, c3, c4, c5, c6, c7, c8⟩ := (HB.out.turned0 ht1).cs
    have HT1 := hide (HT.out.trans ht1)
    clear ht1 HB HT
    go_wp2_with fail
    go_ret
    exact ⟨by rw [hc]; rfl, HT1.out⟩
  · rw [if_neg h0] at hr
    subst hr
    have HB := hide (pb_new w ⟨f, t, k, d, e⟩ l a wt tk)
    have HT := hide ((Turned.refl [] w).alloc (.cells (plC ⟨f, t, k, d, e⟩ l a wt tk) 42))
    unfold plC at HB HT
    simp only at HB HT
    by_cases hf : (f : Int) ≤ x
    · have hx : ¬ x < (t : Int) := by omega
      go_enter Tryz.func84, Tryz.ntmps84
      go_wp2_with fail
      generalize w.alloc (.cells #[Value.int .i64 f, Value.int .i64 t, Value.int .i64 k, Value.int .i64 d, Value.int .i64 e, l, a, wt, tk] 42) = w0 at *
      generalize w.heap.size = q at *
      refine (HR.out _).mono ?_
      rintro e1 w1 ⟨rfl, ht1⟩
      obtain ⟨c0, c1, c2, c3, c4, c5, c6, c7, c8⟩ := (HB.out.turned0 ht1).cs
      have HT1 := hide (HT.out.trans ht1)
      clear ht1 HB HT
      by_cases hR0 : R = 0
      · have hR1 : ((R : Int) == 0) = true := by simp; omega
        go_wp2_with fail
        go_ret
        exact ⟨rfl, HT1.out⟩
      · have hR1 : ((R : Int) == 0) = false := by simp; omega
        go_wp2_with fail
        go_ret
        exact ⟨rfl, HT1.out⟩
    · go_enter Tryz.func84, Tryz.ntmps84
      go_wp2_with fail
      generalize w.alloc (.cells #[Value.int .i64 f, Value.int .i64 t, Value.int .i64 k, Value.int .i64 d, Value.int .i64 e, l, a, wt, tk] 42) = w0 at *
      generalize w.heap.size = q at *
      refine (HR.out _).mono ?_
      rintro e1 w1 ⟨rfl, ht1⟩
      obtain ⟨c0, c1, c2, c3, c4, c5, c6, c7, c8⟩ := (HB.out.turned0 ht1).cs
      have HT1 := hide (HT.out.trans ht1)
      clear ht1 HB HT
      by_cases hR0 : R = 0
      · have hR1 : ((R : Int) == 0) = true := by simp; omega
        go_wp2_with fail
        go_ret
        exact ⟨rfl, HT1.out⟩
      · have hR1 : ((R : Int) == 0) = false := by simp; omega
        go_wp2_with fail
        go_ret
        exact ⟨rfl, HT1.out⟩

theorem span_in (P : PN) (h : P.Ok) (l a wt tk : Value) (r : Nat) (hr : r < P.R) (w : World) :
    Calls Tryz.prog 62 #[.agg (plC P l a wt tk), .int .i64 (r : Int)] w fun e w' => e = .returned (.tuple #[.int .i64 (P.ed r : Nat), .int .i64 (P.ed (r + 1) : Nat)]) ∧ Turned [] w w' := by
  have HR := hide (fun w => regions_any P h l a wt tk w)
  have hF := PN.R_few h
  have e1 := PN.ed_eq h hr
  have e2 := PN.lt_R h hr
  have e3 : P.ed (r + 1) = P.ed r + min P.k (P.t - P.ed r) := by
    unfold PN.ed
    rw [Nat.succ_mul]
    omega
  have h2 := h.few
  have h4 := h.kk
  have h3 := h.k1
  have hle := PN.ed_le P r
  generalize P.ed (r + 1) = E2 at *
  generalize P.ed r = E1 at *
  generalize hRR : P.R = R at *
  obtain ⟨f, t, k, d, e⟩ := P
  simp only at h2 h3 h4 e1 e2 e3 hle
  have HB := hide (pb_new w ⟨f, t, k, d, e⟩ l a wt tk)
  have HT := hide ((Turned.refl [] w).alloc (.cells (plC ⟨f, t, k, d, e⟩ l a wt tk) 42))
  unfold plC at HR HB HT ⊢
  simp only at HR HB HT ⊢
  have hri : (r : Int) < R := by omega
  have hm : (r : Int) * (k : Int) = (E1 : Int) - f := by
    rw [e1, Int.natCast_add, Int.natCast_mul]
    generalize (r : Int) * (k : Int) = z
    omega
  have HM := hide (show wrap64 ((r : Int) * (k : Int)) = (E1 : Int) - f ∧ IntKind.i64.wrap ((r : Int) * (k : Int)) = (E1 : Int) - f from by
    rw [hm, IntKind.wrap_i64]
    unfold wrap64
    omega)
  have hm1 := HM.out.1
  have hm2 : wrap64 ((f : Int) + ((E1 : Int) - f)) = E1 := by unfold wrap64; omega
  have hm3 : IntKind.i64.wrap ((E1 : Int) + min (k : Int) ((t : Int) - E1)) = E2 := by rw [IntKind.wrap_i64]; omega
  have hm4 : IntKind.i64.wrap ((t : Int) - E1) = (t : Int) - E1 := by rw [IntKind.wrap_i64]; omega
  have HE := hide (show E1 ≤ t ∧ t ≤ 65536 from ⟨hle, h2⟩)
  clear hRR h hr e1 e2 e3 hm HM h2 h3 h4 hle hF
  go_enter Tryz.func62, Tryz.ntmps62
  go_wp2_with fail
  generalize w.alloc (.cells #[Value.int .i64 f, Value.int .i64 t, Value.int .i64 k, Value.int .i64 d, Value.int .i64 e, l, a, wt, tk] 42) = w0 at *
  generalize w.heap.size = q at *
  refine (HR.out _).mono ?_
  rintro e1 w1 ⟨rfl, ht1⟩
  obtain ⟨c0, c1, c2, c3, c4, c5, c6, c7, c8⟩ := (HB.out.turned0 ht1).cs
  have HT1 := hide (HT.out.trans ht1)
  clear ht1 HB HT
  go_wp2_with fail
  go_region
  go_wp2_with fail
  go_ret2
  exact ⟨by simp only [hm2]; rfl, HT1.out.drew⟩

theorem moving_in (P : PN) (h : P.Ok) (l a wt tk : Value) (r : Nat) (hr : r < P.R) (w : World) :
    Calls Tryz.prog 67 #[.agg (plC P l a wt tk), .int .i64 (r : Int)] w fun e w' => e = .returned (.tuple #[.int .i64 (max (P.ed r) P.d : Nat), .int .i64 (P.ed (r + 1) : Nat)]) ∧ Turned [] w w' := by
  have HR := hide (fun w => span_in P h l a wt tk r hr w)
  generalize P.ed (r + 1) = E2 at *
  generalize P.ed r = E1 at *
  clear h hr
  obtain ⟨f, t, k, d, e⟩ := P
  have hm : ((max E1 d : Nat) : Int) = max (E1 : Int) d := by omega
  have HB := hide (pb_new w ⟨f, t, k, d, e⟩ l a wt tk)
  have HT := hide ((Turned.refl [] w).alloc (.cells (plC ⟨f, t, k, d, e⟩ l a wt tk) 42))
  unfold plC at HR HB HT ⊢
  simp only at HR HB HT ⊢
  rw [hm]
  clear hm
  go_enter Tryz.func67, Tryz.ntmps67
  go_wp2_with fail
  generalize w.alloc (.cells #[Value.int .i64 f, Value.int .i64 t, Value.int .i64 k, Value.int .i64 d, Value.int .i64 e, l, a, wt, tk] 42) = w0 at *
  generalize w.heap.size = q at *
  refine (HR.out _).mono ?_
  rintro e1 w1 ⟨rfl, ht1⟩
  obtain ⟨c0, c1, c2, c3, c4, c5, c6, c7, c8⟩ := (HB.out.turned0 ht1).cs
  have HT1 := hide (HT.out.trans ht1)
  clear ht1 HB HT
  go_wp2_with fail
  go_ret2
  exact ⟨rfl, HT1.out⟩

/-- What Goal tells. -/
def gF (P : PN) (r : Nat) : Nat := if max (P.ed r) P.d < min (P.ed (r + 1)) P.e then max (P.ed r) P.d else 0
def gT (P : PN) (r : Nat) : Nat := if max (P.ed r) P.d < min (P.ed (r + 1)) P.e then min (P.ed (r + 1)) P.e else 0
theorem goal_in (P : PN) (h : P.Ok) (l a wt tk : Value) (r : Nat) (hr : r < P.R) (w : World) :
    Calls Tryz.prog 105 #[.agg (plC P l a wt tk), .int .i64 (r : Int)] w fun e w' => e = .returned (.tuple #[.int .i64 (gF P r : Nat), .int .i64 (gT P r : Nat)]) ∧ Turned [] w w' := by
  have HR := hide (fun w => moving_in P h l a wt tk r hr w)
  unfold gF gT
  generalize P.ed (r + 1) = E2 at *
  generalize P.ed r = E1 at *
  clear h hr
  obtain ⟨f, t, k, d, e⟩ := P
  simp only at HR ⊢
  generalize max E1 d = M at *
  have hm : min (E2 : Int) (e : Int) = ((min E2 e : Nat) : Int) := by omega
  generalize min E2 e = N at *
  have HB := hide (pb_new w ⟨f, t, k, d, e⟩ l a wt tk)
  have HT := hide ((Turned.refl [] w).alloc (.cells (plC ⟨f, t, k, d, e⟩ l a wt tk) 42))
  unfold plC at HR HB HT ⊢
  simp only at HR HB HT ⊢
  by_cases h0 : M < N
  · rw [if_pos h0, if_pos h0]
    have h0i : ¬ (N : Int) ≤ M := by omega
    go_enter Tryz.func105, Tryz.ntmps105
    go_wp2_with fail
    generalize w.alloc (.cells #[Value.int .i64 f, Value.int .i64 t, Value.int .i64 k, Value.int .i64 d, Value.int .i64 e, l, a, wt, tk] 42) = w0 at *
    generalize w.heap.size = q at *
    refine (HR.out _).mono ?_
    rintro e1 w1 ⟨rfl, ht1⟩
    obtain ⟨c0, c1, c2, c3, c4, c5, c6, c7, c8⟩ := (HB.out.turned0 ht1).cs
    have HT1 := hide (HT.out.trans ht1)
    clear ht1 HB HT
    go_wp2_with fail
    go_ret2
    exact ⟨rfl, HT1.out⟩
  · rw [if_neg h0, if_neg h0]
    have h0i : (N : Int) ≤ M := by omega
    go_enter Tryz.func105, Tryz.ntmps105
    go_wp2_with fail
    generalize w.alloc (.cells #[Value.int .i64 f, Value.int .i64 t, Value.int .i64 k, Value.int .i64 d, Value.int .i64 e, l, a, wt, tk] 42) = w0 at *
    generalize w.heap.size = q at *
    refine (HR.out _).mono ?_
    rintro e1 w1 ⟨rfl, ht1⟩
    obtain ⟨c0, c1, c2, c3, c4, c5, c6, c7, c8⟩ := (HB.out.turned0 ht1).cs
    have HT1 := hide (HT.out.trans ht1)
    clear ht1 HB HT
    go_wp2_with fail
    go_ret2
    exact ⟨rfl, HT1.out⟩
end Go.Proofs.YtpeglndlhjnaaaaGreatDoor

/-
  Calls of package plan on bits: lives, past, cut.
-/
namespace Go.Proofs.YtpeglndlhjnaaaaGreatDoor
open Go.RowKit Bt
set_option linter.unusedVariables false

/-- Does the word x live? -/
noncomputable def lvI (S : Nat → Nat) (x : Int) : Bool := decide (0 ≤ x) && live S x.toNat
theorem lvI_nat (S : Nat → Nat) (x : Nat) : lvI S (x : Int) = live S x := by unfold lvI; simp
theorem over_lv {S : Nat → Nat} {x a z : Int} {t : Bool} (h : IsOver S x a z t) : t = lvI S x := by
  rcases h with ⟨k, j, rfl, hc, _, _, rfl⟩ | ⟨h1, _, _, rfl⟩
  · rw [lvI_nat]
    symm
    unfold live
    rw [bo_true]
    exact ⟨k, hc⟩
  · unfold lvI
    by_cases h0 : 0 ≤ x
    · obtain ⟨j, rfl⟩ := Int.eq_ofNat_of_zero_le h0
      have : live S j = false := by
        unfold live
        rw [bo_false]
        rintro ⟨k, hk⟩
        exact h1 k j rfl hk
      simp [this]
    · simp [h0]

theorem lives_any (ov : Option Addr) (n : Nat) (S : Nat → Nat) (x : Int) (w : World) (h : Brd w ov n (sidesOf S)) (hs : Bl n S) :
    Calls Tryz.prog 114 #[.pointer ov, .int .i64 x] w fun e w' => e = .returned (.bool (lvI S x)) ∧ Turned [] w w' := by
  have H := hide (over_any ov n S x w h hs)
  clear h hs
  go_enter Tryz.func114, Tryz.ntmps114
  go_wp2_with fail
  refine (H.out).mono ?_
  rintro e w1 ⟨a, z, t, rfl, hr, m, rfl⟩
  have HL := hide (over_lv hr)
  clear hr
  go_wp2_with fail
  go_ret
  exact ⟨by rw [← HL.out]; rfl, (Turned.refl _ _).drewN _⟩

/-- What past tells: the end of the block that has words on both sides of x. -/
def IsPast (S : Nat → Nat) (x : Nat) (r : Nat) : Prop := (∃ a, a < x ∧ x < a + S a ∧ r = a + S a) ∨ ((∀ a, a < x → ¬ x < a + S a) ∧ r = x)
theorem IsPast.uniq {n : Nat} {S : Nat → Nat} (hs : Bl n S) {x r s : Nat} (h : IsPast S x r) (k : IsPast S x s) : r = s := by
  rcases h with ⟨a, h1, h2, rfl⟩ | ⟨h1, rfl⟩ <;> rcases k with ⟨b, k1, k2, rfl⟩ | ⟨k1, rfl⟩
  · have : a = b := hs.one (k := x) ⟨by omega, h2⟩ ⟨by omega, k2⟩
    rw [this]
  · exact absurd h2 (k1 a h1)
  · exact absurd k2 (h1 b k1)
  · rfl
theorem IsPast.ge {S : Nat → Nat} {x r : Nat} (h : IsPast S x r) : x ≤ r := by rcases h with ⟨a, h1, h2, rfl⟩ | ⟨h1, rfl⟩ <;> omega
theorem IsPast.le {n : Nat} {S : Nat → Nat} (hs : Bl n S) {x r : Nat} (h : IsPast S x r) (hx : x ≤ n) : r ≤ n := by
  rcases h with ⟨a, h1, h2, rfl⟩ | ⟨h1, rfl⟩
  · exact hs.into a (by omega)
  · exact hx
/-- All between is live. -/
theorem IsPast.live {S : Nat → Nat} {x r : Nat} (h : IsPast S x r) {k : Nat} (h1 : x ≤ k) (h2 : k < r) : live S k = true := by
  rcases h with ⟨a, h3, h4, rfl⟩ | ⟨h3, rfl⟩
  · unfold Bt.live; rw [bo_true]; exact ⟨a, by unfold Cov; omega⟩
  · omega

theorem past_any (ov : Option Addr) (n : Nat) (S : Nat → Nat) (x : Nat) (w : World) (h : Brd w ov n (sidesOf S)) (hs : Bl n S) :
    Calls Tryz.prog 63 #[.pointer ov, .int .i64 (x : Int)] w fun e w' => ∃ r : Nat, e = .returned (.int .i64 (r : Int)) ∧ IsPast S x r ∧ Turned [] w w' := by
  have H := hide (over_any ov n S x w h hs)
  have hn := h.few
  have HS := hide hs
  clear h hs
  go_enter Tryz.func63, Tryz.ntmps63
  go_wp2_with fail
  refine (H.out).mono ?_
  rintro e w1 ⟨a, z, t, rfl, hr, m, rfl⟩
  rcases hr with ⟨k, j, hj, hc, rfl, rfl, rfl⟩ | ⟨hno, rfl, rfl, rfl⟩
  · have hjx : j = x := by omega
    subst hjx
    unfold Cov at hc
    have hz := HS.out.into k (by omega)
    by_cases hk : k < j
    · have hki : (k : Int) < j := by omega
      have HP : Hid (IsPast S j (k + S k)) := hide (.inl ⟨k, hk, hc.2, rfl⟩)
      have hw : wrap64 ((k : Int) + (S k : Int)) = ((k + S k : Nat) : Int) := by unfold wrap64; omega
      generalize S k = z at *
      clear hc hz hj H hn HS
      go_wp2_with fail
      go_ret
      exact ⟨_, by first | rfl | (rw [hw]; rfl), HP.out, (Turned.refl _ _).drewN _⟩
    · have hki : ¬ (k : Int) < j := by omega
      have HP : Hid (IsPast S j j) := hide (.inr ⟨fun a h1 h2 => by
        have := HS.out.one (k := j) (a := a) (b := k) ⟨by omega, h2⟩ hc
        omega, rfl⟩)
      generalize S k = z at *
      clear hc hz hj H hn HS
      go_wp2_with fail
      go_ret
      exact ⟨_, rfl, HP.out, (Turned.refl _ _).drewN _⟩
  · have HP : Hid (IsPast S x x) := hide (.inr ⟨fun a h1 h2 => hno a x rfl ⟨by omega, h2⟩, rfl⟩)
    clear hno H hn HS
    go_wp2_with fail
    go_ret
    exact ⟨_, rfl, HP.out, (Turned.refl _ _).drewN _⟩

/-- No block has words on both sides of x. -/
def NoCut (S : Nat → Nat) (x : Nat) : Prop := ∀ a, a < x → ¬ x < a + S a
theorem cut_not (ov : Option Addr) (n : Nat) (S : Nat → Nat) (x : Nat) (w : World) (h : Brd w ov n (sidesOf S)) (hs : Bl n S) (hx : NoCut S x) :
    Calls Tryz.prog 59 #[.pointer ov, .int .i64 (x : Int)] w fun e w' => e = .returned (.bool false) ∧ Turned [] w w' := by
  have H := hide (past_any ov n S x w h hs)
  have HU := hide (fun r hr => IsPast.uniq hs (x := x) (r := r) (s := x) hr (.inr ⟨hx, rfl⟩))
  clear h hs hx
  go_enter Tryz.func59, Tryz.ntmps59
  go_wp2_with fail
  refine (H.out).mono ?_
  rintro e w1 ⟨r, rfl, hr, ht⟩
  have hrx := HU.out r hr
  subst hrx
  have HT := hide ht
  clear hr ht HU H
  go_wp2_with fail
  go_ret
  exact ⟨by simp, HT.out⟩
end Go.Proofs.YtpeglndlhjnaaaaGreatDoor

/-
  Rows of numbers that plan makes, and how they are searched (sort.Search at plan's own predicates).
-/
namespace Go.Proofs.YtpeglndlhjnaaaaGreatDoor
open Go.RowKit Bt
set_option linter.unusedVariables false

/-- A row of n numbers in a block of its own. -/
def Ri (w : World) (ty : TypeId) (q n : Nat) (g : Nat → Int) : Prop := ∃ c : Array Value, w.heap[q]? = some (.cells c ty) ∧ ∀ i, i < n → c[i]? = some (.int .i64 (g i))
section
variable {w w' : World} {ty : TypeId} {q n : Nat} {g : Nat → Int}
theorem Ri.lt (h : Ri w ty q n g) : q < w.heap.size := by obtain ⟨c, h1, _⟩ := h; exact lt_of_heap h1
theorem Ri.turned (h : Ri w ty q n g) {S : List Nat} (t : Turned S w w') (hq : q ∉ S) : Ri w' ty q n g := by
  obtain ⟨c, h1, h2⟩ := h
  exact ⟨c, by rw [t.block q (lt_of_heap h1) hq]; exact h1, h2⟩
theorem Ri.turned0 (h : Ri w ty q n g) (t : Turned [] w w') : Ri w' ty q n g := h.turned t (by simp)
theorem Ri.cell (h : Ri w ty q n g) {i : Nat} (hi : i < n) : w.cell? ⟨q, i, none⟩ = some (.int .i64 (g i)) := by
  obtain ⟨c, h1, h2⟩ := h
  rw [cell_of_heap h1]
  exact h2 i hi
end

/-- What sort.Search finds: the first place with g. -/
structure Finds (n : Nat) (g : Nat → Bool) (r : Nat) : Prop where
  le : r ≤ n
  no : ∀ m, m < r → g m = false
  yes : r < n → g r = true
theorem Finds.uniq {n : Nat} {g : Nat → Bool} {r s : Nat} (h : Finds n g r) (k : Finds n g s) : r = s := by
  rcases Nat.lt_trichotomy r s with h1 | h1 | h1
  · have := k.no r h1
    rw [h.yes (by have := k.le; omega)] at this
    cases this
  · exact h1
  · have := h.no s h1
    rw [k.yes (by have := h.le; omega)] at this
    cases this

def Below0 (G : Nat → Bool) (a : Nat) : Prop := ∀ m, m < a → G m = false

set_option maxRecDepth 100000 in
theorem search_origin (pb ab n : Nat) (G : Nat → Bool) (w : World) (hn : n ≤ 65536) (hG : ∀ i j, i ≤ j → j < n → G i = true → G j = true)
    (hC : ∀ w', Turned [] w w' → ∀ r : Nat, r < n → Calls Tryz.prog 119 #[.int .i64 (r : Int), .pointer (some ⟨pb, 0, none⟩), .pointer (some ⟨ab, 0, none⟩)] w' fun e w'' => e = .returned (.bool (G r)) ∧ Turned [] w' w'') :
    Calls Tryz.prog 118 #[.int .i64 (n : Int), .func (.func 119) #[] #[.pointer (some ⟨pb, 0, none⟩), .pointer (some ⟨ab, 0, none⟩)]] w fun e w' => ∃ r : Nat, e = .returned (.int .i64 (r : Int)) ∧ Finds n G r ∧ Turned [] w w' := by
  have HC := hide hC
  have HG := hide hG
  clear hC hG
  go_enter Tryz.func118, Tryz.ntmps118
  go_wp2_with fail
  go_loopw [5, 6] (fun i j wr => ∃ (a b : Nat), a ≤ b ∧ b ≤ n ∧ i = .int .i64 a ∧ j = .int .i64 b ∧ Hid (Below0 G a) ∧ Hid (b < n → G b = true) ∧ Hid (Turned [] w wr)) (fun i j _ => (intOf j - intOf i).toNat)
  case atStart => exact ⟨0, n, by omega, by omega, rfl, rfl, fun m hm => by omega, fun h => by omega, Turned.refl _ _⟩
  case round =>
    obtain ⟨a, b, hab, hb, rfl, rfl, HA, HB, HT⟩ := hrel
    by_cases hlt : a < b
    · obtain ⟨m, hm⟩ : ∃ m, m = (a + b) / 2 := ⟨_, rfl⟩
      have hm1 : a ≤ m := by omega
      have hm2 : m < b := by omega
      have hlti : (a : Int) < b := by omega
      have hmi : ((a : Int) + b) / 2 = (m : Int) := by omega
      have H := hide (HC.out wr HT.out m (by omega))
      clear hm
      go_wp2_with fail
      refine (H.out).mono ?_
      rintro e w1 ⟨rfl, ht1⟩
      have HT1 := hide (HT.out.trans ht1)
      clear ht1 H HT
      cases hgm : G m
      · have HA2 : Hid (Below0 G (m + 1)) := hide (fun i hi => by
          by_cases him : i = m
          · rw [him]; exact hgm
          · have h3 : G i ≠ true := fun h4 => by
              have := HG.out i m (by omega) (by omega) h4
              rw [hgm] at this; cases this
            simpa using h3)
        clear hgm HA hmi
        go_wp2_with fail
        go_roundw
        case rel => exact ⟨m + 1, b, by omega, hb, by go_num, rfl, HA2, HB, HT1⟩
        case measure => simp [intOf]; omega
      · have HB2 : Hid (m < n → G m = true) := hide (fun _ => hgm)
        clear hgm HB hmi
        go_wp2_with fail
        go_roundw
        case rel => exact ⟨a, m, hm1, by omega, rfl, rfl, HA, HB2, HT1⟩
        case measure => simp [intOf]; omega
    · have hab2 : a = b := by omega
      subst hab2
      go_wp2_with fail
      go_ret
      exact ⟨a, rfl, ⟨hb, HA.out, HB.out⟩, HT.out⟩

theorem origin1_any (P : PN) (l wt tk : Value) (pb ab aq n c : Nat) (g : Nat → Int) (x : Int) (r : Nat) (hr : r < n) (w : World) (hp : Pb w pb P l (.slice (some ⟨aq, 0, none⟩) n c) wt tk) (hx : w.cell? ⟨ab, 0, none⟩ = some (.int .i64 x)) (ha : Ri w 3 aq n g) (h1 : 0 ≤ x ∧ x ≤ 1000000) (h2 : P.d ≤ 1000000) :
    Calls Tryz.prog 119 #[.int .i64 (r : Int), .pointer (some ⟨pb, 0, none⟩), .pointer (some ⟨ab, 0, none⟩)] w fun e w' => e = .returned (.bool (decide (x - P.d < g r))) ∧ Turned [] w w' := by
  obtain ⟨c0, c1, c2, c3, c4, c5, c6, c7, c8⟩ := hp.cs
  have hc := ha.cell hr
  have hri : (r : Int) < n := by omega
  have hw : IntKind.i64.wrap (x - P.d) = x - P.d := by rw [IntKind.wrap_i64]; omega
  obtain ⟨f, t, k, d, e⟩ := P
  simp only at *
  clear hp ha hr
  go_enter Tryz.func119, Tryz.ntmps119
  go_wp2_with fail
  go_quiet (fail)
  go_wp2_with fail
  go_ret
  exact ⟨rfl, (Turned.refl _ _).drewN _⟩


end Go.Proofs.YtpeglndlhjnaaaaGreatDoor

/-
  each of package plan, at each of its closures: a row of what is told of each region.
-/
namespace Go.Proofs.YtpeglndlhjnaaaaGreatDoor
open Go.RowKit Bt
set_option linter.unusedVariables false
set_option linter.unusedSimpArgs false

theorem Tryz.infoTwo : (Tryz.prog.info? 139).map (fun i => (i.zero, i.size, i.bytes)) = some (some (.agg #[.int .i64 0, .int .i64 0]), 2, 16) := by kernel_rfl

theorem Ri.set {w : World} {ty : TypeId} {q n : Nat} {g : Nat → Int} (h : Ri w ty q n g) (i : Nat) (v : Int) : Ri (w.setCell ⟨q, i, none⟩ (.int .i64 v)) ty q n (fun j => if j = i then v else g j) := by
  obtain ⟨c, h1, h2⟩ := h
  refine ⟨_, heap_setCell_at _ _ _ _ _ _ h1 _, fun j hj => ?_⟩
  rw [Array.getElem?_setIfInBounds]
  have h3 := h2 j hj
  have h4 : j < c.size := (Array.getElem?_eq_some_iff.1 h3).1
  by_cases hji : j = i
  · subst hji
    rw [if_pos rfl, if_pos h4]; simp
  · rw [if_neg (fun e => hji e.symm), h3]; simp [hji]
theorem Ri.congr {w : World} {ty : TypeId} {q n : Nat} {g g' : Nat → Int} (h : Ri w ty q n g) (e : ∀ i, i < n → g i = g' i) : Ri w ty q n g' := by
  obtain ⟨c, h1, h2⟩ := h
  exact ⟨c, h1, fun i hi => by rw [h2 i hi, e i hi]⟩
theorem Ri.fz {w : World} {ty : TypeId} {q n : Nat} {g : Nat → Int} (h : Ri w ty q n g) (i : Nat) : w.frozen? ⟨q, i, none⟩ = false := by
  obtain ⟨c, h1, _⟩ := h
  simp [World.frozen?, h1]
theorem made_int (n i : Nat) (hi : i < n) : (madeCells #[Value.int .i64 0] n)[i]? = some (.int .i64 0) := by
  unfold madeCells
  rw [Array.getElem?_map, Array.getElem?_range, if_pos hi]
  simp [Nat.mod_one]
theorem made_two (R i s : Nat) (hi : i < R) (hs : s < 2) : (madeCells #[Value.int .i64 0, Value.int .i64 0] (R * 2))[i * 2 + s]? = some (.int .i64 0) := by
  unfold madeCells
  rw [Array.getElem?_map, Array.getElem?_range, if_pos (by omega)]
  have : (i * 2 + s) % 2 = 0 ∨ (i * 2 + s) % 2 = 1 := by omega
  rcases this with h | h <;> simp [h]

/-- A row of n pairs in a block of its own. -/
def Rp (w : World) (q n : Nat) (g : Nat → Nat → Int) : Prop := ∃ c : Array Value, w.heap[q]? = some (.cells c 139) ∧ ∀ i s, i < n → s < 2 → c[i * 2 + s]? = some (.int .i64 (g i s))
section
variable {w w' : World} {q n : Nat} {g : Nat → Nat → Int}
theorem Rp.lt (h : Rp w q n g) : q < w.heap.size := by obtain ⟨c, h1, _⟩ := h; exact lt_of_heap h1
theorem Rp.turned (h : Rp w q n g) {S : List Nat} (t : Turned S w w') (hq : q ∉ S) : Rp w' q n g := by
  obtain ⟨c, h1, h2⟩ := h
  exact ⟨c, by rw [t.block q (lt_of_heap h1) hq]; exact h1, h2⟩
theorem Rp.turned0 (h : Rp w q n g) (t : Turned [] w w') : Rp w' q n g := h.turned t (by simp)
theorem Rp.cell (h : Rp w q n g) {i s : Nat} (hi : i < n) (hs : s < 2) : w.cell? ⟨q, i * 2 + s, none⟩ = some (.int .i64 (g i s)) := by
  obtain ⟨c, h1, h2⟩ := h
  rw [cell_of_heap h1]
  exact h2 i s hi hs
theorem Rp.fz (h : Rp w q n g) (i : Nat) : w.frozen? ⟨q, i, none⟩ = false := by
  obtain ⟨c, h1, _⟩ := h
  simp [World.frozen?, h1]
theorem Rp.congr {g' : Nat → Nat → Int} (h : Rp w q n g) (e : ∀ i s, i < n → s < 2 → g i s = g' i s) : Rp w q n g' := by
  obtain ⟨c, h1, h2⟩ := h
  exact ⟨c, h1, fun i s hi hs => by rw [h2 i s hi hs, e i s hi hs]⟩
theorem Rp.set (h : Rp w q n g) (i s : Nat) (hs : s < 2) (v : Int) : Rp (w.setCell ⟨q, i * 2 + s, none⟩ (.int .i64 v)) q n (fun j t => if j = i ∧ t = s then v else g j t) := by
  obtain ⟨c, h1, h2⟩ := h
  refine ⟨_, heap_setCell_at _ _ _ _ _ _ h1 _, fun j t hj ht => ?_⟩
  rw [Array.getElem?_setIfInBounds]
  have h3 := h2 j t hj ht
  have h4 : j * 2 + t < c.size := (Array.getElem?_eq_some_iff.1 h3).1
  by_cases hji : j = i ∧ t = s
  · obtain ⟨rfl, rfl⟩ := hji
    rw [if_pos rfl, if_pos h4]; simp
  · rw [if_neg (by omega), h3]; simp only [if_neg hji]
end

set_option maxRecDepth 100000 in
theorem each_live (bb pb : Nat) (P : PN) (h : P.Ok) (l a wt tk : Value) (g : Nat → Int) (w : World)
    (hC : ∀ w', Turned [] w w' → ∀ r : Nat, r < P.R → Calls Tryz.prog 61 #[.int .i64 (r : Int), .pointer (some ⟨bb, 0, none⟩), .pointer (some ⟨pb, 0, none⟩)] w' fun e w'' => e = .returned (.int .i64 (g r)) ∧ Turned [] w' w'') :
    Calls Tryz.prog 60 #[.agg (plC P l a wt tk), .func (.func 61) #[] #[.pointer (some ⟨bb, 0, none⟩), .pointer (some ⟨pb, 0, none⟩)]] w fun e w' => ∃ q, e = .returned (.slice (some ⟨q, 0, none⟩) P.R P.R) ∧ Ri w' 3 q P.R g ∧ w.heap.size ≤ q ∧ Turned [] w w' := by
  have HR := hide (fun w => regions_any P h l a wt tk w)
  have hF := PN.R_few h
  have HC := hide hC
  have HB := hide (pb_new w P l a wt tk)
  have HT := hide ((Turned.refl [] w).alloc (.cells (plC P l a wt tk) 42))
  generalize hRR : P.R = n at *
  obtain ⟨f, t, k, d, e⟩ := P
  unfold plC at HR HB HT ⊢
  simp only at HR HB HT ⊢
  clear hRR h hC
  obtain ⟨i0, hi, hi0⟩ := Option.map_eq_some_iff.1 Tryz.infoInt
  simp only [Prod.mk.injEq] at hi0
  obtain ⟨hz0, hz1, hz2⟩ := hi0
  have hmk : ∀ w : World, (Instr.makeSlice 23 (.int .i64 (n : Int)) (.int .i64 (n : Int))).run Tryz.prog w = .ok (.slice (some ⟨w.heap.size, 0, none⟩) n n) (w.alloc (.cells (madeCells #[Value.int .i64 0] n) 3)) := fun w => by
    have hr := run_make (P := Tryz.prog) w 23 3 i0 (.int .i64 0) Tryz.underlying23 hi hz0 .i64 .i64 n n (by omega) (by omega) (by rw [hz2]; omega) (by omega)
    simp only [hz1, Int.toNat_natCast, Nat.mul_one] at hr
    exact hr
  clear hi hz0 hz1 hz2
  go_enter Tryz.func60, Tryz.ntmps60
  go_wp2_with fail
  obtain ⟨z, hz⟩ : ∃ z, z = w.heap.size := ⟨_, rfl⟩
  have HZ := hide hz
  rw [← hz] at HB ⊢
  generalize w.alloc (.cells #[Value.int .i64 f, Value.int .i64 t, Value.int .i64 k, Value.int .i64 d, Value.int .i64 e, l, a, wt, tk] 42) = w0 at *
  clear hz
  refine (HR.out _).mono ?_
  rintro e1 w1 ⟨rfl, ht1⟩
  have HT1 := hide (HT.out.trans ht1)
  have HB1 := hide (HB.out.turned0 ht1)
  have hlt1 := (HB.out.turned0 ht1).lt
  clear ht1 HB HT
  obtain ⟨w2, hw2⟩ : ∃ w2, w2 = w1.alloc (.cells (madeCells #[Value.int .i64 0] n) 3) := ⟨_, rfl⟩
  have hT2 : Turned [] w1 w2 := by rw [hw2]; exact (Turned.refl [] w1).alloc _
  obtain ⟨q, hq⟩ : ∃ q, q = w1.heap.size := ⟨_, rfl⟩
  have HRd : Hid (Ri w2 3 q n (fun i => if i < 0 then g i else 0)) := hide ⟨_, by rw [hw2, hq]; exact heap_alloc_new _ _, fun i hi => by simpa using made_int n i hi⟩
  have HQ := hide (show w.heap.size ≤ q by rw [hq]; exact HT1.out.size)
  obtain ⟨c0, c1, c2, c3, c4, c5, c6, c7, c8⟩ := HB1.out.cs
  have HT2 := hide (HT1.out.trans hT2)
  clear hT2 HT1 HB1
  go_wp2_with fail
  rw [← hw2, ← hq]
  clear hw2 hq hmk
  refine (HR.out _).mono ?_
  rintro e1 w3 ⟨rfl, ht3⟩
  have HRd3 := hide (HRd.out.turned0 ht3)
  have HT3 := hide (HT2.out.trans ht3)
  clear c0 c1 c2 c3 c4 c5 c6 c7 c8 ht3 HT2 HRd HR
  go_wp2_with fail
  go_loopw [12] (fun i wr => ∃ (j : Nat), j ≤ n ∧ i = .int .i64 j ∧ Hid (Ri wr 3 q n (fun i => if i < j then g i else 0)) ∧ Hid (Turned [] w wr)) (fun i _ => n - (intOf i).toNat)
  case atStart => exact ⟨0, Nat.zero_le _, rfl, HRd3, HT3⟩
  case round =>
    obtain ⟨j, hj, rfl, HRd, HTr⟩ := hrel
    by_cases hlt : j < n
    · have H := hide (HC.out wr HTr.out j hlt)
      have hji : (j : Int) < n := by omega
      go_wp2_with fail
      refine (H.out).mono ?_
      rintro e1 w5 ⟨rfl, ht5⟩
      have hq2 := (HRd.out.turned (S := []) ht5 (by simp))
      have c0 : w5.cell? ⟨q, j, none⟩ = some (.int .i64 0) := by
        have := hq2.cell hlt
        simpa using this
      have f0 := hq2.fz j
      have HS := hide ((hq2.set j (g j)).congr (g' := fun i => if i < j + 1 then g i else 0) (fun i hi => by
        by_cases hij : i = j
        · subst hij; simp
        · simp only [hij, if_false]
          by_cases h3 : i < j
          · rw [if_pos h3, if_pos (by omega)]
          · rw [if_neg h3, if_neg (by omega)]))
      have HT5 := hide ((HTr.out.trans ht5).setCell (p := ⟨q, j, none⟩) (.inr HQ.out) (.int .i64 (g j)))
      have hq5 := hq2.lt
      clear ht5 HRd HTr H hq2
      go_wp2_with fail
      go_roundw
      case rel => exact ⟨j + 1, by omega, by go_num, HS, HT5⟩
      case measure => simp [intOf]; omega
    · have hjn : j = n := by omega
      subst hjn
      go_wp2_with fail
      go_ret
      exact ⟨q, rfl, HRd.out.congr (fun i hi => by rw [if_pos hi]), HQ.out, HTr.out⟩

set_option maxRecDepth 100000 in
theorem each_ahead (sb : Nat) (P : PN) (h : P.Ok) (l a wt tk : Value) (g : Nat → Int) (w : World)
    (hC : ∀ w', Turned [] w w' → ∀ r : Nat, r < P.R → Calls Tryz.prog 69 #[.int .i64 (r : Int), .pointer (some ⟨sb, 0, none⟩)] w' fun e w'' => e = .returned (.int .i64 (g r)) ∧ Turned [] w' w'') :
    Calls Tryz.prog 60 #[.agg (plC P l a wt tk), .func (.func 69) #[] #[.pointer (some ⟨sb, 0, none⟩)]] w fun e w' => ∃ q, e = .returned (.slice (some ⟨q, 0, none⟩) P.R P.R) ∧ Ri w' 3 q P.R g ∧ w.heap.size ≤ q ∧ Turned [] w w' := by
  have HR := hide (fun w => regions_any P h l a wt tk w)
  have hF := PN.R_few h
  have HC := hide hC
  have HB := hide (pb_new w P l a wt tk)
  have HT := hide ((Turned.refl [] w).alloc (.cells (plC P l a wt tk) 42))
  generalize hRR : P.R = n at *
  obtain ⟨f, t, k, d, e⟩ := P
  unfold plC at HR HB HT ⊢
  simp only at HR HB HT ⊢
  clear hRR h hC
  obtain ⟨i0, hi, hi0⟩ := Option.map_eq_some_iff.1 Tryz.infoInt
  simp only [Prod.mk.injEq] at hi0
  obtain ⟨hz0, hz1, hz2⟩ := hi0
  have hmk : ∀ w : World, (Instr.makeSlice 23 (.int .i64 (n : Int)) (.int .i64 (n : Int))).run Tryz.prog w = .ok (.slice (some ⟨w.heap.size, 0, none⟩) n n) (w.alloc (.cells (madeCells #[Value.int .i64 0] n) 3)) := fun w => by
    have hr := run_make (P := Tryz.prog) w 23 3 i0 (.int .i64 0) Tryz.underlying23 hi hz0 .i64 .i64 n n (by omega) (by omega) (by rw [hz2]; omega) (by omega)
    simp only [hz1, Int.toNat_natCast, Nat.mul_one] at hr
    exact hr
  clear hi hz0 hz1 hz2
  go_enter Tryz.func60, Tryz.ntmps60
  go_wp2_with fail
  obtain ⟨z, hz⟩ : ∃ z, z = w.heap.size := ⟨_, rfl⟩
  have HZ := hide hz
  rw [← hz] at HB ⊢
  generalize w.alloc (.cells #[Value.int .i64 f, Value.int .i64 t, Value.int .i64 k, Value.int .i64 d, Value.int .i64 e, l, a, wt, tk] 42) = w0 at *
  clear hz
  refine (HR.out _).mono ?_
  rintro e1 w1 ⟨rfl, ht1⟩
  have HT1 := hide (HT.out.trans ht1)
  have HB1 := hide (HB.out.turned0 ht1)
  have hlt1 := (HB.out.turned0 ht1).lt
  clear ht1 HB HT
  obtain ⟨w2, hw2⟩ : ∃ w2, w2 = w1.alloc (.cells (madeCells #[Value.int .i64 0] n) 3) := ⟨_, rfl⟩
  have hT2 : Turned [] w1 w2 := by rw [hw2]; exact (Turned.refl [] w1).alloc _
  obtain ⟨q, hq⟩ : ∃ q, q = w1.heap.size := ⟨_, rfl⟩
  have HRd : Hid (Ri w2 3 q n (fun i => if i < 0 then g i else 0)) := hide ⟨_, by rw [hw2, hq]; exact heap_alloc_new _ _, fun i hi => by simpa using made_int n i hi⟩
  have HQ := hide (show w.heap.size ≤ q by rw [hq]; exact HT1.out.size)
  obtain ⟨c0, c1, c2, c3, c4, c5, c6, c7, c8⟩ := HB1.out.cs
  have HT2 := hide (HT1.out.trans hT2)
  clear hT2 HT1 HB1
  go_wp2_with fail
  rw [← hw2, ← hq]
  clear hw2 hq hmk
  refine (HR.out _).mono ?_
  rintro e1 w3 ⟨rfl, ht3⟩
  have HRd3 := hide (HRd.out.turned0 ht3)
  have HT3 := hide (HT2.out.trans ht3)
  clear c0 c1 c2 c3 c4 c5 c6 c7 c8 ht3 HT2 HRd HR
  go_wp2_with fail
  go_loopw [12] (fun i wr => ∃ (j : Nat), j ≤ n ∧ i = .int .i64 j ∧ Hid (Ri wr 3 q n (fun i => if i < j then g i else 0)) ∧ Hid (Turned [] w wr)) (fun i _ => n - (intOf i).toNat)
  case atStart => exact ⟨0, Nat.zero_le _, rfl, HRd3, HT3⟩
  case round =>
    obtain ⟨j, hj, rfl, HRd, HTr⟩ := hrel
    by_cases hlt : j < n
    · have H := hide (HC.out wr HTr.out j hlt)
      have hji : (j : Int) < n := by omega
      go_wp2_with fail
      refine (H.out).mono ?_
      rintro e1 w5 ⟨rfl, ht5⟩
      have hq2 := (HRd.out.turned (S := []) ht5 (by simp))
      have c0 : w5.cell? ⟨q, j, none⟩ = some (.int .i64 0) := by
        have := hq2.cell hlt
        simpa using this
      have f0 := hq2.fz j
      have HS := hide ((hq2.set j (g j)).congr (g' := fun i => if i < j + 1 then g i else 0) (fun i hi => by
        by_cases hij : i = j
        · subst hij; simp
        · simp only [hij, if_false]
          by_cases h3 : i < j
          · rw [if_pos h3, if_pos (by omega)]
          · rw [if_neg h3, if_neg (by omega)]))
      have HT5 := hide ((HTr.out.trans ht5).setCell (p := ⟨q, j, none⟩) (.inr HQ.out) (.int .i64 (g j)))
      have hq5 := hq2.lt
      clear ht5 HRd HTr H hq2
      go_wp2_with fail
      go_roundw
      case rel => exact ⟨j + 1, by omega, by go_num, HS, HT5⟩
      case measure => simp [intOf]; omega
    · have hjn : j = n := by omega
      subst hjn
      go_wp2_with fail
      go_ret
      exact ⟨q, rfl, HRd.out.congr (fun i hi => by rw [if_pos hi]), HQ.out, HTr.out⟩

set_option maxRecDepth 100000 in
theorem each_waits (pb mb : Nat) (P : PN) (h : P.Ok) (l a wt tk : Value) (g : Nat → Int) (w : World)
    (hC : ∀ w', Turned [] w w' → ∀ r : Nat, r < P.R → Calls Tryz.prog 73 #[.int .i64 (r : Int), .pointer (some ⟨pb, 0, none⟩), .pointer (some ⟨mb, 0, none⟩)] w' fun e w'' => e = .returned (.int .i64 (g r)) ∧ Turned [] w' w'') :
    Calls Tryz.prog 60 #[.agg (plC P l a wt tk), .func (.func 73) #[] #[.pointer (some ⟨pb, 0, none⟩), .pointer (some ⟨mb, 0, none⟩)]] w fun e w' => ∃ q, e = .returned (.slice (some ⟨q, 0, none⟩) P.R P.R) ∧ Ri w' 3 q P.R g ∧ w.heap.size ≤ q ∧ Turned [] w w' := by
  have HR := hide (fun w => regions_any P h l a wt tk w)
  have hF := PN.R_few h
  have HC := hide hC
  have HB := hide (pb_new w P l a wt tk)
  have HT := hide ((Turned.refl [] w).alloc (.cells (plC P l a wt tk) 42))
  generalize hRR : P.R = n at *
  obtain ⟨f, t, k, d, e⟩ := P
  unfold plC at HR HB HT ⊢
  simp only at HR HB HT ⊢
  clear hRR h hC
  obtain ⟨i0, hi, hi0⟩ := Option.map_eq_some_iff.1 Tryz.infoInt
  simp only [Prod.mk.injEq] at hi0
  obtain ⟨hz0, hz1, hz2⟩ := hi0
  have hmk : ∀ w : World, (Instr.makeSlice 23 (.int .i64 (n : Int)) (.int .i64 (n : Int))).run Tryz.prog w = .ok (.slice (some ⟨w.heap.size, 0, none⟩) n n) (w.alloc (.cells (madeCells #[Value.int .i64 0] n) 3)) := fun w => by
    have hr := run_make (P := Tryz.prog) w 23 3 i0 (.int .i64 0) Tryz.underlying23 hi hz0 .i64 .i64 n n (by omega) (by omega) (by rw [hz2]; omega) (by omega)
    simp only [hz1, Int.toNat_natCast, Nat.mul_one] at hr
    exact hr
  clear hi hz0 hz1 hz2
  go_enter Tryz.func60, Tryz.ntmps60
  go_wp2_with fail
  obtain ⟨z, hz⟩ : ∃ z, z = w.heap.size := ⟨_, rfl⟩
  have HZ := hide hz
  rw [← hz] at HB ⊢
  generalize w.alloc (.cells #[Value.int .i64 f, Value.int .i64 t, Value.int .i64 k, Value.int .i64 d, Value.int .i64 e, l, a, wt, tk] 42) = w0 at *
  clear hz
  refine (HR.out _).mono ?_
  rintro e1 w1 ⟨rfl, ht1⟩
  have HT1 := hide (HT.out.trans ht1)
  have HB1 := hide (HB.out.turned0 ht1)
  have hlt1 := (HB.out.turned0 ht1).lt
  clear ht1 HB HT
  obtain ⟨w2, hw2⟩ : ∃ w2, w2 = w1.alloc (.cells (madeCells #[Value.int .i64 0] n) 3) := ⟨_, rfl⟩
  have hT2 : Turned [] w1 w2 := by rw [hw2]; exact (Turned.refl [] w1).alloc _
  obtain ⟨q, hq⟩ : ∃ q, q = w1.heap.size := ⟨_, rfl⟩
  have HRd : Hid (Ri w2 3 q n (fun i => if i < 0 then g i else 0)) := hide ⟨_, by rw [hw2, hq]; exact heap_alloc_new _ _, fun i hi => by simpa using made_int n i hi⟩
  have HQ := hide (show w.heap.size ≤ q by rw [hq]; exact HT1.out.size)
  obtain ⟨c0, c1, c2, c3, c4, c5, c6, c7, c8⟩ := HB1.out.cs
  have HT2 := hide (HT1.out.trans hT2)
  clear hT2 HT1 HB1
  go_wp2_with fail
  rw [← hw2, ← hq]
  clear hw2 hq hmk
  refine (HR.out _).mono ?_
  rintro e1 w3 ⟨rfl, ht3⟩
  have HRd3 := hide (HRd.out.turned0 ht3)
  have HT3 := hide (HT2.out.trans ht3)
  clear c0 c1 c2 c3 c4 c5 c6 c7 c8 ht3 HT2 HRd HR
  go_wp2_with fail
  go_loopw [12] (fun i wr => ∃ (j : Nat), j ≤ n ∧ i = .int .i64 j ∧ Hid (Ri wr 3 q n (fun i => if i < j then g i else 0)) ∧ Hid (Turned [] w wr)) (fun i _ => n - (intOf i).toNat)
  case atStart => exact ⟨0, Nat.zero_le _, rfl, HRd3, HT3⟩
  case round =>
    obtain ⟨j, hj, rfl, HRd, HTr⟩ := hrel
    by_cases hlt : j < n
    · have H := hide (HC.out wr HTr.out j hlt)
      have hji : (j : Int) < n := by omega
      go_wp2_with fail
      refine (H.out).mono ?_
      rintro e1 w5 ⟨rfl, ht5⟩
      have hq2 := (HRd.out.turned (S := []) ht5 (by simp))
      have c0 : w5.cell? ⟨q, j, none⟩ = some (.int .i64 0) := by
        have := hq2.cell hlt
        simpa using this
      have f0 := hq2.fz j
      have HS := hide ((hq2.set j (g j)).congr (g' := fun i => if i < j + 1 then g i else 0) (fun i hi => by
        by_cases hij : i = j
        · subst hij; simp
        · simp only [hij, if_false]
          by_cases h3 : i < j
          · rw [if_pos h3, if_pos (by omega)]
          · rw [if_neg h3, if_neg (by omega)]))
      have HT5 := hide ((HTr.out.trans ht5).setCell (p := ⟨q, j, none⟩) (.inr HQ.out) (.int .i64 (g j)))
      have hq5 := hq2.lt
      clear ht5 HRd HTr H hq2
      go_wp2_with fail
      go_roundw
      case rel => exact ⟨j + 1, by omega, by go_num, HS, HT5⟩
      case measure => simp [intOf]; omega
    · have hjn : j = n := by omega
      subst hjn
      go_wp2_with fail
      go_ret
      exact ⟨q, rfl, HRd.out.congr (fun i hi => by rw [if_pos hi]), HQ.out, HTr.out⟩

set_option maxRecDepth 100000 in
theorem each_moved (bb pb : Nat) (P : PN) (h : P.Ok) (l a wt tk : Value) (g : Nat → Int) (w : World)
    (hC : ∀ w', Turned [] w w' → ∀ r : Nat, r < P.R → Calls Tryz.prog 66 #[.int .i64 (r : Int), .pointer (some ⟨bb, 0, none⟩), .pointer (some ⟨pb, 0, none⟩)] w' fun e w'' => e = .returned (.int .i64 (g r)) ∧ Turned [] w' w'') :
    Calls Tryz.prog 65 #[.agg (plC P l a wt tk), .func (.func 66) #[] #[.pointer (some ⟨bb, 0, none⟩), .pointer (some ⟨pb, 0, none⟩)]] w fun e w' => ∃ q, e = .returned (.slice (some ⟨q, 0, none⟩) P.R P.R) ∧ Ri w' 2 q P.R g ∧ w.heap.size ≤ q ∧ Turned [] w w' := by
  have HR := hide (fun w => regions_any P h l a wt tk w)
  have hF := PN.R_few h
  have HC := hide hC
  have HB := hide (pb_new w P l a wt tk)
  have HT := hide ((Turned.refl [] w).alloc (.cells (plC P l a wt tk) 42))
  generalize hRR : P.R = n at *
  obtain ⟨f, t, k, d, e⟩ := P
  unfold plC at HR HB HT ⊢
  simp only at HR HB HT ⊢
  clear hRR h hC
  obtain ⟨i0, hi, hi0⟩ := Option.map_eq_some_iff.1 Tryz.infoI64
  simp only [Prod.mk.injEq] at hi0
  obtain ⟨hz0, hz1, hz2⟩ := hi0
  have hmk : ∀ w : World, (Instr.makeSlice 28 (.int .i64 (n : Int)) (.int .i64 (n : Int))).run Tryz.prog w = .ok (.slice (some ⟨w.heap.size, 0, none⟩) n n) (w.alloc (.cells (madeCells #[Value.int .i64 0] n) 2)) := fun w => by
    have hr := run_make (P := Tryz.prog) w 28 2 i0 (.int .i64 0) Tryz.underlying28 hi hz0 .i64 .i64 n n (by omega) (by omega) (by rw [hz2]; omega) (by omega)
    simp only [hz1, Int.toNat_natCast, Nat.mul_one] at hr
    exact hr
  clear hi hz0 hz1 hz2
  go_enter Tryz.func65, Tryz.ntmps65
  go_wp2_with fail
  obtain ⟨z, hz⟩ : ∃ z, z = w.heap.size := ⟨_, rfl⟩
  have HZ := hide hz
  rw [← hz] at HB ⊢
  generalize w.alloc (.cells #[Value.int .i64 f, Value.int .i64 t, Value.int .i64 k, Value.int .i64 d, Value.int .i64 e, l, a, wt, tk] 42) = w0 at *
  clear hz
  refine (HR.out _).mono ?_
  rintro e1 w1 ⟨rfl, ht1⟩
  have HT1 := hide (HT.out.trans ht1)
  have HB1 := hide (HB.out.turned0 ht1)
  have hlt1 := (HB.out.turned0 ht1).lt
  clear ht1 HB HT
  obtain ⟨w2, hw2⟩ : ∃ w2, w2 = w1.alloc (.cells (madeCells #[Value.int .i64 0] n) 2) := ⟨_, rfl⟩
  have hT2 : Turned [] w1 w2 := by rw [hw2]; exact (Turned.refl [] w1).alloc _
  obtain ⟨q, hq⟩ : ∃ q, q = w1.heap.size := ⟨_, rfl⟩
  have HRd : Hid (Ri w2 2 q n (fun i => if i < 0 then g i else 0)) := hide ⟨_, by rw [hw2, hq]; exact heap_alloc_new _ _, fun i hi => by simpa using made_int n i hi⟩
  have HQ := hide (show w.heap.size ≤ q by rw [hq]; exact HT1.out.size)
  obtain ⟨c0, c1, c2, c3, c4, c5, c6, c7, c8⟩ := HB1.out.cs
  have HT2 := hide (HT1.out.trans hT2)
  clear hT2 HT1 HB1
  go_wp2_with fail
  rw [← hw2, ← hq]
  clear hw2 hq hmk
  refine (HR.out _).mono ?_
  rintro e1 w3 ⟨rfl, ht3⟩
  have HRd3 := hide (HRd.out.turned0 ht3)
  have HT3 := hide (HT2.out.trans ht3)
  clear c0 c1 c2 c3 c4 c5 c6 c7 c8 ht3 HT2 HRd HR
  go_wp2_with fail
  go_loopw [12] (fun i wr => ∃ (j : Nat), j ≤ n ∧ i = .int .i64 j ∧ Hid (Ri wr 2 q n (fun i => if i < j then g i else 0)) ∧ Hid (Turned [] w wr)) (fun i _ => n - (intOf i).toNat)
  case atStart => exact ⟨0, Nat.zero_le _, rfl, HRd3, HT3⟩
  case round =>
    obtain ⟨j, hj, rfl, HRd, HTr⟩ := hrel
    by_cases hlt : j < n
    · have H := hide (HC.out wr HTr.out j hlt)
      have hji : (j : Int) < n := by omega
      go_wp2_with fail
      refine (H.out).mono ?_
      rintro e1 w5 ⟨rfl, ht5⟩
      have hq2 := (HRd.out.turned (S := []) ht5 (by simp))
      have c0 : w5.cell? ⟨q, j, none⟩ = some (.int .i64 0) := by
        have := hq2.cell hlt
        simpa using this
      have f0 := hq2.fz j
      have HS := hide ((hq2.set j (g j)).congr (g' := fun i => if i < j + 1 then g i else 0) (fun i hi => by
        by_cases hij : i = j
        · subst hij; simp
        · simp only [hij, if_false]
          by_cases h3 : i < j
          · rw [if_pos h3, if_pos (by omega)]
          · rw [if_neg h3, if_neg (by omega)]))
      have HT5 := hide ((HTr.out.trans ht5).setCell (p := ⟨q, j, none⟩) (.inr HQ.out) (.int .i64 (g j)))
      have hq5 := hq2.lt
      clear ht5 HRd HTr H hq2
      go_wp2_with fail
      go_roundw
      case rel => exact ⟨j + 1, by omega, by go_num, HS, HT5⟩
      case measure => simp [intOf]; omega
    · have hjn : j = n := by omega
      subst hjn
      go_wp2_with fail
      go_ret
      exact ⟨q, rfl, HRd.out.congr (fun i hi => by rw [if_pos hi]), HQ.out, HTr.out⟩

set_option maxRecDepth 100000 in
theorem each_dead (pb : Nat) (P : PN) (h : P.Ok) (l a wt tk : Value) (g : Nat → Int) (w : World)
    (hC : ∀ w', Turned [] w w' → ∀ r : Nat, r < P.R → Calls Tryz.prog 104 #[.int .i64 (r : Int), .pointer (some ⟨pb, 0, none⟩)] w' fun e w'' => e = .returned (.int .i64 (g r)) ∧ Turned [] w' w'') :
    Calls Tryz.prog 65 #[.agg (plC P l a wt tk), .func (.func 104) #[] #[.pointer (some ⟨pb, 0, none⟩)]] w fun e w' => ∃ q, e = .returned (.slice (some ⟨q, 0, none⟩) P.R P.R) ∧ Ri w' 2 q P.R g ∧ w.heap.size ≤ q ∧ Turned [] w w' := by
  have HR := hide (fun w => regions_any P h l a wt tk w)
  have hF := PN.R_few h
  have HC := hide hC
  have HB := hide (pb_new w P l a wt tk)
  have HT := hide ((Turned.refl [] w).alloc (.cells (plC P l a wt tk) 42))
  generalize hRR : P.R = n at *
  obtain ⟨f, t, k, d, e⟩ := P
  unfold plC at HR HB HT ⊢
  simp only at HR HB HT ⊢
  clear hRR h hC
  obtain ⟨i0, hi, hi0⟩ := Option.map_eq_some_iff.1 Tryz.infoI64
  simp only [Prod.mk.injEq] at hi0
  obtain ⟨hz0, hz1, hz2⟩ := hi0
  have hmk : ∀ w : World, (Instr.makeSlice 28 (.int .i64 (n : Int)) (.int .i64 (n : Int))).run Tryz.prog w = .ok (.slice (some ⟨w.heap.size, 0, none⟩) n n) (w.alloc (.cells (madeCells #[Value.int .i64 0] n) 2)) := fun w => by
    have hr := run_make (P := Tryz.prog) w 28 2 i0 (.int .i64 0) Tryz.underlying28 hi hz0 .i64 .i64 n n (by omega) (by omega) (by rw [hz2]; omega) (by omega)
    simp only [hz1, Int.toNat_natCast, Nat.mul_one] at hr
    exact hr
  clear hi hz0 hz1 hz2
  go_enter Tryz.func65, Tryz.ntmps65
  go_wp2_with fail
  obtain ⟨z, hz⟩ : ∃ z, z = w.heap.size := ⟨_, rfl⟩
  have HZ := hide hz
  rw [← hz] at HB ⊢
  generalize w.alloc (.cells #[Value.int .i64 f, Value.int .i64 t, Value.int .i64 k, Value.int .i64 d, Value.int .i64 e, l, a, wt, tk] 42) = w0 at *
  clear hz
  refine (HR.out _).mono ?_
  rintro e1 w1 ⟨rfl, ht1⟩
  have HT1 := hide (HT.out.trans ht1)
  have HB1 := hide (HB.out.turned0 ht1)
  have hlt1 := (HB.out.turned0 ht1).lt
  clear ht1 HB HT
  obtain ⟨w2, hw2⟩ : ∃ w2, w2 = w1.alloc (.cells (madeCells #[Value.int .i64 0] n) 2) := ⟨_, rfl⟩
  have hT2 : Turned [] w1 w2 := by rw [hw2]; exact (Turned.refl [] w1).alloc _
  obtain ⟨q, hq⟩ : ∃ q, q = w1.heap.size := ⟨_, rfl⟩
  have HRd : Hid (Ri w2 2 q n (fun i => if i < 0 then g i else 0)) := hide ⟨_, by rw [hw2, hq]; exact heap_alloc_new _ _, fun i hi => by simpa using made_int n i hi⟩
  have HQ := hide (show w.heap.size ≤ q by rw [hq]; exact HT1.out.size)
  obtain ⟨c0, c1, c2, c3, c4, c5, c6, c7, c8⟩ := HB1.out.cs
  have HT2 := hide (HT1.out.trans hT2)
  clear hT2 HT1 HB1
  go_wp2_with fail
  rw [← hw2, ← hq]
  clear hw2 hq hmk
  refine (HR.out _).mono ?_
  rintro e1 w3 ⟨rfl, ht3⟩
  have HRd3 := hide (HRd.out.turned0 ht3)
  have HT3 := hide (HT2.out.trans ht3)
  clear c0 c1 c2 c3 c4 c5 c6 c7 c8 ht3 HT2 HRd HR
  go_wp2_with fail
  go_loopw [12] (fun i wr => ∃ (j : Nat), j ≤ n ∧ i = .int .i64 j ∧ Hid (Ri wr 2 q n (fun i => if i < j then g i else 0)) ∧ Hid (Turned [] w wr)) (fun i _ => n - (intOf i).toNat)
  case atStart => exact ⟨0, Nat.zero_le _, rfl, HRd3, HT3⟩
  case round =>
    obtain ⟨j, hj, rfl, HRd, HTr⟩ := hrel
    by_cases hlt : j < n
    · have H := hide (HC.out wr HTr.out j hlt)
      have hji : (j : Int) < n := by omega
      go_wp2_with fail
      refine (H.out).mono ?_
      rintro e1 w5 ⟨rfl, ht5⟩
      have hq2 := (HRd.out.turned (S := []) ht5 (by simp))
      have c0 : w5.cell? ⟨q, j, none⟩ = some (.int .i64 0) := by
        have := hq2.cell hlt
        simpa using this
      have f0 := hq2.fz j
      have HS := hide ((hq2.set j (g j)).congr (g' := fun i => if i < j + 1 then g i else 0) (fun i hi => by
        by_cases hij : i = j
        · subst hij; simp
        · simp only [hij, if_false]
          by_cases h3 : i < j
          · rw [if_pos h3, if_pos (by omega)]
          · rw [if_neg h3, if_neg (by omega)]))
      have HT5 := hide ((HTr.out.trans ht5).setCell (p := ⟨q, j, none⟩) (.inr HQ.out) (.int .i64 (g j)))
      have hq5 := hq2.lt
      clear ht5 HRd HTr H hq2
      go_wp2_with fail
      go_roundw
      case rel => exact ⟨j + 1, by omega, by go_num, HS, HT5⟩
      case measure => simp [intOf]; omega
    · have hjn : j = n := by omega
      subst hjn
      go_wp2_with fail
      go_ret
      exact ⟨q, rfl, HRd.out.congr (fun i hi => by rw [if_pos hi]), HQ.out, HTr.out⟩

set_option maxRecDepth 100000 in
theorem each_takes (pb : Nat) (P : PN) (h : P.Ok) (l a wt tk : Value) (g : Nat → Nat → Int) (w : World)
    (hC : ∀ w', Turned [] w w' → ∀ r : Nat, r < P.R → Calls Tryz.prog 71 #[.int .i64 (r : Int), .pointer (some ⟨pb, 0, none⟩)] w' fun e w'' => e = .returned (.agg #[.int .i64 (g r 0), .int .i64 (g r 1)]) ∧ Turned [] w' w'') :
    Calls Tryz.prog 70 #[.agg (plC P l a wt tk), .func (.func 71) #[] #[.pointer (some ⟨pb, 0, none⟩)]] w fun e w' => ∃ q, e = .returned (.slice (some ⟨q, 0, none⟩) P.R P.R) ∧ Rp w' q P.R g ∧ w.heap.size ≤ q ∧ Turned [] w w' := by
  have HR := hide (fun w => regions_any P h l a wt tk w)
  have hF := PN.R_few h
  have HC := hide hC
  have HB := hide (pb_new w P l a wt tk)
  have HT := hide ((Turned.refl [] w).alloc (.cells (plC P l a wt tk) 42))
  generalize hRR : P.R = n at *
  obtain ⟨f, t, k, d, e⟩ := P
  unfold plC at HR HB HT ⊢
  simp only at HR HB HT ⊢
  clear hRR h hC
  obtain ⟨i0, hi, hi0⟩ := Option.map_eq_some_iff.1 Tryz.infoTwo
  simp only [Prod.mk.injEq] at hi0
  obtain ⟨hz0, hz1, hz2⟩ := hi0
  have hmk : ∀ w : World, (Instr.makeSlice 40 (.int .i64 (n : Int)) (.int .i64 (n : Int))).run Tryz.prog w = .ok (.slice (some ⟨w.heap.size, 0, none⟩) n n) (w.alloc (.cells (madeCells #[Value.int .i64 0, Value.int .i64 0] (n * 2)) 139)) := fun w => by
    have hr := run_make (P := Tryz.prog) w 40 139 i0 (.agg #[.int .i64 0, .int .i64 0]) Tryz.underlying40 hi hz0 .i64 .i64 n n (by omega) (by omega) (by rw [hz2]; omega) (by omega)
    simp only [hz1, Int.toNat_natCast, Nat.mul_one] at hr
    exact hr
  clear hi hz0 hz1 hz2
  go_enter Tryz.func70, Tryz.ntmps70
  go_wp2_with fail
  obtain ⟨z, hz⟩ : ∃ z, z = w.heap.size := ⟨_, rfl⟩
  have HZ := hide hz
  rw [← hz] at HB ⊢
  generalize w.alloc (.cells #[Value.int .i64 f, Value.int .i64 t, Value.int .i64 k, Value.int .i64 d, Value.int .i64 e, l, a, wt, tk] 42) = w0 at *
  clear hz
  refine (HR.out _).mono ?_
  rintro e1 w1 ⟨rfl, ht1⟩
  have HT1 := hide (HT.out.trans ht1)
  have HB1 := hide (HB.out.turned0 ht1)
  have hlt1 := (HB.out.turned0 ht1).lt
  clear ht1 HB HT
  obtain ⟨w2, hw2⟩ : ∃ w2, w2 = w1.alloc (.cells (madeCells #[Value.int .i64 0, Value.int .i64 0] (n * 2)) 139) := ⟨_, rfl⟩
  have hT2 : Turned [] w1 w2 := by rw [hw2]; exact (Turned.refl [] w1).alloc _
  obtain ⟨q, hq⟩ : ∃ q, q = w1.heap.size := ⟨_, rfl⟩
  have HRd : Hid (Rp w2 q n (fun i s => if i < 0 then g i s else 0)) := hide ⟨_, by rw [hw2, hq]; exact heap_alloc_new _ _, fun i s hi hs => by simpa using made_two n i s hi hs⟩
  have HQ := hide (show w.heap.size ≤ q by rw [hq]; exact HT1.out.size)
  obtain ⟨c0, c1, c2, c3, c4, c5, c6, c7, c8⟩ := HB1.out.cs
  have HT2 := hide (HT1.out.trans hT2)
  clear hT2 HT1 HB1
  go_wp2_with fail
  rw [← hw2, ← hq]
  clear hw2 hq hmk
  refine (HR.out _).mono ?_
  rintro e1 w3 ⟨rfl, ht3⟩
  have HRd3 := hide (HRd.out.turned0 ht3)
  have HT3 := hide (HT2.out.trans ht3)
  clear c0 c1 c2 c3 c4 c5 c6 c7 c8 ht3 HT2 HRd HR
  go_wp2_with fail
  go_loopw [12] (fun i wr => ∃ (j : Nat), j ≤ n ∧ i = .int .i64 j ∧ Hid (Rp wr q n (fun i s => if i < j then g i s else 0)) ∧ Hid (Turned [] w wr)) (fun i _ => n - (intOf i).toNat)
  case atStart => exact ⟨0, Nat.zero_le _, rfl, HRd3, HT3⟩
  case round =>
    obtain ⟨j, hj, rfl, HRd, HTr⟩ := hrel
    by_cases hlt : j < n
    · have H := hide (HC.out wr HTr.out j hlt)
      have hji : (j : Int) < n := by omega
      go_wp2_with fail
      refine (H.out).mono ?_
      rintro e1 w5 ⟨rfl, ht5⟩
      have hq2 := (HRd.out.turned (S := []) ht5 (by simp))
      have c0 : w5.cell? ⟨q, j * 2, none⟩ = some (.int .i64 0) := by
        have := hq2.cell hlt (s := 0) (by omega)
        simpa using this
      have c1 : w5.cell? ⟨q, j * 2 + 1, none⟩ = some (.int .i64 0) := by
        have := hq2.cell hlt (s := 1) (by omega)
        simpa using this
      have f0 := hq2.fz (j * 2)
      have f1 := hq2.fz (j * 2 + 1)
      have HS := hide (((hq2.set j 0 (by omega) (g j 0)).set j 1 (by omega) (g j 1)).congr (g' := fun i s => if i < j + 1 then g i s else 0) (fun i s hi hs => by
        by_cases hij : i = j
        · subst hij
          have : s = 0 ∨ s = 1 := by omega
          rcases this with rfl | rfl <;> simp
        · simp only [hij, false_and, if_false]
          by_cases h3 : i < j
          · rw [if_pos h3, if_pos (by omega)]
          · rw [if_neg h3, if_neg (by omega)]))
      rw [Nat.add_zero] at HS
      have HT5 := hide (((HTr.out.trans ht5).setCell (p := ⟨q, j * 2, none⟩) (.inr HQ.out) (.int .i64 (g j 0))).setCell (p := ⟨q, j * 2 + 1, none⟩) (.inr HQ.out) (.int .i64 (g j 1)))
      have hq5 := hq2.lt
      clear ht5 HRd HTr H hq2
      go_wp2_with fail
      go_roundw
      case rel => exact ⟨j + 1, by omega, by go_num, HS, HT5⟩
      case measure => simp [intOf]; omega
    · have hjn : j = n := by omega
      subst hjn
      go_wp2_with fail
      go_ret
      exact ⟨q, rfl, HRd.out.congr (fun i s hi hs => by rw [if_pos hi]), HQ.out, HTr.out⟩
end Go.Proofs.YtpeglndlhjnaaaaGreatDoor

/-
  Rows of bools and of ints that are made.
-/
namespace Go.Proofs.YtpeglndlhjnaaaaGreatDoor
open Go.RowKit Bt
set_option linter.unusedVariables false
set_option linter.unusedSimpArgs false

/-- A row of n bools in a block of its own. -/
def Rb (w : World) (q n : Nat) (g : Nat → Bool) : Prop := ∃ c : Array Value, w.heap[q]? = some (.cells c 4) ∧ ∀ i, i < n → c[i]? = some (.bool (g i))
section
variable {w w' : World} {q n : Nat} {g : Nat → Bool}
theorem Rb.lt (h : Rb w q n g) : q < w.heap.size := by obtain ⟨c, h1, _⟩ := h; exact lt_of_heap h1
theorem Rb.turned (h : Rb w q n g) {S : List Nat} (t : Turned S w w') (hq : q ∉ S) : Rb w' q n g := by
  obtain ⟨c, h1, h2⟩ := h
  exact ⟨c, by rw [t.block q (lt_of_heap h1) hq]; exact h1, h2⟩
theorem Rb.turned0 (h : Rb w q n g) (t : Turned [] w w') : Rb w' q n g := h.turned t (by simp)
theorem Rb.cell (h : Rb w q n g) {i : Nat} (hi : i < n) : w.cell? ⟨q, i, none⟩ = some (.bool (g i)) := by
  obtain ⟨c, h1, h2⟩ := h
  rw [cell_of_heap h1, h2 i hi]
theorem Rb.fz (h : Rb w q n g) (i : Nat) : w.frozen? ⟨q, i, none⟩ = false := by
  obtain ⟨c, h1, _⟩ := h
  simp [World.frozen?, h1]
theorem Rb.congr {g' : Nat → Bool} (h : Rb w q n g) (e : ∀ i, i < n → g i = g' i) : Rb w q n g' := by
  obtain ⟨c, h1, h2⟩ := h
  exact ⟨c, h1, fun i hi => by rw [h2 i hi, e i hi]⟩
theorem Rb.set (h : Rb w q n g) (i : Nat) (v : Bool) : Rb (w.setCell ⟨q, i, none⟩ (.bool v)) q n (fun j => if j = i then v else g j) := by
  obtain ⟨c, h1, h2⟩ := h
  refine ⟨_, heap_setCell_at _ _ _ _ _ _ h1 _, fun j hj => ?_⟩
  rw [Array.getElem?_setIfInBounds]
  by_cases hji : i = j
  · subst hji
    have h3 := h2 i hj
    have h4 : i < c.size := by
      rcases Array.getElem?_eq_some_iff.1 h3 with ⟨h5, _⟩
      exact h5
    rw [if_pos rfl, if_pos h4]
    simp
  · rw [if_neg hji, h2 j hj]
    show _ = some (Value.bool (if j = i then v else g j))
    rw [if_neg (fun e : j = i => hji e.symm)]
end
theorem made_bool (n i : Nat) (hi : i < n) : (madeCells #[Value.bool false] n)[i]? = some (.bool false) := by
  unfold madeCells
  rw [Array.getElem?_map, Array.getElem?_range, if_pos hi]
  simp [Nat.mod_one]
theorem make_bools (n : Nat) (hn : n ≤ 65536) : ∀ w : World, (Instr.makeSlice 146 (.int .i64 (n : Int)) (.int .i64 (n : Int))).run Tryz.prog w = .ok (.slice (some ⟨w.heap.size, 0, none⟩) n n) (w.alloc (.cells (madeCells #[Value.bool false] n) 4)) := fun w => by
  obtain ⟨i0, hi, hi0⟩ := Option.map_eq_some_iff.1 Tryz.infoBool
  simp only [Prod.mk.injEq] at hi0
  obtain ⟨hz0, hz1, hz2⟩ := hi0
  have hr := run_make (P := Tryz.prog) w 146 4 i0 (.bool false) Tryz.underlying146 hi hz0 .i64 .i64 n n (by omega) (by omega) (by rw [hz2]; omega) (by omega)
  simp only [hz1, Int.toNat_natCast, Nat.mul_one] at hr
  exact hr
theorem make_ints (n : Nat) (hn : n ≤ 65536) : ∀ w : World, (Instr.makeSlice 23 (.int .i64 (n : Int)) (.int .i64 (n : Int))).run Tryz.prog w = .ok (.slice (some ⟨w.heap.size, 0, none⟩) n n) (w.alloc (.cells (madeCells #[Value.int .i64 0] n) 3)) := fun w => by
  obtain ⟨i0, hi, hi0⟩ := Option.map_eq_some_iff.1 Tryz.infoInt
  simp only [Prod.mk.injEq] at hi0
  obtain ⟨hz0, hz1, hz2⟩ := hi0
  have hr := run_make (P := Tryz.prog) w 23 3 i0 (.int .i64 0) Tryz.underlying23 hi hz0 .i64 .i64 n n (by omega) (by omega) (by rw [hz2]; omega) (by omega)
  simp only [hz1, Int.toNat_natCast, Nat.mul_one] at hr
  exact hr
theorem new_ints (w : World) (n : Nat) : Ri (w.alloc (.cells (madeCells #[Value.int .i64 0] n) 3)) 3 w.heap.size n (fun _ => 0) := ⟨_, heap_alloc_new _ _, fun i hi => made_int n i hi⟩
theorem new_bools (w : World) (n : Nat) : Rb (w.alloc (.cells (madeCells #[Value.bool false] n) 4)) w.heap.size n (fun _ => false) := ⟨_, heap_alloc_new _ _, fun i hi => made_bool n i hi⟩

end Go.Proofs.YtpeglndlhjnaaaaGreatDoor

/-
  The document's plan (ballastref13): lives, count, crosses.
-/
namespace Go.Proofs.YtpeglndlhjnaaaaGreatDoor
open Go.RowKit Bt
set_option linter.unusedVariables false
set_option linter.unusedSimpArgs false

/-- Does a block that begins ahead of i cover the word k? -/
noncomputable def lvTo (S : Nat → Nat) (i k : Nat) : Bool := bo (∃ a, a < i ∧ Cov S a k)
theorem lvTo_zero (S : Nat → Nat) (k : Nat) : lvTo S 0 k = false := by unfold lvTo; rw [bo_false]; rintro ⟨a, h, _⟩; omega
theorem lvTo_all {n : Nat} {S : Nat → Nat} (h : Bl n S) (k : Nat) : lvTo S n k = live S k := by
  unfold lvTo live
  by_cases hc : ∃ a, Cov S a k
  · have h1 : ∃ a, a < n ∧ Cov S a k := by
      obtain ⟨a, ha⟩ := hc
      refine ⟨a, ?_, ha⟩
      rcases Nat.lt_or_ge a n with h2 | h2
      · exact h2
      · have := h.far h2
        unfold Cov at ha
        omega
    rw [bo_true.2 h1, bo_true.2 hc]
  · rw [bo_false.2 (fun ⟨a, _, ha⟩ => hc ⟨a, ha⟩), bo_false.2 hc]
theorem lvTo_next (S : Nat → Nat) (i k : Nat) : lvTo S (i + 1) k = (lvTo S i k || (decide (i ≤ k) && decide (k < i + S i))) := by
  unfold lvTo
  by_cases h1 : ∃ a, a < i ∧ Cov S a k
  · rw [bo_true.2 h1, Bool.true_or]
    obtain ⟨a, h2, h3⟩ := h1
    exact bo_true.2 ⟨a, by omega, h3⟩
  · rw [bo_false.2 h1, Bool.false_or]
    by_cases h2 : i ≤ k ∧ k < i + S i
    · rw [decide_eq_true h2.1, decide_eq_true h2.2]
      exact bo_true.2 ⟨i, by omega, h2⟩
    · have : bo (∃ a, a < i + 1 ∧ Cov S a k) = false := by
        rw [bo_false]
        rintro ⟨a, h3, h4⟩
        rcases Nat.lt_or_ge a i with h5 | h5
        · exact h1 ⟨a, h5, h4⟩
        · have : a = i := by omega
          subst this
          exact h2 h4
      rw [this]
      by_cases h3 : i ≤ k
      · have h4 : ¬ k < i + S i := fun h => h2 ⟨h3, h⟩
        simp [h3, h4]
      · simp [h3]

set_option maxRecDepth 100000 in
theorem rlives13 (p q n : Nat) (S : Nat → Nat) (w : World) (h : RB w p q n S) :
    Calls Tryz.prog 92 #[.pointer (some ⟨p, 0, none⟩)] w fun e w' => ∃ g, e = .returned (.slice (some ⟨g, 0, none⟩) n n) ∧ Rb w' g n (live S) ∧ w.heap.size ≤ g ∧ Turned [] w w' := by
  have hn := h.few
  have c0 := h.c0
  have HB := hide h
  have hmk := make_bools n hn
  have hb0 := block_lt c0
  have HR0 := hide (new_bools w n)
  have HT0 := hide ((Turned.refl [] w).alloc (.cells (madeCells #[Value.bool false] n) 4))
  clear h
  go_enter Tryz.func92, Tryz.ntmps92
  go_upto_region 2 with fail
  clear hmk c0 hb0
  have HG := hide (Nat.le_refl w.heap.size)
  generalize w.alloc (.cells (madeCells #[Value.bool false] n) 4) = w1 at *
  obtain ⟨g, hg⟩ : ∃ g, g = w.heap.size := ⟨_, rfl⟩
  rw [← hg] at HR0 ⊢
  have HGe := hide (show w.heap.size ≤ g by omega)
  clear hg HG
  go_wp2_with fail
  go_loopw [4] (fun v wr => ∃ (i : Nat), i ≤ n ∧ v = .int .i64 i ∧ Hid (Rb wr g n (lvTo S i)) ∧ Hid (Turned [] w wr)) (fun v _ => n - (intOf v).toNat)
  case atStart => exact ⟨0, Nat.zero_le _, rfl, hide (HR0.out.congr fun i _ => (lvTo_zero S i).symm), HT0⟩
  case round =>
    obtain ⟨i, hi, rfl, HRr, HTr⟩ := hrel
    have c0 := (HB.out.turned0 HTr.out).c0
    by_cases hlt : i < n
    · have hlti : (i : Int) < (n : Int) := by omega
      have HS := hide (HB.out.bl.into i)
      have hsm := HB.out.small i
      clear c0
      obtain ⟨z, hz⟩ : ∃ z, z = S i := ⟨_, rfl⟩
      have HZ := hide hz
      rw [← hz] at hsm HS
      clear hz
      have HIn : Hid (i + z ≤ n) := by
        rcases Nat.eq_zero_or_pos z with h0 | h0
        · show i + z ≤ n; omega
        · exact HS.out h0
      have c0 := (HB.out.turned0 HTr.out).c0
      go_upto_region 5 with fail
      go_wp2_with fail
      clear c0
      obtain ⟨wq, hwq⟩ : ∃ wq, wq = wr := ⟨_, rfl⟩
      subst hwq
      go_loopw [5] (fun v wr => ∃ (k : Nat), i ≤ k ∧ k ≤ i + z ∧ v = .int .i64 k ∧ Hid (Rb wr g n (fun j => lvTo S i j || (decide (i ≤ j) && decide (j < k)))) ∧ Hid (Turned [] w wr)) (fun v _ => i + z - (intOf v).toNat)
      case atStart =>
        refine ⟨i, Nat.le_refl _, by omega, rfl, hide (HRr.out.congr fun j _ => ?_), HTr⟩
        by_cases hj : i ≤ j
        · have : ¬ j < i := by omega
          simp [this]
        · simp [hj]
      case round =>
        obtain ⟨k, hk1, hk2, rfl, HRk, HTk⟩ := hrel
        have hkn : i + z ≤ n := HIn.out
        have c0 := (HB.out.turned0 HTk.out).c0
        have c1 := (HB.out.turned0 HTk.out).cell hlt
        rw [← HZ.out] at c1
        have fz := HRk.out.fz k
        by_cases hlk : k < i + z
        · have hlk2 : (k : Int) < (i : Int) + (z : Int) := by omega
          have hkn2 : (k : Int) < (n : Int) := by omega
          have cg := HRk.out.cell (i := k) (by omega)
          have HR2 := hide (HRk.out.set k true)
          have HT2 := hide (HTk.out.setCell (p := ⟨g, k, none⟩) (.inr HGe.out) (.bool true))
          go_wp2_with fail
          go_roundw
          case rel =>
            refine ⟨k + 1, by omega, by omega, by go_num, hide (HR2.out.congr fun j _ => ?_), HT2⟩
            by_cases hj : j = k
            · subst hj
              have : j < j + 1 := by omega
              simp [hk1, this]
            · rw [if_neg hj]
              have : (j < k) ↔ (j < k + 1) := by omega
              simp [this]
          case measure => simp [intOf]; omega
        · have hlk2 : ¬ (k : Int) < (i : Int) + (z : Int) := by omega
          have hkz : k = i + z := by omega
          have HR2 : Hid (Rb wr g n (lvTo S (i + 1))) := hide (HRk.out.congr fun j _ => by rw [lvTo_next, hkz, HZ.out])
          clear HRk hkz fz
          go_wp2_with fail
          go_roundw
          case rel => exact ⟨i + 1, by omega, by go_num, HR2, HTk⟩
          case measure => simp [intOf]; omega
    · have hlti : ¬ (i : Int) < (n : Int) := by omega
      have hin : i = n := by omega
      have HR2 : Hid (Rb wr g n (live S)) := hide (HRr.out.congr fun j _ => by rw [hin, lvTo_all HB.out.bl])
      clear HRr hin
      go_wp2_with fail
      go_ret
      exact ⟨g, rfl, HR2.out, HGe.out, HTr.out⟩

theorem cnt_step (L : Nat → Bool) (a k : Nat) (h : a ≤ k) : cnt L (k + 1) - cnt L a = (cnt L k - cnt L a) + (L k).toNat := by
  have h1 := cnt_mono L h
  rw [cnt]
  omega
set_option maxRecDepth 100000 in
theorem rcount13 (p q n : Nat) (S : Nat → Nat) (a b : Nat) (w : World) (h : RB w p q n S) (ha : a ≤ 65536) (hb : b ≤ n) :
    Calls Tryz.prog 78 #[.pointer (some ⟨p, 0, none⟩), .int .i64 (a : Int), .int .i64 (b : Int)] w fun e w' => e = .returned (.int .i64 ((cnt (live S) b - cnt (live S) a : Nat) : Int)) ∧ Turned [] w w' := by
  have hn := h.few
  have HL := hide (rlives13 p q n S w h)
  have HC := hide (fun (k : Nat) (hk : a ≤ k) => cnt_step (live S) a k hk)
  have HM := hide (fun (k : Nat) => cnt_le (live S) k)
  have H0 := hide (fun (k : Nat) (hk : k ≤ a) => cnt_mono (live S) hk)
  have HbV := hide hb
  clear h
  go_enter Tryz.func78, Tryz.ntmps78
  go_wp2_with fail
  refine (HL.out).mono ?_
  rintro e w1 ⟨g, rfl, hR, hg, hT⟩
  have HR := hide hR
  have HT := hide hT
  clear hR hg hT HL
  go_wp2_with fail
  go_loopg [8, 9] (b - a) (fun gg s8 s9 wr => ∃ (k m : Nat), a ≤ k ∧ (k ≤ b ∨ k = a) ∧ gg = b - k ∧ s9 = .int .i64 (k : Int) ∧ s8 = .int .i64 (m : Int) ∧ m ≤ k ∧ Hid (m = cnt (live S) k - cnt (live S) a) ∧ Hid (Turned [] w1 wr))
  case atStart => exact ⟨a, 0, Nat.le_refl _, .inr rfl, rfl, rfl, rfl, Nat.zero_le _, hide (by omega), hide (Turned.refl _ _)⟩
  case round =>
    obtain ⟨k, m, hak, hkb, rfl, rfl, rfl, hmk, HMk, HTr⟩ := hrel
    by_cases hlt : k < b
    · have hlti : (k : Int) < (b : Int) := by omega
      have hkn : (k : Int) < (n : Int) := by omega
      have cg := (HR.out.turned0 HTr.out).cell (i := k) (by omega)
      obtain ⟨v, hv⟩ : ∃ v, v = live S k := ⟨_, rfl⟩
      have HV := hide hv
      rw [← hv] at cg
      clear hv
      cases v
      · have HM2 : Hid (m = cnt (live S) (k + 1) - cnt (live S) a) := hide (by rw [HC.out k hak, ← HV.out, HMk.out]; rfl)
        go_wp2_with fail
        go_roundg (b - (k + 1))
        case measure => omega
        case rel => exact ⟨k + 1, m, by omega, .inl (by omega), rfl, by go_num, rfl, by omega, HM2, HTr⟩
      · have HM2 : Hid (m + 1 = cnt (live S) (k + 1) - cnt (live S) a) := hide (by rw [HC.out k hak, ← HV.out, HMk.out]; rfl)
        go_wp2_with fail
        go_roundg (b - (k + 1))
        case measure => omega
        case rel => exact ⟨k + 1, m + 1, by omega, .inl (by omega), rfl, by go_num, by go_num, by omega, HM2, HTr⟩
    · have hlti : ¬ (k : Int) < (b : Int) := by omega
      have HM2 : Hid (m = cnt (live S) b - cnt (live S) a) := hide (by
        rcases hkb with h | h
        · rw [HMk.out, show k = b by omega]
        · have := H0.out b (by omega)
          have h2 := HMk.out
          rw [h] at h2
          omega)
      go_wp2_with fail
      go_ret
      exact ⟨by rw [← HM2.out]; simp, HT.out.trans HTr.out⟩
/-- Has a block words on both sides of x? -/
noncomputable def crS (S : Nat → Nat) (x : Nat) : Bool := bo (∃ a, a < x ∧ x < a + S a)
theorem crS_not {S : Nat → Nat} {x : Nat} (h : NoCut S x) : crS S x = false := by unfold crS; rw [bo_false]; rintro ⟨a, h1, h2⟩; exact h a h1 h2
set_option maxRecDepth 100000 in
theorem rcross13 (p q n : Nat) (S : Nat → Nat) (x : Nat) (w : World) (h : RB w p q n S) (hx : x ≤ 65536) :
    Calls Tryz.prog 75 #[.pointer (some ⟨p, 0, none⟩), .int .i64 (x : Int)] w fun e w' => e = .returned (.bool (crS S x)) ∧ Turned [] w w' := by
  have H := hide (rover_any p q n S x w h)
  have HS := hide h.bl
  have hn := h.few
  clear h
  go_enter Tryz.func75, Tryz.ntmps75
  go_wp2_with fail
  refine (H.out).mono ?_
  rintro e w1 ⟨a, z, t, rfl, hr, m, rfl⟩
  clear H
  rcases hr with ⟨k, j, hj, hc, rfl, rfl, rfl⟩ | ⟨hno, rfl, rfl, rfl⟩
  · have hjx : j = x := by omega
    subst hjx
    unfold Cov at hc
    have hz := HS.out.into k (by omega)
    obtain ⟨z, hZ⟩ : ∃ z, z = S k := ⟨_, rfl⟩
    have HZ := hide hZ
    rw [← hZ] at hc hz ⊢
    by_cases hk : k < j
    · have hki : (k : Int) < j := by omega
      have hkj : (j : Int) < (k : Int) + (z : Int) := by omega
      have HP : Hid (crS S j = true) := hide (by unfold crS; rw [bo_true]; exact ⟨k, hk, by rw [← HZ.out]; exact hc.2⟩)
      clear hc hj HS hZ
      go_wp2_with fail
      go_ret
      exact ⟨by rw [HP.out]; simp, (Turned.refl _ _).drewN _⟩
    · have hki : ¬ (k : Int) < j := by omega
      have HP : Hid (crS S j = false) := hide (crS_not fun a h1 h2 => by
        have := HS.out.one (k := j) (a := a) (b := k) ⟨by omega, h2⟩ ⟨hc.1, by rw [← HZ.out]; exact hc.2⟩
        omega)
      clear hc hj HS hZ
      go_wp2_with fail
      go_ret
      exact ⟨by rw [HP.out]; simp, (Turned.refl _ _).drewN _⟩
  · have HP : Hid (crS S x = false) := hide (crS_not fun a h1 h2 => hno a x rfl ⟨by omega, h2⟩)
    clear hno HS
    go_wp2_with fail
    go_ret
    exact ⟨by rw [HP.out]; simp, (Turned.refl _ _).drewN _⟩
end Go.Proofs.YtpeglndlhjnaaaaGreatDoor
