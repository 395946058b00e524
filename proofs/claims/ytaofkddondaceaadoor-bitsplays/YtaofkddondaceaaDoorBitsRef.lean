/-
  The document's own object of layer 5 (its sizes in a slice): Size, span, Next, Count, Over, Live tell by the same pure functions as the program.
-/
import Derived.Test.YtaofkddondaceaaDoorBitsTot
namespace Go.Proofs.YtaofkddondaceaaDoor
open Go.RowKit
set_option linter.unusedVariables false

/-- The document's object: block p the struct, block q the sizes. -/
structure RB (w : World) (p q n : Nat) (S : Nat → Nat) : Prop where
  few : n ≤ 65536
  bl : Bl n S
  p0 : p ≠ 0
  q0 : q ≠ 0
  ne : p ≠ q
  head : w.heap[p]? = some (.cells #[.slice (some ⟨q, 0, none⟩) n n] 31)
  row : ∃ c, w.heap[q]? = some (.cells c 3) ∧ ∀ i, i < n → c[i]? = some (.int .i64 (S i : Nat))
section
variable {w w' : World} {p q n : Nat} {S : Nat → Nat}
theorem RB.c0 (h : RB w p q n S) : w.cell? ⟨p, 0, none⟩ = some (.slice (some ⟨q, 0, none⟩) n n) := by rw [cell_of_heap h.head]; rfl
theorem RB.cell (h : RB w p q n S) {i : Nat} (hi : i < n) : w.cell? ⟨q, i, none⟩ = some (.int .i64 (S i : Nat)) := by
  obtain ⟨c, hc, hr⟩ := h.row
  rw [cell_of_heap hc]
  exact hr i hi
theorem RB.fq (h : RB w p q n S) (i : Nat) : w.frozen? ⟨q, i, none⟩ = false := by
  obtain ⟨c, hc, _⟩ := h.row
  simp [World.frozen?, hc]
theorem RB.ltp (h : RB w p q n S) : p < w.heap.size := lt_of_heap h.head
theorem RB.ltq (h : RB w p q n S) : q < w.heap.size := by obtain ⟨c, hc, _⟩ := h.row; exact lt_of_heap hc
theorem RB.turned (h : RB w p q n S) {T : List Nat} (t : Turned T w w') (hp : p ∉ T) (hq : q ∉ T) : RB w' p q n S := by
  obtain ⟨c, hc, hr⟩ := h.row
  exact ⟨h.few, h.bl, h.p0, h.q0, h.ne, by rw [t.block p h.ltp hp]; exact h.head, c, by rw [t.block q h.ltq hq]; exact hc, hr⟩
theorem RB.turned0 (h : RB w p q n S) (t : Turned [] w w') : RB w' p q n S := h.turned t (by simp) (by simp)
theorem RB.small (h : RB w p q n S) (i : Nat) : S i ≤ 65536 := by
  by_cases h1 : 0 < S i
  · have := h.bl.into i h1; have := h.few; omega
  · omega
end

theorem rsize_any (p q n : Nat) (S : Nat → Nat) (x : Int) (w : World) (h : RB w p q n S) :
    Calls Tryd.prog 28 #[.pointer (some ⟨p, 0, none⟩), .int .i64 x] w fun e w' => e = .returned (.int .i64 (szI S x : Nat)) ∧ w' = w := by
  have hn := h.few
  have c0 := h.c0
  by_cases h0 : x < 0
  · rw [szI_neg S h0]
    clear h
    go_enter Tryd.func28, Tryd.ntmps28
    go_wp2_with fail
    go_ret
    exact ⟨rfl, rfl⟩
  · have hd : decide (x < 0) = false := decide_eq_false h0
    obtain ⟨k, rfl⟩ := Int.eq_ofNat_of_zero_le (show 0 ≤ x by omega)
    rw [szI_nat]
    by_cases h1 : k < n
    · have c1 := h.cell h1
      clear h
      go_enter Tryd.func28, Tryd.ntmps28
      go_wp2_with fail
      go_ret
      exact ⟨rfl, rfl⟩
    · rw [h.bl.far (by omega)]
      clear h
      go_enter Tryd.func28, Tryd.ntmps28
      go_wp2_with fail
      go_ret
      exact ⟨rfl, rfl⟩

/-- A range as the document keeps it. -/
theorem rspan_any (p q n : Nat) (S : Nat → Nat) (x y : Int) (w : World) (h : RB w p q n S) :
    Calls Tryd.prog 40 #[.pointer (some ⟨p, 0, none⟩), .int .i64 x, .int .i64 y] w fun e w' => e = .returned (.tuple #[.int .i64 (max x 0), .int .i64 (min y n)]) ∧ w' = w := by
  have hn := h.few
  have c0 := h.c0
  clear h
  by_cases h0 : x < 0 <;> by_cases h1 : (n : Int) < y
  · rw [show max x 0 = 0 by omega, show min y (n : Int) = n by omega]
    go_enter Tryd.func40, Tryd.ntmps40
    go_wp2_with fail
    go_ret2
    exact ⟨rfl, rfl⟩
  · rw [show max x 0 = 0 by omega, show min y (n : Int) = y by omega]
    go_enter Tryd.func40, Tryd.ntmps40
    go_wp2_with fail
    go_ret2
    exact ⟨rfl, rfl⟩
  · rw [show max x 0 = x by omega, show min y (n : Int) = n by omega]
    go_enter Tryd.func40, Tryd.ntmps40
    go_wp2_with fail
    go_ret2
    exact ⟨rfl, rfl⟩
  · rw [show max x 0 = x by omega, show min y (n : Int) = y by omega]
    go_enter Tryd.func40, Tryd.ntmps40
    go_wp2_with fail
    go_ret2
    exact ⟨rfl, rfl⟩

theorem rnext_any (p q n : Nat) (S : Nat → Nat) (x y : Int) (w : World) (hx : In64 x) (h : RB w p q n S) :
    Calls Tryd.prog 30 #[.pointer (some ⟨p, 0, none⟩), .int .i64 x, .int .i64 y] w fun e w' => ∃ r : Int, e = .returned (.int .i64 r) ∧ IsNext (begs S) (kp n x) (kp n y) r ∧ w' = w := by
  have hn := h.few
  have c0 := h.c0
  have HS := hide (rspan_any p q n S x y w h)
  have HB := hide h
  have hX : 0 ≤ max x 0 ∧ max x 0 ≤ 9223372036854775807 := by unfold In64 at hx; omega
  have hY : min y (n : Int) ≤ 65536 := by omega
  have HK1 := hide (show ∀ i : Nat, i < n → (max x 0 ≤ i ↔ kp n x ≤ i) from fun i hi => by unfold kp; omega)
  have HK2 := hide (show ∀ i : Nat, (i : Int) < min y n ↔ i < kp n y from fun i => by unfold kp; omega)
  have hkx := kp_le n x
  have hky := kp_le n y
  clear h hx
  generalize max x 0 = X at *
  generalize min y (n : Int) = Y at *
  generalize kp n x = a at *
  generalize kp n y = b at *
  go_enter Tryd.func30, Tryd.ntmps30
  go_wp2_with fail
  refine (HS.out).mono ?_
  rintro e w1 ⟨rfl, rfl⟩
  go_wp2_with fail
  go_loop [7] (fun i => ∃ c : Int, X ≤ c ∧ (c ≤ X ∨ c ≤ Y) ∧ i = .int .i64 c ∧ Hid (∀ k : Nat, X ≤ k → (k : Int) < c → (k : Int) < Y → begs S k = false)) (fun i => (Y - intOf i).toNat)
  case atStart => exact ⟨X, by omega, .inl (by omega), rfl, fun k h1 h2 => by omega⟩
  case round =>
    obtain ⟨c, hc1, hc2, rfl, HF⟩ := hrel
    by_cases hlt : c < Y
    · obtain ⟨k, rfl⟩ := Int.eq_ofNat_of_zero_le (show 0 ≤ c by omega)
      have hkb := (HK2.out k).1 hlt
      have c1 := HB.out.cell (i := k) (by omega)
      have hsm := HB.out.small k
      have hkn : (k : Int) < (n : Int) := by omega
      by_cases hs : 0 < S k
      · have HR : Hid (IsNext (begs S) a b (k : Int)) := by
          refine .inr ⟨k, rfl, (HK1.out k (by omega)).1 hc1, hkb, by unfold begs; simpa using hs, fun j h1 h2 => ?_⟩
          exact HF.out j ((HK1.out j (by omega)).2 h1) (by omega) (by omega)
        generalize S k = sk at *
        go_wp2_with fail
        go_ret
        exact ⟨_, rfl, HR.out, rfl⟩
      · have HF2 : Hid (∀ j : Nat, X ≤ j → (j : Int) < (k : Int) + 1 → (j : Int) < Y → begs S j = false) := by
          intro j h1 h2 h3
          by_cases hj : j = k
          · subst hj; unfold begs; simpa using hs
          · exact HF.out j h1 (by omega) h3
        clear HF
        have hs0 : S k = 0 := by omega
        rw [hs0] at c1
        go_wp2_with fail
        go_round
        case rel => exact ⟨(k : Int) + 1, by omega, .inr (by omega), by go_num, HF2⟩
        case measure => simp [intOf]; omega
    · have HR : Hid (IsNext (begs S) a b (-1)) := by
        refine .inl ⟨rfl, fun k h1 h2 => ?_⟩
        have h3 := (HK2.out k).2 h2
        exact HF.out k ((HK1.out k (by omega)).2 h1) (by omega) h3
      have hd : decide (c < Y) = false := decide_eq_false hlt
      go_wp2_with fail
      go_ret
      exact ⟨_, rfl, HR.out, rfl⟩
end Go.Proofs.YtaofkddondaceaaDoor
