/-
  Rows of numbers that plan makes, and how they are searched (sort.Search at plan's own predicates).
-/
import Derived.Test.YtcckflcjjgckoaaDoorPlanBits
namespace Go.Proofs.YtcckflcjjgckoaaDoor
open Go.RowKit Bt
set_option linter.unusedVariables false

/-- A row of n numbers in a block of its own. -/
def Ri (w : World) (ty : TypeId) (q n : Nat) (g : Nat → Int) : Prop := ∃ c : Array Value, w.heap[q]? = some (.cells c ty) ∧ ∀ i, i < n → c[i]? = some (.int .i64 (g i))
section
variable {w w' : World} {ty : TypeId} {q n : Nat} {g : Nat → Int}
theorem Ri.lt (h : Ri w ty q n g) : q < w.heap.size := by obtain ⟨c, h1, _⟩ := h; exact lt_of_heap h1
theorem Ri.turned (h : Ri w ty q n g) {S : List Nat} (t : Turned S w w') (hq : q ∉ S) : Ri w' ty q n g := by
  obtain ⟨c, h1, h2⟩ := h
  exact ⟨c, by rw [t.block q (lt_of_heap h1) hq]; exact h1, h2⟩
theorem Ri.turned0 (h : Ri w ty q n g) (t : Turned [] w w') : Ri w' ty q n g := h.turned t (by simp)
theorem Ri.cell (h : Ri w ty q n g) {i : Nat} (hi : i < n) : w.cell? ⟨q, i, none⟩ = some (.int .i64 (g i)) := by
  obtain ⟨c, h1, h2⟩ := h
  rw [cell_of_heap h1]
  exact h2 i hi
end

/-- What sort.Search finds: the first place with g. -/
structure Finds (n : Nat) (g : Nat → Bool) (r : Nat) : Prop where
  le : r ≤ n
  no : ∀ m, m < r → g m = false
  yes : r < n → g r = true
theorem Finds.uniq {n : Nat} {g : Nat → Bool} {r s : Nat} (h : Finds n g r) (k : Finds n g s) : r = s := by
  rcases Nat.lt_trichotomy r s with h1 | h1 | h1
  · have := k.no r h1
    rw [h.yes (by have := k.le; omega)] at this
    cases this
  · exact h1
  · have := h.no s h1
    rw [k.yes (by have := h.le; omega)] at this
    cases this

def Below0 (G : Nat → Bool) (a : Nat) : Prop := ∀ m, m < a → G m = false

set_option maxRecDepth 100000 in
theorem search_origin (pb ab n : Nat) (G : Nat → Bool) (w : World) (hn : n ≤ 65536) (hG : ∀ i j, i ≤ j → j < n → G i = true → G j = true)
    (hC : ∀ w', Turned [] w w' → ∀ r : Nat, r < n → Calls Tryd.prog 58 #[.int .i64 (r : Int), .pointer (some ⟨pb, 0, none⟩), .pointer (some ⟨ab, 0, none⟩)] w' fun e w'' => e = .returned (.bool (G r)) ∧ Turned [] w' w'') :
    Calls Tryd.prog 57 #[.int .i64 (n : Int), .func (.func 58) #[] #[.pointer (some ⟨pb, 0, none⟩), .pointer (some ⟨ab, 0, none⟩)]] w fun e w' => ∃ r : Nat, e = .returned (.int .i64 (r : Int)) ∧ Finds n G r ∧ Turned [] w w' := by
  have HC := hide hC
  have HG := hide hG
  clear hC hG
  go_enter Tryd.func57, Tryd.ntmps57
  go_wp2_with fail
  go_loopw [5, 6] (fun i j wr => ∃ (a b : Nat), a ≤ b ∧ b ≤ n ∧ i = .int .i64 a ∧ j = .int .i64 b ∧ Hid (Below0 G a) ∧ Hid (b < n → G b = true) ∧ Hid (Turned [] w wr)) (fun i j _ => (intOf j - intOf i).toNat)
  case atStart => exact ⟨0, n, by omega, by omega, rfl, rfl, fun m hm => by omega, fun h => by omega, Turned.refl _ _⟩
  case round =>
    obtain ⟨a, b, hab, hb, rfl, rfl, HA, HB, HT⟩ := hrel
    by_cases hlt : a < b
    · obtain ⟨m, hm⟩ : ∃ m, m = (a + b) / 2 := ⟨_, rfl⟩
      have hm1 : a ≤ m := by omega
      have hm2 : m < b := by omega
      have hlti : (a : Int) < b := by omega
      have hmi : ((a : Int) + b) / 2 = (m : Int) := by omega
      have H := hide (HC.out wr HT.out m (by omega))
      clear hm
      go_wp2_with fail
      refine (H.out).mono ?_
      rintro e w1 ⟨rfl, ht1⟩
      have HT1 := hide (HT.out.trans ht1)
      clear ht1 H HT
      cases hgm : G m
      · have HA2 : Hid (Below0 G (m + 1)) := hide (fun i hi => by
          by_cases him : i = m
          · rw [him]; exact hgm
          · have h3 : G i ≠ true := fun h4 => by
              have := HG.out i m (by omega) (by omega) h4
              rw [hgm] at this; cases this
            simpa using h3)
        clear hgm HA hmi
        go_wp2_with fail
        go_roundw
        case rel => exact ⟨m + 1, b, by omega, hb, by go_num, rfl, HA2, HB, HT1⟩
        case measure => simp [intOf]; omega
      · have HB2 : Hid (m < n → G m = true) := hide (fun _ => hgm)
        clear hgm HB hmi
        go_wp2_with fail
        go_roundw
        case rel => exact ⟨a, m, hm1, by omega, rfl, rfl, HA, HB2, HT1⟩
        case measure => simp [intOf]; omega
    · have hab2 : a = b := by omega
      subst hab2
      go_wp2_with fail
      go_ret
      exact ⟨a, rfl, ⟨hb, HA.out, HB.out⟩, HT.out⟩

set_option maxRecDepth 100000 in
theorem search_live (bb fb ab n : Nat) (G : Nat → Bool) (w : World) (hn : n ≤ 65536) (hG : ∀ i j, i ≤ j → j < n → G i = true → G j = true)
    (hC : ∀ w', Turned [] w w' → ∀ r : Nat, r < n → Calls Tryd.prog 59 #[.int .i64 (r : Int), .pointer (some ⟨bb, 0, none⟩), .pointer (some ⟨fb, 0, none⟩), .pointer (some ⟨ab, 0, none⟩)] w' fun e w'' => e = .returned (.bool (G r)) ∧ Turned [] w' w'') :
    Calls Tryd.prog 57 #[.int .i64 (n : Int), .func (.func 59) #[] #[.pointer (some ⟨bb, 0, none⟩), .pointer (some ⟨fb, 0, none⟩), .pointer (some ⟨ab, 0, none⟩)]] w fun e w' => ∃ r : Nat, e = .returned (.int .i64 (r : Int)) ∧ Finds n G r ∧ Turned [] w w' := by
  have HC := hide hC
  have HG := hide hG
  clear hC hG
  go_enter Tryd.func57, Tryd.ntmps57
  go_wp2_with fail
  go_loopw [5, 6] (fun i j wr => ∃ (a b : Nat), a ≤ b ∧ b ≤ n ∧ i = .int .i64 a ∧ j = .int .i64 b ∧ Hid (Below0 G a) ∧ Hid (b < n → G b = true) ∧ Hid (Turned [] w wr)) (fun i j _ => (intOf j - intOf i).toNat)
  case atStart => exact ⟨0, n, by omega, by omega, rfl, rfl, fun m hm => by omega, fun h => by omega, Turned.refl _ _⟩
  case round =>
    obtain ⟨a, b, hab, hb, rfl, rfl, HA, HB, HT⟩ := hrel
    by_cases hlt : a < b
    · obtain ⟨m, hm⟩ : ∃ m, m = (a + b) / 2 := ⟨_, rfl⟩
      have hm1 : a ≤ m := by omega
      have hm2 : m < b := by omega
      have hlti : (a : Int) < b := by omega
      have hmi : ((a : Int) + b) / 2 = (m : Int) := by omega
      have H := hide (HC.out wr HT.out m (by omega))
      clear hm
      go_wp2_with fail
      refine (H.out).mono ?_
      rintro e w1 ⟨rfl, ht1⟩
      have HT1 := hide (HT.out.trans ht1)
      clear ht1 H HT
      cases hgm : G m
      · have HA2 : Hid (Below0 G (m + 1)) := hide (fun i hi => by
          by_cases him : i = m
          · rw [him]; exact hgm
          · have h3 : G i ≠ true := fun h4 => by
              have := HG.out i m (by omega) (by omega) h4
              rw [hgm] at this; cases this
            simpa using h3)
        clear hgm HA hmi
        go_wp2_with fail
        go_roundw
        case rel => exact ⟨m + 1, b, by omega, hb, by go_num, rfl, HA2, HB, HT1⟩
        case measure => simp [intOf]; omega
      · have HB2 : Hid (m < n → G m = true) := hide (fun _ => hgm)
        clear hgm HB hmi
        go_wp2_with fail
        go_roundw
        case rel => exact ⟨a, m, hm1, by omega, rfl, rfl, HA, HB2, HT1⟩
        case measure => simp [intOf]; omega
    · have hab2 : a = b := by omega
      subst hab2
      go_wp2_with fail
      go_ret
      exact ⟨a, rfl, ⟨hb, HA.out, HB.out⟩, HT.out⟩
theorem origin1_any (P : PN) (l wt tk : Value) (pb ab aq n c : Nat) (g : Nat → Int) (x : Int) (r : Nat) (hr : r < n) (w : World) (hp : Pb w pb P l (.slice (some ⟨aq, 0, none⟩) n c) wt tk) (hx : w.cell? ⟨ab, 0, none⟩ = some (.int .i64 x)) (ha : Ri w 3 aq n g) (h1 : 0 ≤ x ∧ x ≤ 1000000) (h2 : P.d ≤ 1000000) :
    Calls Tryd.prog 58 #[.int .i64 (r : Int), .pointer (some ⟨pb, 0, none⟩), .pointer (some ⟨ab, 0, none⟩)] w fun e w' => e = .returned (.bool (decide (x - P.d < g r))) ∧ Turned [] w w' := by
  obtain ⟨c0, c1, c2, c3, c4, c5, c6, c7, c8⟩ := hp.cs
  have hc := ha.cell hr
  have hri : (r : Int) < n := by omega
  have hw : IntKind.i64.wrap (x - P.d) = x - P.d := by rw [IntKind.wrap_i64]; omega
  obtain ⟨f, t, k, d, e⟩ := P
  simp only at *
  clear hp ha hr
  go_enter Tryd.func58, Tryd.ntmps58
  go_wp2_with fail
  go_quiet (fail)
  go_wp2_with fail
  go_ret
  exact ⟨rfl, (Turned.refl _ _).drewN _⟩


theorem liveWord1_any (ov : Option Addr) (N : Nat) (S : Nat → Nat) (bb fb ab : Nat) (fr ah i : Nat) (w : World) (h : Brd w ov N (sidesOf S)) (hs : Bl N S) (cb : w.cell? ⟨bb, 0, none⟩ = some (.pointer ov)) (cf : w.cell? ⟨fb, 0, none⟩ = some (.int .i64 (fr : Int))) (ca : w.cell? ⟨ab, 0, none⟩ = some (.int .i64 (ah : Int))) (hN : fr + i + 1 ≤ N) :
    Calls Tryd.prog 59 #[.int .i64 (i : Int), .pointer (some ⟨bb, 0, none⟩), .pointer (some ⟨fb, 0, none⟩), .pointer (some ⟨ab, 0, none⟩)] w fun e w' => e = .returned (.bool (decide (ah < cnt (live S) (fr + i + 1) - cnt (live S) fr))) ∧ Turned [] w w' := by
  have hf := h.few
  have HL := hide (fun (w' : World) (ht : Turned [] w w') => live_any ov N S fr ((fr + i + 1 : Nat) : Int) w' (h.turned ht) hs)
  rw [show kp N (fr : Int) = fr by unfold kp; omega, show kp N ((fr + i + 1 : Nat) : Int) = fr + i + 1 by unfold kp; omega, cntIn_sub] at HL
  have HA := hide (block_lt ca)
  generalize cnt (live S) (fr + i + 1) - cnt (live S) fr = u at *
  have hw1 : IntKind.i64.wrap ((fr : Int) + i) = (fr : Int) + i := by rw [IntKind.wrap_i64]; omega
  have hw2 : IntKind.i64.wrap ((fr : Int) + i + 1) = ((fr + i + 1 : Nat) : Int) := by rw [IntKind.wrap_i64]; omega
  clear h hs
  go_enter Tryd.func59, Tryd.ntmps59
  go_wp2_with fail
  go_region_held3 (fun w' => w'.cell? ⟨bb, 0, none⟩ = some (.pointer ov) ∧ w'.cell? ⟨fb, 0, none⟩ = some (.int .i64 (fr : Int)) ∧ w'.cell? ⟨ab, 0, none⟩ = some (.int .i64 (ah : Int))) (go_keep)
    (first
      | (go_at_call 24; refine (HL.out _ (Turned.refl _ _).drew).mono ?_; rintro e w2 ⟨rfl, ht2⟩; have HT2 := hide ((Turned.refl [] w).drew.trans ht2); have d1 : w2.cell? ⟨bb, 0, none⟩ = some (.pointer ov) := (by rw [HT2.out.cell (block_lt cb) (by simp)]; exact cb); have d2 : w2.cell? ⟨fb, 0, none⟩ = some (.int .i64 (fr : Int)) := (by rw [HT2.out.cell (block_lt cf) (by simp)]; exact cf); have d3 : w2.cell? ⟨ab, 0, none⟩ = some (.int .i64 (ah : Int)) := (by rw [HT2.out.cell (block_lt ca) (by simp)]; exact ca); clear ht2))
  go_wp2_with fail
  go_ret
  exact ⟨by simp, HT2.out⟩
end Go.Proofs.YtcckflcjjgckoaaDoor
