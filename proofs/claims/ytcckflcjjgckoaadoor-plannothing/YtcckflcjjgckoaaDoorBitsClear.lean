/-
  What Clear does.
-/
import Derived.Test.YtcckflcjjgckoaaDoorBitsMark
namespace Go.Proofs.YtcckflcjjgckoaaDoor.Bt
open Go.RowKit
set_option linter.unusedVariables false

/-- An object, nil or not; with words it is Bts. -/
structure Ob (w : World) (ov : Option Addr) (p q n : Nat) (S : Nat → Nat) : Prop where
  rd : Brd w ov n (sidesOf S)
  bl : Bl n S
  own : 0 < n → ov = some ⟨p, 0, none⟩ ∧ Bts w p q n (sidesOf S)
theorem Bts.ob {w : World} {p q n : Nat} {S : Nat → Nat} (h : Bts w p q n (sidesOf S)) (hs : Bl n S) : Ob w (some ⟨p, 0, none⟩) p q n S := ⟨h.brd, hs, fun _ => ⟨rfl, h⟩⟩
theorem Ob.turned0 {w w' : World} {ov : Option Addr} {p q n : Nat} {S : Nat → Nat} (h : Ob w ov p q n S) (t : Turned [] w w') : Ob w' ov p q n S :=
  ⟨h.rd.turned t, h.bl, fun hn => ⟨(h.own hn).1, (h.own hn).2.turned0 t⟩⟩

/-- Spans, one behind the other. -/
def clrs (n : Nat) (S : Nat → Nat) (sp : List (Int × Int)) : Nat → Nat := sp.foldl (fun S r => clr S (kp n r.1) (kp n r.2)) S
theorem clrs_snoc (n : Nat) (S : Nat → Nat) (sp : List (Int × Int)) (k : Nat) (r : Int × Int) (h : sp[k]? = some r) : clrs n S (sp.take (k + 1)) = clr (clrs n S (sp.take k)) (kp n r.1) (kp n r.2) := by
  have hk : k < sp.length := (List.getElem?_eq_some_iff.1 h).1
  have e : sp.take (k + 1) = sp.take k ++ [r] := by rw [List.take_add_one, h]; rfl
  unfold clrs
  rw [e, List.foldl_append]
  rfl
theorem clrs_bl {n : Nat} {S : Nat → Nat} (h : Bl n S) (sp : List (Int × Int)) : Bl n (clrs n S sp) := by
  unfold clrs
  induction sp generalizing S with
  | nil => exact h
  | cons r sp ih => exact ih (h.clr _ _)
/-- Spans that can be read. -/
structure SpRd (w : World) (g : Nat) (sp : List (Int × Int)) : Prop where
  cell : ∀ i r, sp[i]? = some r → w.cell? ⟨g, i * 2, none⟩ = some (.int .i64 r.1) ∧ w.cell? ⟨g, i * 2 + 1, none⟩ = some (.int .i64 r.2)
theorem SpRd.turned {w w' : World} {g : Nat} {sp : List (Int × Int)} {T : List Nat} (h : SpRd w g sp) (t : Turned T w w') (hg : g ∉ T) : SpRd w' g sp :=
  ⟨fun i r hr => by
    obtain ⟨h1, h2⟩ := h.cell i r hr
    exact ⟨by rw [t.cell (block_lt h1) hg]; exact h1, by rw [t.cell (block_lt h2) hg]; exact h2⟩⟩

/-- What the inner loop keeps: outside the range all is as it was; within it, as it was or nothing. -/
def Part (S T : Nat → Nat) (a b : Nat) : Prop := ∀ k, T k = S k ∨ (a ≤ k ∧ k < b ∧ T k = 0)
theorem part_done {S T : Nat → Nat} {a b : Nat} (h : Part S T a b) (hn : ∀ k, a ≤ k → k < b → begs T k = false) : T = clr S a b := by
  funext k
  unfold clr
  split
  · rename_i h1
    have h2 := hn k h1.1 h1.2
    unfold begs at h2
    simp at h2
    exact h2
  · rename_i h1
    rcases h k with h2 | ⟨h2, h3, _⟩
    · exact h2
    · exact absurd ⟨h2, h3⟩ h1
theorem part_off {S T : Nat → Nat} {a b k : Nat} (h : Part S T a b) (h1 : a ≤ k) (h2 : k < b) : Part S (upd T k 0) a b := by
  intro j
  by_cases hj : j = k
  · subst hj; exact .inr ⟨h1, h2, upd_at _ _ _⟩
  · rw [upd_ne T hj]; exact h j
theorem next_off {T : Nat → Nat} {a b k : Nat} {r : Int} (h1 : a ≤ k) (h2 : k < b) (hl : ∀ j, a ≤ j → j < k → begs T j = false) (hr : IsNext (begs (upd T k 0)) k b r) : IsNext (begs (upd T k 0)) a b r ∧ (r = -1 ∨ (k : Int) < r) := by
  have hk : begs (upd T k 0) k = false := by unfold begs; rw [upd_at]; rfl
  have hl2 : ∀ j, a ≤ j → j < k → begs (upd T k 0) j = false := by
    intro j h3 h4
    have := hl j h3 h4
    unfold begs at this ⊢
    rw [upd_ne T (by omega)]
    exact this
  rcases hr with ⟨rfl, h3⟩ | ⟨j, rfl, h3, h4, h5, h6⟩
  · refine ⟨.inl ⟨rfl, fun j h4 h5 => ?_⟩, .inl rfl⟩
    by_cases hj : j < k
    · exact hl2 j h4 hj
    · exact h3 j (by omega) h5
  · have hjk : j ≠ k := by intro e; subst e; rw [hk] at h5; cases h5
    refine ⟨.inr ⟨j, rfl, by omega, h4, h5, fun i h7 h8 => ?_⟩, .inr (by omega)⟩
    by_cases hi : i < k
    · exact hl2 i h7 hi
    · exact h6 i (by omega) h8

/-- The inner loop's measure. -/
def msr (n : Nat) (v : Value) : Nat := if intOf v < 0 then 0 else (n + 1 - intOf v).toNat
theorem msr_down {n j : Nat} {r : Int} (hj : j ≤ n) (h : r = -1 ∨ (j : Int) < r) : msr n (.int .i64 r) < msr n (.int .i64 (j : Int)) := by
  unfold msr
  have e1 : intOf (Value.int .i64 r) = r := rfl
  have e2 : intOf (Value.int .i64 (j : Int)) = (j : Int) := rfl
  rw [e1, e2, if_neg (show ¬ ((j : Int) < 0) by omega)]
  split <;> omega
theorem IsNext.range {f : Nat → Bool} {a b : Nat} {r : Int} (h : IsNext f a b r) (hb : b ≤ 65536) : -1 ≤ r ∧ r < 65536 := by
  rcases h with ⟨rfl, _⟩ | ⟨k, rfl, _, h2, _⟩ <;> omega

end Go.Proofs.YtcckflcjjgckoaaDoor.Bt
