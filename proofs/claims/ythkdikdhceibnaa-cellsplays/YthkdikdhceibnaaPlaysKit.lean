/-
  What the law of CellsPlays works on: both memories side by side, a call of the script that came in, and its copy in the law's own memory.
-/
import Derived.Test.YthkdikdhceibnaaPlaysAny
import Derived.Test.YthkdikdhceibnaaRefPut
import Derived.Test.YthkdikdhceibnaaRefWords
import Derived.Test.YthkdikdhceibnaaLawSame
import Derived.Test.YthkdikdhceibnaaCellsAwake
namespace Go.Proofs.Ythkdikdhceibnaa
open Go.RowKit Go.ChangeShapes Go.WideShapes Go.ChangeAt

/-- Both memories hold the same words and the same count, each in blocks of its own. -/
structure Both (w : World) (p q rp rq : Nat) (l : List Int) (s : Int) : Prop where
  m : Mem w p q l s
  r : Ref w rp rq l s
  d1 : p ≠ rp
  d2 : p ≠ rq
  d3 : q ≠ rp
  d4 : q ≠ rq

theorem Both.mk' {w : World} {p q rp rq : Nat} {l : List Int} {s : Int} {l' : List Int} {s' : Int} {wa wb : World} (h : Both w p q rp rq l s) (hm : Mem wa p q l' s') (hr : Ref wb rp rq l' s') (ht2 : Turned [rp, rq] wa wb) : Both wb p q rp rq l' s' :=
  ⟨hm.turned ht2 (by simp; exact ⟨h.d1, h.d2⟩) (by simp; exact ⟨h.d3, h.d4⟩), hr, h.d1, h.d2, h.d3, h.d4⟩
theorem Both.ref {w : World} {p q rp rq : Nat} {l : List Int} {s : Int} {wa : World} (h : Both w p q rp rq l s) (ht : Turned [p, q] w wa) : Ref wa rp rq l s :=
  h.r.turned ht (by simp; exact ⟨Ne.symm h.d1, Ne.symm h.d3⟩) (by simp; exact ⟨Ne.symm h.d2, Ne.symm h.d4⟩)
theorem Both.turned {w : World} {p q rp rq : Nat} {l : List Int} {s : Int} {wa : World} (h : Both w p q rp rq l s) (ht : Turned [] w wa) : Both wa p q rp rq l s :=
  ⟨h.m.turned ht (by simp) (by simp), h.r.turned ht (by simp) (by simp), h.d1, h.d2, h.d3, h.d4⟩
theorem Both.setOther {w : World} {p q rp rq : Nat} {l : List Int} {s : Int} (h : Both w p q rp rq l s) {g : Nat} (i : Nat) (v : Value) (h1 : g ≠ p) (h2 : g ≠ q) (h3 : g ≠ rp) (h4 : g ≠ rq) : Both (w.setCell ⟨g, i, none⟩ v) p q rp rq l s := by
  have ht : Turned [g] w (w.setCell ⟨g, i, none⟩ v) := (Turned.refl [g] w).setCell (by simp) _
  exact ⟨h.m.turned ht (by simp; omega) (by simp; omega), h.r.turned ht (by simp; omega) (by simp; omega), h.d1, h.d2, h.d3, h.d4⟩

/-- A call of the script, copied into block x. -/
def Box (w : World) (x : Nat) (kd t o v : Int) (aL : Option Addr) (lL cL : Nat) : Prop :=
  w.heap[x]? = some (.cells #[.int .i64 kd, .int .i64 t, .int .i64 o, .int .i64 v, .slice aL lL cL] 33)
theorem Box.turned {w wa : World} {x : Nat} {kd t o v : Int} {aL : Option Addr} {lL cL : Nat} (h : Box w x kd t o v aL lL cL) {S : List Nat} (ht : Turned S w wa) (hx : x ∉ S) : Box wa x kd t o v aL lL cL := by
  unfold Box
  rw [ht.block x (lt_of_heap h) hx]
  exact h
theorem Box.cells {w : World} {x : Nat} {kd t o v : Int} {aL : Option Addr} {lL cL : Nat} (h : Box w x kd t o v aL lL cL) :
    w.cell? ⟨x, 1, none⟩ = some (.int .i64 t) ∧ w.cell? ⟨x, 2, none⟩ = some (.int .i64 o) ∧ w.cell? ⟨x, 3, none⟩ = some (.int .i64 v) ∧ w.cell? ⟨x, 4, none⟩ = some (.slice aL lL cL) := by
  unfold Box at h
  exact ⟨by rw [cell_of_heap h]; rfl, by rw [cell_of_heap h]; rfl, by rw [cell_of_heap h]; rfl, by rw [cell_of_heap h]; rfl⟩

def In64 (x : Int) : Prop := -9223372036854775808 ≤ x ∧ x ≤ 9223372036854775807

/-- The script that came in: at each place a call. -/
def IsOps (w : World) (a : Option Addr) (len : Nat) : Prop :=
  len ≤ 9223372036854775807 ∧ ∀ i, i < len → ∃ b off kd t o v aL lL cL zs, a = some ⟨b, off, none⟩ ∧ b < w.heap.size ∧
    w.cell? ⟨b, off + i * 5, none⟩ = some (.int .i64 kd) ∧ w.cell? ⟨b, off + i * 5 + 1, none⟩ = some (.int .i64 t) ∧ w.cell? ⟨b, off + i * 5 + 2, none⟩ = some (.int .i64 o) ∧
    w.cell? ⟨b, off + i * 5 + 3, none⟩ = some (.int .i64 v) ∧ w.cell? ⟨b, off + i * 5 + 4, none⟩ = some (.slice aL lL cL) ∧ IsRow .i64 w aL lL cL zs ∧ In64 t ∧ In64 o ∧ In64 v

theorem row_block {w : World} {a : Option Addr} {len cap : Nat} {zs : List Int} (h : IsRow .i64 w a len cap zs) (hp : 0 < len) (b off : Nat) (e : a = some ⟨b, off, none⟩) : b < w.heap.size := by
  rcases h.cases with h0 | ⟨b', off', e', _, _, hb, _⟩
  · omega
  · rw [e] at e'
    simp at e'
    omega

theorem row_ranged {w : World} {a : Option Addr} {len cap : Nat} {zs : List Int} (h : IsRow .i64 w a len cap zs) (l : List Int) (hl : Ranged l) (t : Int) : Ranged (putL l t (zs.take len)) := by
  unfold putL
  split
  · rename_i hf
    intro i x hx
    rw [over_get _ _ _ (by omega)] at hx
    split at hx
    · have hlt := (List.getElem?_eq_some_iff.1 hx).1
      rw [List.getElem?_take_of_lt (by simp at hlt; omega)] at hx
      rcases h.cases with h0 | ⟨b', off', e', _, _, hb, _, hwf⟩
      · subst h0
        simp at hlt
      · have h3 := hwf (i - t.toNat)
        rw [List.getD_eq_getElem?_getD, hx] at h3
        have h4 : (Lit.int .i64 x).wf = true := h3
        exact bounds_i64 h4
    · exact hl i x hx
  · exact hl

/-- A row of the law's own, which may be written. -/
def RowOK (w : World) (ao : Option Addr) (N X : Nat) : Prop := ∀ i, i < N → ∃ g c e, ao = some ⟨g, 0, none⟩ ∧ X ≤ g ∧ w.heap[g]? = some (.cells c e (0, 0)) ∧ i < c.size
theorem RowOK.turned {w w' : World} {ao : Option Addr} {N X : Nat} (h : RowOK w ao N X) (ht : Turned [] w w') : RowOK w' ao N X := by
  intro i hi
  obtain ⟨g, c, e, h1, h2, h3, h4⟩ := h i hi
  exact ⟨g, c, e, h1, h2, by rw [ht.block g (lt_of_heap h3) (by simp)]; exact h3, h4⟩
theorem RowOK.setCell {w : World} {ao : Option Addr} {N X : Nat} (h : RowOK w ao N X) (b j : Nat) (v : Value) : RowOK (w.setCell ⟨b, j, none⟩ v) ao N X := by
  intro i hi
  obtain ⟨g, c, e, h1, h2, h3, h4⟩ := h i hi
  by_cases hb : g = b
  · subst hb
    exact ⟨g, _, e, h1, h2, heap_setCell_at _ _ _ _ _ _ h3 v, by simpa using h4⟩
  · exact ⟨g, c, e, h1, h2, by rw [Below.heap_setCell _ _ _ _ hb]; exact h3, h4⟩
theorem RowOK.of_owns {w : World} {B : Nat} {ao : Option Addr} {n cap : Nat} {xs : List Value} (h : w.ownsRow B 2 1 (.slice ao n cap) n xs) : RowOK w ao n B := by
  intro i hi
  rcases h.2 with ⟨_, h0⟩ | ⟨g, cap', cur, hv, hg, hh, hc, _, hs, _⟩
  · omega
  · simp only [Value.slice.injEq] at hv
    exact ⟨g, cur, 2, hv.1, hg, hh, by omega⟩
theorem RowOK.cell {w : World} {ao : Option Addr} {N X : Nat} (h : RowOK w ao N X) (i : Nat) (hi : i < N) : ∃ g u, ao = some ⟨g, 0, none⟩ ∧ X ≤ g ∧ w.cell? ⟨g, i, none⟩ = some u ∧ w.frozen? ⟨g, i, none⟩ = false := by
  obtain ⟨g, c, e, h1, h2, h3, h4⟩ := h i hi
  exact ⟨g, c[i], h1, h2, by rw [cell_of_heap h3, Array.getElem?_eq_getElem h4], by simp [World.frozen?, h3]⟩

theorem words_full (l : List Int) (h : l.length ≤ 65536) : ((l.take (min (max 65536 0) (l.length : Int)).toNat).drop (min (max 0 0) (l.length : Int)).toNat) = l := by
  rw [show (min (max 65536 0) (l.length : Int)).toNat = l.length by omega, show (min (max 0 0) (l.length : Int)).toNat = 0 by omega]
  simp
theorem Ref.drewIs {w : World} {p q : Nat} {l : List Int} {s : Int} (h : Ref w p q l s) : Ref w.drew p q l s := ⟨h.ne, h.head, h.row⟩

theorem not_in2 {x a b : Nat} (h1 : x ≠ a) (h2 : x ≠ b) : x ∉ [a, b] := by simp; exact ⟨h1, h2⟩
theorem keep_cell {S : List Nat} {w w' : World} (ht : Turned S w w') {x i : Nat} {u : Value} (h : w.cell? ⟨x, i, none⟩ = some u) (hx : x ∉ S) : w'.cell? ⟨x, i, none⟩ = some u := by
  rw [ht.cell (block_lt h) hx]
  exact h

/-- Behind a call that turned the one memory, made behind a draw: the other memory, and the copy of the script's call, are as they were. -/
theorem after_c {w W wa : World} {p q rp rq x : Nat} {l : List Int} {s : Int} {kd t o v : Int} {aL : Option Addr} {lL cL : Nat} (hB : Both W p q rp rq l s) (hX : Box W x kd t o v aL lL cL) (hT : Turned [] w W)
    (hne : x ≠ p ∧ x ≠ q ∧ x ≠ rp ∧ x ≠ rq) (hp : w.heap.size ≤ p) (hq : w.heap.size ≤ q) (ht : Turned [p, q] W.drew wa) :
    Ref wa rp rq l s ∧ Turned [] w wa ∧ wa.cell? ⟨x, 1, none⟩ = some (.int .i64 t) ∧ wa.cell? ⟨x, 2, none⟩ = some (.int .i64 o) ∧ wa.cell? ⟨x, 3, none⟩ = some (.int .i64 v) ∧ wa.cell? ⟨x, 4, none⟩ = some (.slice aL lL cL) := by
  have h1 : Turned [p, q] W wa := ((Turned.refl [p, q] W).drew).trans ht
  exact ⟨hB.ref h1, hT.trans_new h1 (by simp; omega), (hX.turned h1 (by simp; exact ⟨hne.1, hne.2.1⟩)).cells⟩
end Go.Proofs.Ythkdikdhceibnaa
