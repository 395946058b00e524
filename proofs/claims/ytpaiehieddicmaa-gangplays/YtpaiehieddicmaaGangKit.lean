/-
  What the laws on gangs and shares share: numbers that came in, numbers in an array variable.
-/
import Derived.Test.YtpaiehieddicmaaGangAwake
import Derived.Test.YtpaiehieddicmaaLawKit
namespace Go.Proofs.Ytpaiehieddicmaa
open Go.RowKit
set_option linter.unusedVariables false

theorem isRow_ird {w : World} {a : Option Addr} {len cap : Nat} {zs : List Int} (h : IsRow .i64 w a len cap zs) : IRd w a len (zs.take len) ∧ len ≤ 9223372036854775807 ∧ ∀ y, y ∈ zs.take len → -9223372036854775808 ≤ y ∧ y ≤ 9223372036854775807 := by
  rcases h with ⟨rfl, rfl, rfl, rfl⟩ | ⟨x, rfl, hl, hm, hz, hc, hwf⟩
  · exact ⟨⟨rfl, fun i x hx => by simp at hx⟩, by omega, by simp⟩
  · refine ⟨⟨by simp; omega, fun i y hy => ?_⟩, by unfold maxLen at hm; omega, fun y hy => wf_range (hwf y (List.mem_of_mem_take hy))⟩
    have hi := (List.getElem?_eq_some_iff.1 hy).1
    simp at hi
    have h1 := hc i (by omega)
    have hsp : x.spot = none := by
      have := World.cell?_spot (hc 0 (by omega))
      simpa [Addr.add] using this
    obtain ⟨b, off, spot⟩ := x
    simp at hsp
    subst hsp
    refine ⟨b, off, rfl, ?_⟩
    rw [show Addr.add ⟨b, off, none⟩ i = ⟨b, off + i, none⟩ by simp [Addr.add]] at h1
    rw [List.getElem?_take] at hy
    split at hy
    · rw [List.getD_eq_getElem?_getD, hy] at h1
      exact h1
    · cases hy

/-- Numbers in an array variable of type t. -/
def Har (w : World) (O : Nat) (t : TypeId) (l : List Int) : Prop := w.heap[O]? = some (.cells (l.map (Value.int .i64)).toArray t)
section
variable {w w' : World} {O : Nat} {t : TypeId} {l : List Int}
theorem Har.at (h : Har w O t l) {i : Nat} {x : Int} (hx : l[i]? = some x) : w.cell? ⟨O, i, none⟩ = some (.int .i64 x) := by rw [cell_of_heap h]; simp [hx]
theorem Har.fz (h : Har w O t l) (i : Nat) : w.frozen? ⟨O, i, none⟩ = false := by unfold Har at h; simp [World.frozen?, h]
theorem Har.lt (h : Har w O t l) : O < w.heap.size := lt_of_heap h
theorem Har.turned (h : Har w O t l) {S : List Nat} (ht : Turned S w w') (hO : O ∉ S) : Har w' O t l := (ht.block O h.lt hO).trans h
theorem Har.put (h : Har w O t l) (k : Nat) (v : Int) : Har (w.setCell ⟨O, k, none⟩ (.int .i64 v)) O t (l.set k v) := by
  unfold Har
  rw [heap_setCell_at _ _ _ _ _ _ h, List.map_set]; simp
end

/-- A number's rest, without its sign. -/
theorem tmod_bounds (a : Int) (k : Int) (h : 0 < k) : -k < a.tmod k ∧ a.tmod k < k := ⟨Int.lt_tmod_of_pos a h, Int.tmod_lt_of_pos a h⟩
end Go.Proofs.Ytpaiehieddicmaa
