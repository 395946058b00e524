/-
  What Sum tells; the document's own Sum tells the same.
-/
import Derived.Test.YtelljfckffmjmaaClassesBase
import Derived.Test.YtelljfckffmjmaaLawKit
namespace Go.Proofs.Ytelljfckffmjmaa
open Go.RowKit
set_option linter.unusedVariables false

/-- A slice of numbers that can be read. -/
structure IRd (w : World) (ao : Option Addr) (len : Nat) (l : List Int) : Prop where
  size : l.length = len
  room : len ≤ 9223372036854775807
  cell : ∀ i x, l[i]? = some x → ∃ b off, ao = some ⟨b, off, none⟩ ∧ w.cell? ⟨b, off + i, none⟩ = some (.int .i64 x)
  inn : ∀ x, x ∈ l → In64 x
theorem IRd.turned {w w' : World} {ao : Option Addr} {len : Nat} {l : List Int} (h : IRd w ao len l) (ht : Turned [] w w') : IRd w' ao len l := by
  refine ⟨h.size, h.room, fun i c hc => ?_, h.inn⟩
  obtain ⟨b, off, h0, h1⟩ := h.cell i c hc
  exact ⟨b, off, h0, by rw [ht.cell (block_lt h1) (by simp)]; exact h1⟩
theorem isRow_ird {w : World} {a : Option Addr} {len cap : Nat} {zs : List Int} (h : IsRow .i64 w a len cap zs) : IRd w a len (zs.take len) := by
  rcases h with ⟨rfl, rfl, rfl, rfl⟩ | ⟨x, rfl, hl, hm, hz, hc, hwf⟩
  · exact ⟨by simp, by omega, by simp, by intro x hx; simp at hx⟩
  · refine ⟨by simp; omega, by unfold maxLen at hm; omega, fun i y hy => ?_, fun y hy => wf_range (hwf y (List.mem_of_mem_take hy))⟩
    have hi := (List.getElem?_eq_some_iff.1 hy).1
    simp at hi
    have h1 := hc i (by omega)
    have hsp : x.spot = none := by
      have := World.cell?_spot (hc 0 (by omega))
      simpa [Addr.add] using this
    obtain ⟨b, off, spot⟩ := x
    simp at hsp
    subst hsp
    refine ⟨b, off, rfl, ?_⟩
    rw [show Addr.add ⟨b, off, none⟩ i = ⟨b, off + i, none⟩ by simp [Addr.add]] at h1
    rw [h1]
    rw [List.getElem?_take_of_lt (by omega)] at hy
    rw [List.getD_eq_getElem?_getD, hy]
    rfl

/-- All sizes, as far as they fit. -/
def Fits (l : List Int) : Prop := (∀ x, x ∈ l → 0 ≤ x) ∧ l.sum ≤ 65536
theorem sum_nonneg {l : List Int} (h : ∀ x, x ∈ l → 0 ≤ x) : 0 ≤ l.sum := by
  induction l with
  | nil => simp
  | cons a l ih =>
    rw [List.sum_cons]
    have h1 := h a (by simp)
    have h2 := ih (fun x hx => h x (by simp [hx]))
    omega
theorem Fits.range {l : List Int} (h : Fits l) : 0 ≤ l.sum ∧ l.sum ≤ 65536 := ⟨sum_nonneg h.1, h.2⟩
theorem fits_nil : Fits [] := ⟨by simp, by simp⟩
theorem sum_snoc (l : List Int) (k : Nat) (x : Int) (h : l[k]? = some x) : (l.take (k + 1)).sum = (l.take k).sum + x := by
  obtain ⟨h1, h2⟩ := List.getElem?_eq_some_iff.1 h
  rw [List.take_succ_eq_append_getElem h1, List.sum_append, h2]
  simp
theorem fits_snoc {l : List Int} {k : Nat} {x : Int} (h : l[k]? = some x) (hf : Fits (l.take k)) (h0 : ¬ x < 0) (h1 : ¬ 65536 - (l.take k).sum < x) : Fits (l.take (k + 1)) := by
  refine ⟨fun y hy => ?_, by rw [sum_snoc l k x h]; omega⟩
  obtain ⟨h2, h3⟩ := List.getElem?_eq_some_iff.1 h
  rw [List.take_succ_eq_append_getElem h2] at hy
  rcases List.mem_append.1 hy with hy | hy
  · exact hf.1 y hy
  · simp at hy
    subst hy
    omega
theorem fits_take {l : List Int} (h : Fits l) (k : Nat) : Fits (l.take k) := by
  refine ⟨fun y hy => h.1 y (List.mem_of_mem_take hy), ?_⟩
  have h1 : l.sum = (l.take k).sum + (l.drop k).sum := by rw [← List.sum_append, List.take_append_drop]
  have h2 := sum_nonneg (l := l.drop k) (fun x hx => h.1 x (List.mem_of_mem_drop hx))
  have h3 := h.2
  omega
theorem fits_not {l : List Int} {k : Nat} {x : Int} (h : l[k]? = some x) (h1 : x < 0 ∨ 65536 - (l.take k).sum < x) : ¬ Fits l := by
  intro hf
  have h2 := fits_take hf (k + 1)
  have h3 := h2.2
  rw [sum_snoc l k x h] at h3
  have h4 := hf.1 x (List.mem_of_getElem? h)
  omega

open Classical in
/-- What Sum tells. -/
noncomputable def sumOf (l : List Int) : Int × Int := if Fits l then (l.sum, 0) else (0, 11)

end Go.Proofs.Ytelljfckffmjmaa
