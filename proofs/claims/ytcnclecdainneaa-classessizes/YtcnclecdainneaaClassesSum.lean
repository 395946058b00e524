/-
  What Sum tells; the document's own Sum tells the same.
-/
import Derived.Test.YtcnclecdainneaaClassesBase
import Derived.Test.YtcnclecdainneaaLawKit
namespace Go.Proofs.Ytcnclecdainneaa
open Go.RowKit
set_option linter.unusedVariables false

/-- A slice of numbers that can be read. -/
structure IRd (w : World) (ao : Option Addr) (len : Nat) (l : List Int) : Prop where
  size : l.length = len
  room : len ≤ 9223372036854775807
  cell : ∀ i x, l[i]? = some x → ∃ b off, ao = some ⟨b, off, none⟩ ∧ w.cell? ⟨b, off + i, none⟩ = some (.int .i64 x)
  inn : ∀ x, x ∈ l → In64 x
theorem IRd.turned {w w' : World} {ao : Option Addr} {len : Nat} {l : List Int} (h : IRd w ao len l) (ht : Turned [] w w') : IRd w' ao len l := by
  refine ⟨h.size, h.room, fun i c hc => ?_, h.inn⟩
  obtain ⟨b, off, h0, h1⟩ := h.cell i c hc
  exact ⟨b, off, h0, by rw [ht.cell (block_lt h1) (by simp)]; exact h1⟩
theorem isRow_ird {w : World} {a : Option Addr} {len cap : Nat} {zs : List Int} (h : IsRow .i64 w a len cap zs) : IRd w a len (zs.take len) := by
  rcases h with ⟨rfl, rfl, rfl, rfl⟩ | ⟨x, rfl, hl, hm, hz, hc, hwf⟩
  · exact ⟨by simp, by omega, by simp, by intro x hx; simp at hx⟩
  · refine ⟨by simp; omega, by unfold maxLen at hm; omega, fun i y hy => ?_, fun y hy => wf_range (hwf y (List.mem_of_mem_take hy))⟩
    have hi := (List.getElem?_eq_some_iff.1 hy).1
    simp at hi
    have h1 := hc i (by omega)
    have hsp : x.spot = none := by
      have := World.cell?_spot (hc 0 (by omega))
      simpa [Addr.add] using this
    obtain ⟨b, off, spot⟩ := x
    simp at hsp
    subst hsp
    refine ⟨b, off, rfl, ?_⟩
    rw [show Addr.add ⟨b, off, none⟩ i = ⟨b, off + i, none⟩ by simp [Addr.add]] at h1
    rw [h1]
    rw [List.getElem?_take_of_lt (by omega)] at hy
    rw [List.getD_eq_getElem?_getD, hy]
    rfl

/-- All sizes, as far as they fit. -/
def Fits (l : List Int) : Prop := (∀ x, x ∈ l → 0 ≤ x) ∧ l.sum ≤ 65536
theorem sum_nonneg {l : List Int} (h : ∀ x, x ∈ l → 0 ≤ x) : 0 ≤ l.sum := by
  induction l with
  | nil => simp
  | cons a l ih =>
    rw [List.sum_cons]
    have h1 := h a (by simp)
    have h2 := ih (fun x hx => h x (by simp [hx]))
    omega
theorem Fits.range {l : List Int} (h : Fits l) : 0 ≤ l.sum ∧ l.sum ≤ 65536 := ⟨sum_nonneg h.1, h.2⟩
theorem fits_nil : Fits [] := ⟨by simp, by simp⟩
theorem sum_snoc (l : List Int) (k : Nat) (x : Int) (h : l[k]? = some x) : (l.take (k + 1)).sum = (l.take k).sum + x := by
  obtain ⟨h1, h2⟩ := List.getElem?_eq_some_iff.1 h
  rw [List.take_succ_eq_append_getElem h1, List.sum_append, h2]
  simp
theorem fits_snoc {l : List Int} {k : Nat} {x : Int} (h : l[k]? = some x) (hf : Fits (l.take k)) (h0 : ¬ x < 0) (h1 : ¬ 65536 - (l.take k).sum < x) : Fits (l.take (k + 1)) := by
  refine ⟨fun y hy => ?_, by rw [sum_snoc l k x h]; omega⟩
  obtain ⟨h2, h3⟩ := List.getElem?_eq_some_iff.1 h
  rw [List.take_succ_eq_append_getElem h2] at hy
  rcases List.mem_append.1 hy with hy | hy
  · exact hf.1 y hy
  · simp at hy
    subst hy
    omega
theorem fits_take {l : List Int} (h : Fits l) (k : Nat) : Fits (l.take k) := by
  refine ⟨fun y hy => h.1 y (List.mem_of_mem_take hy), ?_⟩
  have h1 : l.sum = (l.take k).sum + (l.drop k).sum := by rw [← List.sum_append, List.take_append_drop]
  have h2 := sum_nonneg (l := l.drop k) (fun x hx => h.1 x (List.mem_of_mem_drop hx))
  have h3 := h.2
  omega
theorem fits_not {l : List Int} {k : Nat} {x : Int} (h : l[k]? = some x) (h1 : x < 0 ∨ 65536 - (l.take k).sum < x) : ¬ Fits l := by
  intro hf
  have h2 := fits_take hf (k + 1)
  have h3 := h2.2
  rw [sum_snoc l k x h] at h3
  have h4 := hf.1 x (List.mem_of_getElem? h)
  omega

open Classical in
/-- What Sum tells. -/
noncomputable def sumOf (l : List Int) : Int × Int := if Fits l then (l.sum, 0) else (0, 11)

set_option maxRecDepth 100000 in
theorem sum_any (ao : Option Addr) (len cap : Nat) (l : List Int) (w : World) (h : IRd w ao len l) :
    Calls Try.prog 12 #[.slice ao len cap] w fun e w' => e = .returned (.tuple #[.int .i64 (sumOf l).1, .int .i64 (sumOf l).2]) ∧ w' = w := by
  have HL := hide h.size
  have hr := h.room
  have H := hide h
  obtain ⟨y, hy⟩ : ∃ y, y = sumOf l := ⟨_, rfl⟩
  rw [← hy]
  have HY := hide hy
  clear hy h
  go_enter Try.func12, Try.ntmps12
  go_wp2_with fail
  go_loopw [4, 9] (fun s i wr => ∃ (j : Nat) (n : Int), j ≤ len ∧ i = .int .i64 j ∧ s = .int .i64 n ∧ 0 ≤ n ∧ n ≤ 65536 ∧ Hid (Fits (l.take j) ∧ (l.take j).sum = n) ∧ Hid (wr = w)) (fun _ i _ => len - (intOf i).toNat)
  case atStart => exact ⟨0, 0, Nat.zero_le _, rfl, rfl, by omega, by omega, ⟨fits_nil, by simp⟩, rfl⟩
  case round =>
    obtain ⟨j, n, hj, rfl, rfl, hn0, hn1, HF, HW⟩ := hrel
    have hW : wr = w := HW.out
    subst hW
    by_cases hlt : j < len
    · obtain ⟨x, hx⟩ : ∃ x, l[j]? = some x := ⟨_, List.getElem?_eq_getElem (by have := HL.out; omega)⟩
      obtain ⟨b, off, rfl, c0⟩ := H.out.cell j x hx
      have hxr := H.out.inn x (List.mem_of_getElem? hx)
      unfold In64 at hxr
      have HX := hide hx
      clear hx
      by_cases h1 : x < 0
      · have hy : y = (0, 11) := by
          rw [HY.out]; unfold sumOf; rw [if_neg]
          exact fits_not HX.out (.inl h1)
        subst hy
        go_wp2_with fail
        go_ret2
        exact ⟨rfl, rfl⟩
      · by_cases h2 : 65536 - n < x
        · have hy : y = (0, 11) := by
            rw [HY.out]; unfold sumOf; rw [if_neg]
            exact fits_not HX.out (.inr (by rw [HF.out.2]; exact h2))
          subst hy
          go_wp2_with fail
          go_ret2
          exact ⟨rfl, rfl⟩
        · have HF2 : Hid (Fits (l.take (j + 1)) ∧ (l.take (j + 1)).sum = n + x) := ⟨fits_snoc HX.out HF.out.1 h1 (by rw [HF.out.2]; exact h2), by rw [sum_snoc l j x HX.out, HF.out.2]⟩
          clear HX HF
          go_wp2_with fail
          go_roundw
          case rel => exact ⟨j + 1, n + x, by omega, by go_num, by go_num, by omega, by omega, HF2, by first | exact rfl | exact trivial⟩
          case measure => simp [intOf]; omega
    · have hy : y = (n, 0) := by
        rw [HY.out]
        have h1 : l.take j = l := List.take_of_length_le (by have := HL.out; omega)
        have h2 := HF.out
        rw [h1] at h2
        unfold sumOf
        rw [if_pos h2.1, h2.2]
      subst hy
      go_wp2_with fail
      go_ret2
      exact ⟨rfl, rfl⟩
end Go.Proofs.Ytcnclecdainneaa
