/-
  What Lay and Fill do to a memory.
-/
import Derived.Test.YtelljfckffmjmaaBlocksMem
namespace Go.Proofs.Ytelljfckffmjmaa
open Go.RowKit
set_option linter.unusedVariables false

theorem laid_row (w : World) (g m : Nat) (k n : Int) (hm : 1 ≤ m) (hm2 : m ≤ 65536) (h : w.heap[g]? = some (.cells (((laid k n m).map (Value.int .i64)).toArray) 2)) : IsRow .i64 w (some ⟨g, 0, none⟩) m m (laid k n m) := by
  have hl := laid_length k n m hm
  refine .inr ⟨_, rfl, Nat.le_refl _, by unfold maxLen; omega, hl, fun i hi => ?_, fun x hx => ?_⟩
  · rw [show Addr.add ⟨g, 0, none⟩ i = ⟨g, i, none⟩ by simp [Addr.add]; intro e; omega, cell_of_heap h]
    rw [List.getElem?_toArray, List.getElem?_map, List.getD_eq_getElem?_getD, List.getElem?_eq_getElem hi]
    rfl
  · have hr := headOf_range k n
    have : x = headOf k n ∨ x = 0 := by
      unfold laid at hx
      rcases List.mem_cons.1 hx with h1 | h1
      · exact .inl h1
      · exact .inr (List.eq_of_mem_replicate h1)
    rcases this with rfl | rfl
    · exact WalkArith.wf_i64 (by omega)
    · rfl

theorem made_laid (m : Nat) (k n : Int) (hm : 1 ≤ m) : (madeCells #[Value.int .i64 0] m).setIfInBounds 0 (.int .i64 (headOf k n)) = ((laid k n m).map (Value.int .i64)).toArray := by
  obtain ⟨j, rfl⟩ : ∃ j, m = j + 1 := ⟨m - 1, by omega⟩
  rw [madeCells_zeros]
  simp [laid, List.replicate_succ]

theorem layS_eq (l : List Int) (cs : List Cls) (t k n : Int) (m : Nat) (he : (sizeOf cs k n).2 = 0) (hm : (sizeOf cs k n).1 = m) (h1 : 1 ≤ m) : layS l cs t k n = if putE l t (laid k n m) = 0 then (m : Int) else 0 := by
  unfold layS putE
  rw [laid_length k n m h1, hm]
  by_cases hf : 0 ≤ t ∧ t + (m : Int) ≤ l.length
  · rw [if_pos ⟨he, hf⟩, if_pos hf, if_pos rfl]
  · rw [if_neg (fun h => hf h.2), if_neg hf, if_neg (by decide)]

theorem sizeOf_filler (n : Int) (cs : List Cls) (h : 0 ≤ n ∧ n ≤ 65535) : sizeOf cs 0 n = (1 + n, 0) := by
  unfold sizeOf told
  simp only [clsAt, if_true]
  rw [if_pos (by exact h)]
  simp [gSize, Cls.rN, Cls.wN]
theorem crd_nil (w : World) : CRd w none 0 [] := ⟨rfl, by omega, fun i c h => by simp at h, fun c h => by simp at h⟩

/-- The words behind a fill. -/
def fillL (l : List Int) (f g : Int) : List Int := if 0 ≤ f ∧ f < g ∧ g ≤ l.length then putL l f (laid 0 (g - f - 1) (g - f).toNat) else l
def fillE (l : List Int) (f g : Int) : Int := if 0 ≤ f ∧ f ≤ g ∧ g ≤ l.length then 0 else 10
theorem fillL_length (l : List Int) (f g : Int) : (fillL l f g).length = l.length := by
  unfold fillL
  split
  · exact putL_length _ _ _
  · rfl

end Go.Proofs.Ytelljfckffmjmaa
