/-
  What serves the laws of layer 4: words that fit, what a closed set of addresses says of what is reached, and the classes of chapter 3's examples.
-/
import Derived.Test.YthigmechfcndcaaBlocksReachW
import Derived.Test.YthigmechfcndcaaBlocksLayW
import Derived.Test.YthigmechfcndcaaBlocksRefsW
namespace Go.Proofs.Ythigmechfcndcaa
open Go.RowKit Go.Maps
set_option linter.unusedVariables false

def AllIn (l : List Int) : Prop := ∀ x, x ∈ l → In64 x
theorem allIn_zeros (n : Nat) : AllIn (List.replicate n 0) := fun x hx => by
  rw [List.eq_of_mem_replicate hx]
  unfold In64
  omega
theorem allIn_laid (k n : Int) (s : Nat) : AllIn (laid k n s) := fun x hx => by
  have hr := headOf_range k n
  unfold laid at hx
  rcases List.mem_cons.1 hx with rfl | h1
  · unfold In64
    omega
  · exact allIn_zeros _ x h1
theorem AllIn.put {l m : List Int} (h : AllIn l) (hm : AllIn m) (t : Int) : AllIn (putL l t m) := fun x hx => by
  unfold putL at hx
  split at hx
  · unfold over at hx
    rcases List.mem_append.1 hx with h1 | h1
    · rcases List.mem_append.1 h1 with h2 | h2
      · exact h x (List.mem_of_mem_take h2)
      · exact hm x h2
    · exact h x (List.mem_of_mem_drop h1)
  · exact h x hx
theorem AllIn.lay {l : List Int} (h : AllIn l) (cs : List Cls) (t k n : Int) : AllIn (layL l cs t k n) := by
  unfold layL
  split
  · exact h.put (allIn_laid _ _ _) t
  · exact h
theorem AllIn.fill {l : List Int} (h : AllIn l) (f g : Int) : AllIn (fillL l f g) := by
  unfold fillL
  split
  · exact h.put (allIn_laid _ _ _) f
  · exact h

/-- What is reached stays within whatever is closed under references. -/
theorem rch_closed {f : Int → Option Blk} {g : Blk → List Int} {rs : List Int} (S : Int → Prop) (h1 : ∀ r, r ∈ rs → r ≠ 0 → S r) (h2 : ∀ x b, S x → f x = some b → ∀ y, y ∈ g b → y ≠ 0 → S y) {x : Int} (h : Rch f g rs x) : S x := by
  induction h with
  | root h3 h4 => exact h1 _ h3 h4
  | next _ h3 h4 h5 ih => exact h2 _ _ ih h3 _ h4 h5

/-- The classes of chapter 3's examples. -/
def threeCs : List Cls := [⟨2, 1, 0⟩, ⟨0, 0, 1⟩, ⟨0, 0, 2⟩]
theorem three_any (w : World) :
    Calls Try.prog 18 #[] w fun e w' => ∃ g, e = .returned (.slice (some ⟨g, 0, none⟩) 3 3) ∧ CRd w' (some ⟨g, 0, none⟩) 3 threeCs ∧ Turned [] w w' ∧ w.heap.size ≤ g := by
  have hbs : ∀ w : World, (Instr.buildSlice 22 3 #[(0, .agg #[.int .i64 2, .int .i64 1, .int .i64 0]), (1, .agg #[.int .i64 0, .int .i64 0, .int .i64 1]), (2, .agg #[.int .i64 0, .int .i64 0, .int .i64 2])]).run Try.prog w = .ok (.slice (some ⟨w.heap.size, 0, none⟩) 3 3) (w.alloc (.cells #[.int .i64 2, .int .i64 1, .int .i64 0, .int .i64 0, .int .i64 0, .int .i64 1, .int .i64 0, .int .i64 0, .int .i64 2] 91)) := fun _ => by kernel_rfl
  have HB := hide (heap_alloc_new w (.cells #[.int .i64 2, .int .i64 1, .int .i64 0, .int .i64 0, .int .i64 0, .int .i64 1, .int .i64 0, .int .i64 0, .int .i64 2] 91))
  go_enter Try.func18, Try.ntmps18
  go_wp2_with fail
  go_ret
  refine ⟨_, rfl, ⟨rfl, by omega, fun i c hc => ⟨_, 0, rfl, ?_⟩, fun c hc => ?_⟩, (Turned.refl [] w).alloc _, Nat.le_refl _⟩
  · rw [cell_of_heap HB.out, cell_of_heap HB.out, cell_of_heap HB.out]
    match i, hc with
    | 0, hc => simp [threeCs] at hc; subst hc; exact ⟨rfl, rfl, rfl⟩
    | 1, hc => simp [threeCs] at hc; subst hc; exact ⟨rfl, rfl, rfl⟩
    | 2, hc => simp [threeCs] at hc; subst hc; exact ⟨rfl, rfl, rfl⟩
    | i + 3, hc => simp [threeCs] at hc
  · simp [threeCs] at hc
    rcases hc with rfl | rfl | rfl <;> simp [Cls.In, In64]
end Go.Proofs.Ythigmechfcndcaa
