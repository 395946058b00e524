/-
  Both objects side by side: the program's tasks and the document's, over the same list of tasks, each in blocks of its own.
-/
import Derived.Test.YtopoklciglgkbaaRefAddR
import Derived.Test.YtopoklciglgkbaaRefRun
namespace Go.Proofs.Ytopoklciglgkbaa
open Go.RowKit
set_option linter.unusedVariables false

/-- The document's object with no more blocks than it has. -/
def tightOf (q : Nat) (vt vs vn : Value) : List Nat := q :: (vt.ownBlock.toList ++ (vs.ownBlock.toList ++ vn.ownBlock.toList))
theorem Rf.tight {B : Nat} {w : World} {q : Nat} {G : List Nat} {ts : List Task} {ls : List Sl} (h : Rf B w q G ts ls) :
    ∃ G', Rf B w q G' ts ls ∧ (∀ k, k ∈ G' → k ∈ G) ∧ ∀ k, k ∈ G' → ∃ c e, w.heap[k]? = some (.cells c e (0, 0)) ∧ (e = 30 ∨ e = 28 ∨ e = 3) := by
  obtain ⟨vt, vs, vn, h1, h2, h3, h4, h5, h6⟩ := h.head
  have hin : ∀ k, k ∈ tightOf q vt vs vn → k = q ∨ vt.ownBlock = some k ∨ vs.ownBlock = some k ∨ vn.ownBlock = some k := fun k hk => by
    simpa [tightOf] using hk
  have hsub : ∀ k, k ∈ tightOf q vt vs vn → k ∈ G := fun k hk => by
    rcases hin k hk with rfl | hk
    · exact h.qG
    · exact h5 k hk
  refine ⟨tightOf q vt vs vn, ⟨⟨vt, vs, vn, h1, h2, h3, h4, fun k hk => ?_, h6⟩, by simp [tightOf], h.len, h.tell, h.rd, fun k hk => h.lo k (hsub k hk), h.room⟩, hsub, fun k hk => ?_⟩
  · simp only [tightOf, List.mem_cons, List.mem_append, Option.mem_toList]
    rcases hk with hk | hk | hk
    · exact .inr (.inl hk)
    · exact .inr (.inr (.inl hk))
    · exact .inr (.inr (.inr hk))
  · rcases hin k hk with rfl | hk | hk | hk
    · exact ⟨_, _, h1, .inl rfl⟩
    · obtain ⟨_, _, c, hc⟩ := ownsRow_lt h2 k hk
      exact ⟨c, _, hc, .inr (.inl rfl)⟩
    · obtain ⟨_, _, c, hc⟩ := ownsRow_lt h3 k hk
      exact ⟨c, _, hc, .inr (.inr rfl)⟩
    · obtain ⟨_, _, c, hc⟩ := ownsRow_lt h4 k hk
      exact ⟨c, _, hc, .inr (.inr rfl)⟩

/-- Both, apart. -/
structure Two (B : Nat) (w : World) (p q : Nat) (ts : List Task) (F G : List Nat) (ls : List Sl) : Prop where
  tu : Tur B w p F ts
  rf : Rf B w q G ts ls
  ap : ∀ k, k ∈ F → k ∉ G

theorem Two.lowF {B : Nat} {w : World} {p q : Nat} {ts : List Task} {F G : List Nat} {ls : List Sl} (h : Two B w p q ts F G ls) : ∀ k, k ∈ F → B ≤ k ∧ k < w.heap.size := h.tu.trn.lo
theorem Two.lowG {B : Nat} {w : World} {p q : Nat} {ts : List Task} {F G : List Nat} {ls : List Sl} (h : Two B w p q ts F G ls) : ∀ k, k ∈ G → B ≤ k ∧ k < w.heap.size := h.rf.lo
theorem Two.same {B : Nat} {w w' : World} {p q : Nat} {ts : List Task} {F G : List Nat} {ls : List Sl} (h : Two B w p q ts F G ls) (ht : Turned [] w w') : Two B w' p q ts F G ls := ⟨h.tu.same ht, h.rf.same ht, h.ap⟩
/-- Behind a call of the program's object. -/
theorem Two.rfF {B : Nat} {w w' : World} {p q : Nat} {ts : List Task} {F G : List Nat} {ls : List Sl} (h : Two B w p q ts F G ls) (ht : Turned F w w') : Rf B w' q G ts ls :=
  h.rf.turned ht (fun k hk hm => h.ap k hm hk) (fun k hk => (h.lowF k hk).1)
/-- Behind a call of the document's. -/
theorem Two.tuG {B : Nat} {w w' : World} {p q : Nat} {ts us : List Task} {F G : List Nat} {ls : List Sl} (h : Two B w p q ts F G ls) (hu : Tur B w p F us) (ht : Turned G w w') : Tur B w' p F us :=
  hu.turned ht (fun k hk hm => h.ap k hk hm) (fun k hk => (h.lowG k hk).1)

section
variable {B : Nat} {w w1 w2 : World} {p q : Nat} {ts us : List Task} {F G F' G' : List Nat} {ls ls' : List Sl}
/-- The program's call, then the document's. -/
theorem Two.step (h : Two B w p q ts F G ls) (hu : Tur B w1 p F us) (h1 : Turned F w w1) (hr : Rf B w2 q G us ls) (h2 : Turned G w1 w2) : Two B w2 p q us F G ls :=
  ⟨hu.turned h2 (fun k hk hm => h.ap k hk hm) (fun k hk => (h.lowG k hk).1), hr, h.ap⟩
/-- The document's call, then the program's. -/
theorem Two.pets (h : Two B w p q ts F G ls) (hr : Rf B w1 q G us ls) (h1 : Turned G w w1) (hu : Tur B w2 p F us) (h2 : Turned F w1 w2) : Two B w2 p q us F G ls :=
  ⟨hu, hr.turned h2 (fun k hk hm => h.ap k hm hk) (fun k hk => (h.lowF k hk).1), h.ap⟩
/-- A task is added to both. -/
theorem Two.added (h : Two B w p q ts F G ls) (hty : ∀ k, k ∈ G → ∃ c e, w.heap[k]? = some (.cells c e (0, 0)) ∧ (e = 30 ∨ e = 28 ∨ e = 3))
    (hu : Tur B w1 p F' us) (hF : ∀ k, k ∈ F' → k ∈ F ∨ w.heap.size ≤ k ∨ ∃ c, w.heap[k]? = some (.cells c 64 (0, 0))) (h1 : Turned F w w1)
    (hr : Rf B w2 q G' us ls') (hG : ∀ k, k ∈ G' → k ∈ G ∨ w1.heap.size ≤ k) (h2 : Turned G w1 w2) : Two B w2 p q us F' G' ls' := by
  have hap : ∀ k, k ∈ F' → k ∉ G := fun k hk hm => by
    rcases hF k hk with h3 | h3 | ⟨c, h3⟩
    · exact h.ap k h3 hm
    · have := (h.lowG k hm).2
      omega
    · obtain ⟨c2, e, h4, h5⟩ := hty k hm
      rw [h3] at h4
      simp at h4
      have h6 := h4.2
      rcases h5 with rfl | rfl | rfl <;> exact absurd h6 (by decide)
  refine ⟨hu.turned h2 hap (fun k hk => (h.lowG k hk).1), hr, fun k hk hm => ?_⟩
  rcases hG k hm with h3 | h3
  · exact hap k hk h3
  · have := (hu.trn.lo k hk).2
    omega
/-- What both have, with no more blocks of the document's than there are. -/
theorem Two.tight (h : Two B w p q ts F G ls) : ∃ G', Two B w p q ts F G' ls ∧ ∀ k, k ∈ G' → ∃ c e, w.heap[k]? = some (.cells c e (0, 0)) ∧ (e = 30 ∨ e = 28 ∨ e = 3) := by
  obtain ⟨G', h1, h2, h3⟩ := h.rf.tight
  exact ⟨G', ⟨h.tu, h1, fun k hk hm => h.ap k hk (h2 k hm)⟩, h3⟩
end

/-- The document's object, as it begins. -/
theorem rf_zero (B : Nat) (w : World) (hB : B ≤ w.heap.size) : Rf B (w.alloc (.cells #[.slice none 0 0, .slice none 0 0, .slice none 0 0] 30)) w.heap.size [w.heap.size] [] [] := by
  refine ⟨⟨_, _, _, heap_alloc_new _ _, World.ownsRow_nil _ _ _ _, World.ownsRow_nil _ _ _ _, World.ownsRow_nil _ _ _ _, fun k hk => ?_, fun k hk => ?_⟩, by simp, rfl, fun i t s ht => by simp at ht, fun s hs => by simp at hs, fun k hk => ?_, by simp⟩
  · simp [Value.ownBlock] at hk
  · simp [Value.ownBlock] at hk
  · simp at hk
    subst hk
    exact ⟨hB, by simp⟩

/-- The script's tasks wait: some state is 1. -/
theorem thatOf_one (l : List Int) (k : Nat) : thatOf 1 l k = [] ↔ ∀ x, x ∈ l → ¬ x = 1 := by
  induction l generalizing k with
  | nil => simp [thatOf]
  | cons a l ih =>
    unfold thatOf
    by_cases ha : a = 1
    · simp [ha]
    · simp [ha, ih]
end Go.Proofs.Ytopoklciglgkbaa
