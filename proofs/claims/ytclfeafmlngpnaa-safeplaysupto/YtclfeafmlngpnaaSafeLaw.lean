/-
  The object through a law: all that is its own is newer than the law's first world; what other blocks hold stays.
-/
import Derived.Test.YtclfeafmlngpnaaSafeResume
namespace Go.Proofs.Ytclfeafmlngpnaa
open Go.RowKit Go.Maps
set_option linter.unusedVariables false

/-- Cells of any other type than the object's stay. -/
structure Keeps (w w' : World) : Prop where
  size : w.heap.size ≤ w'.heap.size
  block : ∀ (k : Nat) (c : Array Value) (t : TypeId) (fr : Nat × Nat), w.heap[k]? = some (Obj.cells c t fr) → t ≠ 48 → w'.heap[k]? = w.heap[k]?
theorem Keeps.refl (w : World) : Keeps w w := ⟨Nat.le_refl _, fun _ _ _ _ _ _ => rfl⟩
theorem Keeps.trans {a b c : World} (h : Keeps a b) (k : Keeps b c) : Keeps a c :=
  ⟨Nat.le_trans h.size k.size, fun i x t fr hi ht => by
    have h1 := h.block i x t fr hi ht
    exact (k.block i x t fr (h1.trans hi) ht).trans h1⟩
theorem Keeps.of_turned {w w' : World} (h : Turned [] w w') : Keeps w w' := ⟨h.size, fun k c t fr hk _ => h.block k (lt_of_heap hk) (by simp)⟩
theorem Keeps.of_own {w w' : World} {a : Nat} {mo : Option Nat} {L : Th} {ar : Bool} (h : Sf w a mo L ar) (ht : Turned (blks a mo) w w') : Keeps w w' :=
  ⟨ht.size, fun k c t fr hk hne => ht.block k (lt_of_heap hk) (fun hm => by
    rcases mem_own.1 hm with rfl | hb
    · rw [h.obj] at hk
      simp at hk
      exact hne hk.2.1.symm
    · obtain ⟨es, clock, h1⟩ := (h.map k hb).isMap
      rw [h1] at hk
      cases hk)⟩
theorem Row.keeps {w w' : World} {B : Nat} {v : Value} {l : List Int} (h : Row w B v l) (hk : Keeps w w') : Row w' B v l :=
  ownsRow_keep h (fun k hkk => by
    obtain ⟨_, _, c, hc⟩ := ownsRow_lt h k hkk
    exact hk.block k c _ _ hc (by decide))

/-- The object, newer than w0. -/
def Sn (w0 w : World) (a : Nat) (L : Th) (ar : Bool) : Prop := ∃ mo, Sf w a mo L ar ∧ Turned [] w0 w ∧ w0.heap.size ≤ a ∧ ∀ b, mo = some b → w0.heap.size ≤ b
theorem Sn.turn {w0 w : World} {a : Nat} {L : Th} {ar : Bool} (h : Sn w0 w a L ar) : Turned [] w0 w := by obtain ⟨mo, _, h1, _⟩ := h; exact h1
theorem Sn.ok {w0 w : World} {a : Nat} {L : Th} {ar : Bool} (h : Sn w0 w a L ar) : Ok L := by obtain ⟨mo, h1, _⟩ := h; exact h1.ok
theorem Sn.few {w0 w : World} {a : Nat} {L : Th} {ar : Bool} (h : Sn w0 w a L ar) : L.length < 17592186044416 := by obtain ⟨mo, h1, _⟩ := h; exact h1.few
theorem Sn.next {w0 w w' : World} {a : Nat} {L : Th} {ar : Bool} (h : Sn w0 w a L ar) (ht : Turned [] w w') : Sn w0 w' a L ar := by
  obtain ⟨mo, h1, h2, h3, h4⟩ := h
  exact ⟨mo, h1.turned ht (by simp) (by simp), h2.trans ht, h3, h4⟩
theorem sn_own {w0 w w' : World} {a : Nat} {mo : Option Nat} {L M : Th} {ar ar' : Bool} (h2 : Turned [] w0 w) (h3 : w0.heap.size ≤ a) (h4 : ∀ b, mo = some b → w0.heap.size ≤ b) (k1 : Sf w' a mo M ar') (k2 : Turned (blks a mo) w w') : Sn w0 w' a M ar' :=
  ⟨mo, k1, h2.trans_new k2 (fun i hi => by
    rcases mem_own.1 hi with rfl | hb
    · exact .inr h3
    · exact .inr (h4 i hb)), h3, h4⟩
theorem Sn.drewN {w0 w : World} {a : Nat} {L : Th} {ar : Bool} (h : Sn w0 w a L ar) (n : Nat) : Sn w0 (w.drewN n) a L ar := h.next ((Turned.refl [] w).drewN n)

theorem sn_new (w0 w : World) (ht : Turned [] w0 w) : Calls Try.prog 9 #[] w fun e w' => e = .returned (ptr w.heap.size) ∧ Sn w0 w' w.heap.size [] false ∧ Turned [] w w' := by
  refine (new_any w).mono ?_
  rintro e w' ⟨rfl, h1, h2⟩
  exact ⟨rfl, ⟨none, h1, ht.trans h2, ht.size, fun b hb => by cases hb⟩, h2⟩
theorem sn_add {w0 w : World} {a : Nat} {L : Th} {ar : Bool} (h : Sn w0 w a L ar) (ao : Option Addr) (len cap : Nat) (l : List Int) (hl : IRd w ao len l) (hf : L.length + len < 17592186044416) :
    Calls Try.prog 11 #[ptr a, .slice ao len cap] w fun e w' => e = .returned (.int .i64 ((addR ar L l).2 : Int)) ∧ Sn w0 w' a (addR ar L l).1 ar ∧ Keeps w w' := by
  obtain ⟨mo, h1, h2, h3, h4⟩ := h
  cases mo with
  | none =>
    refine (add_none w a L ar ao len cap l h1 hl hf).mono ?_
    rintro e w' ⟨rfl, k1, k2⟩
    refine ⟨rfl, ⟨_, k1, h2.trans_new k2 (fun i hi => ?_), h3, fun b hb => ?_⟩, Keeps.of_own h1 (k2.mono (fun k hk => ?_))⟩
    · simp at hi
      subst hi
      exact .inr h3
    · cases hb
      have := h2.size
      omega
    · simp at hk
      exact mem_own.2 (.inl hk)
  | some b =>
    refine (add_some w a b L ar ao len cap l h1 hl hf).mono ?_
    rintro e w' ⟨rfl, k1, k2⟩
    exact ⟨rfl, sn_own (L := L) (ar := ar) h2 h3 h4 k1 k2, Keeps.of_own h1 k2⟩
theorem sn_end {w0 w : World} {a : Nat} {L : Th} {ar : Bool} (h : Sn w0 w a L ar) (ao : Option Addr) (len cap : Nat) (l : List Int) (hl : IRd w ao len l) (hf : len < 17592186044416) :
    Calls Try.prog 13 #[ptr a, .slice ao len cap] w fun e w' => e = .returned (.int .i64 ((endR L l).2 : Int)) ∧ Sn w0 w' a (endR L l).1 ar ∧ Keeps w w' := by
  obtain ⟨mo, h1, h2, h3, h4⟩ := h
  refine (end_any w a mo L ar ao len cap l h1 hl hf).mono ?_
  rintro e w' ⟨rfl, k1, k2⟩
  exact ⟨rfl, sn_own (L := L) (ar := ar) h2 h3 h4 k1 k2, Keeps.of_own h1 k2⟩
theorem sn_poll {w0 w : World} {a : Nat} {L : Th} {ar : Bool} (h : Sn w0 w a L ar) (x : Int) (hx : In64 x) :
    Calls Try.prog 22 #[ptr a, .int .i64 x] w fun e w' => e = .returned (.bool (polls L ar x)) ∧ Sn w0 w' a (pollL L ar x) ar ∧ Keeps w w' := by
  obtain ⟨mo, h1, h2, h3, h4⟩ := h
  refine (poll_any w a mo L ar x h1 hx).mono ?_
  rintro e w' ⟨rfl, k1, k2⟩
  exact ⟨rfl, sn_own (L := L) (ar := ar) h2 h3 h4 k1 k2, Keeps.of_own h1 k2⟩
theorem sn_hold {w0 w : World} {a : Nat} {L : Th} {ar : Bool} (h : Sn w0 w a L ar) (x : Int) (hx : In64 x) :
    Calls Try.prog 14 #[ptr a, .int .i64 x] w fun e w' => e = .returned (.int .i64 (mustE (st L x) 1)) ∧ Sn w0 w' a (holdL L x) ar ∧ Keeps w w' := by
  obtain ⟨mo, h1, h2, h3, h4⟩ := h
  refine (hold_any w a mo L ar x h1 hx).mono ?_
  rintro e w' ⟨rfl, k1, k2⟩
  exact ⟨rfl, sn_own (L := L) (ar := ar) h2 h3 h4 k1 k2, Keeps.of_own h1 k2⟩
theorem sn_free {w0 w : World} {a : Nat} {L : Th} {ar : Bool} (h : Sn w0 w a L ar) (x : Int) (hx : In64 x) :
    Calls Try.prog 16 #[ptr a, .int .i64 x] w fun e w' => e = .returned (.tuple #[.bool (decide (st L x = 3) && !ar), .int .i64 (mustE (st L x) 3)]) ∧ Sn w0 w' a (freeL L ar x) ar ∧ Keeps w w' := by
  obtain ⟨mo, h1, h2, h3, h4⟩ := h
  refine (free_any w a mo L ar x h1 hx).mono ?_
  rintro e w' ⟨rfl, k1, k2⟩
  exact ⟨rfl, sn_own (L := L) (ar := ar) h2 h3 h4 k1 k2, Keeps.of_own h1 k2⟩
theorem sn_arm {w0 w : World} {a : Nat} {L : Th} {ar : Bool} (h : Sn w0 w a L ar) :
    Calls Try.prog 18 #[ptr a] w fun e w' => e = .returned (.bool (!ar)) ∧ Sn w0 w' a L true ∧ Keeps w w' := by
  obtain ⟨mo, h1, h2, h3, h4⟩ := h
  refine (arm_any w a mo L ar h1).mono ?_
  rintro e w' ⟨rfl, k1, k2⟩
  exact ⟨rfl, sn_own (L := L) (ar := ar) h2 h3 h4 k1 k2, Keeps.of_own h1 k2⟩
theorem sn_armed {w0 w : World} {a : Nat} {L : Th} {ar : Bool} (h : Sn w0 w a L ar) :
    Calls Try.prog 28 #[ptr a] w fun e w' => e = .returned (.bool ar) ∧ w' = w := by
  obtain ⟨mo, h1, h2, h3, h4⟩ := h
  exact armed_any w a mo L ar h1
theorem sn_state {w0 w : World} {a : Nat} {L : Th} {ar : Bool} (h : Sn w0 w a L ar) (x : Int) (hx : In64 x) :
    Calls Try.prog 26 #[ptr a, .int .i64 x] w fun e w' => e = .returned (.int .i64 (st L x)) ∧ w' = w := by
  obtain ⟨mo, h1, h2, h3, h4⟩ := h
  exact state_any w a mo L ar x h1 hx
theorem sn_reached {w0 w : World} {a : Nat} {L : Th} {ar : Bool} (h : Sn w0 w a L ar) :
    Calls Try.prog 29 #[ptr a] w fun e w' => e = .returned (.bool (reach L ar)) ∧ Sn w0 w' a L ar ∧ Turned [] w w' := by
  obtain ⟨mo, h1, h2, h3, h4⟩ := id h
  refine (reached_any w a mo L ar h1).mono ?_
  rintro e w' ⟨rfl, k1⟩
  exact ⟨rfl, h.next k1, k1⟩
theorem sn_in {w0 w : World} {a : Nat} {L : Th} {ar : Bool} (h : Sn w0 w a L ar) (ao : Option Addr) (len cap : Nat) (l : List Int) (hl : IRd w ao len l) (hlen : len ≤ 4611686018427387904) :
    Calls Try.prog 24 #[ptr a, .slice ao len cap] w fun e w' => ∃ v, e = .returned v ∧ Row w' w.heap.size v (inL l L) ∧ Sn w0 w' a L ar ∧ Turned [] w w' := by
  obtain ⟨mo, h1, h2, h3, h4⟩ := id h
  refine (in_any w a mo L ar ao len cap l h1 hl hlen).mono ?_
  rintro e w' ⟨v, rfl, k1, k2⟩
  exact ⟨v, rfl, k1, h.next k2, k2⟩
theorem sn_resume {w0 w : World} {a : Nat} {L : Th} {ar : Bool} (h : Sn w0 w a L ar) :
    Calls Try.prog 20 #[ptr a] w fun e w' => ∃ v, e = .returned v ∧ Row w' w.heap.size v (resumeT L ar) ∧ Sn w0 w' a (resumeL L ar) (resumeA L ar) ∧ Keeps w w' := by
  obtain ⟨mo, h1, h2, h3, h4⟩ := h
  refine (resume_any w a mo L ar h1).mono ?_
  rintro e w' ⟨v, rfl, k0, k1, k2⟩
  exact ⟨v, rfl, k0, sn_own (L := L) (ar := ar) h2 h3 h4 k1 k2, Keeps.of_own h1 k2⟩

/-- Numbers just made. -/
theorem ird_new (w : World) (l : List Int) (h64 : ∀ x, x ∈ l → In64 x) : IRd (w.alloc (.cells (l.map (Value.int .i64)).toArray 3)) (some ⟨w.heap.size, 0, none⟩) l.length l := by
  refine ⟨rfl, h64, fun i x hx => ⟨w.heap.size, 0, rfl, ?_⟩⟩
  rw [cell_of_heap (heap_alloc_new _ _), Nat.zero_add]
  simp [hx]
theorem Row.size {w : World} {B : Nat} {v : Value} {l : List Int} (h : Row w B v l) : ∃ ao cap, v = .slice ao l.length cap := by
  obtain ⟨_, ao, cap, hv, _⟩ := ownsRow_any h
  exact ⟨ao, cap, hv⟩
/-- A row that has grown leaves the object. -/
theorem sn_grown {w0 w w' : World} {a : Nat} {L : Th} {ar : Bool} (h : Sn w0 w a L ar) {v : Value} {l : List Int} (hr : Row w w0.heap.size v l) (hg : w.grownBy w' v.ownBlock) : Sn w0 w' a L ar := by
  obtain ⟨mo, h1, h2, h3, h4⟩ := h
  have hn := row_not_own h1 hr
  refine ⟨mo, h1.keep (hg.block a h1.lt (fun e => hn a e.symm (mem_own.2 (.inl rfl)))) (fun b hb => hg.block b (h1.map b hb).lt (fun e => hn b e.symm (mem_own.2 (.inr hb)))), h2.grown hg (fun k hk => .inr (ownsRow_lt hr k hk).1), h3, h4⟩
end Go.Proofs.Ytclfeafmlngpnaa
