/-
  Add of the document's own tasks, over the list of tasks.
-/
import Derived.Test.YtopoklciglgkbaaRefAdd
namespace Go.Proofs.Ytopoklciglgkbaa
open Go.RowKit
set_option linter.unusedVariables false

theorem radd_ok (B : Nat) (w : World) (q : Nat) (G : List Nat) (ts : List Task) (ls : List Sl) (t : Task) (s : Sl) (ht : t.st = 0 ∧ t.n = 0 ∧ t.tell = fun n => tellOf s.l n.toNat)
    (hs : s.l.length = s.len ∧ s.len ≤ 65536 ∧ ∀ i x, s.l[i]? = some x → ∃ g off, s.ao = some ⟨g, off, none⟩ ∧ g < B ∧ w.cell? ⟨g, off + i, none⟩ = some (.int .i64 x)) (hl : ts.length < 128) (h : Rf B w q G ts ls) :
    Calls Try.prog 15 #[.pointer (some ⟨q, 0, none⟩), .slice s.ao s.len s.cap] w fun e w' =>
      e = .returned (.int .i64 ((ts.length : Int) + 1)) ∧ ∃ G', Rf B w' q G' (ts ++ [t]) (ls ++ [s]) ∧ (∀ k, k ∈ G' → k = q ∨ ∃ c e, w'.heap[k]? = some (.cells c e (0, 0)) ∧ (e = 28 ∨ e = 3)) ∧ (∀ k, k ∈ G' → k ∈ G ∨ w.heap.size ≤ k) ∧ Turned G w w' := by
  obtain ⟨vt, vs, vn, h1, h2, h3, h4, h5, h6⟩ := h.head
  have hq := h.lo q h.qG
  refine (radd_r3 B w q ts.length vt vs vn _ _ _ s.ao s.len s.cap hl (by omega) ⟨h1, h2, h3, h4, h6⟩).mono ?_
  rintro e w' ⟨rfl, vt', vs', vn', r, hat, hT⟩
  have hTG : Turned G w w' := hT.mono (fun k hk => by
    simp at hk
    rcases hk with rfl | hk | hk | hk
    · exact h.qG
    · exact h5 k (.inl hk)
    · exact h5 k (.inr (.inl hk))
    · exact h5 k (.inr (.inr hk)))
  have hcell : ∀ (g o : Nat) (x : Value), g < B → w.cell? ⟨g, o, none⟩ = some x → w'.cell? ⟨g, o, none⟩ = some x := fun g o x hg hc => by
    rw [hTG.cell (block_lt hc) (fun hk => by have h7 := (h.lo g hk).1; omega)]
    exact hc
  refine ⟨rfl, q :: (vt'.ownBlock.toList ++ (vs'.ownBlock.toList ++ vn'.ownBlock.toList)), ⟨⟨vt', vs', vn', r.head, ?_, ?_, ?_, ?_, r.sep⟩, by simp, by simp [h.len], ?_, ?_, ?_, by simp; omega⟩, ?_, ?_, hTG⟩
  · have e1 : (ts ++ [t]).length = ts.length + 1 := by simp
    rw [e1, List.map_append]
    exact r.t
  · have e1 : (ts ++ [t]).length = ts.length + 1 := by simp
    rw [e1, List.map_append]
    have h7 := r.s
    simpa [ht.1] using h7
  · have e1 : (ts ++ [t]).length = ts.length + 1 := by simp
    rw [e1, List.map_append]
    have h7 := r.c
    simpa [ht.2.1] using h7
  · intro k hk
    simp
    rcases hk with hk | hk | hk
    · exact .inr (.inl hk)
    · exact .inr (.inr (.inl hk))
    · exact .inr (.inr (.inr hk))
  · intro i u sl hu hsl
    rw [List.getElem?_append] at hu hsl
    rw [h.len] at hsl
    split at hu
    · rename_i hi
      rw [if_pos hi] at hsl
      exact h.tell i u sl hu hsl
    · rename_i hi
      rw [if_neg hi] at hsl
      have a1 := List.mem_of_getElem? hu
      have a2 := List.mem_of_getElem? hsl
      simp at a1 a2
      subst a1 a2
      exact ht.2.2
  · intro sl hsl
    rcases List.mem_append.1 hsl with hsl | hsl
    · obtain ⟨a1, a2, a3⟩ := h.rd sl hsl
      exact ⟨a1, a2, fun i x hx => by obtain ⟨g, off, b1, b2, b3⟩ := a3 i x hx; exact ⟨g, off, b1, b2, hcell _ _ _ b2 b3⟩⟩
    · simp at hsl
      subst hsl
      exact ⟨hs.1, hs.2.1, fun i x hx => by obtain ⟨g, off, b1, b2, b3⟩ := hs.2.2 i x hx; exact ⟨g, off, b1, b2, hcell _ _ _ b2 b3⟩⟩
  · intro k hk
    simp at hk
    rcases hk with rfl | hk | hk | hk
    · exact ⟨hq.1, lt_of_heap r.head⟩
    · exact ⟨(ownsRow_lt r.t k hk).1, (ownsRow_lt r.t k hk).2.1⟩
    · exact ⟨(ownsRow_lt r.s k hk).1, (ownsRow_lt r.s k hk).2.1⟩
    · exact ⟨(ownsRow_lt r.c k hk).1, (ownsRow_lt r.c k hk).2.1⟩
  · intro k hk
    simp at hk
    rcases hk with rfl | hk | hk | hk
    · exact .inl rfl
    · obtain ⟨_, _, c, hc⟩ := ownsRow_lt r.t k hk
      exact .inr ⟨c, _, hc, .inl rfl⟩
    · obtain ⟨_, _, c, hc⟩ := ownsRow_lt r.s k hk
      exact .inr ⟨c, _, hc, .inr rfl⟩
    · obtain ⟨_, _, c, hc⟩ := ownsRow_lt r.c k hk
      exact .inr ⟨c, _, hc, .inr rfl⟩
  · intro k hk
    simp at hk
    rcases hk with rfl | hk
    · exact .inl h.qG
    · rcases hat k hk with a1 | a1 | a1 | a1
      · exact .inl (h5 k (.inl a1))
      · exact .inl (h5 k (.inr (.inl a1)))
      · exact .inl (h5 k (.inr (.inr a1)))
      · exact .inr a1

theorem radd_full (B : Nat) (w : World) (q : Nat) (G : List Nat) (ts : List Task) (ls : List Sl) (ao : Option Addr) (len cap : Nat) (hl : ts.length = 128) (h : Rf B w q G ts ls) :
    Calls Try.prog 15 #[.pointer (some ⟨q, 0, none⟩), .slice ao len cap] w fun e w' => e = .returned (.int .i64 0) ∧ w' = w := by
  obtain ⟨a1, c1, h0, _⟩ := h.st
  have hn128 : 128 ≤ (ts.length : Int) := by omega
  clear h hl
  go_enter Try.func15, Try.ntmps15
  go_wp2_with fail
  go_ret
  exact ⟨rfl, rfl⟩
end Go.Proofs.Ytopoklciglgkbaa
