/-
  Both objects get a task that tells a list of states (TurnsPlays): the program's Add, then the document's; what the last loop of a round reads.
-/
import Derived.Test.YtopoklciglgkbaaPlaysSame
namespace Go.Proofs.Ytopoklciglgkbaa
open Go.RowKit
set_option linter.unusedVariables false

section
variable {B : Nat} {w W : World} {p q : Nat} {ts : List Task} {F G : List Nat} {ls : List Sl}
/-- A new block of the program's object. -/
theorem Two.box (h : Two B W p q ts F G ls) (o : Obj) (hB : B ≤ W.heap.size) : Two B (W.alloc o) p q ts (W.heap.size :: F) G ls := by
  have h1 := h.same ((Turned.refl [] W).alloc o)
  refine ⟨h1.tu.more ⟨hB, by simp⟩, h1.rf, fun k hk hm => ?_⟩
  simp at hk
  rcases hk with rfl | hk
  · have := (h.lowG _ hm).2; omega
  · exact h.ap k hk hm

/-- The program's Add of a told task, and the document's behind it. -/
theorem add_both (h : Two w.heap.size W p q ts F G ls) (ht : Turned [] w W) (aL : Option Addr) (lM cL : Nat) (l : List Int) (hl : lM ≤ 40) (hr : Rd w [] aL lM l) (hlen : ts.length < 128) (x : Nat) (v : Value) (hx : W.cell? ⟨x, 2, none⟩ = some v) (hxF : x ∉ F) :
    Calls Try.prog 13 #[.pointer (some ⟨p, 0, none⟩), toldFv W.heap.size] (W.alloc (.cells #[.slice aL lM cL, .int .i64 0] 37)) fun e w1 =>
      e = .returned (.tuple #[.int .i64 ((ts.length : Int) + 1), .int .i64 0]) ∧ w1.cell? ⟨x, 2, none⟩ = some v ∧
      Calls Try.prog 15 #[.pointer (some ⟨q, 0, none⟩), .slice aL lM cL] w1 fun e w2 => e = .returned (.int .i64 ((ts.length : Int) + 1)) ∧ ∃ us F' G' ls', Two w.heap.size w2 p q us F' G' ls' ∧ (∀ t, t ∈ us → t ∈ ts ∨ t.n = 0) ∧ Turned [] w w2 := by
  obtain ⟨G2, htwo, hty⟩ := h.tight
  have hB : w.heap.size ≤ W.heap.size := ht.size
  have hbox := htwo.box (.cells #[.slice aL lM cL, .int .i64 0] 37) hB
  have tb : Turned [] W (W.alloc (.cells #[.slice aL lM cL, .int .i64 0] 37)) := (Turned.refl [] W).alloc _
  have hrow : ∀ k, k ∈ rowA aL l → k < w.heap.size := by
    intro k hk
    unfold rowA at hk
    split at hk
    · simp at hk
    · rename_i hne
      obtain ⟨y, hy⟩ : ∃ y, l[0]? = some y := ⟨_, List.getElem?_eq_getElem (List.length_pos_iff.2 hne)⟩
      obtain ⟨g, off, e, _, hc⟩ := hr.2 0 y hy
      rw [e] at hk
      simp at hk
      subst hk
      exact block_lt hc
  have hD : ToldD w.heap.size W.heap.size aL lM cL l (W.alloc (.cells #[.slice aL lM cL, .int .i64 0] 37)) 0 := by
    refine ⟨heap_alloc_new _ _, ⟨hr.1, fun i y hy => ?_⟩, fun k hk => .inl (hrow k hk)⟩
    obtain ⟨g, off, e, _, hc⟩ := hr.2 i y hy
    have hg : g < w.heap.size := block_lt hc
    refine ⟨g, off, e, by simp; omega, ?_⟩
    rw [(ht.trans tb).cell (p := ⟨g, off + i, none⟩) hg (by simp)]
    exact hc
  refine (add_tur w.heap.size (W.alloc (.cells #[.slice aL lM cL, .int .i64 0] 37)) p (W.heap.size :: F) ts (.func 14) #[.pointer (some ⟨W.heap.size, 0, none⟩)] #[] [W.heap.size] (W.heap.size :: rowA aL l) (ToldD w.heap.size W.heap.size aL lM cL l) (fun n => tellOf l n.toNat) hlen hbox.tu (fun b => good_told w.heap.size W.heap.size aL lM cL l (by omega) b 0 0) hD ?_ ?_ ?_).mono ?_
  · intro k hk
    simp at hk
    rcases hk with rfl | hk
    · exact .inl (by simp)
    · exact .inr (hrow k hk)
  · intro k hk
    simp at hk
    subst hk
    simp
  · intro t htm
    refine ⟨fun k hk hm => ?_, fun k hk hm => ?_⟩
    · have h1 := htwo.lowF k (htwo.tu.sF t htm k hk)
      simp at hm
      rcases hm with rfl | hm
      · omega
      · have := hrow k hm; omega
    · simp at hk
      subst hk
      have := (htwo.tu.awA htm hm).1
      omega
  · rintro e w1 ⟨rfl, F', hu, hsub, hF, hT, haw⟩
    have hw1 : Turned [] w w1 := (ht.trans tb).trans_new hT (fun k hk => .inr (hbox.lowF k hk).1)
    refine ⟨rfl, ?_, ?_⟩
    · have hlt : x < W.heap.size := block_lt hx
      have h1 := tb.cell (p := ⟨x, 2, none⟩) hlt (by simp)
      have h2 := hT.cell (p := ⟨x, 2, none⟩) (by simp; omega) (by simp; exact ⟨by omega, hxF⟩)
      rw [h2, h1]
      exact hx
    · refine (radd_ok w.heap.size w1 q G2 ts ls ⟨(W.alloc (.cells #[.slice aL lM cL, .int .i64 0] 37)).heap.size, .func (.func 14) #[.pointer (some ⟨W.heap.size, 0, none⟩)] #[], [W.heap.size], W.heap.size :: rowA aL l, ToldD w.heap.size W.heap.size aL lM cL l, fun n => tellOf l n.toNat, 0, 0⟩ ⟨aL, lM, cL, l⟩ ⟨rfl, rfl, rfl⟩ ⟨hr.1, by show lM ≤ 65536; omega, fun i y hy => ?_⟩ hlen (hbox.rfF hT)).mono ?_
      · obtain ⟨g, off, e, _, hc⟩ := hr.2 i y hy
        refine ⟨g, off, e, block_lt hc, ?_⟩
        rw [hw1.cell (p := ⟨g, off + i, none⟩) (block_lt hc) (by simp)]
        exact hc
      · rintro e w2 ⟨rfl, G', hr2, _, hG, hT2⟩
        have hty1 : ∀ k, k ∈ G2 → ∃ c e, (W.alloc (.cells #[.slice aL lM cL, .int .i64 0] 37)).heap[k]? = some (.cells c e (0, 0)) ∧ (e = 30 ∨ e = 28 ∨ e = 3) := fun k hk => by
          obtain ⟨c, e, h1, h2⟩ := hty k hk
          exact ⟨c, e, by rw [tb.block k (lt_of_heap h1) (by simp)]; exact h1, h2⟩
        refine ⟨rfl, _, F', G', _, hbox.added hty1 hu hF hT hr2 hG hT2, fun t htm => ?_, hw1.trans_new hT2 (fun k hk => .inr (htwo.lowG k hk).1)⟩
        rcases List.mem_append.1 htm with htm | htm
        · exact .inl htm
        · simp at htm
          subst htm
          exact .inr rfl

/-- What the last loop of a round reads of the document's object. -/
theorem Rf.cells (h : Rf B W q G ts ls) : ∃ as_ cs an cn, W.cell? ⟨q, 1, none⟩ = some (.slice as_ ts.length cs) ∧ W.cell? ⟨q, 2, none⟩ = some (.slice an ts.length cn) ∧ ∀ (i : Nat) t, ts[i]? = some t → (∃ g, as_ = some ⟨g, 0, none⟩ ∧ W.cell? ⟨g, i, none⟩ = some (.int .i64 t.st)) ∧ ∃ g, an = some ⟨g, 0, none⟩ ∧ W.cell? ⟨g, i, none⟩ = some (.int .i64 t.n) := by
  obtain ⟨vt, vs, vn, h1, h2, h3, h4, h5, h6⟩ := h.head
  obtain ⟨_, as_, cs, rfl, ha⟩ := ownsRow_any h3
  obtain ⟨_, an, cn, rfl, hb⟩ := ownsRow_any h4
  refine ⟨as_, cs, an, cn, by rw [cell_of_heap h1]; rfl, by rw [cell_of_heap h1]; rfl, fun i t ht => ⟨?_, ?_⟩⟩
  · obtain ⟨g, e, _, _, hc, _⟩ := ha i _ (by rw [List.getElem?_map, ht]; rfl)
    exact ⟨g, e, hc⟩
  · obtain ⟨g, e, _, _, hc, _⟩ := hb i _ (by rw [List.getElem?_map, ht]; rfl)
    exact ⟨g, e, hc⟩
end

/-- Is one of these 1? -/
def some1 (l : List Int) : Bool := !decide (thatOf 1 l 0 = [])
theorem some1_snoc (l : List Int) (x : Int) : some1 (l ++ [x]) = (some1 l || decide (x = 1)) := by
  unfold some1
  rw [thatOf_snoc]
  by_cases h : x = 1
  · simp [h]
  · simp [h]
end Go.Proofs.Ytopoklciglgkbaa
