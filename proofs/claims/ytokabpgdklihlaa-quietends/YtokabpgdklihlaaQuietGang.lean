/-
  The crew of the law QuietEnds as a whole ('Gang'), a step of a worker as a pure function ('stepG'). No Go is walked here.
-/
import Derived.Test.YtokabpgdklihlaaQuietStill
namespace Go.Proofs.Ytokabpgdklihlaa
open Go.RowKit

/-- The crew, without memory: the cells, the workers, the items worked off. -/
structure GS where
  l : List Int
  X : Nat → WkS
  dn : Int

def updX (X : Nat → WkS) (k : Nat) (x : WkS) : Nat → WkS := fun i => if i = k then x else X i

/-- A step of worker k of n. -/
def stepG (Q : QC) (n : Nat) (S : GS) (k : Nat) : GS :=
  if (S.X k).ended then S else
  match (S.X k).act with
  | .none => { S with X := updX S.X k (nextS n k (S.X k) 0) }
  | .offer o =>
    { S with
      l := (stepQ Q S.l o).1
      X := updX S.X k
        (if (stepQ Q S.l o).2.state = 2 then { S.X k with act := .offer (stepQ Q S.l o).2, ended := true }
         else if (stepQ Q S.l o).2.state = 1 then nextS n k { S.X k with act := .offer (stepQ Q S.l o).2 } 0
         else { S.X k with act := .offer (stepQ Q S.l o).2 }) }
  | .op j o =>
    if (stepOf (cOf Q j) S.l o).2.done then
      { l := (stepOf (cOf Q j) S.l o).1
        X := updX S.X k (overS n k { S.X k with act := .op j (stepOf (cOf Q j) S.l o).2 } (valOf (stepOf (cOf Q j) S.l o).2).1 (valOf (stepOf (cOf Q j) S.l o).2).2).1
        dn := S.dn + (overS n k { S.X k with act := .op j (stepOf (cOf Q j) S.l o).2 } (valOf (stepOf (cOf Q j) S.l o).2).1 (valOf (stepOf (cOf Q j) S.l o).2).2).2.1 }
    else { S with l := (stepOf (cOf Q j) S.l o).1, X := updX S.X k { S.X k with act := .op j (stepOf (cOf Q j) S.l o).2 } }

/-- What an operation that is done may tell. -/
def OverOk (x : WkS) (v e : Int) : Prop :=
  (x.kind = 0 ∧ e = 0 ∧ x.hands ≠ []) ∨ (1 ≤ x.kind ∧ x.kind ≤ 50 ∧ x.hands = [] ∧ e = 0 ∧ -1000 ≤ v ∧ v ≤ 1000) ∨ (1 ≤ x.kind ∧ x.kind ≤ 50 ∧ (e = 16 ∨ e = 15))

/-- Nobody has anything. -/
def Still (Q : QC) (n : Nat) (l : List Int) (X : Nat → WkS) : Prop :=
  ∀ i, i < n → (X i).hands = [] ∧ itemsOf (cOf Q i) l = [] ∧ (-1000000 ≤ rd (cOf Q i) l 0 ∧ rd (cOf Q i) l 0 ≤ 1000000) ∧ -1000000 ≤ rd (cOf Q i) l 1 ∧ rd (cOf Q i) l 1 ≤ 1000000

/-- Worker k may step, and all is well then. -/
def MayG (Q : QC) (n : Nat) (S : GS) (k : Nat) : Prop :=
  (S.X k).ended = false → match (S.X k).act with
  | .none => True
  | .offer o => (-1000000 ≤ cnt Q S.l ∧ cnt Q S.l ≤ 1000000) ∧ QOk Q o ∧ ((stepQ Q S.l o).2.state = 2 → Still Q n (stepQ Q S.l o).1 S.X)
  | .op j o => Fit (cOf Q j) S.l o 1000000 ∧ ((stepOf (cOf Q j) S.l o).2.done = true → OverOk (S.X k) (valOf (stepOf (cOf Q j) S.l o).2).1 (valOf (stepOf (cOf Q j) S.l o).2).2 ∧ 0 ≤ S.dn ∧ S.dn ≤ 100000)

/-- The crew in the model's heap: Bs what is each worker's own. -/
structure GangB (w0 w : World) (C gw gd a p q : Nat) (ws ds : List Nat) (Q : QC) (S : GS) (Bs : Nat → List Nat) : Prop where
  tu : Turned [] w0 w
  cw : Cw w C gw gd a ws ds S.dn
  sh : Sx w a p q ds Q S.l
  wk : ∀ (i b : Nat), ws[i]? = some b → Wk w b a ds (S.X i) (Bs i)
  nd : ∀ (i j b : Nat), ws[i]? = some b → ws[j]? = some b → i = j
  ap : ∀ (i j y : Nat), i < ws.length → j < ws.length → y ∈ Bs i → y ∈ Bs j → i = j
  nq : ∀ i, i < ws.length → q ∉ Bs i
  lo : w0.heap.size ≤ C ∧ w0.heap.size ≤ p ∧ w0.heap.size ≤ q ∧ (∀ b, b ∈ ws → w0.heap.size ≤ b) ∧ ∀ i y, i < ws.length → y ∈ Bs i → w0.heap.size ≤ y
def Gang (w0 w : World) (C gw gd a p q : Nat) (ws ds : List Nat) (Q : QC) (S : GS) : Prop := ∃ Bs, GangB w0 w C gw gd a p q ws ds Q S Bs

section
variable {w0 w w' : World} {C gw gd a p q k b : Nat} {ws ds : List Nat} {Q : QC} {S : GS} {Bs : Nat → List Nat}
theorem Wk.lt {x : WkS} {B : List Nat} (h : Wk w b a ds x B) : ∀ y, y ∈ B → y < w.heap.size := by
  intro y hy
  obtain ⟨c, e, fr, h1, _⟩ := h.types y hy
  exact lt_of_heap h1

/-- Behind a step of worker k, whatever it was. -/
theorem GangB.upd (h : GangB w0 w C gw gd a p q ws ds Q S Bs) (hk : ws[k]? = some b) {T : List Nat} (hT : ∀ y, y ∈ T → y = p ∨ y = q ∨ y = C ∨ y = b ∨ y ∈ Bs k) (t : Turned T w w') {l' : List Int} {x' : WkS} {dn' : Int} {B' : List Nat} (hC' : Cw w' C gw gd a ws ds dn') (hs' : Sx w' a p q ds Q l') (hx' : Wk w' b a ds x' B') (hB' : ∀ y, y ∈ B' → y ∈ Bs k ∨ w.heap.size ≤ y) : Gang w0 w' C gw gd a p q ws ds Q ⟨l', updX S.X k x', dn'⟩ := by
  have hkl : k < ws.length := (List.getElem?_eq_some_iff.1 hk).1
  obtain ⟨s, hsh⟩ := h.sh
  obtain ⟨cC, hcC⟩ := h.cw.type
  have hxk := h.wk k b hk
  obtain ⟨cb, hcb⟩ := hxk.raw
  have hlq : q < w.heap.size := lt_of_heap hsh.mem.row
  -- the types of what was turned
  have hTy : ∀ y, y ∈ T → ∃ c e fr, w.heap[y]? = some (.cells c e fr) ∧ (e = 62 ∨ e = 2 ∨ e = 35 ∨ e = 44 ∨ e = 84 ∨ e = 75) := by
    intro y hy
    rcases hT y hy with rfl | rfl | rfl | rfl | hy2
    · exact ⟨_, _, _, hsh.mem.head, .inl rfl⟩
    · exact ⟨_, _, _, hsh.mem.row, .inr (.inl rfl)⟩
    · exact ⟨_, _, _, hcC, .inr (.inr (.inl rfl))⟩
    · exact ⟨_, _, _, hcb, .inr (.inr (.inr (.inl rfl)))⟩
    · obtain ⟨c, e, fr, h1, h2⟩ := hxk.types y hy2
      refine ⟨c, e, fr, h1, ?_⟩
      rcases h2 with h2 | h2 | h2 <;> simp [h2]
  have hNo : ∀ y, y ∈ T → NoRow w y := by
    intro y hy
    obtain ⟨c, e, fr, h1, h2⟩ := hTy y hy
    refine noRow h1 ?_
    rcases h2 with rfl | rfl | rfl | rfl | rfl | rfl <;> decide
  have hOther : ∀ (i c : Nat), ws[i]? = some c → i ≠ k → Wk w' c a ds (S.X i) (Bs i) := by
    intro i c hc hik
    have hil : i < ws.length := (List.getElem?_eq_some_iff.1 hc).1
    have hxi := h.wk i c hc
    obtain ⟨cc, hcc⟩ := hxi.raw
    refine hxi.turned t (fun hm => ?_) (fun y hy hm => ?_) hNo
    · rcases hT c hm with h1 | h1 | h1 | h1 | h1
      · exact ne_of_type hcc hsh.mem.head (by decide) h1
      · exact ne_of_type hcc hsh.mem.row (by decide) h1
      · exact ne_of_type hcc hcC (by decide) h1
      · exact hik (h.nd i k c hc (by rw [h1]; exact hk))
      · obtain ⟨c5, e5, f5, h7, h8⟩ := hxk.types c h1
        refine ne_of_type h7 hcc ?_ rfl
        rcases h8 with rfl | rfl | rfl <;> decide
    · obtain ⟨c5, e5, f5, h7, h8⟩ := hxi.types y hy
      rcases hT y hm with h1 | h1 | h1 | h1 | h1
      · refine ne_of_type h7 hsh.mem.head ?_ h1
        rcases h8 with rfl | rfl | rfl <;> decide
      · exact h.nq i hil (h1 ▸ hy)
      · refine ne_of_type h7 hcC ?_ h1
        rcases h8 with rfl | rfl | rfl <;> decide
      · refine ne_of_type h7 hcb ?_ h1
        rcases h8 with rfl | rfl | rfl <;> decide
      · exact hik (h.ap i k y hil hkl hy h1)
  obtain ⟨l1, l2, l3, l4, l5⟩ := h.lo
  have hsz := h.tu.size
  refine ⟨fun i => if i = k then B' else Bs i, h.tu.trans_new t (fun y hy => .inr ?_), hC', hs', fun i c hc => ?_, h.nd, fun i j y hi hj hyi hyj => ?_, fun i hi hm => ?_, l1, l2, l3, l4, fun i y hi hy => ?_⟩
  · rcases hT y hy with rfl | rfl | rfl | rfl | h1
    · exact l2
    · exact l3
    · exact l1
    · exact l4 _ (List.mem_of_getElem? hk)
    · exact l5 k y hkl h1
  · by_cases hik : i = k
    · subst hik
      have : c = b := by rw [hk] at hc; exact (Option.some.inj hc).symm
      subst this
      simpa [updX] using hx'
    · simpa [updX, hik] using hOther i c hc hik
  · have hltB : ∀ i y, i < ws.length → y ∈ Bs i → y < w.heap.size := fun i y hi hy => (h.wk i ws[i] (by simp)).lt y hy
    by_cases hik : i = k <;> by_cases hjk : j = k
    · omega
    · simp only [hik, hjk, if_true, if_false] at hyi hyj
      rcases hB' y hyi with h1 | h1
      · exact absurd (h.ap j k y hj hkl hyj h1) hjk
      · have := hltB j y hj hyj
        omega
    · simp only [hik, hjk, if_true, if_false] at hyi hyj
      rcases hB' y hyj with h1 | h1
      · exact absurd (h.ap i k y hi hkl hyi h1) hik
      · have := hltB i y hi hyi
        omega
    · simp only [hik, hjk, if_false] at hyi hyj
      exact h.ap i j y hi hj hyi hyj
  · by_cases hik : i = k
    · simp only [hik, if_true] at hm
      rcases hB' q hm with h1 | h1
      · exact h.nq k hkl h1
      · omega
    · simp only [hik, if_false] at hm
      exact h.nq i hi hm
  · by_cases hik : i = k
    · simp only [hik, if_true] at hy
      rcases hB' y hy with h1 | h1
      · exact l5 k y hkl h1
      · omega
    · simp only [hik, if_false] at hy
      exact l5 i y hi hy
end
end Go.Proofs.Ytokabpgdklihlaa
