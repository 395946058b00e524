/-
  Calls kept in a row of the call's own; what blocks were kept ('Ks'). No Go is walked here.
-/
import Derived.Test.YtaofkddondaceaaDoorBitsTot
import Derived.Test.YtaofkddondaceaaDoorOpsOpen
namespace Go.Proofs.YtaofkddondaceaaDoor
open Go.RowKit
set_option linter.unusedVariables false

theorem Tryd.infoOp : (Tryd.prog.info? 33).map (fun i => (i.zero, i.size, i.bytes)) = some (some (.agg #[.int .i64 0, .int .i64 0, .int .i64 0]), 3, 24) := by kernel_rfl
theorem info_parts {i0 : Option TypeInfo} {z : Option Value} {s b : Nat} (h : i0.map (fun i => (i.zero, i.size, i.bytes)) = some (z, s, b)) : ∃ i, i0 = some i ∧ i.zero = z ∧ i.size = s ∧ i.bytes = b := by
  obtain ⟨i, h1, h2⟩ := Option.map_eq_some_iff.1 h
  simp only [Prod.mk.injEq] at h2
  exact ⟨i, h1, h2.1, h2.2.1, h2.2.2⟩
def Op3.cells (o : Op3) : List Value := [.int .i64 o.k, .int .i64 o.a, .int .i64 o.z]
def flat3 (ks : List Op3) : List Value := ks.flatMap Op3.cells
theorem flat3_snoc (ks : List Op3) (o : Op3) : flat3 (ks ++ [o]) = flat3 ks ++ o.cells := by simp [flat3]
theorem flat3_length (ks : List Op3) : (flat3 ks).length = ks.length * 3 := by
  induction ks with
  | nil => rfl
  | cons o ks ih =>
    show (o.cells ++ flat3 ks).length = _
    rw [List.length_append, ih, List.length_cons]
    simp [Op3.cells]
    omega
theorem flat3_at (ks : List Op3) (i : Nat) (o : Op3) (h : ks[i]? = some o) : (flat3 ks)[i * 3 + 1]? = some (.int .i64 o.a) ∧ (flat3 ks)[i * 3 + 2]? = some (.int .i64 o.z) := by
  induction ks generalizing i with
  | nil => simp at h
  | cons o' ks ih =>
    show (o'.cells ++ flat3 ks)[i * 3 + 1]? = _ ∧ (o'.cells ++ flat3 ks)[i * 3 + 2]? = _
    cases i with
    | zero =>
      simp at h
      subst h
      exact ⟨rfl, rfl⟩
    | succ i =>
      have h1 : ks[i]? = some o := by simpa using h
      have hl : o'.cells.length = 3 := rfl
      rw [List.getElem?_append_right (by rw [hl]; omega), List.getElem?_append_right (by rw [hl]; omega), hl, show (i + 1) * 3 + 1 - 3 = i * 3 + 1 by omega, show (i + 1) * 3 + 2 - 3 = i * 3 + 2 by omega]
      exact ih i h1
theorem cells_new (w : World) (c : Array Value) (t : TypeId) (g : Nat) (hg : g = w.heap.size) : ∀ j u, c.toList[j]? = some u → (w.alloc (.cells c t)).cell? ((⟨g, 0, none⟩ : Addr).add j) = some u := by
  intro j u hj
  subst hg
  rw [show Addr.add ⟨w.heap.size, 0, none⟩ j = ⟨w.heap.size, j, none⟩ by simp [Addr.add]; intro e; omega, cell_of_heap (heap_alloc_new _ _)]
  simpa using hj
theorem Op3.cells_one (o : Op3) : ∀ u ∈ o.cells, u.oneCell' = true := by
  intro u hu
  simp [Op3.cells] at hu
  rcases hu with rfl | rfl | rfl <;> rfl

/-- The kept calls' row. -/
def KRow (w : World) (B : Nat) (v : Value) (ks : List Op3) : Prop := w.ownsRow B 33 3 v ks.length (flat3 ks)
theorem KRow.keep {w w' : World} {B : Nat} {v : Value} {ks : List Op3} {T : List Nat} (h : KRow w B v ks) (t : Turned T w w') (hT : ∀ k, v.ownBlock = some k → k ∉ T) : KRow w' B v ks :=
  ownsRow_keep h (fun k hk => t.block k (ownsRow_lt h k hk).2.1 (hT k hk))
theorem KRow.at {w : World} {B : Nat} {v : Value} {ks : List Op3} (h : KRow w B v ks) : ∃ ao cap, v = .slice ao ks.length cap ∧ ∀ i o, ks[i]? = some o → ∃ g, ao = some ⟨g, 0, none⟩ ∧ B ≤ g ∧ g < w.heap.size ∧ v.ownBlock = some g ∧ w.cell? ⟨g, i * 3 + 1, none⟩ = some (.int .i64 o.a) ∧ w.cell? ⟨g, i * 3 + 2, none⟩ = some (.int .i64 o.z) := by
  rcases h.2 with ⟨hv, h0⟩ | ⟨g, cap, cur, hv, hg, hh, hc, _, _, ht⟩
  · have hnil : ks = [] := List.eq_nil_of_length_eq_zero h0
    subst hnil
    exact ⟨none, 0, hv, fun i o ho => by simp at ho⟩
  · refine ⟨_, cap, hv, fun i o ho => ⟨g, rfl, hg, lt_of_heap hh, by rw [hv]; rfl, ?_, ?_⟩⟩
    · rw [cell_of_heap hh]
      have h1 := (flat3_at ks i o ho).1
      rw [← ht, List.getElem?_take] at h1
      split at h1
      · simpa using h1
      · cases h1
    · rw [cell_of_heap hh]
      have h1 := (flat3_at ks i o ho).2
      rw [← ht, List.getElem?_take] at h1
      split at h1
      · simpa using h1
      · cases h1

/-- The kept calls are the marked blocks, each once. -/
structure Ks (n : Nat) (S : Nat → Nat) (ks : List Op3) : Prop where
  bl : Bl n S
  mem : ∀ o, o ∈ ks → 0 ≤ o.a ∧ o.a < n ∧ 1 ≤ o.z ∧ (S o.a.toNat : Int) = o.z
  all : ∀ k : Nat, 0 < S k → ∃ o, o ∈ ks ∧ o.a = k
  once : ∀ (i j : Nat) (o o' : Op3), ks[i]? = some o → ks[j]? = some o' → o.a = o'.a → i = j
theorem Ks.none (n : Nat) : Ks n S0 [] := ⟨Bl.none n, fun o h => (by cases h), fun k h => absurd h (by unfold S0; omega), fun i j o o' h => (by simp at h)⟩
theorem Ks.more {n : Nat} {S : Nat → Nat} {ks : List Op3} (h : Ks n S ks) {o : Op3} (h1 : 0 ≤ o.a) (h2 : o.a < n) (h3 : 1 ≤ o.z) (h4 : o.z ≤ n - o.a) (h0 : S o.a.toNat = 0) (hf : Free S o.a.toNat o.z.toNat) : Ks n (upd S o.a.toNat o.z.toNat) (ks ++ [o]) := by
  have hne : ∀ o', o' ∈ ks → o'.a ≠ o.a := by
    intro o' ho' e
    have h5 := h.mem o' ho'
    rw [e, h0] at h5
    omega
  refine ⟨h.bl.mark (by omega) (by omega) hf, fun o' ho' => ?_, fun k hk => ?_, fun i j o1 o2 e1 e2 e3 => ?_⟩
  · rcases List.mem_append.1 ho' with h5 | h5
    · have h6 := h.mem o' h5
      have h7 := hne o' h5
      rw [upd_ne S (by omega)]
      exact h6
    · simp at h5
      subst h5
      rw [upd_at]
      omega
  · by_cases hko : k = o.a.toNat
    · exact ⟨o, by simp, by omega⟩
    · rw [upd_ne S hko] at hk
      obtain ⟨o', h5, h6⟩ := h.all k hk
      exact ⟨o', by simp [h5], h6⟩
  · by_cases hi : i < ks.length
    · rw [List.getElem?_append_left hi] at e1
      by_cases hj : j < ks.length
      · rw [List.getElem?_append_left hj] at e2
        exact h.once i j o1 o2 e1 e2 e3
      · rw [List.getElem?_append_right (by omega)] at e2
        have h6 : o2 = o := by
          have h7 := List.mem_of_getElem? e2
          simpa using h7
        subst h6
        exact absurd e3 (hne o1 (List.mem_of_getElem? e1))
    · rw [List.getElem?_append_right (by omega)] at e1
      have h6 : o1 = o := by
        have h7 := List.mem_of_getElem? e1
        simpa using h7
      subst h6
      by_cases hj : j < ks.length
      · rw [List.getElem?_append_left hj] at e2
        exact absurd e3.symm (hne o2 (List.mem_of_getElem? e2))
      · have h8 := (List.getElem?_eq_some_iff.1 e1).1
        rw [List.getElem?_append_right (by omega)] at e2
        have h9 := (List.getElem?_eq_some_iff.1 e2).1
        simp at h8 h9
        omega
end Go.Proofs.YtaofkddondaceaaDoor
