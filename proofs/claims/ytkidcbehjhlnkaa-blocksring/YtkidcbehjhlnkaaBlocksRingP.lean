/-
  Objects that refer to one another in a ring, without memory. No Go is walked here.
-/
import Derived.Test.YtkidcbehjhlnkaaBlocksLaid
namespace Go.Proofs.Ytkidcbehjhlnkaa
set_option linter.unusedVariables false

/-- Where the object behind the i-th one of k stands. -/
def ringNext (k i : Nat) : Int := 1 + 4 * (((i + 1) % k : Nat) : Int)
/-- The words of the first j objects of a ring of k. -/
structure RingTo (L : List Int) (k j : Nat) : Prop where
  len : L.length = 400
  inn : AllIn L
  word : ∀ i : Nat, i < j → wordAt L (1 + 4 * (i : Int)) = some (headOf 1 0) ∧ wordAt L (2 + 4 * (i : Int)) = some (ringNext k i) ∧ wordAt L (3 + 4 * (i : Int)) = some 0 ∧ wordAt L (4 + 4 * (i : Int)) = some 0

theorem size_one : sizeOf threeCs 1 0 = (4, 0) := by decide
theorem lay_one (L : List Int) (t : Int) (h : 0 ≤ t ∧ t + 4 ≤ L.length) : layL L threeCs t 1 0 = putL L t (laid 1 0 4) ∧ layS L threeCs t 1 0 = 4 ∧ layE L threeCs t 1 0 = 0 := by
  refine ⟨?_, ?_, ?_⟩
  · unfold layL
    rw [size_one, if_pos rfl]
    rfl
  · unfold layS
    rw [size_one, if_pos ⟨rfl, h⟩]
  · unfold layE putE
    rw [size_one, if_pos rfl, if_pos (by rw [laid_length _ _ _ (by decide)]; exact ⟨h.1, by simpa using h.2⟩)]
theorem laid4 : laid 1 0 4 = [headOf 1 0, 0, 0, 0] := rfl

theorem ring_zero (k : Nat) : RingTo (List.replicate 400 0) k 0 := ⟨List.length_replicate, allIn_zeros _, fun i hi => by omega⟩
theorem ringNext_in {k i : Nat} (hk : 0 < k ∧ k ≤ 40) : In64 (ringNext k i) := by
  have := Nat.mod_lt (i + 1) hk.1
  unfold In64 ringNext
  omega
theorem RingTo.next {L : List Int} {k j : Nat} (h : RingTo L k j) (hk : 0 < k ∧ k ≤ 40) (hj : j < k) :
    RingTo (putL (layL L threeCs (1 + 4 * (j : Int)) 1 0) (2 + 4 * (j : Int)) [ringNext k j]) k (j + 1) := by
  have hl := h.len
  rw [(lay_one L (1 + 4 * (j : Int)) (by omega)).1, laid4]
  have h1 : (putL L (1 + 4 * (j : Int)) [headOf 1 0, 0, 0, 0]).length = 400 := by rw [putL_length, hl]
  have w1 := fun x => put_word (l := L) (m := [headOf 1 0, 0, 0, 0]) (t := 1 + 4 * (j : Int)) (by simp; omega) x
  have w2 := fun x => put_word (l := putL L (1 + 4 * (j : Int)) [headOf 1 0, 0, 0, 0]) (m := [ringNext k j]) (t := 2 + 4 * (j : Int)) (by rw [h1]; simp; omega) x
  refine ⟨by rw [putL_length, h1], ?_, fun i hi => ?_⟩
  · refine AllIn.put ?_ (fun x hx => by simp at hx; subst hx; exact ringNext_in hk) _
    rw [← laid4]
    exact h.inn.put (allIn_laid _ _ _) _
  · simp only [List.length_cons, List.length_nil] at w1 w2
    by_cases hij : i < j
    · obtain ⟨a, b, c, d⟩ := h.word i hij
      refine ⟨?_, ?_, ?_, ?_⟩
      · rw [w2, if_neg (by omega), w1, if_neg (by omega)]; exact a
      · rw [w2, if_neg (by omega), w1, if_neg (by omega)]; exact b
      · rw [w2, if_neg (by omega), w1, if_neg (by omega)]; exact c
      · rw [w2, if_neg (by omega), w1, if_neg (by omega)]; exact d
    · have : i = j := by omega
      subst this
      refine ⟨?_, ?_, ?_, ?_⟩
      · rw [w2, if_neg (by omega), w1, if_pos (by omega), show (1 + 4 * (i : Int) - (1 + 4 * (i : Int))).toNat = 0 by omega]; rfl
      · rw [w2, if_pos (by omega), show (2 + 4 * (i : Int) - (2 + 4 * (i : Int))).toNat = 0 by omega]; rfl
      · rw [w2, if_neg (by omega), w1, if_pos (by omega), show (3 + 4 * (i : Int) - (1 + 4 * (i : Int))).toNat = 2 by omega]; rfl
      · rw [w2, if_neg (by omega), w1, if_pos (by omega), show (4 + 4 * (i : Int) - (1 + 4 * (i : Int))).toNat = 3 by omega]; rfl

/-- The whole heap: the ring, one object more, a filler. -/
def ringEnd (L : List Int) (k : Nat) : List Int := fillL (layL L threeCs (1 + 4 * (k : Int)) 1 0) (5 + 4 * (k : Int)) 400
def ringBlk (i : Nat) : Blk := ⟨1 + 4 * (i : Int), 1, 0, 4⟩
def ringFill (k : Nat) : Blk := ⟨5 + 4 * (k : Int), 0, 394 - 4 * (k : Int), 395 - 4 * (k : Int)⟩
def ringBs (k : Nat) : List Blk := (List.range (k + 1)).map ringBlk ++ [ringFill k]

structure Ring (L : List Int) (k : Nat) : Prop where
  len : L.length = 400
  inn : AllIn L
  word : ∀ i : Nat, i < k → wordAt L (2 + 4 * (i : Int)) = some (ringNext k i) ∧ wordAt L (3 + 4 * (i : Int)) = some 0
  read : ∀ i : Nat, i ≤ k → readOf L threeCs (1 + 4 * (i : Int)) = some (ringBlk i)
  fill : readOf L threeCs (5 + 4 * (k : Int)) = some (ringFill k)

theorem head10 : partC (headOf 1 0) = 1 ∧ partL (headOf 1 0) = 0 ∧ isHead (headOf 1 0) = true := by decide
theorem read_head {L : List Int} {t : Int} (hl : L.length = 400) (ht : t + 4 ≤ 400) (hw : wordAt L t = some (headOf 1 0)) : readOf L threeCs t = some ⟨t, 1, 0, 4⟩ := by
  unfold readOf
  simp only [hw, head10.1, head10.2.1, head10.2.2, size_one, hl]
  rw [if_pos ⟨trivial, trivial, by omega⟩]

theorem RingTo.ring {L : List Int} {k : Nat} (h : RingTo L k k) (hk : 0 < k ∧ k ≤ 40) : Ring (ringEnd L k) k := by
  have hl := h.len
  unfold ringEnd
  rw [(lay_one L (1 + 4 * (k : Int)) (by omega)).1, laid4]
  have h1 : (putL L (1 + 4 * (k : Int)) [headOf 1 0, 0, 0, 0]).length = 400 := by rw [putL_length, hl]
  have w1 := fun x => put_word (l := L) (m := [headOf 1 0, 0, 0, 0]) (t := 1 + 4 * (k : Int)) (by simp; omega) x
  simp only [List.length_cons, List.length_nil] at w1
  have w2 := fun x (hx : x < 5 + 4 * (k : Int)) => fill_word (l := putL L (1 + 4 * (k : Int)) [headOf 1 0, 0, 0, 0]) (f := 5 + 4 * (k : Int)) (g := 400) x (.inr (.inl hx))
  have hlen : (fillL (putL L (1 + 4 * (k : Int)) [headOf 1 0, 0, 0, 0]) (5 + 4 * (k : Int)) 400).length = 400 := by rw [fillL_length, h1]
  refine ⟨hlen, ?_, fun i hi => ?_, fun i hi => ?_, ?_⟩
  · refine AllIn.fill ?_ _ _
    rw [← laid4]
    exact h.inn.put (allIn_laid _ _ _) _
  · obtain ⟨a, b, c, d⟩ := h.word i hi
    refine ⟨?_, ?_⟩
    · rw [w2 _ (by omega), w1, if_neg (by omega)]; exact b
    · rw [w2 _ (by omega), w1, if_neg (by omega)]; exact c
  · refine read_head hlen (by omega) ?_
    by_cases hik : i < k
    · rw [w2 _ (by omega), w1, if_neg (by omega)]; exact (h.word i hik).1
    · have : i = k := by omega
      subst this
      rw [w2 _ (by omega), w1, if_pos (by omega), show (1 + 4 * (i : Int) - (1 + 4 * (i : Int))).toNat = 0 by omega]
      rfl
  · have h5 := read_fill (l := putL L (1 + 4 * (k : Int)) [headOf 1 0, 0, 0, 0]) (cs := threeCs) (f := 5 + 4 * (k : Int)) (g := 400) (by omega) (by omega)
    rw [h5]
    unfold ringFill
    rw [show (400 : Int) - (5 + 4 * (k : Int)) - 1 = 394 - 4 * (k : Int) by omega, show (400 : Int) - (5 + 4 * (k : Int)) = 395 - 4 * (k : Int) by omega]

theorem Ring.walk_from {L : List Int} {k : Nat} (h : Ring L k) (hk : 0 < k ∧ k ≤ 40) : ∀ d i : Nat, i + d = k + 1 → walkOf L threeCs 400 (1 + 4 * (i : Int)) = some ((List.range' i d).map ringBlk ++ [ringFill k])
  | 0, i, hi => by
    have e : (1 + 4 * (i : Int)) = 5 + 4 * (k : Int) := by omega
    rw [e, walk_one h.fill (by unfold ringFill; simp only; omega)]
    rfl
  | d + 1, i, hi => by
    have hr := h.read i (by omega)
    rw [walkOf_step (by omega) hr (by unfold ringBlk; simp only; omega)]
    have e : (1 + 4 * (i : Int)) + (ringBlk i).s = 1 + 4 * ((i + 1 : Nat) : Int) := by unfold ringBlk; simp only; omega
    rw [e, Ring.walk_from h hk d (i + 1) (by omega), List.range'_succ]
    rfl
theorem Ring.walk {L : List Int} {k : Nat} (h : Ring L k) (hk : 0 < k ∧ k ≤ 40) : walkOf L threeCs 400 1 = some (ringBs k) := by
  have h1 := h.walk_from hk (k + 1) 0 (by omega)
  unfold ringBs
  rw [List.range_eq_range']
  exact h1

theorem ring_mem {k : Nat} {b : Blk} (h : b ∈ ringBs k) : (∃ i, i ≤ k ∧ b = ringBlk i) ∨ b = ringFill k := by
  unfold ringBs at h
  rcases List.mem_append.1 h with h | h
  · obtain ⟨i, hi, rfl⟩ := List.mem_map.1 h
    exact .inl ⟨i, by simp at hi; omega, rfl⟩
  · exact .inr (by simpa using h)
theorem Ring.obj {L : List Int} {k : Nat} (h : Ring L k) (hk : 0 < k ∧ k ≤ 40) {i : Nat} (hi : i ≤ k) : objOf (ringBs k) (1 + 4 * (i : Int)) = some (ringBlk i) := by
  have hw := walkOf_facts (by omega) (h.walk hk)
  have h1 : ringBlk i ∈ ringBs k := by
    unfold ringBs
    exact List.mem_append_left _ (List.mem_map.2 ⟨i, by simp; omega, rfl⟩)
  exact objOf_mem _ _ hw.apart _ h1 (by unfold ringBlk; simp)
theorem refs_one : refsOf threeCs 1 0 = 2 := by decide
theorem Ring.refs {L : List Int} {k : Nat} (h : Ring L k) {i : Nat} (hi : i < k) : refWords L threeCs (ringBlk i) = [ringNext k i, 0] := by
  unfold refWords ringBlk
  simp only [refs_one]
  rw [show rowTo (2 : Int).toNat = [1, 2] from by decide]
  rw [List.filterMap_cons_some (f := fun j => wordAt L (1 + 4 * (i : Int) + j)) (show wordAt L (1 + 4 * (i : Int) + 1) = some (ringNext k i) by rw [show (1 + 4 * (i : Int) + 1) = 2 + 4 * (i : Int) by omega]; exact (h.word i hi).1)]
  rw [List.filterMap_cons_some (f := fun j => wordAt L (1 + 4 * (i : Int) + j)) (show wordAt L (1 + 4 * (i : Int) + 2) = some 0 by rw [show (1 + 4 * (i : Int) + 2) = 3 + 4 * (i : Int) by omega]; exact (h.word i hi).2)]
  rfl

/-- From each one all of the ring is reached, and nothing else. -/
theorem Ring.closed {L : List Int} {k : Nat} (h : Ring L k) (hk : 0 < k ∧ k ≤ 40) {r : Nat} (hr : r < k) {x : Int} (hx : Rch (objOf (ringBs k)) (refWords L threeCs) [1 + 4 * (r : Int)] x) : ∃ i : Nat, i < k ∧ x = 1 + 4 * (i : Int) := by
  refine rch_closed (fun x => ∃ i : Nat, i < k ∧ x = 1 + 4 * (i : Int)) (fun q hq _ => ⟨r, hr, by simpa using hq⟩) (fun x b hx hb y hy h0 => ?_) hx
  obtain ⟨i, hi, rfl⟩ := hx
  rw [h.obj hk (by omega)] at hb
  injection hb with hb
  subst hb
  rw [h.refs hi] at hy
  simp at hy
  rcases hy with rfl | rfl
  · exact ⟨(i + 1) % k, Nat.mod_lt _ hk.1, rfl⟩
  · exact absurd rfl h0
theorem Ring.round {L : List Int} {k : Nat} (h : Ring L k) (hk : 0 < k ∧ k ≤ 40) {r : Nat} (hr : r < k) : ∀ d : Nat, Rch (objOf (ringBs k)) (refWords L threeCs) [1 + 4 * (r : Int)] (1 + 4 * (((r + d) % k : Nat) : Int))
  | 0 => by
    rw [Nat.add_zero, Nat.mod_eq_of_lt hr]
    exact .root (by simp) (by omega)
  | d + 1 => by
    have h1 := Ring.round h hk hr d
    have hm := Nat.mod_lt (r + d) hk.1
    have h2 : Rch (objOf (ringBs k)) (refWords L threeCs) [1 + 4 * (r : Int)] (ringNext k ((r + d) % k)) := .next h1 (h.obj hk (by omega)) (by rw [h.refs hm]; exact List.mem_cons_self) (by unfold ringNext; omega)
    have e : ringNext k ((r + d) % k) = 1 + 4 * (((r + (d + 1)) % k : Nat) : Int) := by
      unfold ringNext
      rw [show ((r + d) % k + 1) % k = (r + (d + 1)) % k by rw [Nat.mod_add_mod]; rfl]
    rw [← e]
    exact h2
theorem Ring.all {L : List Int} {k : Nat} (h : Ring L k) (hk : 0 < k ∧ k ≤ 40) {r : Nat} (hr : r < k) (x : Int) : Rch (objOf (ringBs k)) (refWords L threeCs) [1 + 4 * (r : Int)] x ↔ ∃ i : Nat, i < k ∧ x = 1 + 4 * (i : Int) := by
  refine ⟨h.closed hk hr, fun ⟨i, hi, hx⟩ => ?_⟩
  have h1 := h.round hk hr (i + (k - r))
  rw [show r + (i + (k - r)) = i + k by omega, Nat.add_mod_right, Nat.mod_eq_of_lt hi] at h1
  rw [hx]
  exact h1
theorem Ring.found {L : List Int} {k : Nat} (h : Ring L k) (hk : 0 < k ∧ k ≤ 40) {r : Nat} (hr : r < k) : ¬ Lost (objOf (ringBs k)) (refWords L threeCs) [1 + 4 * (r : Int)] := fun ⟨x, h1, h2⟩ => by
  obtain ⟨i, hi, rfl⟩ := h.closed hk hr h1
  rw [h.obj hk (by omega)] at h2
  cases h2
theorem filter_range (k : Nat) (R : List Int) (h : ∀ x, x ∈ R ↔ ∃ i : Nat, i < k ∧ x = 1 + 4 * (i : Int)) : toldOf (ringBs k) R = (List.range k).map fun (i : Nat) => 1 + 4 * (i : Int) := by
  unfold ringBs
  rw [List.range_succ, List.map_append, List.append_assoc]
  unfold toldOf
  rw [List.filter_append, List.map_append]
  have e1 : ((List.range k).map ringBlk).filter (fun b => decide (b.t ∈ R)) = (List.range k).map ringBlk := by
    rw [List.filter_eq_self]
    intro b hb
    obtain ⟨i, hi, rfl⟩ := List.mem_map.1 hb
    simp only [List.mem_range] at hi
    exact decide_eq_true ((h _).2 ⟨i, hi, rfl⟩)
  have e2 : (List.map ringBlk [k] ++ [ringFill k]).filter (fun b => decide (b.t ∈ R)) = [] := by
    rw [List.filter_eq_nil_iff]
    intro b hb
    simp only [List.map_cons, List.map_nil, List.mem_append, List.mem_singleton] at hb
    rcases hb with rfl | rfl
    · intro hh
      obtain ⟨i, hi, hx⟩ := (h _).1 (of_decide_eq_true hh)
      unfold ringBlk at hx
      simp only at hx
      omega
    · intro hh
      obtain ⟨i, hi, hx⟩ := (h _).1 (of_decide_eq_true hh)
      unfold ringFill at hx
      simp only at hx
      omega
  rw [e1, e2, List.map_map]
  simp
  intro a _
  rfl
end Go.Proofs.Ytkidcbehjhlnkaa
