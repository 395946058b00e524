/-
  What Refs tells: a row of the call's own.
-/
import Derived.Test.YthigmechfcndcaaBlocksEach
import Derived.Maps.AppendAt
import Derived.OwnWalk
namespace Go.Proofs.Ythigmechfcndcaa
open Go.RowKit
set_option linter.unusedVariables false

/-- What Refs' closure has gathered: in the variable c1, a row of its own from B on. -/
def RefsInv (B c1 : Nat) (k : Nat) (acc : List Int) (O : List Nat) (w : World) : Prop :=
  acc.length ≤ k ∧ B ≤ c1 ∧ ∃ v, w.heap[c1]? = some (.cells #[v] 24 (0, 0)) ∧ w.ownsRow B 2 1 v acc.length (acc.map (Value.int .i64)) ∧ O = c1 :: v.ownBlock.toList

theorem RefsInv.low {B c1 k : Nat} {acc : List Int} {O : List Nat} {w : World} (h : RefsInv B c1 k acc O w) : ∀ x, x ∈ O → B ≤ x ∧ x < w.heap.size := by
  obtain ⟨_, hB, v, hv, hown, rfl⟩ := h
  intro x hx
  rcases List.mem_cons.1 hx with rfl | hx
  · exact ⟨hB, lt_of_heap hv⟩
  · exact hown.lt x (by simpa using hx)
theorem refsTaker (B c1 : Nat) : Taker (List Int) (RefsInv B c1) where
  lt := fun k s O w h x hx => (h.low x hx).2
  keep := fun k s O w w' h ht => by
    obtain ⟨h1, hB, v, hv, hown, hO⟩ := h
    refine ⟨h1, hB, v, by rw [ht.block _ (lt_of_heap hv) (by simp)]; exact hv, ownsRow_keep hown (fun k hk => ht.block k (hown.lt k hk).2 (by simp)), hO⟩
  up := fun k s O w h => ⟨Nat.le_succ_of_le h.1, h.2⟩

def refsStep (acc : List Int) (r : Int) : List Int × Bool := (acc ++ [r], true)
theorem runRefs_all (acc rs : List Int) : runRefs refsStep acc rs = (acc ++ rs, true) := by
  induction rs generalizing acc with
  | nil => simp [runRefs]
  | cons r rs ih =>
    rw [runRefs]
    simp only [refsStep, if_true]
    rw [ih (acc ++ [r])]
    simp

set_option maxRecDepth 100000 in
theorem refs_step (B c1 : Nat) (k : Nat) (acc : List Int) (O : List Nat) (w : World) (r : Int) (hk : k < 65536) (h : RefsInv B c1 k acc O w) :
    Calls Try.prog 32 #[.int .i64 r, .pointer (some ⟨c1, 0, none⟩)] w fun e w' => e = .returned (.bool (refsStep acc r).2) ∧ ∃ O', RefsInv B c1 (k + 1) (refsStep acc r).1 O' w' ∧ Turned O w w' ∧ ∀ x, x ∈ O' → x ∈ O ∨ w.heap.size ≤ x := by
  obtain ⟨h1, hB, v, hv, hown, rfl⟩ := h
  have hc := lt_of_heap hv
  obtain ⟨-, ao, cap, rfl, -⟩ := ownsRow_any hown
  have x0 : w.cell? ⟨c1, 0, none⟩ = some (.slice ao acc.length cap) := cell_of_heap hv 0
  have HV := hide hv
  have HO := hide hown
  obtain ⟨i0, hi, hi0⟩ := Option.map_eq_some_iff.1 Try.info2
  simp only [Prod.mk.injEq] at hi0
  obtain ⟨hz0, hz1, hz2⟩ := hi0
  have HNE : Hid (some c1 ≠ (Value.slice ao acc.length cap).ownBlock) := fun e => by
    obtain ⟨_, _, c, hc2⟩ := ownsRow_lt HO.out c1 e.symm
    rw [HV.out] at hc2
    simp at hc2
  clear hv hown
  go_enter Try.func32, Try.ntmps32
  go_wp2_with (at_builtin; (refine wpList_append_own_at _ rfl _ _ 24 rfl B 2 i0 _ 1 8 Try.underlying24 hi hz0 hz1 hz2 rfl (by decide) _ _ _ rfl (HO.out.alloc _) ⟨w.heap.size, 0, none⟩ 1 1 [.int .i64 r] rfl rfl (cell_one_new _ _ _) (ints_oneCell .i64 [r]) (by unfold maxLen; omega) (by omega) (by simp; omega) ?_); intro v' w3 hown' hgrow3 hnil3 hat3; obtain ⟨-, ao2, cap2, rfl, -⟩ := ownsRow_any hown'; have hv3 : w3.heap[c1]? = some (.cells #[.slice ao acc.length cap] 24 (0, 0)) := (by rw [hgrow3.block c1 (by simp; omega) HNE.out, Below.heap_alloc _ _ _ hc]; exact HV.out); have x3 := cell_of_one hv3; have f3 := free_of_one hv3; have HV3 := hide hv3; have HO3 := hide hown'; have HG3 : Hid (World.grownBy _ w3 (Value.slice ao acc.length cap).ownBlock) := hide hgrow3; have HA3 : Hid (_ = (Value.slice ao acc.length cap).ownBlock ∨ _) := hide hat3; clear hv3 hown' hgrow3 hat3 hnil3)
  go_ret
  obtain ⟨v', hv'⟩ : ∃ v', v' = Value.slice ao2 (acc.length + 1) cap2 := ⟨_, rfl⟩
  rw [← hv'] at HO3 HA3 ⊢
  refine ⟨rfl, c1 :: v'.ownBlock.toList, ⟨?_, hB, v', one_setCell HV3.out, ?_, rfl⟩, ?_, ?_⟩
  · simp [refsStep]; omega
  · have h4 : w3.ownsRow B 2 1 v' (acc ++ [r]).length ((acc ++ [r]).map (Value.int .i64)) := by simpa using HO3.out
    refine ownsRow_setCell_other h4 (fun e => ?_) _
    obtain ⟨_, _, c, hc2⟩ := ownsRow_lt h4 c1 e
    rw [HV3.out] at hc2
    simp at hc2
  · exact (((Turned.refl _ _).alloc _).grown HG3.out (fun k hk => .inl (by simp only [List.mem_cons]; right; simpa using hk))).setCell (.inl (by simp)) _
  · intro x hx
    rcases List.mem_cons.1 hx with rfl | hx
    · exact .inl (by simp)
    · have hx : v'.ownBlock = some x := by simpa using hx
      rcases HA3.out with h5 | h5
      · rw [hx] at h5
        exact .inl (by simp only [List.mem_cons]; right; simpa using h5.symm)
      · rw [hx] at h5
        injection h5 with h5
        exact .inr (by simp at h5; omega)

theorem brefs_any (v : Value) (l : List Int) (ao : Option Addr) (len cap : Nat) (cs : List Cls) (b : Blk) (w : World) (hl : l.length ≤ 65536) (hl64 : ∀ x, x ∈ l → In64 x) (hbt : 0 ≤ b.t ∧ b.t ≤ 65536) (hbn : In64 b.n) (hv : AnyMem w v l) (hc : CRd w ao len cs) :
    Calls Try.prog 10 #[v, .slice ao len cap, .agg #[.int .i64 b.t, .int .i64 b.k, .int .i64 b.n, .int .i64 b.s]] w fun e w' => ∃ v', e = .returned v' ∧ w'.ownsRow w.heap.size 2 1 v' (refWords l cs b).length ((refWords l cs b).map (Value.int .i64)) ∧ Turned [] w w' := by
  obtain ⟨w0, hw0⟩ : ∃ w0, w0 = (w.alloc (.cells #[.int .i64 b.t, .int .i64 b.k, .int .i64 b.n, .int .i64 b.s] 38)).alloc (.cells #[.slice none 0 0] 24) := ⟨_, rfl⟩
  have ht0 : Turned [] w w0 := by rw [hw0]; exact ((Turned.refl [] w).alloc _).alloc _
  have hs0 : w.heap.size + 1 = (w.alloc (.cells #[.int .i64 b.t, .int .i64 b.k, .int .i64 b.n, .int .i64 b.s] 38)).heap.size := by simp
  have hb0 : w0.heap[w.heap.size + 1]? = some (.cells #[.slice none 0 0] 24 (0, 0)) := by rw [hw0, hs0]; exact heap_alloc_new _ _
  have hI0 : RefsInv w.heap.size (w.heap.size + 1) 0 [] [w.heap.size + 1] w0 := ⟨Nat.le_refl _, by omega, _, hb0, World.ownsRow_nil _ _ _ _, rfl⟩
  have HE := hide (eachRef_refs (RefsInv w.heap.size (w.heap.size + 1)) refsStep (refsTaker _ _) (w.heap.size + 1) (fun k s O w r hk _ hI => refs_step _ _ k s O w r hk hI) v l ao len cap cs b w0 [] [w.heap.size + 1] hl hl64 hbt hbn
    (fun w' ht => by
      have h1 : Turned [] w w' := ht0.trans_new ht (by simp)
      exact ⟨hv.turned h1, hc.turned h1⟩) hI0)
  rw [runRefs_all] at HE
  simp only [List.nil_append] at HE
  obtain ⟨bt, bk, bn, bz⟩ := b
  simp only at *
  have HT0 := hide ht0
  have hmf : ∀ (fn : Fn) (first cap : Array Value) (w : World), (Instr.makeFunc fn first cap).run Try.prog w = .ok (.func fn first cap) w := fun _ _ _ _ => rfl
  generalize refWords l cs ⟨bt, bk, bn, bz⟩ = rs at *
  clear hI0 hb0 ht0 hs0 hv hc hl64 hl hbt hbn
  go_enter Try.func10, Try.ntmps10
  go_wp2_with fail
  rw [← hw0]
  clear hw0
  refine HE.out.mono ?_
  rintro e w1 ⟨rfl, n, O, ⟨-, -, v', hv1, hown1, -⟩, ht1, -⟩
  have x1 := cell_of_one hv1
  have HO := hide hown1
  have HT := hide (HT0.out.trans_new ht1 (by simp))
  clear hv1 hown1 ht1 HE
  go_wp2_with fail
  go_ret
  exact ⟨_, rfl, HO.out, HT.out⟩
end Go.Proofs.Ythigmechfcndcaa
