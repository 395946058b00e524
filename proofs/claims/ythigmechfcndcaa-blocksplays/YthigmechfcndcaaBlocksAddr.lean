/-
  A slice of blocks that can be read; what byAddress makes of it.
-/
import Derived.Test.YthigmechfcndcaaBlocksMaps
import Derived.Test.YthigmechfcndcaaBlocksWalkW
namespace Go.Proofs.Ythigmechfcndcaa
open Go.RowKit Go.Maps
set_option linter.unusedVariables false

theorem flat_get (bs : List Blk) : ∀ (i : Nat) (b : Blk) (j : Nat), bs[i]? = some b → j < 4 → (flat bs)[i * 4 + j]? = b.cells[j]? := by
  induction bs with
  | nil => intro i b j h; simp at h
  | cons a bs ih =>
    intro i b j h hj
    show (a.cells ++ flat bs)[i * 4 + j]? = _
    have h4 : a.cells.length = 4 := rfl
    cases i with
    | zero =>
      simp at h
      subst h
      rw [Nat.zero_mul, Nat.zero_add, List.getElem?_append_left (by omega)]
    | succ i =>
      rw [List.getElem?_append_right (by omega), h4, show (i + 1) * 4 + j - 4 = i * 4 + j by omega]
      exact ih i b j (by simpa using h) hj

/-- A slice of blocks that can be read. -/
structure BlkRd (w : World) (ao : Option Addr) (len : Nat) (bs : List Blk) : Prop where
  size : bs.length = len
  cell : ∀ i b, bs[i]? = some b → ∃ g off, ao = some ⟨g, off, none⟩ ∧ w.cell? ⟨g, off + i * 4, none⟩ = some (.int .i64 b.t) ∧ w.cell? ⟨g, off + i * 4 + 1, none⟩ = some (.int .i64 b.k) ∧ w.cell? ⟨g, off + i * 4 + 2, none⟩ = some (.int .i64 b.n) ∧ w.cell? ⟨g, off + i * 4 + 3, none⟩ = some (.int .i64 b.s)
theorem BlkRd.turned {w w' : World} {ao : Option Addr} {len : Nat} {bs : List Blk} (h : BlkRd w ao len bs) (ht : Turned [] w w') : BlkRd w' ao len bs := by
  refine ⟨h.size, fun i c hc => ?_⟩
  obtain ⟨g, off, h0, h1, h2, h3, h4⟩ := h.cell i c hc
  exact ⟨g, off, h0, by rw [ht.cell (block_lt h1) (by simp)]; exact h1, by rw [ht.cell (block_lt h2) (by simp)]; exact h2, by rw [ht.cell (block_lt h3) (by simp)]; exact h3, by rw [ht.cell (block_lt h4) (by simp)]; exact h4⟩
theorem ownsRow_blks {w : World} {B : Nat} {v : Value} {n : Nat} {bs : List Blk} (h : w.ownsRow B 38 4 v n (flat bs)) : ∃ ao cap, v = .slice ao n cap ∧ BlkRd w ao n bs := by
  have hn : bs.length = n := by have := h.1; rw [flat_length] at this; omega
  rcases h.2 with ⟨hv, h0⟩ | ⟨g, cap, cur, hv, hg, hh, hc, _, _, ht⟩
  · subst h0
    refine ⟨none, 0, hv, hn, fun i b hb => ?_⟩
    have := (List.getElem?_eq_some_iff.1 hb).1
    omega
  · refine ⟨_, cap, hv, hn, fun i b hb => ⟨g, 0, rfl, ?_⟩⟩
    have h1 : ∀ j, j < 4 → w.cell? ⟨g, i * 4 + j, none⟩ = b.cells[j]? := fun j hj => by
      have hi := (List.getElem?_eq_some_iff.1 hb).1
      rw [cell_of_heap hh, ← flat_get bs i b j hb hj, ← ht, List.getElem?_take_of_lt (by omega), Array.getElem?_toList]
    refine ⟨?_, ?_, ?_, ?_⟩
    · rw [Nat.zero_add]; exact h1 0 (by omega)
    · rw [Nat.zero_add]; exact h1 1 (by omega)
    · rw [Nat.zero_add]; exact h1 2 (by omega)
    · rw [Nat.zero_add]; exact h1 3 (by omega)

theorem take_snoc {α : Type} {l : List α} {k : Nat} {x : α} (h : l[k]? = some x) : l.take (k + 1) = l.take k ++ [x] := by
  obtain ⟨h1, h2⟩ := List.getElem?_eq_some_iff.1 h
  rw [List.take_succ_eq_append_getElem h1, h2]

set_option maxRecDepth 100000 in
theorem byAddress_any (ao : Option Addr) (len cap : Nat) (bs : List Blk) (w : World) (h : BlkRd w ao len bs) (hl : len ≤ 65536) (hb : ∀ b, b ∈ bs → In64 b.t) :
    Calls Try.prog 36 #[.slice ao len cap] w fun e w' => e = .returned (.map (some w.heap.size)) ∧ OMap w' w.heap.size len (objOf bs) ∧ Turned [] w w' := by
  have hmm := @run_makeMap Try.prog
  have HM := hide (omap_made w)
  have HT := hide ((Turned.refl [] w).alloc (.map #[] 0))
  have HR := hide h
  have HB := hide hb
  obtain ⟨M, hM⟩ : ∃ M, M = w.heap.size := ⟨_, rfl⟩
  have hMle : w.heap.size ≤ M := by omega
  rw [← hM] at HM ⊢
  clear h hb
  go_enter Try.func36, Try.ntmps36
  go_wp2_with fail
  rw [← hM]
  clear hM
  go_loopw [9] (fun i wr => ∃ (k : Nat), k ≤ len ∧ i = .int .i64 k ∧ Hid (OMap wr M k (objOf (bs.take k))) ∧ Hid (Turned [] w wr)) (fun i _ => len - (intOf i).toNat)
  case atStart => exact ⟨0, Nat.zero_le _, rfl, HM, HT⟩
  case round =>
    obtain ⟨k, hk, rfl, HK, HTr⟩ := hrel
    by_cases hlt : k < len
    · obtain ⟨b, hbk⟩ : ∃ b, bs[k]? = some b := ⟨_, List.getElem?_eq_getElem (by rw [HR.out.size]; exact hlt)⟩
      obtain ⟨g, off, rfl, c0, c1, c2, c3⟩ := (HR.out.turned HTr.out).cell k b hbk
      have HS : Hid (objOf (bs.take (k + 1)) = objAdd (objOf (bs.take k)) b) := by show _ = _; rw [take_snoc hbk, objOf_snoc]
      have hb64 := HB.out b (List.mem_of_getElem? hbk)
      obtain ⟨bt, bk, bn, bz⟩ := b
      simp only at *
      by_cases h0 : bk = 0
      · subst h0
        have HK2 : Hid (OMap (wr.alloc (.cells #[.int .i64 bt, .int .i64 0, .int .i64 bn, .int .i64 bz] 38)) M (k + 1) (objOf (bs.take (k + 1)))) := by
          show OMap _ _ _ _
          rw [HS.out]
          obtain ⟨D, h1, h2⟩ := HK.out
          exact ⟨D, (h1.mono (Nat.le_succ k)).alloc _, h2⟩
        have HT2 := hide (HTr.out.alloc (.cells #[.int .i64 bt, .int .i64 0, .int .i64 bn, .int .i64 bz] 38))
        clear hbk HS HK HTr
        go_wp2_with fail
        go_roundw
        case rel => exact ⟨k + 1, by omega, by go_num, HK2, HT2⟩
        case measure => simp [intOf]; omega
      · have HKa := hide (HK.out.block (w' := wr.alloc (.cells #[.int .i64 bt, .int .i64 bk, .int .i64 bn, .int .i64 bz] 38)) (Below.heap_alloc _ _ _ HK.out.lt))
        have HT2 := hide (HTr.out.alloc (.cells #[.int .i64 bt, .int .i64 bk, .int .i64 bn, .int .i64 bz] 38))
        clear hbk HK HTr
        go_wp2_with (at_mapUpdate; refine wpList_omap_store _ rfl _ _ _ rfl M k _ rfl HKa.out (by unfold maxLen; omega) bt rfl hb64 ⟨bt, bk, bn, bz⟩ rfl ?_; intro w2 hm2 ht2; have HM2 := hide hm2; have HT3 := hide (HT2.out.trans_new ht2 (by simp; omega)); clear hm2 ht2)
        go_roundw
        case rel =>
          refine ⟨k + 1, by omega, by go_num, ?_, HT3⟩
          rw [HS.out, show objAdd (objOf (bs.take k)) ⟨bt, bk, bn, bz⟩ = fun y => if y = bt then some ⟨bt, bk, bn, bz⟩ else objOf (bs.take k) y by unfold objAdd; rw [if_neg h0]]
          exact HM2
        case measure => simp [intOf]; omega
    · have hkl : k = len := by omega
      subst hkl
      go_wp2_with fail
      go_ret
      refine ⟨rfl, ?_, HTr.out⟩
      have h1 := HK.out
      rwa [List.take_of_length_le (Nat.le_of_eq HR.out.size)] at h1
end Go.Proofs.Ythigmechfcndcaa
