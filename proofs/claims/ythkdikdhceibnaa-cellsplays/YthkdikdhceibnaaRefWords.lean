/-
  Words of the document's own memory.
-/
import Derived.Test.YthkdikdhceibnaaRefCells
namespace Go.Proofs.Ythkdikdhceibnaa
open Go.RowKit
set_option linter.unusedVariables false

/-- The words from f to g. -/
def cut (l : List Int) (f g : Int) : List Int := (l.take (min (max g 0) l.length).toNat).drop (min (max f 0) l.length).toNat
theorem cut_snoc (l : List Int) (F k : Nat) (x : Int) (h : F ≤ k) (hx : l[k]? = some x) : (l.take (k + 1)).drop F = (l.take k).drop F ++ [x] := by
  have hk := (List.getElem?_eq_some_iff.1 hx).1
  rw [List.take_succ_eq_append_getElem hk, List.drop_append_of_le_length (by simp; omega)]
  rw [List.getElem?_eq_getElem hk] at hx
  injection hx with hx
  rw [hx]
theorem cut_eq (l : List Int) (f g : Int) (F k : Nat) (hF : (F : Int) = max f 0) (h1 : F ≤ k) (h2 : k = F ∨ (k ≤ l.length ∧ (k : Int) ≤ g)) (h3 : g ≤ k ∨ (l.length : Int) ≤ k) : (l.take k).drop F = cut l f g := by
  unfold cut
  rcases h2 with rfl | ⟨h4, h5⟩
  · rw [List.drop_eq_nil_of_le (by simp; omega), List.drop_eq_nil_of_le (by simp; omega)]
  · rw [show (min (max g 0) (l.length : Int)).toNat = k by omega, show (min (max f 0) (l.length : Int)).toNat = F by omega]
theorem ownsRow_block {w : World} {B : Nat} {e : TypeId} {size : Nat} {v : Value} {n : Nat} {xs : List Value} (h : w.ownsRow B e size v n xs) (j : Nat) (hj : v.ownBlock = some j) : B ≤ j := by
  rcases h.2 with ⟨rfl, _⟩ | ⟨g, cap, cur, rfl, hg, _⟩
  · cases hj
  · simp [Value.ownBlock] at hj
    omega

set_option maxRecDepth 100000 in
theorem rwords_mem (p q : Nat) (l : List Int) (s : Int) (f g : Int) (w : World) (hl : l.length ≤ 65536) (hf : f ≤ 9223372036854775807) (h : Ref w p q l s) :
    Calls Try.prog 23 #[.pointer (some ⟨p, 0, none⟩), .int .i64 f, .int .i64 g] w fun e w' =>
      ∃ v, e = .returned v ∧ w'.ownsRow w.heap.size 2 1 v (cut l f g).length ((cut l f g).map (Value.int .i64)) ∧ Turned [] w w' := by
  have HH := hide h
  clear h
  obtain ⟨i0, hi, hi0⟩ := Option.map_eq_some_iff.1 Try.info2
  simp only [Prod.mk.injEq] at hi0
  obtain ⟨hz0, hz1, hz2⟩ := hi0
  obtain ⟨F, hF⟩ : ∃ F : Nat, (F : Int) = max f 0 := ⟨(max f 0).toNat, by omega⟩
  by_cases h1 : f < 0
  · have e : F = 0 := by omega
    clear hF
    subst e
    go_enter Try.func23, Try.ntmps23
    go_wp2_with fail
    go_loopw [7, 8] (fun v i wr => ∃ k : Nat, 0 ≤ k ∧ i = .int .i64 k ∧ (k = 0 ∨ (k ≤ l.length ∧ (k : Int) ≤ g)) ∧ Hid (wr.ownsRow w.heap.size 2 1 v (k - 0) (((l.take k).drop 0).map (Value.int .i64))) ∧ Hid (Turned [] w wr)) (fun _ i _ => l.length - (intOf i).toNat)
    case atStart => exact ⟨0, Nat.le_refl _, rfl, .inl rfl, ⟨by simp, .inl ⟨rfl, by omega⟩⟩, Turned.refl _ _⟩
    case round =>
      obtain ⟨k, hk, rfl, hkk, HO, HTr⟩ := hrel
      have HKK := hide hkk
      clear hkk
      have h0r : wr.cell? ⟨p, 0, none⟩ = some (.slice (some ⟨q, 0, none⟩) l.length l.length) := by rw [HTr.out.cell HH.out.ltp (by simp)]; exact HH.out.c0
      by_cases hlt : (k : Int) < g
      · by_cases hlt2 : k < l.length
        · obtain ⟨x, hx⟩ : ∃ x, l[k]? = some x := ⟨_, List.getElem?_eq_getElem hlt2⟩
          have hcw : wr.cell? ⟨q, k, none⟩ = some (.int .i64 x) := by rw [HTr.out.cell HH.out.ltq (by simp)]; exact HH.out.word hx
          have HS : Hid (((l.take k).drop 0).map (Value.int .i64) ++ [.int .i64 x] = ((l.take (k + 1)).drop 0).map (Value.int .i64)) := by
            show _ = _
            rw [cut_snoc l 0 k x hk hx, List.map_append]
            rfl
          clear hx
          have hsz := HTr.out.size
          go_wp2_with (at_builtin; (refine wpList_append_own _ rfl _ _ 29 rfl w.heap.size 2 i0 (.int .i64 0) 1 8 Try.underlying29 hi hz0 hz1 hz2 rfl (by decide) _ _ _ rfl (HO.out.alloc _) ⟨wr.heap.size, 0, none⟩ 1 1 [.int .i64 x] rfl rfl (cell_one_new _ _ _) (fun x hx => by simp at hx; subst hx; rfl) (by unfold maxLen; omega) (by omega) (by simp; omega) ?_); intro v' w3 hown' hgrow3 hnil3)
          have HT3 := hide ((HTr.out.alloc _).grown hgrow3 (fun j hj => .inr (ownsRow_block HO.out j hj)))
          have HO3 := hide hown'
          clear hown' hgrow3 hnil3
          go_roundw
          case rel => exact ⟨k + 1, by omega, by go_num, .inr ⟨by omega, by omega⟩, by show World.ownsRow _ _ _ _ _ _ _; have h2 := HO3.out; rw [HS.out] at h2; rw [show k + 1 - 0 = k - 0 + 1 by omega]; exact h2, HT3⟩
          case measure => simp [intOf]; omega
        · go_wp2_with fail
          go_ret
          refine ⟨_, rfl, ?_, HTr.out⟩
          rw [← cut_eq l f g 0 k (by omega) hk HKK.out (.inr (by omega))]
          have h2 := HO.out
          have h3 : ((l.take k).drop 0).length = k - 0 := by have := h2.1; simpa using this
          rw [h3]
          exact h2
      · go_wp2_with fail
        go_ret
        refine ⟨_, rfl, ?_, HTr.out⟩
        rw [← cut_eq l f g 0 k (by omega) hk HKK.out (.inl (by omega))]
        have h2 := HO.out
        have h3 : ((l.take k).drop 0).length = k - 0 := by have := h2.1; simpa using this
        rw [h3]
        exact h2
  · have e : f = F := by omega
    clear hF
    subst e
    go_enter Try.func23, Try.ntmps23
    go_wp2_with fail
    go_loopw [7, 8] (fun v i wr => ∃ k : Nat, F ≤ k ∧ i = .int .i64 k ∧ (k = F ∨ (k ≤ l.length ∧ (k : Int) ≤ g)) ∧ Hid (wr.ownsRow w.heap.size 2 1 v (k - F) (((l.take k).drop F).map (Value.int .i64))) ∧ Hid (Turned [] w wr)) (fun _ i _ => l.length - (intOf i).toNat)
    case atStart => exact ⟨F, Nat.le_refl _, rfl, .inl rfl, ⟨by simp, .inl ⟨rfl, by omega⟩⟩, Turned.refl _ _⟩
    case round =>
      obtain ⟨k, hk, rfl, hkk, HO, HTr⟩ := hrel
      have HKK := hide hkk
      clear hkk
      have h0r : wr.cell? ⟨p, 0, none⟩ = some (.slice (some ⟨q, 0, none⟩) l.length l.length) := by rw [HTr.out.cell HH.out.ltp (by simp)]; exact HH.out.c0
      by_cases hlt : (k : Int) < g
      · by_cases hlt2 : k < l.length
        · obtain ⟨x, hx⟩ : ∃ x, l[k]? = some x := ⟨_, List.getElem?_eq_getElem hlt2⟩
          have hcw : wr.cell? ⟨q, k, none⟩ = some (.int .i64 x) := by rw [HTr.out.cell HH.out.ltq (by simp)]; exact HH.out.word hx
          have HS : Hid (((l.take k).drop F).map (Value.int .i64) ++ [.int .i64 x] = ((l.take (k + 1)).drop F).map (Value.int .i64)) := by
            show _ = _
            rw [cut_snoc l F k x hk hx, List.map_append]
            rfl
          clear hx
          have hsz := HTr.out.size
          go_wp2_with (at_builtin; (refine wpList_append_own _ rfl _ _ 29 rfl w.heap.size 2 i0 (.int .i64 0) 1 8 Try.underlying29 hi hz0 hz1 hz2 rfl (by decide) _ _ _ rfl (HO.out.alloc _) ⟨wr.heap.size, 0, none⟩ 1 1 [.int .i64 x] rfl rfl (cell_one_new _ _ _) (fun x hx => by simp at hx; subst hx; rfl) (by unfold maxLen; omega) (by omega) (by simp; omega) ?_); intro v' w3 hown' hgrow3 hnil3)
          have HT3 := hide ((HTr.out.alloc _).grown hgrow3 (fun j hj => .inr (ownsRow_block HO.out j hj)))
          have HO3 := hide hown'
          clear hown' hgrow3 hnil3
          go_roundw
          case rel => exact ⟨k + 1, by omega, by go_num, .inr ⟨by omega, by omega⟩, by show World.ownsRow _ _ _ _ _ _ _; have h2 := HO3.out; rw [HS.out] at h2; rw [show k + 1 - F = k - F + 1 by omega]; exact h2, HT3⟩
          case measure => simp [intOf]; omega
        · go_wp2_with fail
          go_ret
          refine ⟨_, rfl, ?_, HTr.out⟩
          rw [← cut_eq l F g F k (by omega) hk HKK.out (.inr (by omega))]
          have h2 := HO.out
          have h3 : ((l.take k).drop F).length = k - F := by have := h2.1; simpa using this
          rw [h3]
          exact h2
      · go_wp2_with fail
        go_ret
        refine ⟨_, rfl, ?_, HTr.out⟩
        rw [← cut_eq l F g F k (by omega) hk HKK.out (.inl (by omega))]
        have h2 := HO.out
        have h3 : ((l.take k).drop F).length = k - F := by have := h2.1; simpa using this
        rw [h3]
        exact h2
end Go.Proofs.Ythkdikdhceibnaa
