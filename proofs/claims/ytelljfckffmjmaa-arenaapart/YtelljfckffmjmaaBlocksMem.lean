/-
  A memory, nil or not, for package blocks: Len, Words, Put; and what word and within tell.
-/
import Derived.Test.YtelljfckffmjmaaBlocksPure
namespace Go.Proofs.Ytelljfckffmjmaa
open Go.RowKit
set_option linter.unusedVariables false

/-- A memory that holds these words: a nil one holds none. -/
def AnyMem (w : World) (v : Value) (l : List Int) : Prop := (v = .pointer none ∧ l = []) ∨ ∃ p q s, v = .pointer (some ⟨p, 0, none⟩) ∧ Mem w p q l s
theorem AnyMem.turned {w w' : World} {v : Value} {l : List Int} (h : AnyMem w v l) (ht : Turned [] w w') : AnyMem w' v l := by
  rcases h with h | ⟨p, q, s, h1, h2⟩
  · exact .inl h
  · exact .inr ⟨p, q, s, h1, h2.turned ht (by simp) (by simp)⟩
theorem Mem.any {w : World} {p q : Nat} {l : List Int} {s : Int} (h : Mem w p q l s) : AnyMem w (.pointer (some ⟨p, 0, none⟩)) l := .inr ⟨p, q, s, rfl, h⟩
theorem anyMem_nil (w : World) : AnyMem w (.pointer none) [] := .inl ⟨rfl, rfl⟩

theorem len_amem (v : Value) (l : List Int) (w : World) (h : AnyMem w v l) :
    Calls Try.prog 32 #[v] w fun e w' => e = .returned (.int .i64 l.length) ∧ w' = w := by
  rcases h with ⟨rfl, rfl⟩ | ⟨p, q, s, rfl, h⟩
  · exact len_nil w
  · exact len_mem p q l s w h

theorem words_amem (v : Value) (l : List Int) (f g : Int) (w : World) (hl : l.length ≤ 65536) (h : AnyMem w v l) :
    Calls Try.prog 27 #[v, .int .i64 f, .int .i64 g] w fun e w' =>
      ∃ v, e = .returned v ∧ w'.ownsRow w.heap.size 2 1 v ((l.take (min (max g 0) l.length).toNat).drop (min (max f 0) l.length).toNat).length (((l.take (min (max g 0) l.length).toNat).drop (min (max f 0) l.length).toNat).map (Value.int .i64)) ∧ Turned [] w w' := by
  rcases h with ⟨rfl, rfl⟩ | ⟨p, q, s, rfl, h⟩
  · refine (words_nil f g w).mono ?_
    rintro e w1 ⟨rfl, rfl⟩
    refine ⟨_, rfl, ?_, Turned.refl _ _⟩
    simp only [List.take_nil, List.drop_nil, List.map_nil, List.length_nil]
    exact World.ownsRow_nil _ _ _ _
  · exact words_mem p q l s f g w hl h

theorem one_word {l : List Int} {i : Nat} {x : Int} (h : l[i]? = some x) : (l.take (min (max ((i : Int) + 1) 0) l.length).toNat).drop (min (max (i : Int) 0) l.length).toNat = [x] := by
  obtain ⟨h1, h2⟩ := List.getElem?_eq_some_iff.1 h
  rw [show (min (max ((i : Int) + 1) 0) (l.length : Int)).toNat = i + 1 by omega, show (min (max (i : Int) 0) (l.length : Int)).toNat = i by omega]
  rw [List.take_succ_eq_append_getElem h1, List.drop_append_of_le_length (by simp; omega), List.drop_eq_nil_of_le (by simp; omega), h2]
  rfl
theorem no_word {l : List Int} {t : Int} (h : t < 0 ∨ (l.length : Int) ≤ t) (h64 : In64 t) : (l.take (min (max (wrap64 (t + 1)) 0) l.length).toNat).drop (min (max t 0) l.length).toNat = [] := by
  unfold In64 at h64
  rcases h with h | h
  · rw [show (min (max (wrap64 (t + 1)) 0) (l.length : Int)).toNat = 0 by unfold wrap64; omega]
    simp
  · rw [show (min (max t 0) (l.length : Int)).toNat = l.length by omega]
    apply List.drop_eq_nil_of_le
    simp
    omega

end Go.Proofs.Ytelljfckffmjmaa
