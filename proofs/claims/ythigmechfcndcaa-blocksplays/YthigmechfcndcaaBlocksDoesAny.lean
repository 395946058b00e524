/-
  One call of both, whatever it is.
-/
import Derived.Test.YthigmechfcndcaaBlocksDoesF
import Derived.Test.YthigmechfcndcaaBlocksDoesW
namespace Go.Proofs.Ythigmechfcndcaa
open Go.RowKit
set_option linter.unusedVariables false

theorem does_any (s p q d : Nat) (l : List Int) (ao : Option Addr) (len cap : Nat) (cs : List Cls) (k a c n x : Int) (w : World) (h : Both w s p q d l ao len cap cs) (hi : AllIn l) (ha : In64 a) (hn : In64 n) (hx : In64 x) :
    Calls Try.prog 6 #[.pointer (some ⟨s, 0, none⟩), .agg #[.int .i64 k, .int .i64 a, .int .i64 c, .int .i64 n, .int .i64 x]] w fun e w' => ∃ l', e = .returned (.bool true) ∧ Both w' s p q d l' ao len cap cs ∧ l'.length = l.length ∧ AllIn l' ∧ Turned [p, q, d] w w' := by
  by_cases h2 : k.tmod 4 = 2 ∨ k.tmod 4 = -2
  · refine (does_fill s p q d l ao len cap cs k a c n x w h ha hn h2).mono ?_
    rintro e w' ⟨rfl, hb, ht⟩
    exact ⟨_, rfl, hb, fillL_length _ _ _, hi.fill _ _, ht⟩
  · by_cases h3 : k.tmod 4 = 3 ∨ k.tmod 4 = -3
    · refine (does_word s p q d l ao len cap cs k a c n x w h ha hx h3).mono ?_
      rintro e w' ⟨rfl, hb, ht⟩
      refine ⟨_, rfl, hb, ?_, ?_, ht⟩
      · unfold wordL
        split
        · exact putL_length _ _ _
        · rfl
      · unfold wordL
        split
        · exact hi.put (fun y hy => by simp at hy; rw [hy]; exact hx) _
        · exact hi
    · refine (does_lay s p q d l ao len cap cs k a c n x w h ha hn (fun e => h2 (.inl e)) (fun e => h2 (.inr e)) (fun e => h3 (.inl e)) (fun e => h3 (.inr e))).mono ?_
      rintro e w' ⟨rfl, hb, ht⟩
      exact ⟨_, rfl, hb, layL_length _ _ _ _ _, hi.lay _ _ _ _, ht⟩
end Go.Proofs.Ythigmechfcndcaa
