/-
  Classes as the model has them, and what package classes' small functions tell: mayHave, may, a shape's size and references.
-/
import Derived.Test.YtelljfckffmjmaaFrames
import Derived.RegionTactic
import Derived.ChangeAlike
namespace Go.Proofs.Ytelljfckffmjmaa
open Go.RowKit
set_option linter.unusedVariables false

/-- A class: its references, its words, its kind. -/
structure Cls where
  r : Int
  w : Int
  a : Int
def In64 (x : Int) : Prop := -9223372036854775808 ≤ x ∧ x ≤ 9223372036854775807
def Cls.val (c : Cls) : Value := .agg #[.int .i64 c.r, .int .i64 c.w, .int .i64 c.a]
def Cls.In (c : Cls) : Prop := In64 c.r ∧ In64 c.w ∧ In64 c.a
/-- A class may be. -/
def Cls.may (c : Cls) : Bool := decide (c.a = 0 ∧ 0 ≤ c.r ∧ 0 ≤ c.w ∧ c.r + c.w ≤ 64 ∨ (c.a = 1 ∨ c.a = 2) ∧ c.r = 0 ∧ c.w = 0)

end Go.Proofs.Ytelljfckffmjmaa
