/-
  What Read tells.
-/
import Derived.Test.YtelljfckffmjmaaBlocksMem
namespace Go.Proofs.Ytelljfckffmjmaa
open Go.RowKit
set_option linter.unusedVariables false

def Blk.val (b : Blk) : Value := .agg #[.int .i64 b.t, .int .i64 b.k, .int .i64 b.n, .int .i64 b.s]

theorem part_in64 (x : Int) : In64 (partL x) := by
  unfold In64 partL
  omega

end Go.Proofs.Ytelljfckffmjmaa
