/-
  What Check tells.
-/
import Derived.Test.YtelljfckffmjmaaClassesSize
namespace Go.Proofs.Ytelljfckffmjmaa
open Go.RowKit
set_option linter.unusedVariables false

def checkOf (cs : List Cls) : Int := if cs.length ≤ 16 ∧ ∀ c, c ∈ cs → c.may = true then 0 else 12

end Go.Proofs.Ytelljfckffmjmaa
