/-
  Words in a row of any capacity that can be read ('Doc').
-/
import Derived.Test.YtelljfckffmjmaaBlocksLayW
import Derived.Test.YtelljfckffmjmaaBlocksRead
import Derived.Test.YtelljfckffmjmaaClassesRefS
import Derived.Deep.QuietTactic
import Derived.BigQuiet
namespace Go.Proofs.Ytelljfckffmjmaa
open Go.RowKit

/-- Words in a row: block q, from its first cell on. -/
structure Doc (w : World) (q : Nat) (l : List Int) : Prop where
  ltq : q < w.heap.size
  wd : ∀ i x, l[i]? = some x → w.cell? ⟨q, i, none⟩ = some (.int .i64 x)
theorem Doc.word {w : World} {q : Nat} {l : List Int} (h : Doc w q l) {i : Nat} {x : Int} (hx : l[i]? = some x) : w.cell? ⟨q, i, none⟩ = some (.int .i64 x) := h.wd i x hx
theorem Doc.turned {w : World} {q : Nat} {l : List Int} (h : Doc w q l) {S : List Nat} {w' : World} (t : Turned S w w') (hq : q ∉ S) : Doc w' q l :=
  ⟨Nat.lt_of_lt_of_le h.ltq t.size, fun i x hx => by rw [t.cell (p := ⟨q, i, none⟩) h.ltq hq]; exact h.wd i x hx⟩
end Go.Proofs.Ytelljfckffmjmaa
