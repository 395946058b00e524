/-
  What find, lay, count and Size tell.
-/
import Derived.Test.YtelljfckffmjmaaClassesBase
namespace Go.Proofs.Ytelljfckffmjmaa
open Go.RowKit
set_option linter.unusedVariables false

/-- A slice of classes that can be read. -/
structure CRd (w : World) (ao : Option Addr) (len : Nat) (cs : List Cls) : Prop where
  size : cs.length = len
  room : len ≤ 9223372036854775807
  cell : ∀ i c, cs[i]? = some c → ∃ b off, ao = some ⟨b, off, none⟩ ∧ w.cell? ⟨b, off + i * 3, none⟩ = some (.int .i64 c.r) ∧ w.cell? ⟨b, off + i * 3 + 1, none⟩ = some (.int .i64 c.w) ∧ w.cell? ⟨b, off + i * 3 + 2, none⟩ = some (.int .i64 c.a)
  inn : ∀ c, c ∈ cs → c.In
theorem CRd.turned {w w' : World} {ao : Option Addr} {len : Nat} {cs : List Cls} (h : CRd w ao len cs) (ht : Turned [] w w') : CRd w' ao len cs := by
  refine ⟨h.size, h.room, fun i c hc => ?_, h.inn⟩
  obtain ⟨b, off, h0, h1, h2, h3⟩ := h.cell i c hc
  exact ⟨b, off, h0, by rw [ht.cell (block_lt h1) (by simp)]; exact h1, by rw [ht.cell (block_lt h2) (by simp)]; exact h2, by rw [ht.cell (block_lt h3) (by simp)]; exact h3⟩

/-- The class of that number, if it may be. -/
def clsAt (cs : List Cls) (k : Int) : Option Cls :=
  if k = 0 then some ⟨0, 0, 3⟩ else if k < 0 then none else match cs[(k - 1).toNat]? with
  | some c => if c.may then some c else none
  | none => none
def Cls.rN (c : Cls) (n : Int) : Int := if c.a = 1 then n else if c.a = 2 ∨ c.a = 3 then 0 else c.r
def Cls.wN (c : Cls) (n : Int) : Int := if c.a = 1 then 0 else if c.a = 2 ∨ c.a = 3 then n else c.w
def Cls.most (c : Cls) : Int := if c.a = 1 ∨ c.a = 2 then 1024 else if c.a = 3 then 65535 else 0
/-- What count tells, of those words that g takes. -/
def told (g : Int → Int → Int) (cs : List Cls) (k n : Int) : Int × Int :=
  match clsAt cs k with
  | none => (0, 12)
  | some c => if 0 ≤ n ∧ n ≤ c.most then (g (c.rN n) (c.wN n), 0) else (0, 11)

end Go.Proofs.Ytelljfckffmjmaa
