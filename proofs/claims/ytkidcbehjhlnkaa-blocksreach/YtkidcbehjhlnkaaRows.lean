/-
  No cell of these rows narrows 'for every input' (looked for: loops, veiled, ifaces, maps, wideKeys, modest, calm, conditions, laid).
  DERIVED. THE GIVEN ROWS OF THIS SEAT. 6 by the template 'for every input the law returns true; each argument reads behind the call as it read before'; 0 by the template 'total and deterministic' (their statements: YtkidcbehjhlnkaaTotals.lean).
  GIVEN WITH THE SEED: the statements are not yours to turn. If you find one false, say at which input.
  Laid BY PROGRAM, IN A SANDBOX (cutbox-rows.mjs): the forced cells as the released guide's own fill.sh prints them over the translation ee0297b3e2093c22… (all of the seat's roots in one cut). By AI agents, Wed Nov 11 2026. No macro, syntax, notation, axiom, sorry.
-/
import Derived.Test.YtkidcbehjhlnkaaChecked
import GoSem.Claim
import GoSem.ClaimJoined
import GoSem.ClaimMapViews
import Derived.JoinedTies
import Derived.KernelRfl
namespace Go.Proofs.Ytkidcbehjhlnkaa
/- THE CELL 'sum', in the pinned program and in every row, IS THE sha256 OF THE DUMP (.gsa) THAT YtkidcbehjhlnkaaProg.lean LOADS. Nothing in Lean hashes anything: it is a label: what it is worth is what the hold of that sum in a sandbox is worth. -/
noncomputable def Try.pinned : Pinned := { name := "ytkidcbehjhlnkaa", sum := "ee0297b3e2093c229f2865d189629a4ede4415e2430117dcdb68ff3a7d1e3282", checked := Try.checked }
namespace Rows
def none {H : Type} : Left H := { results := [], args := [] }

/-- 'ballastlaw04.BlocksPlays': WHATEVER THE INPUT: true; the input reads as it did. -/
def blocksPlaysSpec : ChangeSpec := { name := "blocksPlays", fn := fun _ => fun
  | [d1, d2, d3] => { results := [.lit (.bool true)], args := [d1, d2, d3] }
  | _ => none }
def blocksPlaysRow : OpenClaim := { program := "ytkidcbehjhlnkaa", sum := "ee0297b3e2093c229f2865d189629a4ede4415e2430117dcdb68ff3a7d1e3282", func := "ballast/ballastlaw04.BlocksPlays", spec := "blocksPlays", unfollowed := true, recurses := true, apart := false }
def BlocksPlaysSaid : Prop := blocksPlaysRow.holds Try.pinned (OpenSpec.ofChange blocksPlaysSpec)

/-- ITS FALSE NEIGHBOUR: 'it returns false'. Refute it at one input. -/
def blocksPlaysWrong : ChangeSpec := { name := "blocksPlays", fn := fun _ => fun
  | [d1, d2, d3] => { results := [.lit (.bool false)], args := [d1, d2, d3] }
  | _ => none }
def BlocksPlaysWrongFalsely : Prop := blocksPlaysRow.holds Try.pinned (OpenSpec.ofChange blocksPlaysWrong)

/-- 'ballastlaw04.BlocksWalk': WHATEVER THE INPUT: true; the input reads as it did. -/
def blocksWalkSpec : ChangeSpec := { name := "blocksWalk", fn := fun _ => fun
  | [d] => { results := [.lit (.bool true)], args := [d] }
  | _ => none }
def blocksWalkRow : OpenClaim := { program := "ytkidcbehjhlnkaa", sum := "ee0297b3e2093c229f2865d189629a4ede4415e2430117dcdb68ff3a7d1e3282", func := "ballast/ballastlaw04.BlocksWalk", spec := "blocksWalk", unfollowed := true, recurses := true, apart := false }
def BlocksWalkSaid : Prop := blocksWalkRow.holds Try.pinned (OpenSpec.ofChange blocksWalkSpec)

/-- ITS FALSE NEIGHBOUR: 'it returns false'. Refute it at one input. -/
def blocksWalkWrong : ChangeSpec := { name := "blocksWalk", fn := fun _ => fun
  | [d] => { results := [.lit (.bool false)], args := [d] }
  | _ => none }
def BlocksWalkWrongFalsely : Prop := blocksWalkRow.holds Try.pinned (OpenSpec.ofChange blocksWalkWrong)

/-- 'ballastlaw04.BlocksReach': WHATEVER THE INPUT: true; the input reads as it did. -/
def blocksReachSpec : ChangeSpec := { name := "blocksReach", fn := fun _ => fun
  | [d1, d2, d3] => { results := [.lit (.bool true)], args := [d1, d2, d3] }
  | _ => none }
def blocksReachRow : OpenClaim := { program := "ytkidcbehjhlnkaa", sum := "ee0297b3e2093c229f2865d189629a4ede4415e2430117dcdb68ff3a7d1e3282", func := "ballast/ballastlaw04.BlocksReach", spec := "blocksReach", unfollowed := true, recurses := true, apart := false }
def BlocksReachSaid : Prop := blocksReachRow.holds Try.pinned (OpenSpec.ofChange blocksReachSpec)

/-- ITS FALSE NEIGHBOUR: 'it returns false'. Refute it at one input. -/
def blocksReachWrong : ChangeSpec := { name := "blocksReach", fn := fun _ => fun
  | [d1, d2, d3] => { results := [.lit (.bool false)], args := [d1, d2, d3] }
  | _ => none }
def BlocksReachWrongFalsely : Prop := blocksReachRow.holds Try.pinned (OpenSpec.ofChange blocksReachWrong)

/-- 'ballastlaw04.BlocksNil': WHATEVER THE INPUT: true; the input reads as it did. -/
def blocksNilSpec : ChangeSpec := { name := "blocksNil", fn := fun _ => fun
  | [d] => { results := [.lit (.bool true)], args := [d] }
  | _ => none }
def blocksNilRow : OpenClaim := { program := "ytkidcbehjhlnkaa", sum := "ee0297b3e2093c229f2865d189629a4ede4415e2430117dcdb68ff3a7d1e3282", func := "ballast/ballastlaw04.BlocksNil", spec := "blocksNil", unfollowed := true, recurses := true, apart := false }
def BlocksNilSaid : Prop := blocksNilRow.holds Try.pinned (OpenSpec.ofChange blocksNilSpec)

/-- ITS FALSE NEIGHBOUR: 'it returns false'. Refute it at one input. -/
def blocksNilWrong : ChangeSpec := { name := "blocksNil", fn := fun _ => fun
  | [d] => { results := [.lit (.bool false)], args := [d] }
  | _ => none }
def BlocksNilWrongFalsely : Prop := blocksNilRow.holds Try.pinned (OpenSpec.ofChange blocksNilWrong)

/-- 'ballastlaw04.BlocksFill': WHATEVER THE INPUT: true; the input reads as it did. -/
def blocksFillSpec : ChangeSpec := { name := "blocksFill", fn := fun _ => fun
  | [d1, d2, d3] => { results := [.lit (.bool true)], args := [d1, d2, d3] }
  | _ => none }
def blocksFillRow : OpenClaim := { program := "ytkidcbehjhlnkaa", sum := "ee0297b3e2093c229f2865d189629a4ede4415e2430117dcdb68ff3a7d1e3282", func := "ballast/ballastlaw04.BlocksFill", spec := "blocksFill", unfollowed := true, recurses := true, apart := false }
def BlocksFillSaid : Prop := blocksFillRow.holds Try.pinned (OpenSpec.ofChange blocksFillSpec)

/-- ITS FALSE NEIGHBOUR: 'it returns false'. Refute it at one input. -/
def blocksFillWrong : ChangeSpec := { name := "blocksFill", fn := fun _ => fun
  | [d1, d2, d3] => { results := [.lit (.bool false)], args := [d1, d2, d3] }
  | _ => none }
def BlocksFillWrongFalsely : Prop := blocksFillRow.holds Try.pinned (OpenSpec.ofChange blocksFillWrong)

/-- 'ballastlaw04.BlocksRing': WHATEVER THE INPUT: true; the input reads as it did. -/
def blocksRingSpec : ChangeSpec := { name := "blocksRing", fn := fun _ => fun
  | [d1, d2] => { results := [.lit (.bool true)], args := [d1, d2] }
  | _ => none }
def blocksRingRow : OpenClaim := { program := "ytkidcbehjhlnkaa", sum := "ee0297b3e2093c229f2865d189629a4ede4415e2430117dcdb68ff3a7d1e3282", func := "ballast/ballastlaw04.BlocksRing", spec := "blocksRing", unfollowed := true, recurses := true, apart := false }
def BlocksRingSaid : Prop := blocksRingRow.holds Try.pinned (OpenSpec.ofChange blocksRingSpec)

/-- ITS FALSE NEIGHBOUR: 'it returns false'. Refute it at one input. -/
def blocksRingWrong : ChangeSpec := { name := "blocksRing", fn := fun _ => fun
  | [d1, d2] => { results := [.lit (.bool false)], args := [d1, d2] }
  | _ => none }
def BlocksRingWrongFalsely : Prop := blocksRingRow.holds Try.pinned (OpenSpec.ofChange blocksRingWrong)

/- THE SECOND FORM. 'bulk': how many values and letters a reading holds, each counted each time it is reached (what is shared counts as often as it is met; a slice's spare places count too). A statement '..UptoSaid' is the law's where the arguments, and the package variables that the reading takes, are together of bulk at most 1048576: NARROWER than '..Said'. Prove '..Said' where nothing that the law and all that it calls make is longer than what came in: it says more and counts as full. Else prove '..UptoSaid'. A law counts once. -/
mutual
def uptoBulk {H : Type} : DataW H → Nat
  | .lit (.string bytes) => bytes.length + 1
  | .lit _ => 1
  | .nil => 1
  | .ptr d => uptoBulk d + 1
  | .slice elems spare => uptoBulkAll elems + uptoBulkAll spare + 1
  | .agg parts => uptoBulkAll parts + 1
  | .iface _ d => uptoBulk d + 1
  | .map entries => uptoBulkEntries entries + 1
  | .held _ => 1
def uptoBulkAll {H : Type} : List (DataW H) → Nat
  | [] => 0
  | d :: r => uptoBulk d + uptoBulkAll r
def uptoBulkEntries {H : Type} : List (Lit × DataW H) → Nat
  | [] => 0
  | x :: r => uptoBulkEntry x + uptoBulkEntries r
def uptoBulkEntry {H : Type} : Lit × DataW H → Nat
  | (.string bytes, d) => bytes.length + uptoBulk d + 1
  | (_, d) => uptoBulk d + 1
 end
def uptoSmall : (H : Type) → List (DataW H) → Bool := fun _ ds => decide (uptoBulkAll ds ≤ 1048576)
def OpenSpec.upto (s : _root_.Go.ChangeSpec) : _root_.Go.OpenSpec := { _root_.Go.OpenSpec.ofChange s with cond := some uptoSmall }

/-- 'ballastlaw04.BlocksPlays', WHERE WHAT IT READS IS OF BULK AT MOST 1048576: true; the input reads as it did. -/
def blocksPlaysUptoRow : OpenClaim := { program := "ytkidcbehjhlnkaa", sum := "ee0297b3e2093c229f2865d189629a4ede4415e2430117dcdb68ff3a7d1e3282", func := "ballast/ballastlaw04.BlocksPlays", spec := "blocksPlays", unfollowed := true, recurses := true, apart := false, narrowed := true }
def BlocksPlaysUptoSaid : Prop := blocksPlaysUptoRow.holds Try.pinned (OpenSpec.upto blocksPlaysSpec)

/-- 'ballastlaw04.BlocksWalk', WHERE WHAT IT READS IS OF BULK AT MOST 1048576: true; the input reads as it did. -/
def blocksWalkUptoRow : OpenClaim := { program := "ytkidcbehjhlnkaa", sum := "ee0297b3e2093c229f2865d189629a4ede4415e2430117dcdb68ff3a7d1e3282", func := "ballast/ballastlaw04.BlocksWalk", spec := "blocksWalk", unfollowed := true, recurses := true, apart := false, narrowed := true }
def BlocksWalkUptoSaid : Prop := blocksWalkUptoRow.holds Try.pinned (OpenSpec.upto blocksWalkSpec)

/-- 'ballastlaw04.BlocksReach', WHERE WHAT IT READS IS OF BULK AT MOST 1048576: true; the input reads as it did. -/
def blocksReachUptoRow : OpenClaim := { program := "ytkidcbehjhlnkaa", sum := "ee0297b3e2093c229f2865d189629a4ede4415e2430117dcdb68ff3a7d1e3282", func := "ballast/ballastlaw04.BlocksReach", spec := "blocksReach", unfollowed := true, recurses := true, apart := false, narrowed := true }
def BlocksReachUptoSaid : Prop := blocksReachUptoRow.holds Try.pinned (OpenSpec.upto blocksReachSpec)

/-- 'ballastlaw04.BlocksNil', WHERE WHAT IT READS IS OF BULK AT MOST 1048576: true; the input reads as it did. -/
def blocksNilUptoRow : OpenClaim := { program := "ytkidcbehjhlnkaa", sum := "ee0297b3e2093c229f2865d189629a4ede4415e2430117dcdb68ff3a7d1e3282", func := "ballast/ballastlaw04.BlocksNil", spec := "blocksNil", unfollowed := true, recurses := true, apart := false, narrowed := true }
def BlocksNilUptoSaid : Prop := blocksNilUptoRow.holds Try.pinned (OpenSpec.upto blocksNilSpec)

/-- 'ballastlaw04.BlocksFill', WHERE WHAT IT READS IS OF BULK AT MOST 1048576: true; the input reads as it did. -/
def blocksFillUptoRow : OpenClaim := { program := "ytkidcbehjhlnkaa", sum := "ee0297b3e2093c229f2865d189629a4ede4415e2430117dcdb68ff3a7d1e3282", func := "ballast/ballastlaw04.BlocksFill", spec := "blocksFill", unfollowed := true, recurses := true, apart := false, narrowed := true }
def BlocksFillUptoSaid : Prop := blocksFillUptoRow.holds Try.pinned (OpenSpec.upto blocksFillSpec)

/-- 'ballastlaw04.BlocksRing', WHERE WHAT IT READS IS OF BULK AT MOST 1048576: true; the input reads as it did. -/
def blocksRingUptoRow : OpenClaim := { program := "ytkidcbehjhlnkaa", sum := "ee0297b3e2093c229f2865d189629a4ede4415e2430117dcdb68ff3a7d1e3282", func := "ballast/ballastlaw04.BlocksRing", spec := "blocksRing", unfollowed := true, recurses := true, apart := false, narrowed := true }
def BlocksRingUptoSaid : Prop := blocksRingUptoRow.holds Try.pinned (OpenSpec.upto blocksRingSpec)

end Rows
end Go.Proofs.Ytkidcbehjhlnkaa
