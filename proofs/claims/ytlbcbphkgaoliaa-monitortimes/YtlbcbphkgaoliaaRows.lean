/-
  No cell of these rows narrows 'for every input' (looked for: loops, veiled, ifaces, maps, wideKeys, modest, calm, conditions, laid).
  DERIVED. THE GIVEN ROWS OF THIS SEAT. 6 by the template 'for every input the law returns true; each argument reads behind the call as it read before'; 0 by the template 'total and deterministic' (their statements: YtlbcbphkgaoliaaTotals.lean).
  GIVEN WITH THE SEED: the statements are not yours to turn. If you find one false, say at which input.
  Laid BY PROGRAM, IN A SANDBOX (cutbox-rows.mjs): the forced cells as the released guide's own fill.sh prints them over the translation c5abd4387069eccd… (all of the seat's roots in one cut). By AI agents, Wed Nov 11 2026. No macro, syntax, notation, axiom, sorry.
-/
import Derived.Test.YtlbcbphkgaoliaaChecked
import GoSem.Claim
import GoSem.ClaimJoined
import GoSem.ClaimMapViews
import Derived.JoinedTies
import Derived.KernelRfl
namespace Go.Proofs.Ytlbcbphkgaoliaa
/- THE CELL 'sum', in the pinned program and in every row, IS THE sha256 OF THE DUMP (.gsa) THAT YtlbcbphkgaoliaaProg.lean LOADS. Nothing in Lean hashes anything: it is a label: what it is worth is what the hold of that sum in a sandbox is worth. -/
noncomputable def Try.pinned : Pinned := { name := "ytlbcbphkgaoliaa", sum := "c5abd4387069eccd9522332e75459a7e54d51f06412b863662e8c854404fc295", checked := Try.checked }
namespace Rows
def none {H : Type} : Left H := { results := [], args := [] }

/-- 'ballastlaw17.MonitorPlays': WHATEVER THE INPUT: true; the input reads as it did. -/
def monitorPlaysSpec : ChangeSpec := { name := "monitorPlays", fn := fun _ => fun
  | [d] => { results := [.lit (.bool true)], args := [d] }
  | _ => none }
def monitorPlaysRow : OpenClaim := { program := "ytlbcbphkgaoliaa", sum := "c5abd4387069eccd9522332e75459a7e54d51f06412b863662e8c854404fc295", func := "ballast/ballastlaw17.MonitorPlays", spec := "monitorPlays", unfollowed := true, recurses := true, apart := false }
def MonitorPlaysSaid : Prop := monitorPlaysRow.holds Try.pinned (OpenSpec.ofChange monitorPlaysSpec)

/-- ITS FALSE NEIGHBOUR: 'it returns false'. Refute it at one input. -/
def monitorPlaysWrong : ChangeSpec := { name := "monitorPlays", fn := fun _ => fun
  | [d] => { results := [.lit (.bool false)], args := [d] }
  | _ => none }
def MonitorPlaysWrongFalsely : Prop := monitorPlaysRow.holds Try.pinned (OpenSpec.ofChange monitorPlaysWrong)

/-- 'ballastlaw17.MonitorOne': WHATEVER THE INPUT: true; the input reads as it did. -/
def monitorOneSpec : ChangeSpec := { name := "monitorOne", fn := fun _ => fun
  | [d] => { results := [.lit (.bool true)], args := [d] }
  | _ => none }
def monitorOneRow : OpenClaim := { program := "ytlbcbphkgaoliaa", sum := "c5abd4387069eccd9522332e75459a7e54d51f06412b863662e8c854404fc295", func := "ballast/ballastlaw17.MonitorOne", spec := "monitorOne", unfollowed := true, recurses := true, apart := false }
def MonitorOneSaid : Prop := monitorOneRow.holds Try.pinned (OpenSpec.ofChange monitorOneSpec)

/-- ITS FALSE NEIGHBOUR: 'it returns false'. Refute it at one input. -/
def monitorOneWrong : ChangeSpec := { name := "monitorOne", fn := fun _ => fun
  | [d] => { results := [.lit (.bool false)], args := [d] }
  | _ => none }
def MonitorOneWrongFalsely : Prop := monitorOneRow.holds Try.pinned (OpenSpec.ofChange monitorOneWrong)

/-- 'ballastlaw17.MonitorMoves': WHATEVER THE INPUT: true; the input reads as it did. -/
def monitorMovesSpec : ChangeSpec := { name := "monitorMoves", fn := fun _ => fun
  | [d1, d2] => { results := [.lit (.bool true)], args := [d1, d2] }
  | _ => none }
def monitorMovesRow : OpenClaim := { program := "ytlbcbphkgaoliaa", sum := "c5abd4387069eccd9522332e75459a7e54d51f06412b863662e8c854404fc295", func := "ballast/ballastlaw17.MonitorMoves", spec := "monitorMoves", unfollowed := true, recurses := true, apart := false }
def MonitorMovesSaid : Prop := monitorMovesRow.holds Try.pinned (OpenSpec.ofChange monitorMovesSpec)

/-- ITS FALSE NEIGHBOUR: 'it returns false'. Refute it at one input. -/
def monitorMovesWrong : ChangeSpec := { name := "monitorMoves", fn := fun _ => fun
  | [d1, d2] => { results := [.lit (.bool false)], args := [d1, d2] }
  | _ => none }
def MonitorMovesWrongFalsely : Prop := monitorMovesRow.holds Try.pinned (OpenSpec.ofChange monitorMovesWrong)

/-- 'ballastlaw17.MonitorNil': WHATEVER THE INPUT: true; the input reads as it did. -/
def monitorNilSpec : ChangeSpec := { name := "monitorNil", fn := fun _ => fun
  | [d] => { results := [.lit (.bool true)], args := [d] }
  | _ => none }
def monitorNilRow : OpenClaim := { program := "ytlbcbphkgaoliaa", sum := "c5abd4387069eccd9522332e75459a7e54d51f06412b863662e8c854404fc295", func := "ballast/ballastlaw17.MonitorNil", spec := "monitorNil", unfollowed := true, recurses := true, apart := false }
def MonitorNilSaid : Prop := monitorNilRow.holds Try.pinned (OpenSpec.ofChange monitorNilSpec)

/-- ITS FALSE NEIGHBOUR: 'it returns false'. Refute it at one input. -/
def monitorNilWrong : ChangeSpec := { name := "monitorNil", fn := fun _ => fun
  | [d] => { results := [.lit (.bool false)], args := [d] }
  | _ => none }
def MonitorNilWrongFalsely : Prop := monitorNilRow.holds Try.pinned (OpenSpec.ofChange monitorNilWrong)

/-- 'ballastlaw17.MonitorTimes': WHATEVER THE INPUT: true; the input reads as it did. -/
def monitorTimesSpec : ChangeSpec := { name := "monitorTimes", fn := fun _ => fun
  | [d1, d2] => { results := [.lit (.bool true)], args := [d1, d2] }
  | _ => none }
def monitorTimesRow : OpenClaim := { program := "ytlbcbphkgaoliaa", sum := "c5abd4387069eccd9522332e75459a7e54d51f06412b863662e8c854404fc295", func := "ballast/ballastlaw17.MonitorTimes", spec := "monitorTimes", unfollowed := true, recurses := true, apart := false }
def MonitorTimesSaid : Prop := monitorTimesRow.holds Try.pinned (OpenSpec.ofChange monitorTimesSpec)

/-- ITS FALSE NEIGHBOUR: 'it returns false'. Refute it at one input. -/
def monitorTimesWrong : ChangeSpec := { name := "monitorTimes", fn := fun _ => fun
  | [d1, d2] => { results := [.lit (.bool false)], args := [d1, d2] }
  | _ => none }
def MonitorTimesWrongFalsely : Prop := monitorTimesRow.holds Try.pinned (OpenSpec.ofChange monitorTimesWrong)

/-- 'ballastlaw17.MonitorLine': WHATEVER THE INPUT: true; the input reads as it did. -/
def monitorLineSpec : ChangeSpec := { name := "monitorLine", fn := fun _ => fun
  | [d1, d2] => { results := [.lit (.bool true)], args := [d1, d2] }
  | _ => none }
def monitorLineRow : OpenClaim := { program := "ytlbcbphkgaoliaa", sum := "c5abd4387069eccd9522332e75459a7e54d51f06412b863662e8c854404fc295", func := "ballast/ballastlaw17.MonitorLine", spec := "monitorLine", unfollowed := true, recurses := true, apart := false }
def MonitorLineSaid : Prop := monitorLineRow.holds Try.pinned (OpenSpec.ofChange monitorLineSpec)

/-- ITS FALSE NEIGHBOUR: 'it returns false'. Refute it at one input. -/
def monitorLineWrong : ChangeSpec := { name := "monitorLine", fn := fun _ => fun
  | [d1, d2] => { results := [.lit (.bool false)], args := [d1, d2] }
  | _ => none }
def MonitorLineWrongFalsely : Prop := monitorLineRow.holds Try.pinned (OpenSpec.ofChange monitorLineWrong)

/- THE SECOND FORM. 'bulk': how many values and letters a reading holds, each counted each time it is reached (what is shared counts as often as it is met; a slice's spare places count too). A statement '..UptoSaid' is the law's where the arguments, and the package variables that the reading takes, are together of bulk at most 1048576: NARROWER than '..Said'. Prove '..Said' where nothing that the law and all that it calls make is longer than what came in: it says more and counts as full. Else prove '..UptoSaid'. A law counts once. -/
mutual
def uptoBulk {H : Type} : DataW H → Nat
  | .lit (.string bytes) => bytes.length + 1
  | .lit _ => 1
  | .nil => 1
  | .ptr d => uptoBulk d + 1
  | .slice elems spare => uptoBulkAll elems + uptoBulkAll spare + 1
  | .agg parts => uptoBulkAll parts + 1
  | .iface _ d => uptoBulk d + 1
  | .map entries => uptoBulkEntries entries + 1
  | .held _ => 1
def uptoBulkAll {H : Type} : List (DataW H) → Nat
  | [] => 0
  | d :: r => uptoBulk d + uptoBulkAll r
def uptoBulkEntries {H : Type} : List (Lit × DataW H) → Nat
  | [] => 0
  | x :: r => uptoBulkEntry x + uptoBulkEntries r
def uptoBulkEntry {H : Type} : Lit × DataW H → Nat
  | (.string bytes, d) => bytes.length + uptoBulk d + 1
  | (_, d) => uptoBulk d + 1
 end
def uptoSmall : (H : Type) → List (DataW H) → Bool := fun _ ds => decide (uptoBulkAll ds ≤ 1048576)
def OpenSpec.upto (s : _root_.Go.ChangeSpec) : _root_.Go.OpenSpec := { _root_.Go.OpenSpec.ofChange s with cond := some uptoSmall }

/-- 'ballastlaw17.MonitorPlays', WHERE WHAT IT READS IS OF BULK AT MOST 1048576: true; the input reads as it did. -/
def monitorPlaysUptoRow : OpenClaim := { program := "ytlbcbphkgaoliaa", sum := "c5abd4387069eccd9522332e75459a7e54d51f06412b863662e8c854404fc295", func := "ballast/ballastlaw17.MonitorPlays", spec := "monitorPlays", unfollowed := true, recurses := true, apart := false, narrowed := true }
def MonitorPlaysUptoSaid : Prop := monitorPlaysUptoRow.holds Try.pinned (OpenSpec.upto monitorPlaysSpec)

/-- 'ballastlaw17.MonitorOne', WHERE WHAT IT READS IS OF BULK AT MOST 1048576: true; the input reads as it did. -/
def monitorOneUptoRow : OpenClaim := { program := "ytlbcbphkgaoliaa", sum := "c5abd4387069eccd9522332e75459a7e54d51f06412b863662e8c854404fc295", func := "ballast/ballastlaw17.MonitorOne", spec := "monitorOne", unfollowed := true, recurses := true, apart := false, narrowed := true }
def MonitorOneUptoSaid : Prop := monitorOneUptoRow.holds Try.pinned (OpenSpec.upto monitorOneSpec)

/-- 'ballastlaw17.MonitorMoves', WHERE WHAT IT READS IS OF BULK AT MOST 1048576: true; the input reads as it did. -/
def monitorMovesUptoRow : OpenClaim := { program := "ytlbcbphkgaoliaa", sum := "c5abd4387069eccd9522332e75459a7e54d51f06412b863662e8c854404fc295", func := "ballast/ballastlaw17.MonitorMoves", spec := "monitorMoves", unfollowed := true, recurses := true, apart := false, narrowed := true }
def MonitorMovesUptoSaid : Prop := monitorMovesUptoRow.holds Try.pinned (OpenSpec.upto monitorMovesSpec)

/-- 'ballastlaw17.MonitorNil', WHERE WHAT IT READS IS OF BULK AT MOST 1048576: true; the input reads as it did. -/
def monitorNilUptoRow : OpenClaim := { program := "ytlbcbphkgaoliaa", sum := "c5abd4387069eccd9522332e75459a7e54d51f06412b863662e8c854404fc295", func := "ballast/ballastlaw17.MonitorNil", spec := "monitorNil", unfollowed := true, recurses := true, apart := false, narrowed := true }
def MonitorNilUptoSaid : Prop := monitorNilUptoRow.holds Try.pinned (OpenSpec.upto monitorNilSpec)

/-- 'ballastlaw17.MonitorTimes', WHERE WHAT IT READS IS OF BULK AT MOST 1048576: true; the input reads as it did. -/
def monitorTimesUptoRow : OpenClaim := { program := "ytlbcbphkgaoliaa", sum := "c5abd4387069eccd9522332e75459a7e54d51f06412b863662e8c854404fc295", func := "ballast/ballastlaw17.MonitorTimes", spec := "monitorTimes", unfollowed := true, recurses := true, apart := false, narrowed := true }
def MonitorTimesUptoSaid : Prop := monitorTimesUptoRow.holds Try.pinned (OpenSpec.upto monitorTimesSpec)

/-- 'ballastlaw17.MonitorLine', WHERE WHAT IT READS IS OF BULK AT MOST 1048576: true; the input reads as it did. -/
def monitorLineUptoRow : OpenClaim := { program := "ytlbcbphkgaoliaa", sum := "c5abd4387069eccd9522332e75459a7e54d51f06412b863662e8c854404fc295", func := "ballast/ballastlaw17.MonitorLine", spec := "monitorLine", unfollowed := true, recurses := true, apart := false, narrowed := true }
def MonitorLineUptoSaid : Prop := monitorLineUptoRow.holds Try.pinned (OpenSpec.upto monitorLineSpec)

end Rows
end Go.Proofs.Ytlbcbphkgaoliaa
