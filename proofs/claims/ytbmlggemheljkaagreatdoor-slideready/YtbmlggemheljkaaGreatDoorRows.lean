/-
  NARROWER THAN 'FOR EVERY INPUT', by the rows' own cells (each row's printed sentence says how): SlideMoves: laid · SlideReady: laid · SlideAsks: laid · SlideNil: laid · SlideWorkers: laid · SlideRises: laid.
  DERIVED. THE GIVEN ROWS OF THIS SEAT. 6 by the template 'for every input the law returns true; each argument reads behind the call as it read before'; 0 by the template 'total and deterministic' (their statements: YtbmlggemheljkaaGreatDoorTotals.lean).
  GIVEN WITH THE SEED: the statements are not yours to turn. If you find one false, say at which input.
  Laid BY PROGRAM, IN A SANDBOX (cutbox-rows.mjs): the forced cells as the released guide's own fill.sh prints them over the translation b045d9309eb26e21… (all of the seat's roots in one cut). By AI agents, Wed Nov 11 2026. No macro, syntax, notation, axiom, sorry.
-/
import Derived.Test.YtbmlggemheljkaaGreatDoorChecked
import GoSem.Claim
import GoSem.ClaimJoined
import GoSem.ClaimMapViews
import Derived.JoinedTies
import Derived.KernelRfl
namespace Go.Proofs.YtbmlggemheljkaaGreatDoor
/- THE CELL 'sum', in the pinned program and in every row, IS THE sha256 OF THE DUMP (.gsa) THAT YtbmlggemheljkaaGreatDoorProg.lean LOADS. Nothing in Lean hashes anything: it is a label: what it is worth is what the hold of that sum in a sandbox is worth. -/
noncomputable def Tryz.pinned : Pinned := { name := "ytbmlggemheljkaagreatdoor", sum := "b045d9309eb26e214e21e21e168ee812d1d1d7df71acd8305b2b113c937df8f7", checked := Tryz.checked }
namespace Rows
def none {H : Type} : Left H := { results := [], args := [] }

/- WHAT THE LISTED PACKAGE-LEVEL VARIABLES READ AS WHEN THE CALL BEGINS. Each datum BY PROGRAM (the guide's laid-datum.mjs) off the statement by which the dump's own 'gosem.cut.vars' lays the variable. In a bare row this is a premise. The card (YtbmlggemheljkaaGreatDoorCards.lean) ties it to the program's text. -/
def laid_math_bits_deBruijn64tab {H : Type} : DataW H := .agg [.lit (.int .u8 0), .lit (.int .u8 1), .lit (.int .u8 56), .lit (.int .u8 2), .lit (.int .u8 57), .lit (.int .u8 49), .lit (.int .u8 28), .lit (.int .u8 3), .lit (.int .u8 61), .lit (.int .u8 58), .lit (.int .u8 42), .lit (.int .u8 50), .lit (.int .u8 38), .lit (.int .u8 29), .lit (.int .u8 17), .lit (.int .u8 4), .lit (.int .u8 62), .lit (.int .u8 47), .lit (.int .u8 59), .lit (.int .u8 36), .lit (.int .u8 45), .lit (.int .u8 43), .lit (.int .u8 51), .lit (.int .u8 22), .lit (.int .u8 53), .lit (.int .u8 39), .lit (.int .u8 33), .lit (.int .u8 30), .lit (.int .u8 24), .lit (.int .u8 18), .lit (.int .u8 12), .lit (.int .u8 5), .lit (.int .u8 63), .lit (.int .u8 55), .lit (.int .u8 48), .lit (.int .u8 27), .lit (.int .u8 60), .lit (.int .u8 41), .lit (.int .u8 37), .lit (.int .u8 16), .lit (.int .u8 46), .lit (.int .u8 35), .lit (.int .u8 44), .lit (.int .u8 21), .lit (.int .u8 52), .lit (.int .u8 32), .lit (.int .u8 23), .lit (.int .u8 11), .lit (.int .u8 54), .lit (.int .u8 26), .lit (.int .u8 40), .lit (.int .u8 15), .lit (.int .u8 34), .lit (.int .u8 20), .lit (.int .u8 31), .lit (.int .u8 10), .lit (.int .u8 25), .lit (.int .u8 14), .lit (.int .u8 19), .lit (.int .u8 9), .lit (.int .u8 13), .lit (.int .u8 8), .lit (.int .u8 7), .lit (.int .u8 6)]

/-- 'ballastlaw15.SlideMoves': WHATEVER THE INPUT: true; the input reads as it did. -/
def slideMovesSpec : ChangeSpec := { name := "slideMoves", fn := fun _ => fun
  | [d1, d2] => { results := [.lit (.bool true)], args := [d1, d2] }
  | _ => none }
def slideMovesRow : OpenClaim := { program := "ytbmlggemheljkaagreatdoor", sum := "b045d9309eb26e214e21e21e168ee812d1d1d7df71acd8305b2b113c937df8f7", func := "ballast/ballastlaw15.SlideMoves", spec := "slideMoves", inPlace := ["sync/atomic.LoadInt64", "sync/atomic.AddInt64", "sync/atomic.StoreInt64"], unfollowed := true, recurses := true, named := ["math/bits.deBruijn64tab"], apart := false, laid := [("math/bits.deBruijn64tab", laid_math_bits_deBruijn64tab)] }
def SlideMovesSaid : Prop := slideMovesRow.holds Tryz.pinned (OpenSpec.ofChange slideMovesSpec)

/-- ITS FALSE NEIGHBOUR: 'it returns false'. Refute it at one input. -/
def slideMovesWrong : ChangeSpec := { name := "slideMoves", fn := fun _ => fun
  | [d1, d2] => { results := [.lit (.bool false)], args := [d1, d2] }
  | _ => none }
def SlideMovesWrongFalsely : Prop := slideMovesRow.holds Tryz.pinned (OpenSpec.ofChange slideMovesWrong)

/-- 'ballastlaw15.SlideReady': WHATEVER THE INPUT: true; the input reads as it did. -/
def slideReadySpec : ChangeSpec := { name := "slideReady", fn := fun _ => fun
  | [d1, d2] => { results := [.lit (.bool true)], args := [d1, d2] }
  | _ => none }
def slideReadyRow : OpenClaim := { program := "ytbmlggemheljkaagreatdoor", sum := "b045d9309eb26e214e21e21e168ee812d1d1d7df71acd8305b2b113c937df8f7", func := "ballast/ballastlaw15.SlideReady", spec := "slideReady", inPlace := ["sync/atomic.LoadInt64", "sync/atomic.AddInt64", "sync/atomic.StoreInt64"], unfollowed := true, recurses := true, named := ["math/bits.deBruijn64tab"], apart := false, laid := [("math/bits.deBruijn64tab", laid_math_bits_deBruijn64tab)] }
def SlideReadySaid : Prop := slideReadyRow.holds Tryz.pinned (OpenSpec.ofChange slideReadySpec)

/-- ITS FALSE NEIGHBOUR: 'it returns false'. Refute it at one input. -/
def slideReadyWrong : ChangeSpec := { name := "slideReady", fn := fun _ => fun
  | [d1, d2] => { results := [.lit (.bool false)], args := [d1, d2] }
  | _ => none }
def SlideReadyWrongFalsely : Prop := slideReadyRow.holds Tryz.pinned (OpenSpec.ofChange slideReadyWrong)

/-- 'ballastlaw15.SlideAsks': WHATEVER THE INPUT: true; the input reads as it did. -/
def slideAsksSpec : ChangeSpec := { name := "slideAsks", fn := fun _ => fun
  | [d1, d2, d3] => { results := [.lit (.bool true)], args := [d1, d2, d3] }
  | _ => none }
def slideAsksRow : OpenClaim := { program := "ytbmlggemheljkaagreatdoor", sum := "b045d9309eb26e214e21e21e168ee812d1d1d7df71acd8305b2b113c937df8f7", func := "ballast/ballastlaw15.SlideAsks", spec := "slideAsks", inPlace := ["sync/atomic.LoadInt64", "sync/atomic.AddInt64", "sync/atomic.StoreInt64"], unfollowed := true, recurses := true, named := ["math/bits.deBruijn64tab"], apart := false, laid := [("math/bits.deBruijn64tab", laid_math_bits_deBruijn64tab)] }
def SlideAsksSaid : Prop := slideAsksRow.holds Tryz.pinned (OpenSpec.ofChange slideAsksSpec)

/-- ITS FALSE NEIGHBOUR: 'it returns false'. Refute it at one input. -/
def slideAsksWrong : ChangeSpec := { name := "slideAsks", fn := fun _ => fun
  | [d1, d2, d3] => { results := [.lit (.bool false)], args := [d1, d2, d3] }
  | _ => none }
def SlideAsksWrongFalsely : Prop := slideAsksRow.holds Tryz.pinned (OpenSpec.ofChange slideAsksWrong)

/-- 'ballastlaw15.SlideNil': WHATEVER THE INPUT: true; the input reads as it did. -/
def slideNilSpec : ChangeSpec := { name := "slideNil", fn := fun _ => fun
  | [d] => { results := [.lit (.bool true)], args := [d] }
  | _ => none }
def slideNilRow : OpenClaim := { program := "ytbmlggemheljkaagreatdoor", sum := "b045d9309eb26e214e21e21e168ee812d1d1d7df71acd8305b2b113c937df8f7", func := "ballast/ballastlaw15.SlideNil", spec := "slideNil", inPlace := ["sync/atomic.LoadInt64", "sync/atomic.AddInt64", "sync/atomic.StoreInt64"], unfollowed := true, recurses := true, named := ["math/bits.deBruijn64tab"], apart := false, laid := [("math/bits.deBruijn64tab", laid_math_bits_deBruijn64tab)] }
def SlideNilSaid : Prop := slideNilRow.holds Tryz.pinned (OpenSpec.ofChange slideNilSpec)

/-- ITS FALSE NEIGHBOUR: 'it returns false'. Refute it at one input. -/
def slideNilWrong : ChangeSpec := { name := "slideNil", fn := fun _ => fun
  | [d] => { results := [.lit (.bool false)], args := [d] }
  | _ => none }
def SlideNilWrongFalsely : Prop := slideNilRow.holds Tryz.pinned (OpenSpec.ofChange slideNilWrong)

/-- 'ballastlaw15.SlideWorkers': WHATEVER THE INPUT: true; the input reads as it did. -/
def slideWorkersSpec : ChangeSpec := { name := "slideWorkers", fn := fun _ => fun
  | [d1, d2, d3] => { results := [.lit (.bool true)], args := [d1, d2, d3] }
  | _ => none }
def slideWorkersRow : OpenClaim := { program := "ytbmlggemheljkaagreatdoor", sum := "b045d9309eb26e214e21e21e168ee812d1d1d7df71acd8305b2b113c937df8f7", func := "ballast/ballastlaw15.SlideWorkers", spec := "slideWorkers", inPlace := ["sync/atomic.LoadInt64", "sync/atomic.AddInt64", "sync/atomic.StoreInt64"], unfollowed := true, recurses := true, named := ["math/bits.deBruijn64tab"], apart := false, laid := [("math/bits.deBruijn64tab", laid_math_bits_deBruijn64tab)] }
def SlideWorkersSaid : Prop := slideWorkersRow.holds Tryz.pinned (OpenSpec.ofChange slideWorkersSpec)

/-- ITS FALSE NEIGHBOUR: 'it returns false'. Refute it at one input. -/
def slideWorkersWrong : ChangeSpec := { name := "slideWorkers", fn := fun _ => fun
  | [d1, d2, d3] => { results := [.lit (.bool false)], args := [d1, d2, d3] }
  | _ => none }
def SlideWorkersWrongFalsely : Prop := slideWorkersRow.holds Tryz.pinned (OpenSpec.ofChange slideWorkersWrong)

/-- 'ballastlaw15.SlideRises': WHATEVER THE INPUT: true; the input reads as it did. -/
def slideRisesSpec : ChangeSpec := { name := "slideRises", fn := fun _ => fun
  | [d1, d2] => { results := [.lit (.bool true)], args := [d1, d2] }
  | _ => none }
def slideRisesRow : OpenClaim := { program := "ytbmlggemheljkaagreatdoor", sum := "b045d9309eb26e214e21e21e168ee812d1d1d7df71acd8305b2b113c937df8f7", func := "ballast/ballastlaw15.SlideRises", spec := "slideRises", inPlace := ["sync/atomic.LoadInt64", "sync/atomic.AddInt64", "sync/atomic.StoreInt64"], unfollowed := true, recurses := true, named := ["math/bits.deBruijn64tab"], apart := false, laid := [("math/bits.deBruijn64tab", laid_math_bits_deBruijn64tab)] }
def SlideRisesSaid : Prop := slideRisesRow.holds Tryz.pinned (OpenSpec.ofChange slideRisesSpec)

/-- ITS FALSE NEIGHBOUR: 'it returns false'. Refute it at one input. -/
def slideRisesWrong : ChangeSpec := { name := "slideRises", fn := fun _ => fun
  | [d1, d2] => { results := [.lit (.bool false)], args := [d1, d2] }
  | _ => none }
def SlideRisesWrongFalsely : Prop := slideRisesRow.holds Tryz.pinned (OpenSpec.ofChange slideRisesWrong)

/- THE SECOND FORM. 'bulk': how many values and letters a reading holds, each counted each time it is reached (what is shared counts as often as it is met; a slice's spare places count too). A statement '..UptoSaid' is the law's where the arguments, and the package variables that the reading takes, are together of bulk at most 1048576: NARROWER than '..Said'. Prove '..Said' where nothing that the law and all that it calls make is longer than what came in: it says more and counts as full. Else prove '..UptoSaid'. A law counts once. -/
mutual
def uptoBulk {H : Type} : DataW H → Nat
  | .lit (.string bytes) => bytes.length + 1
  | .lit _ => 1
  | .nil => 1
  | .ptr d => uptoBulk d + 1
  | .slice elems spare => uptoBulkAll elems + uptoBulkAll spare + 1
  | .agg parts => uptoBulkAll parts + 1
  | .iface _ d => uptoBulk d + 1
  | .map entries => uptoBulkEntries entries + 1
  | .held _ => 1
def uptoBulkAll {H : Type} : List (DataW H) → Nat
  | [] => 0
  | d :: r => uptoBulk d + uptoBulkAll r
def uptoBulkEntries {H : Type} : List (Lit × DataW H) → Nat
  | [] => 0
  | x :: r => uptoBulkEntry x + uptoBulkEntries r
def uptoBulkEntry {H : Type} : Lit × DataW H → Nat
  | (.string bytes, d) => bytes.length + uptoBulk d + 1
  | (_, d) => uptoBulk d + 1
 end
def uptoSmall : (H : Type) → List (DataW H) → Bool := fun _ ds => decide (uptoBulkAll ds ≤ 1048576)
def OpenSpec.upto (s : _root_.Go.ChangeSpec) : _root_.Go.OpenSpec := { _root_.Go.OpenSpec.ofChange s with cond := some uptoSmall }

/-- 'ballastlaw15.SlideMoves', WHERE WHAT IT READS IS OF BULK AT MOST 1048576: true; the input reads as it did. -/
def slideMovesUptoRow : OpenClaim := { program := "ytbmlggemheljkaagreatdoor", sum := "b045d9309eb26e214e21e21e168ee812d1d1d7df71acd8305b2b113c937df8f7", func := "ballast/ballastlaw15.SlideMoves", spec := "slideMoves", inPlace := ["sync/atomic.LoadInt64", "sync/atomic.AddInt64", "sync/atomic.StoreInt64"], unfollowed := true, recurses := true, named := ["math/bits.deBruijn64tab"], apart := false, laid := [("math/bits.deBruijn64tab", laid_math_bits_deBruijn64tab)], narrowed := true }
def SlideMovesUptoSaid : Prop := slideMovesUptoRow.holds Tryz.pinned (OpenSpec.upto slideMovesSpec)

/-- 'ballastlaw15.SlideReady', WHERE WHAT IT READS IS OF BULK AT MOST 1048576: true; the input reads as it did. -/
def slideReadyUptoRow : OpenClaim := { program := "ytbmlggemheljkaagreatdoor", sum := "b045d9309eb26e214e21e21e168ee812d1d1d7df71acd8305b2b113c937df8f7", func := "ballast/ballastlaw15.SlideReady", spec := "slideReady", inPlace := ["sync/atomic.LoadInt64", "sync/atomic.AddInt64", "sync/atomic.StoreInt64"], unfollowed := true, recurses := true, named := ["math/bits.deBruijn64tab"], apart := false, laid := [("math/bits.deBruijn64tab", laid_math_bits_deBruijn64tab)], narrowed := true }
def SlideReadyUptoSaid : Prop := slideReadyUptoRow.holds Tryz.pinned (OpenSpec.upto slideReadySpec)

/-- 'ballastlaw15.SlideAsks', WHERE WHAT IT READS IS OF BULK AT MOST 1048576: true; the input reads as it did. -/
def slideAsksUptoRow : OpenClaim := { program := "ytbmlggemheljkaagreatdoor", sum := "b045d9309eb26e214e21e21e168ee812d1d1d7df71acd8305b2b113c937df8f7", func := "ballast/ballastlaw15.SlideAsks", spec := "slideAsks", inPlace := ["sync/atomic.LoadInt64", "sync/atomic.AddInt64", "sync/atomic.StoreInt64"], unfollowed := true, recurses := true, named := ["math/bits.deBruijn64tab"], apart := false, laid := [("math/bits.deBruijn64tab", laid_math_bits_deBruijn64tab)], narrowed := true }
def SlideAsksUptoSaid : Prop := slideAsksUptoRow.holds Tryz.pinned (OpenSpec.upto slideAsksSpec)

/-- 'ballastlaw15.SlideNil', WHERE WHAT IT READS IS OF BULK AT MOST 1048576: true; the input reads as it did. -/
def slideNilUptoRow : OpenClaim := { program := "ytbmlggemheljkaagreatdoor", sum := "b045d9309eb26e214e21e21e168ee812d1d1d7df71acd8305b2b113c937df8f7", func := "ballast/ballastlaw15.SlideNil", spec := "slideNil", inPlace := ["sync/atomic.LoadInt64", "sync/atomic.AddInt64", "sync/atomic.StoreInt64"], unfollowed := true, recurses := true, named := ["math/bits.deBruijn64tab"], apart := false, laid := [("math/bits.deBruijn64tab", laid_math_bits_deBruijn64tab)], narrowed := true }
def SlideNilUptoSaid : Prop := slideNilUptoRow.holds Tryz.pinned (OpenSpec.upto slideNilSpec)

/-- 'ballastlaw15.SlideWorkers', WHERE WHAT IT READS IS OF BULK AT MOST 1048576: true; the input reads as it did. -/
def slideWorkersUptoRow : OpenClaim := { program := "ytbmlggemheljkaagreatdoor", sum := "b045d9309eb26e214e21e21e168ee812d1d1d7df71acd8305b2b113c937df8f7", func := "ballast/ballastlaw15.SlideWorkers", spec := "slideWorkers", inPlace := ["sync/atomic.LoadInt64", "sync/atomic.AddInt64", "sync/atomic.StoreInt64"], unfollowed := true, recurses := true, named := ["math/bits.deBruijn64tab"], apart := false, laid := [("math/bits.deBruijn64tab", laid_math_bits_deBruijn64tab)], narrowed := true }
def SlideWorkersUptoSaid : Prop := slideWorkersUptoRow.holds Tryz.pinned (OpenSpec.upto slideWorkersSpec)

/-- 'ballastlaw15.SlideRises', WHERE WHAT IT READS IS OF BULK AT MOST 1048576: true; the input reads as it did. -/
def slideRisesUptoRow : OpenClaim := { program := "ytbmlggemheljkaagreatdoor", sum := "b045d9309eb26e214e21e21e168ee812d1d1d7df71acd8305b2b113c937df8f7", func := "ballast/ballastlaw15.SlideRises", spec := "slideRises", inPlace := ["sync/atomic.LoadInt64", "sync/atomic.AddInt64", "sync/atomic.StoreInt64"], unfollowed := true, recurses := true, named := ["math/bits.deBruijn64tab"], apart := false, laid := [("math/bits.deBruijn64tab", laid_math_bits_deBruijn64tab)], narrowed := true }
def SlideRisesUptoSaid : Prop := slideRisesUptoRow.holds Tryz.pinned (OpenSpec.upto slideRisesSpec)

end Rows
end Go.Proofs.YtbmlggemheljkaaGreatDoor
