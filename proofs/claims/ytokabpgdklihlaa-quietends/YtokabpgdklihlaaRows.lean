/-
  No cell of these rows narrows 'for every input' (looked for: loops, veiled, ifaces, maps, wideKeys, modest, calm, conditions, laid).
  DERIVED. THE GIVEN ROWS OF THIS SEAT. 3 by the template 'for every input the law returns true; each argument reads behind the call as it read before'; 0 by the template 'total and deterministic' (their statements: YtokabpgdklihlaaTotals.lean).
  GIVEN WITH THE SEED: the statements are not yours to turn. If you find one false, say at which input.
  Laid BY PROGRAM, IN A SANDBOX (cutbox-rows.mjs): the forced cells as the released guide's own fill.sh prints them over the translation bf5c8cb32a73455a… (all of the seat's roots in one cut). By AI agents, Wed Nov 11 2026. No macro, syntax, notation, axiom, sorry.
-/
import Derived.Test.YtokabpgdklihlaaChecked
import GoSem.Claim
import GoSem.ClaimJoined
import GoSem.ClaimMapViews
import Derived.JoinedTies
import Derived.KernelRfl
namespace Go.Proofs.Ytokabpgdklihlaa
/- THE CELL 'sum', in the pinned program and in every row, IS THE sha256 OF THE DUMP (.gsa) THAT YtokabpgdklihlaaProg.lean LOADS. Nothing in Lean hashes anything: it is a label: what it is worth is what the hold of that sum in a sandbox is worth. -/
noncomputable def Try.pinned : Pinned := { name := "ytokabpgdklihlaa", sum := "bf5c8cb32a73455ac11f0988a1361d065188ca969300bd8e38438bed37dda0fe", checked := Try.checked }
namespace Rows
def none {H : Type} : Left H := { results := [], args := [] }

/-- 'ballastlaw07.QuietEnds': WHATEVER THE INPUT: true; the input reads as it did. -/
def quietEndsSpec : ChangeSpec := { name := "quietEnds", fn := fun _ => fun
  | [d1, d2, d3] => { results := [.lit (.bool true)], args := [d1, d2, d3] }
  | _ => none }
def quietEndsRow : OpenClaim := { program := "ytokabpgdklihlaa", sum := "bf5c8cb32a73455ac11f0988a1361d065188ca969300bd8e38438bed37dda0fe", func := "ballast/ballastlaw07.QuietEnds", spec := "quietEnds", inPlace := ["sync/atomic.AddInt64", "sync/atomic.LoadInt64", "sync/atomic.CompareAndSwapInt64", "sync/atomic.StoreInt64"], unfollowed := true, recurses := true, apart := false }
def QuietEndsSaid : Prop := quietEndsRow.holds Try.pinned (OpenSpec.ofChange quietEndsSpec)

/-- ITS FALSE NEIGHBOUR: 'it returns false'. Refute it at one input. -/
def quietEndsWrong : ChangeSpec := { name := "quietEnds", fn := fun _ => fun
  | [d1, d2, d3] => { results := [.lit (.bool false)], args := [d1, d2, d3] }
  | _ => none }
def QuietEndsWrongFalsely : Prop := quietEndsRow.holds Try.pinned (OpenSpec.ofChange quietEndsWrong)

/-- 'ballastlaw07.QuietWork': WHATEVER THE INPUT: true; the input reads as it did. -/
def quietWorkSpec : ChangeSpec := { name := "quietWork", fn := fun _ => fun
  | [d1, d2] => { results := [.lit (.bool true)], args := [d1, d2] }
  | _ => none }
def quietWorkRow : OpenClaim := { program := "ytokabpgdklihlaa", sum := "bf5c8cb32a73455ac11f0988a1361d065188ca969300bd8e38438bed37dda0fe", func := "ballast/ballastlaw07.QuietWork", spec := "quietWork", inPlace := ["sync/atomic.AddInt64", "sync/atomic.LoadInt64", "sync/atomic.CompareAndSwapInt64", "sync/atomic.StoreInt64"], unfollowed := true, recurses := true, apart := false }
def QuietWorkSaid : Prop := quietWorkRow.holds Try.pinned (OpenSpec.ofChange quietWorkSpec)

/-- ITS FALSE NEIGHBOUR: 'it returns false'. Refute it at one input. -/
def quietWorkWrong : ChangeSpec := { name := "quietWork", fn := fun _ => fun
  | [d1, d2] => { results := [.lit (.bool false)], args := [d1, d2] }
  | _ => none }
def QuietWorkWrongFalsely : Prop := quietWorkRow.holds Try.pinned (OpenSpec.ofChange quietWorkWrong)

/-- 'ballastlaw07.QuietAll': WHATEVER THE INPUT: true; the input reads as it did. -/
def quietAllSpec : ChangeSpec := { name := "quietAll", fn := fun _ => fun
  | [d1, d2] => { results := [.lit (.bool true)], args := [d1, d2] }
  | _ => none }
def quietAllRow : OpenClaim := { program := "ytokabpgdklihlaa", sum := "bf5c8cb32a73455ac11f0988a1361d065188ca969300bd8e38438bed37dda0fe", func := "ballast/ballastlaw07.QuietAll", spec := "quietAll", inPlace := ["sync/atomic.AddInt64", "sync/atomic.LoadInt64"], unfollowed := true, recurses := true, apart := false }
def QuietAllSaid : Prop := quietAllRow.holds Try.pinned (OpenSpec.ofChange quietAllSpec)

/-- ITS FALSE NEIGHBOUR: 'it returns false'. Refute it at one input. -/
def quietAllWrong : ChangeSpec := { name := "quietAll", fn := fun _ => fun
  | [d1, d2] => { results := [.lit (.bool false)], args := [d1, d2] }
  | _ => none }
def QuietAllWrongFalsely : Prop := quietAllRow.holds Try.pinned (OpenSpec.ofChange quietAllWrong)

/- THE SECOND FORM. 'bulk': how many values and letters a reading holds, each counted each time it is reached (what is shared counts as often as it is met; a slice's spare places count too). A statement '..UptoSaid' is the law's where the arguments, and the package variables that the reading takes, are together of bulk at most 1048576: NARROWER than '..Said'. Prove '..Said' where nothing that the law and all that it calls make is longer than what came in: it says more and counts as full. Else prove '..UptoSaid'. A law counts once. -/
mutual
def uptoBulk {H : Type} : DataW H → Nat
  | .lit (.string bytes) => bytes.length + 1
  | .lit _ => 1
  | .nil => 1
  | .ptr d => uptoBulk d + 1
  | .slice elems spare => uptoBulkAll elems + uptoBulkAll spare + 1
  | .agg parts => uptoBulkAll parts + 1
  | .iface _ d => uptoBulk d + 1
  | .map entries => uptoBulkEntries entries + 1
  | .held _ => 1
def uptoBulkAll {H : Type} : List (DataW H) → Nat
  | [] => 0
  | d :: r => uptoBulk d + uptoBulkAll r
def uptoBulkEntries {H : Type} : List (Lit × DataW H) → Nat
  | [] => 0
  | x :: r => uptoBulkEntry x + uptoBulkEntries r
def uptoBulkEntry {H : Type} : Lit × DataW H → Nat
  | (.string bytes, d) => bytes.length + uptoBulk d + 1
  | (_, d) => uptoBulk d + 1
 end
def uptoSmall : (H : Type) → List (DataW H) → Bool := fun _ ds => decide (uptoBulkAll ds ≤ 1048576)
def OpenSpec.upto (s : _root_.Go.ChangeSpec) : _root_.Go.OpenSpec := { _root_.Go.OpenSpec.ofChange s with cond := some uptoSmall }

/-- 'ballastlaw07.QuietEnds', WHERE WHAT IT READS IS OF BULK AT MOST 1048576: true; the input reads as it did. -/
def quietEndsUptoRow : OpenClaim := { program := "ytokabpgdklihlaa", sum := "bf5c8cb32a73455ac11f0988a1361d065188ca969300bd8e38438bed37dda0fe", func := "ballast/ballastlaw07.QuietEnds", spec := "quietEnds", inPlace := ["sync/atomic.AddInt64", "sync/atomic.LoadInt64", "sync/atomic.CompareAndSwapInt64", "sync/atomic.StoreInt64"], unfollowed := true, recurses := true, apart := false, narrowed := true }
def QuietEndsUptoSaid : Prop := quietEndsUptoRow.holds Try.pinned (OpenSpec.upto quietEndsSpec)

/-- 'ballastlaw07.QuietWork', WHERE WHAT IT READS IS OF BULK AT MOST 1048576: true; the input reads as it did. -/
def quietWorkUptoRow : OpenClaim := { program := "ytokabpgdklihlaa", sum := "bf5c8cb32a73455ac11f0988a1361d065188ca969300bd8e38438bed37dda0fe", func := "ballast/ballastlaw07.QuietWork", spec := "quietWork", inPlace := ["sync/atomic.AddInt64", "sync/atomic.LoadInt64", "sync/atomic.CompareAndSwapInt64", "sync/atomic.StoreInt64"], unfollowed := true, recurses := true, apart := false, narrowed := true }
def QuietWorkUptoSaid : Prop := quietWorkUptoRow.holds Try.pinned (OpenSpec.upto quietWorkSpec)

/-- 'ballastlaw07.QuietAll', WHERE WHAT IT READS IS OF BULK AT MOST 1048576: true; the input reads as it did. -/
def quietAllUptoRow : OpenClaim := { program := "ytokabpgdklihlaa", sum := "bf5c8cb32a73455ac11f0988a1361d065188ca969300bd8e38438bed37dda0fe", func := "ballast/ballastlaw07.QuietAll", spec := "quietAll", inPlace := ["sync/atomic.AddInt64", "sync/atomic.LoadInt64"], unfollowed := true, recurses := true, apart := false, narrowed := true }
def QuietAllUptoSaid : Prop := quietAllUptoRow.holds Try.pinned (OpenSpec.upto quietAllSpec)

end Rows
end Go.Proofs.Ytokabpgdklihlaa
