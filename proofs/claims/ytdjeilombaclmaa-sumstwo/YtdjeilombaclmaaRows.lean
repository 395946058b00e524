/-
  No cell of these rows narrows 'for every input' (looked for: loops, veiled, ifaces, maps, wideKeys, modest, calm, conditions, laid).
  DERIVED. THE GIVEN ROWS OF THIS SEAT. 6 by the template 'for every input the law returns true; each argument reads behind the call as it read before'; 0 by the template 'total and deterministic' (their statements: YtdjeilombaclmaaTotals.lean).
  GIVEN WITH THE SEED: the statements are not yours to turn. If you find one false, say at which input.
  Laid BY PROGRAM, IN A SANDBOX (cutbox-rows.mjs): the forced cells as the released guide's own fill.sh prints them over the translation cd87b6f9fe25e3a0… (all of the seat's roots in one cut). By AI agents, Wed Nov 11 2026. No macro, syntax, notation, axiom, sorry.
-/
import Derived.Test.YtdjeilombaclmaaChecked
import GoSem.Claim
import GoSem.ClaimJoined
import GoSem.ClaimMapViews
import Derived.JoinedTies
import Derived.KernelRfl
namespace Go.Proofs.Ytdjeilombaclmaa
/- THE CELL 'sum', in the pinned program and in every row, IS THE sha256 OF THE DUMP (.gsa) THAT YtdjeilombaclmaaProg.lean LOADS. Nothing in Lean hashes anything: it is a label: what it is worth is what the hold of that sum in a sandbox is worth. -/
noncomputable def Try.pinned : Pinned := { name := "ytdjeilombaclmaa", sum := "cd87b6f9fe25e3a0e9928e220fe55097ab6e5c51c1fae47f8004b07664737643", checked := Try.checked }
namespace Rows
def none {H : Type} : Left H := { results := [], args := [] }

/-- 'ballastlaw12.SumsPlain': WHATEVER THE INPUT: true; the input reads as it did. -/
def sumsPlainSpec : ChangeSpec := { name := "sumsPlain", fn := fun _ => fun
  | [d1, d2, d3] => { results := [.lit (.bool true)], args := [d1, d2, d3] }
  | _ => none }
def sumsPlainRow : OpenClaim := { program := "ytdjeilombaclmaa", sum := "cd87b6f9fe25e3a0e9928e220fe55097ab6e5c51c1fae47f8004b07664737643", func := "ballast/ballastlaw12.SumsPlain", spec := "sumsPlain", inPlace := ["sync/atomic.AddInt64"], unfollowed := true, recurses := true, apart := false }
def SumsPlainSaid : Prop := sumsPlainRow.holds Try.pinned (OpenSpec.ofChange sumsPlainSpec)

/-- ITS FALSE NEIGHBOUR: 'it returns false'. Refute it at one input. -/
def sumsPlainWrong : ChangeSpec := { name := "sumsPlain", fn := fun _ => fun
  | [d1, d2, d3] => { results := [.lit (.bool false)], args := [d1, d2, d3] }
  | _ => none }
def SumsPlainWrongFalsely : Prop := sumsPlainRow.holds Try.pinned (OpenSpec.ofChange sumsPlainWrong)

/-- 'ballastlaw12.SumsOrders': WHATEVER THE INPUT: true; the input reads as it did. -/
def sumsOrdersSpec : ChangeSpec := { name := "sumsOrders", fn := fun _ => fun
  | [d1, d2, d3] => { results := [.lit (.bool true)], args := [d1, d2, d3] }
  | _ => none }
def sumsOrdersRow : OpenClaim := { program := "ytdjeilombaclmaa", sum := "cd87b6f9fe25e3a0e9928e220fe55097ab6e5c51c1fae47f8004b07664737643", func := "ballast/ballastlaw12.SumsOrders", spec := "sumsOrders", inPlace := ["sync/atomic.AddInt64", "sync/atomic.LoadInt64"], unfollowed := true, recurses := true, apart := false }
def SumsOrdersSaid : Prop := sumsOrdersRow.holds Try.pinned (OpenSpec.ofChange sumsOrdersSpec)

/-- ITS FALSE NEIGHBOUR: 'it returns false'. Refute it at one input. -/
def sumsOrdersWrong : ChangeSpec := { name := "sumsOrders", fn := fun _ => fun
  | [d1, d2, d3] => { results := [.lit (.bool false)], args := [d1, d2, d3] }
  | _ => none }
def SumsOrdersWrongFalsely : Prop := sumsOrdersRow.holds Try.pinned (OpenSpec.ofChange sumsOrdersWrong)

/-- 'ballastlaw12.SumsNil': WHATEVER THE INPUT: true; the input reads as it did. -/
def sumsNilSpec : ChangeSpec := { name := "sumsNil", fn := fun _ => fun
  | [d] => { results := [.lit (.bool true)], args := [d] }
  | _ => none }
def sumsNilRow : OpenClaim := { program := "ytdjeilombaclmaa", sum := "cd87b6f9fe25e3a0e9928e220fe55097ab6e5c51c1fae47f8004b07664737643", func := "ballast/ballastlaw12.SumsNil", spec := "sumsNil", inPlace := ["sync/atomic.AddInt64"], unfollowed := true, recurses := true, apart := false }
def SumsNilSaid : Prop := sumsNilRow.holds Try.pinned (OpenSpec.ofChange sumsNilSpec)

/-- ITS FALSE NEIGHBOUR: 'it returns false'. Refute it at one input. -/
def sumsNilWrong : ChangeSpec := { name := "sumsNil", fn := fun _ => fun
  | [d] => { results := [.lit (.bool false)], args := [d] }
  | _ => none }
def SumsNilWrongFalsely : Prop := sumsNilRow.holds Try.pinned (OpenSpec.ofChange sumsNilWrong)

/-- 'ballastlaw12.SumsAlone': WHATEVER THE INPUT: true; the input reads as it did. -/
def sumsAloneSpec : ChangeSpec := { name := "sumsAlone", fn := fun _ => fun
  | [d1, d2] => { results := [.lit (.bool true)], args := [d1, d2] }
  | _ => none }
def sumsAloneRow : OpenClaim := { program := "ytdjeilombaclmaa", sum := "cd87b6f9fe25e3a0e9928e220fe55097ab6e5c51c1fae47f8004b07664737643", func := "ballast/ballastlaw12.SumsAlone", spec := "sumsAlone", inPlace := ["sync/atomic.AddInt64"], unfollowed := true, recurses := true, apart := false }
def SumsAloneSaid : Prop := sumsAloneRow.holds Try.pinned (OpenSpec.ofChange sumsAloneSpec)

/-- ITS FALSE NEIGHBOUR: 'it returns false'. Refute it at one input. -/
def sumsAloneWrong : ChangeSpec := { name := "sumsAlone", fn := fun _ => fun
  | [d1, d2] => { results := [.lit (.bool false)], args := [d1, d2] }
  | _ => none }
def SumsAloneWrongFalsely : Prop := sumsAloneRow.holds Try.pinned (OpenSpec.ofChange sumsAloneWrong)

/-- 'ballastlaw12.SumsShift': WHATEVER THE INPUT: true; the input reads as it did. -/
def sumsShiftSpec : ChangeSpec := { name := "sumsShift", fn := fun _ => fun
  | [d1, d2] => { results := [.lit (.bool true)], args := [d1, d2] }
  | _ => none }
def sumsShiftRow : OpenClaim := { program := "ytdjeilombaclmaa", sum := "cd87b6f9fe25e3a0e9928e220fe55097ab6e5c51c1fae47f8004b07664737643", func := "ballast/ballastlaw12.SumsShift", spec := "sumsShift", inPlace := ["sync/atomic.AddInt64"], unfollowed := true, recurses := true, apart := false }
def SumsShiftSaid : Prop := sumsShiftRow.holds Try.pinned (OpenSpec.ofChange sumsShiftSpec)

/-- ITS FALSE NEIGHBOUR: 'it returns false'. Refute it at one input. -/
def sumsShiftWrong : ChangeSpec := { name := "sumsShift", fn := fun _ => fun
  | [d1, d2] => { results := [.lit (.bool false)], args := [d1, d2] }
  | _ => none }
def SumsShiftWrongFalsely : Prop := sumsShiftRow.holds Try.pinned (OpenSpec.ofChange sumsShiftWrong)

/-- 'ballastlaw12.SumsTwo': WHATEVER THE INPUT: true; the input reads as it did. -/
def sumsTwoSpec : ChangeSpec := { name := "sumsTwo", fn := fun _ => fun
  | [d1, d2, d3] => { results := [.lit (.bool true)], args := [d1, d2, d3] }
  | _ => none }
def sumsTwoRow : OpenClaim := { program := "ytdjeilombaclmaa", sum := "cd87b6f9fe25e3a0e9928e220fe55097ab6e5c51c1fae47f8004b07664737643", func := "ballast/ballastlaw12.SumsTwo", spec := "sumsTwo", inPlace := ["sync/atomic.AddInt64"], unfollowed := true, recurses := true, apart := false }
def SumsTwoSaid : Prop := sumsTwoRow.holds Try.pinned (OpenSpec.ofChange sumsTwoSpec)

/-- ITS FALSE NEIGHBOUR: 'it returns false'. Refute it at one input. -/
def sumsTwoWrong : ChangeSpec := { name := "sumsTwo", fn := fun _ => fun
  | [d1, d2, d3] => { results := [.lit (.bool false)], args := [d1, d2, d3] }
  | _ => none }
def SumsTwoWrongFalsely : Prop := sumsTwoRow.holds Try.pinned (OpenSpec.ofChange sumsTwoWrong)

/- THE SECOND FORM. 'bulk': how many values and letters a reading holds, each counted each time it is reached (what is shared counts as often as it is met; a slice's spare places count too). A statement '..UptoSaid' is the law's where the arguments, and the package variables that the reading takes, are together of bulk at most 1048576: NARROWER than '..Said'. Prove '..Said' where nothing that the law and all that it calls make is longer than what came in: it says more and counts as full. Else prove '..UptoSaid'. A law counts once. -/
mutual
def uptoBulk {H : Type} : DataW H → Nat
  | .lit (.string bytes) => bytes.length + 1
  | .lit _ => 1
  | .nil => 1
  | .ptr d => uptoBulk d + 1
  | .slice elems spare => uptoBulkAll elems + uptoBulkAll spare + 1
  | .agg parts => uptoBulkAll parts + 1
  | .iface _ d => uptoBulk d + 1
  | .map entries => uptoBulkEntries entries + 1
  | .held _ => 1
def uptoBulkAll {H : Type} : List (DataW H) → Nat
  | [] => 0
  | d :: r => uptoBulk d + uptoBulkAll r
def uptoBulkEntries {H : Type} : List (Lit × DataW H) → Nat
  | [] => 0
  | x :: r => uptoBulkEntry x + uptoBulkEntries r
def uptoBulkEntry {H : Type} : Lit × DataW H → Nat
  | (.string bytes, d) => bytes.length + uptoBulk d + 1
  | (_, d) => uptoBulk d + 1
 end
def uptoSmall : (H : Type) → List (DataW H) → Bool := fun _ ds => decide (uptoBulkAll ds ≤ 1048576)
def OpenSpec.upto (s : _root_.Go.ChangeSpec) : _root_.Go.OpenSpec := { _root_.Go.OpenSpec.ofChange s with cond := some uptoSmall }

/-- 'ballastlaw12.SumsPlain', WHERE WHAT IT READS IS OF BULK AT MOST 1048576: true; the input reads as it did. -/
def sumsPlainUptoRow : OpenClaim := { program := "ytdjeilombaclmaa", sum := "cd87b6f9fe25e3a0e9928e220fe55097ab6e5c51c1fae47f8004b07664737643", func := "ballast/ballastlaw12.SumsPlain", spec := "sumsPlain", inPlace := ["sync/atomic.AddInt64"], unfollowed := true, recurses := true, apart := false, narrowed := true }
def SumsPlainUptoSaid : Prop := sumsPlainUptoRow.holds Try.pinned (OpenSpec.upto sumsPlainSpec)

/-- 'ballastlaw12.SumsOrders', WHERE WHAT IT READS IS OF BULK AT MOST 1048576: true; the input reads as it did. -/
def sumsOrdersUptoRow : OpenClaim := { program := "ytdjeilombaclmaa", sum := "cd87b6f9fe25e3a0e9928e220fe55097ab6e5c51c1fae47f8004b07664737643", func := "ballast/ballastlaw12.SumsOrders", spec := "sumsOrders", inPlace := ["sync/atomic.AddInt64", "sync/atomic.LoadInt64"], unfollowed := true, recurses := true, apart := false, narrowed := true }
def SumsOrdersUptoSaid : Prop := sumsOrdersUptoRow.holds Try.pinned (OpenSpec.upto sumsOrdersSpec)

/-- 'ballastlaw12.SumsNil', WHERE WHAT IT READS IS OF BULK AT MOST 1048576: true; the input reads as it did. -/
def sumsNilUptoRow : OpenClaim := { program := "ytdjeilombaclmaa", sum := "cd87b6f9fe25e3a0e9928e220fe55097ab6e5c51c1fae47f8004b07664737643", func := "ballast/ballastlaw12.SumsNil", spec := "sumsNil", inPlace := ["sync/atomic.AddInt64"], unfollowed := true, recurses := true, apart := false, narrowed := true }
def SumsNilUptoSaid : Prop := sumsNilUptoRow.holds Try.pinned (OpenSpec.upto sumsNilSpec)

/-- 'ballastlaw12.SumsAlone', WHERE WHAT IT READS IS OF BULK AT MOST 1048576: true; the input reads as it did. -/
def sumsAloneUptoRow : OpenClaim := { program := "ytdjeilombaclmaa", sum := "cd87b6f9fe25e3a0e9928e220fe55097ab6e5c51c1fae47f8004b07664737643", func := "ballast/ballastlaw12.SumsAlone", spec := "sumsAlone", inPlace := ["sync/atomic.AddInt64"], unfollowed := true, recurses := true, apart := false, narrowed := true }
def SumsAloneUptoSaid : Prop := sumsAloneUptoRow.holds Try.pinned (OpenSpec.upto sumsAloneSpec)

/-- 'ballastlaw12.SumsShift', WHERE WHAT IT READS IS OF BULK AT MOST 1048576: true; the input reads as it did. -/
def sumsShiftUptoRow : OpenClaim := { program := "ytdjeilombaclmaa", sum := "cd87b6f9fe25e3a0e9928e220fe55097ab6e5c51c1fae47f8004b07664737643", func := "ballast/ballastlaw12.SumsShift", spec := "sumsShift", inPlace := ["sync/atomic.AddInt64"], unfollowed := true, recurses := true, apart := false, narrowed := true }
def SumsShiftUptoSaid : Prop := sumsShiftUptoRow.holds Try.pinned (OpenSpec.upto sumsShiftSpec)

/-- 'ballastlaw12.SumsTwo', WHERE WHAT IT READS IS OF BULK AT MOST 1048576: true; the input reads as it did. -/
def sumsTwoUptoRow : OpenClaim := { program := "ytdjeilombaclmaa", sum := "cd87b6f9fe25e3a0e9928e220fe55097ab6e5c51c1fae47f8004b07664737643", func := "ballast/ballastlaw12.SumsTwo", spec := "sumsTwo", inPlace := ["sync/atomic.AddInt64"], unfollowed := true, recurses := true, apart := false, narrowed := true }
def SumsTwoUptoSaid : Prop := sumsTwoUptoRow.holds Try.pinned (OpenSpec.upto sumsTwoSpec)

end Rows
end Go.Proofs.Ytdjeilombaclmaa
