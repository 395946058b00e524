/-
  No cell of these rows narrows 'for every input' (looked for: loops, veiled, ifaces, maps, wideKeys, modest, calm, conditions, laid).
  DERIVED. THE GIVEN ROWS OF THIS SEAT. 5 by the template 'for every input the law returns true; each argument reads behind the call as it read before'; 0 by the template 'total and deterministic' (their statements: YtdhfggdmlhgdoaaTotals.lean).
  GIVEN WITH THE SEED: the statements are not yours to turn. If you find one false, say at which input.
  Laid BY PROGRAM, IN A SANDBOX (cutbox-rows.mjs): the forced cells as the released guide's own fill.sh prints them over the translation 986e09a90d03eb75… (all of the seat's roots in one cut). By AI agents, Wed Nov 11 2026. No macro, syntax, notation, axiom, sorry.
-/
import Derived.Test.YtdhfggdmlhgdoaaChecked
import GoSem.Claim
import GoSem.ClaimJoined
import GoSem.ClaimMapViews
import Derived.JoinedTies
import Derived.KernelRfl
namespace Go.Proofs.Ytdhfggdmlhgdoaa
/- THE CELL 'sum', in the pinned program and in every row, IS THE sha256 OF THE DUMP (.gsa) THAT YtdhfggdmlhgdoaaProg.lean LOADS. Nothing in Lean hashes anything: it is a label: what it is worth is what the hold of that sum in a sandbox is worth. -/
noncomputable def Try.pinned : Pinned := { name := "ytdhfggdmlhgdoaa", sum := "986e09a90d03eb75f2566d693f86ceda3affa64090861805954b3cc314b0c158", checked := Try.checked }
namespace Rows
def none {H : Type} : Left H := { results := [], args := [] }

/-- 'ballastlaw06.DequePlays': WHATEVER THE INPUT: true; the input reads as it did. -/
def dequePlaysSpec : ChangeSpec := { name := "dequePlays", fn := fun _ => fun
  | [d1, d2] => { results := [.lit (.bool true)], args := [d1, d2] }
  | _ => none }
def dequePlaysRow : OpenClaim := { program := "ytdhfggdmlhgdoaa", sum := "986e09a90d03eb75f2566d693f86ceda3affa64090861805954b3cc314b0c158", func := "ballast/ballastlaw06.DequePlays", spec := "dequePlays", inPlace := ["sync/atomic.LoadInt64", "sync/atomic.AddInt64", "sync/atomic.CompareAndSwapInt64", "sync/atomic.StoreInt64"], unfollowed := true, recurses := true, apart := false }
def DequePlaysSaid : Prop := dequePlaysRow.holds Try.pinned (OpenSpec.ofChange dequePlaysSpec)

/-- ITS FALSE NEIGHBOUR: 'it returns false'. Refute it at one input. -/
def dequePlaysWrong : ChangeSpec := { name := "dequePlays", fn := fun _ => fun
  | [d1, d2] => { results := [.lit (.bool false)], args := [d1, d2] }
  | _ => none }
def DequePlaysWrongFalsely : Prop := dequePlaysRow.holds Try.pinned (OpenSpec.ofChange dequePlaysWrong)

/-- 'ballastlaw06.DequeOrder': WHATEVER THE INPUT: true; the input reads as it did. -/
def dequeOrderSpec : ChangeSpec := { name := "dequeOrder", fn := fun _ => fun
  | [d1, d2, d3] => { results := [.lit (.bool true)], args := [d1, d2, d3] }
  | _ => none }
def dequeOrderRow : OpenClaim := { program := "ytdhfggdmlhgdoaa", sum := "986e09a90d03eb75f2566d693f86ceda3affa64090861805954b3cc314b0c158", func := "ballast/ballastlaw06.DequeOrder", spec := "dequeOrder", inPlace := ["sync/atomic.LoadInt64", "sync/atomic.AddInt64", "sync/atomic.CompareAndSwapInt64", "sync/atomic.StoreInt64"], unfollowed := true, recurses := true, apart := false }
def DequeOrderSaid : Prop := dequeOrderRow.holds Try.pinned (OpenSpec.ofChange dequeOrderSpec)

/-- ITS FALSE NEIGHBOUR: 'it returns false'. Refute it at one input. -/
def dequeOrderWrong : ChangeSpec := { name := "dequeOrder", fn := fun _ => fun
  | [d1, d2, d3] => { results := [.lit (.bool false)], args := [d1, d2, d3] }
  | _ => none }
def DequeOrderWrongFalsely : Prop := dequeOrderRow.holds Try.pinned (OpenSpec.ofChange dequeOrderWrong)

/-- 'ballastlaw06.DequeTwo': WHATEVER THE INPUT: true; the input reads as it did. -/
def dequeTwoSpec : ChangeSpec := { name := "dequeTwo", fn := fun _ => fun
  | [d1, d2] => { results := [.lit (.bool true)], args := [d1, d2] }
  | _ => none }
def dequeTwoRow : OpenClaim := { program := "ytdhfggdmlhgdoaa", sum := "986e09a90d03eb75f2566d693f86ceda3affa64090861805954b3cc314b0c158", func := "ballast/ballastlaw06.DequeTwo", spec := "dequeTwo", inPlace := ["sync/atomic.LoadInt64", "sync/atomic.AddInt64", "sync/atomic.CompareAndSwapInt64", "sync/atomic.StoreInt64"], unfollowed := true, recurses := true, apart := false }
def DequeTwoSaid : Prop := dequeTwoRow.holds Try.pinned (OpenSpec.ofChange dequeTwoSpec)

/-- ITS FALSE NEIGHBOUR: 'it returns false'. Refute it at one input. -/
def dequeTwoWrong : ChangeSpec := { name := "dequeTwo", fn := fun _ => fun
  | [d1, d2] => { results := [.lit (.bool false)], args := [d1, d2] }
  | _ => none }
def DequeTwoWrongFalsely : Prop := dequeTwoRow.holds Try.pinned (OpenSpec.ofChange dequeTwoWrong)

/-- 'ballastlaw06.DequeThieves': WHATEVER THE INPUT: true; the input reads as it did. -/
def dequeThievesSpec : ChangeSpec := { name := "dequeThieves", fn := fun _ => fun
  | [d1, d2] => { results := [.lit (.bool true)], args := [d1, d2] }
  | _ => none }
def dequeThievesRow : OpenClaim := { program := "ytdhfggdmlhgdoaa", sum := "986e09a90d03eb75f2566d693f86ceda3affa64090861805954b3cc314b0c158", func := "ballast/ballastlaw06.DequeThieves", spec := "dequeThieves", inPlace := ["sync/atomic.LoadInt64", "sync/atomic.AddInt64", "sync/atomic.CompareAndSwapInt64", "sync/atomic.StoreInt64"], unfollowed := true, recurses := true, apart := false }
def DequeThievesSaid : Prop := dequeThievesRow.holds Try.pinned (OpenSpec.ofChange dequeThievesSpec)

/-- ITS FALSE NEIGHBOUR: 'it returns false'. Refute it at one input. -/
def dequeThievesWrong : ChangeSpec := { name := "dequeThieves", fn := fun _ => fun
  | [d1, d2] => { results := [.lit (.bool false)], args := [d1, d2] }
  | _ => none }
def DequeThievesWrongFalsely : Prop := dequeThievesRow.holds Try.pinned (OpenSpec.ofChange dequeThievesWrong)

/-- 'ballastlaw06.DequeFree': WHATEVER THE INPUT: true; the input reads as it did. -/
def dequeFreeSpec : ChangeSpec := { name := "dequeFree", fn := fun _ => fun
  | [d1, d2] => { results := [.lit (.bool true)], args := [d1, d2] }
  | _ => none }
def dequeFreeRow : OpenClaim := { program := "ytdhfggdmlhgdoaa", sum := "986e09a90d03eb75f2566d693f86ceda3affa64090861805954b3cc314b0c158", func := "ballast/ballastlaw06.DequeFree", spec := "dequeFree", inPlace := ["sync/atomic.LoadInt64", "sync/atomic.AddInt64", "sync/atomic.CompareAndSwapInt64", "sync/atomic.StoreInt64"], unfollowed := true, recurses := true, apart := false }
def DequeFreeSaid : Prop := dequeFreeRow.holds Try.pinned (OpenSpec.ofChange dequeFreeSpec)

/-- ITS FALSE NEIGHBOUR: 'it returns false'. Refute it at one input. -/
def dequeFreeWrong : ChangeSpec := { name := "dequeFree", fn := fun _ => fun
  | [d1, d2] => { results := [.lit (.bool false)], args := [d1, d2] }
  | _ => none }
def DequeFreeWrongFalsely : Prop := dequeFreeRow.holds Try.pinned (OpenSpec.ofChange dequeFreeWrong)

/- THE SECOND FORM. 'bulk': how many values and letters a reading holds, each counted each time it is reached (what is shared counts as often as it is met; a slice's spare places count too). A statement '..UptoSaid' is the law's where the arguments, and the package variables that the reading takes, are together of bulk at most 1048576: NARROWER than '..Said'. Prove '..Said' where nothing that the law and all that it calls make is longer than what came in: it says more and counts as full. Else prove '..UptoSaid'. A law counts once. -/
mutual
def uptoBulk {H : Type} : DataW H → Nat
  | .lit (.string bytes) => bytes.length + 1
  | .lit _ => 1
  | .nil => 1
  | .ptr d => uptoBulk d + 1
  | .slice elems spare => uptoBulkAll elems + uptoBulkAll spare + 1
  | .agg parts => uptoBulkAll parts + 1
  | .iface _ d => uptoBulk d + 1
  | .map entries => uptoBulkEntries entries + 1
  | .held _ => 1
def uptoBulkAll {H : Type} : List (DataW H) → Nat
  | [] => 0
  | d :: r => uptoBulk d + uptoBulkAll r
def uptoBulkEntries {H : Type} : List (Lit × DataW H) → Nat
  | [] => 0
  | x :: r => uptoBulkEntry x + uptoBulkEntries r
def uptoBulkEntry {H : Type} : Lit × DataW H → Nat
  | (.string bytes, d) => bytes.length + uptoBulk d + 1
  | (_, d) => uptoBulk d + 1
 end
def uptoSmall : (H : Type) → List (DataW H) → Bool := fun _ ds => decide (uptoBulkAll ds ≤ 1048576)
def OpenSpec.upto (s : _root_.Go.ChangeSpec) : _root_.Go.OpenSpec := { _root_.Go.OpenSpec.ofChange s with cond := some uptoSmall }

/-- 'ballastlaw06.DequePlays', WHERE WHAT IT READS IS OF BULK AT MOST 1048576: true; the input reads as it did. -/
def dequePlaysUptoRow : OpenClaim := { program := "ytdhfggdmlhgdoaa", sum := "986e09a90d03eb75f2566d693f86ceda3affa64090861805954b3cc314b0c158", func := "ballast/ballastlaw06.DequePlays", spec := "dequePlays", inPlace := ["sync/atomic.LoadInt64", "sync/atomic.AddInt64", "sync/atomic.CompareAndSwapInt64", "sync/atomic.StoreInt64"], unfollowed := true, recurses := true, apart := false, narrowed := true }
def DequePlaysUptoSaid : Prop := dequePlaysUptoRow.holds Try.pinned (OpenSpec.upto dequePlaysSpec)

/-- 'ballastlaw06.DequeOrder', WHERE WHAT IT READS IS OF BULK AT MOST 1048576: true; the input reads as it did. -/
def dequeOrderUptoRow : OpenClaim := { program := "ytdhfggdmlhgdoaa", sum := "986e09a90d03eb75f2566d693f86ceda3affa64090861805954b3cc314b0c158", func := "ballast/ballastlaw06.DequeOrder", spec := "dequeOrder", inPlace := ["sync/atomic.LoadInt64", "sync/atomic.AddInt64", "sync/atomic.CompareAndSwapInt64", "sync/atomic.StoreInt64"], unfollowed := true, recurses := true, apart := false, narrowed := true }
def DequeOrderUptoSaid : Prop := dequeOrderUptoRow.holds Try.pinned (OpenSpec.upto dequeOrderSpec)

/-- 'ballastlaw06.DequeTwo', WHERE WHAT IT READS IS OF BULK AT MOST 1048576: true; the input reads as it did. -/
def dequeTwoUptoRow : OpenClaim := { program := "ytdhfggdmlhgdoaa", sum := "986e09a90d03eb75f2566d693f86ceda3affa64090861805954b3cc314b0c158", func := "ballast/ballastlaw06.DequeTwo", spec := "dequeTwo", inPlace := ["sync/atomic.LoadInt64", "sync/atomic.AddInt64", "sync/atomic.CompareAndSwapInt64", "sync/atomic.StoreInt64"], unfollowed := true, recurses := true, apart := false, narrowed := true }
def DequeTwoUptoSaid : Prop := dequeTwoUptoRow.holds Try.pinned (OpenSpec.upto dequeTwoSpec)

/-- 'ballastlaw06.DequeThieves', WHERE WHAT IT READS IS OF BULK AT MOST 1048576: true; the input reads as it did. -/
def dequeThievesUptoRow : OpenClaim := { program := "ytdhfggdmlhgdoaa", sum := "986e09a90d03eb75f2566d693f86ceda3affa64090861805954b3cc314b0c158", func := "ballast/ballastlaw06.DequeThieves", spec := "dequeThieves", inPlace := ["sync/atomic.LoadInt64", "sync/atomic.AddInt64", "sync/atomic.CompareAndSwapInt64", "sync/atomic.StoreInt64"], unfollowed := true, recurses := true, apart := false, narrowed := true }
def DequeThievesUptoSaid : Prop := dequeThievesUptoRow.holds Try.pinned (OpenSpec.upto dequeThievesSpec)

/-- 'ballastlaw06.DequeFree', WHERE WHAT IT READS IS OF BULK AT MOST 1048576: true; the input reads as it did. -/
def dequeFreeUptoRow : OpenClaim := { program := "ytdhfggdmlhgdoaa", sum := "986e09a90d03eb75f2566d693f86ceda3affa64090861805954b3cc314b0c158", func := "ballast/ballastlaw06.DequeFree", spec := "dequeFree", inPlace := ["sync/atomic.LoadInt64", "sync/atomic.AddInt64", "sync/atomic.CompareAndSwapInt64", "sync/atomic.StoreInt64"], unfollowed := true, recurses := true, apart := false, narrowed := true }
def DequeFreeUptoSaid : Prop := dequeFreeUptoRow.holds Try.pinned (OpenSpec.upto dequeFreeSpec)

end Rows
end Go.Proofs.Ytdhfggdmlhgdoaa
