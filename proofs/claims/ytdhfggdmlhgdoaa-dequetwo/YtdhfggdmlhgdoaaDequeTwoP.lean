/-
  A pop and a steal at one item: their states and steps, all of them. (Text by DequeTwo.gen.py.) No Go is walked here.
-/
import Derived.Test.YtdhfggdmlhgdoaaDequeLaw
namespace Go.Proofs.Ytdhfggdmlhgdoaa
open Go.RowKit

def twoL (v T B L N : Int) : List Int := [T, B, L, N, v, 0, 0, 0, 0, 0, 0, 0, 0, 0, 0, 0, 0, 0, 0, 0]

def twoSt (v : Int) : Nat → List Int × OpS × OpS
  | 0 => (twoL v 0 1 0 0, ⟨.popReadBottom, false, 0, 0, 0, 0, 0⟩, ⟨.stealReadTop, false, 0, 0, 0, 0, 0⟩)
  | 1 => (twoL v 0 1 0 0, ⟨.popBottom, false, 0, 0, 0, 0, 0⟩, ⟨.stealReadTop, false, 0, 0, 0, 0, 0⟩)
  | 2 => (twoL v 0 1 0 0, ⟨.popReadBottom, false, 0, 0, 0, 0, 0⟩, ⟨.stealReadBottom, false, 0, 0, 0, 0, 0⟩)
  | 3 => (twoL v 0 0 0 0, ⟨.popReadTop, false, 0, 0, 0, 0, 0⟩, ⟨.stealReadTop, false, 0, 0, 0, 0, 0⟩)
  | 4 => (twoL v 0 1 0 0, ⟨.popBottom, false, 0, 0, 0, 0, 0⟩, ⟨.stealReadBottom, false, 0, 0, 0, 0, 0⟩)
  | 5 => (twoL v 0 1 0 0, ⟨.popReadBottom, false, 0, 0, 0, 0, 0⟩, ⟨.stealSlot, false, 0, 1, 0, 0, 0⟩)
  | 6 => (twoL v 0 0 0 0, ⟨.popLast, false, 0, 0, 0, 0, 0⟩, ⟨.stealReadTop, false, 0, 0, 0, 0, 0⟩)
  | 7 => (twoL v 0 0 0 0, ⟨.popReadTop, false, 0, 0, 0, 0, 0⟩, ⟨.stealReadBottom, false, 0, 0, 0, 0, 0⟩)
  | 8 => (twoL v 0 1 0 0, ⟨.popBottom, false, 0, 0, 0, 0, 0⟩, ⟨.stealSlot, false, 0, 1, 0, 0, 0⟩)
  | 9 => (twoL v 0 1 0 0, ⟨.popReadBottom, false, 0, 0, 0, 0, 0⟩, ⟨.stealSwap, false, 0, 1, 0, v, 0⟩)
  | 10 => (twoL v 0 0 0 0, ⟨.popSwap, false, 0, 0, 0, v, 0⟩, ⟨.stealReadTop, false, 0, 0, 0, 0, 0⟩)
  | 11 => (twoL v 0 0 0 0, ⟨.popLast, false, 0, 0, 0, 0, 0⟩, ⟨.stealReadBottom, false, 0, 0, 0, 0, 0⟩)
  | 12 => (twoL v 0 0 0 0, ⟨.popReadTop, false, 0, 0, 0, 0, 0⟩, ⟨.takeLock, false, 0, 0, 0, 0, 0⟩)
  | 13 => (twoL v 0 0 0 0, ⟨.popReadTop, false, 0, 0, 0, 0, 0⟩, ⟨.stealSlot, false, 0, 1, 0, 0, 0⟩)
  | 14 => (twoL v 0 1 0 0, ⟨.popBottom, false, 0, 0, 0, 0, 0⟩, ⟨.stealSwap, false, 0, 1, 0, v, 0⟩)
  | 15 => (twoL v 1 1 0 0, ⟨.popReadBottom, false, 0, 0, 0, 0, 0⟩, ⟨.stealSwap, true, 0, 1, 0, v, 0⟩)
  | 16 => (twoL v 1 0 0 0, ⟨.popWon, false, 1, 0, 0, v, 0⟩, ⟨.stealReadTop, false, 0, 0, 0, 0, 0⟩)
  | 17 => (twoL v 0 0 0 0, ⟨.popSwap, false, 0, 0, 0, v, 0⟩, ⟨.stealReadBottom, false, 0, 0, 0, 0, 0⟩)
  | 18 => (twoL v 0 0 0 0, ⟨.popLast, false, 0, 0, 0, 0, 0⟩, ⟨.takeLock, false, 0, 0, 0, 0, 0⟩)
  | 19 => (twoL v 0 0 1 0, ⟨.popReadTop, false, 0, 0, 0, 0, 0⟩, ⟨.takeCount, false, 0, 0, 0, 0, 0⟩)
  | 20 => (twoL v 0 0 0 0, ⟨.popLast, false, 0, 0, 0, 0, 0⟩, ⟨.stealSlot, false, 0, 1, 0, 0, 0⟩)
  | 21 => (twoL v 0 0 0 0, ⟨.popReadTop, false, 0, 0, 0, 0, 0⟩, ⟨.stealSwap, false, 0, 1, 0, v, 0⟩)
  | 22 => (twoL v 1 1 0 0, ⟨.popBottom, false, 0, 0, 0, 0, 0⟩, ⟨.stealSwap, true, 0, 1, 0, v, 0⟩)
  | 23 => (twoL v 1 1 0 0, ⟨.popWon, true, 1, 0, 0, v, 0⟩, ⟨.stealReadTop, false, 0, 0, 0, 0, 0⟩)
  | 24 => (twoL v 1 0 0 0, ⟨.popWon, false, 1, 0, 0, v, 0⟩, ⟨.stealReadBottom, false, 1, 0, 0, 0, 0⟩)
  | 25 => (twoL v 1 0 0 0, ⟨.popWon, false, 1, 0, 0, v, 0⟩, ⟨.stealReadBottom, false, 0, 0, 0, 0, 0⟩)
  | 26 => (twoL v 0 0 0 0, ⟨.popSwap, false, 0, 0, 0, v, 0⟩, ⟨.takeLock, false, 0, 0, 0, 0, 0⟩)
  | 27 => (twoL v 0 0 1 0, ⟨.popLast, false, 0, 0, 0, 0, 0⟩, ⟨.takeCount, false, 0, 0, 0, 0, 0⟩)
  | 28 => (twoL v 0 0 1 0, ⟨.popReadTop, false, 0, 0, 0, 0, 0⟩, ⟨.free, false, 0, 0, 0, 0, 15⟩)
  | 29 => (twoL v 0 0 0 0, ⟨.popSwap, false, 0, 0, 0, v, 0⟩, ⟨.stealSlot, false, 0, 1, 0, 0, 0⟩)
  | 30 => (twoL v 0 0 0 0, ⟨.popLast, false, 0, 0, 0, 0, 0⟩, ⟨.stealSwap, false, 0, 1, 0, v, 0⟩)
  | 31 => (twoL v 1 0 0 0, ⟨.popReadTop, false, 0, 0, 0, 0, 0⟩, ⟨.stealSwap, true, 0, 1, 0, v, 0⟩)
  | 32 => (twoL v 1 1 0 0, ⟨.popWon, true, 1, 0, 0, v, 0⟩, ⟨.stealReadBottom, false, 1, 0, 0, 0, 0⟩)
  | 33 => (twoL v 1 0 0 0, ⟨.popWon, false, 1, 0, 0, v, 0⟩, ⟨.takeLock, false, 1, 0, 0, 0, 0⟩)
  | 34 => (twoL v 1 1 0 0, ⟨.popWon, true, 1, 0, 0, v, 0⟩, ⟨.stealReadBottom, false, 0, 0, 0, 0, 0⟩)
  | 35 => (twoL v 1 0 0 0, ⟨.popWon, false, 1, 0, 0, v, 0⟩, ⟨.takeLock, false, 0, 0, 0, 0, 0⟩)
  | 36 => (twoL v 0 0 1 0, ⟨.popSwap, false, 0, 0, 0, v, 0⟩, ⟨.takeCount, false, 0, 0, 0, 0, 0⟩)
  | 37 => (twoL v 0 0 1 0, ⟨.popLast, false, 0, 0, 0, 0, 0⟩, ⟨.free, false, 0, 0, 0, 0, 15⟩)
  | 38 => (twoL v 0 0 0 0, ⟨.popReadTop, false, 0, 0, 0, 0, 0⟩, ⟨.free, true, 0, 0, 0, 0, 15⟩)
  | 39 => (twoL v 1 0 0 0, ⟨.popWon, false, 1, 0, 0, v, 0⟩, ⟨.stealSlot, false, 0, 1, 0, 0, 0⟩)
  | 40 => (twoL v 0 0 0 0, ⟨.popSwap, false, 0, 0, 0, v, 0⟩, ⟨.stealSwap, false, 0, 1, 0, v, 0⟩)
  | 41 => (twoL v 1 0 0 0, ⟨.popLast, false, 0, 0, 0, 0, 0⟩, ⟨.stealSwap, true, 0, 1, 0, v, 0⟩)
  | 42 => (twoL v 1 0 0 0, ⟨.popNothing, false, 1, 0, 0, 0, 0⟩, ⟨.stealSwap, true, 0, 1, 0, v, 0⟩)
  | 43 => (twoL v 1 1 0 0, ⟨.popWon, true, 1, 0, 0, v, 0⟩, ⟨.takeLock, false, 1, 1, 0, 0, 0⟩)
  | 44 => (twoL v 1 1 0 0, ⟨.popWon, true, 1, 0, 0, v, 0⟩, ⟨.takeLock, false, 1, 0, 0, 0, 0⟩)
  | 45 => (twoL v 1 0 1 0, ⟨.popWon, false, 1, 0, 0, v, 0⟩, ⟨.takeCount, false, 1, 0, 0, 0, 0⟩)
  | 46 => (twoL v 1 1 0 0, ⟨.popWon, true, 1, 0, 0, v, 0⟩, ⟨.stealSlot, false, 0, 1, 0, 0, 0⟩)
  | 47 => (twoL v 1 1 0 0, ⟨.popWon, true, 1, 0, 0, v, 0⟩, ⟨.takeLock, false, 0, 0, 0, 0, 0⟩)
  | 48 => (twoL v 1 0 1 0, ⟨.popWon, false, 1, 0, 0, v, 0⟩, ⟨.takeCount, false, 0, 0, 0, 0, 0⟩)
  | 49 => (twoL v 0 0 1 0, ⟨.popSwap, false, 0, 0, 0, v, 0⟩, ⟨.free, false, 0, 0, 0, 0, 15⟩)
  | 50 => (twoL v 0 0 0 0, ⟨.popLast, false, 0, 0, 0, 0, 0⟩, ⟨.free, true, 0, 0, 0, 0, 15⟩)
  | 51 => (twoL v 1 0 0 0, ⟨.popWon, false, 1, 0, 0, v, 0⟩, ⟨.stealSwap, false, 0, 1, 0, v, 0⟩)
  | 52 => (twoL v 1 0 0 0, ⟨.popSwap, false, 0, 0, 0, v, 0⟩, ⟨.stealSwap, true, 0, 1, 0, v, 0⟩)
  | 53 => (twoL v 1 1 0 0, ⟨.takeLock, false, 1, 0, 0, 0, 0⟩, ⟨.stealSwap, true, 0, 1, 0, v, 0⟩)
  | 54 => (twoL v 1 1 1 0, ⟨.popWon, true, 1, 0, 0, v, 0⟩, ⟨.takeCount, false, 1, 1, 0, 0, 0⟩)
  | 55 => (twoL v 1 1 1 0, ⟨.popWon, true, 1, 0, 0, v, 0⟩, ⟨.takeCount, false, 1, 0, 0, 0, 0⟩)
  | 56 => (twoL v 1 0 1 0, ⟨.popWon, false, 1, 0, 0, v, 0⟩, ⟨.free, false, 1, 0, 0, 0, 15⟩)
  | 57 => (twoL v 1 1 0 0, ⟨.popWon, true, 1, 0, 0, v, 0⟩, ⟨.stealSwap, false, 0, 1, 0, v, 0⟩)
  | 58 => (twoL v 1 1 1 0, ⟨.popWon, true, 1, 0, 0, v, 0⟩, ⟨.takeCount, false, 0, 0, 0, 0, 0⟩)
  | 59 => (twoL v 1 0 1 0, ⟨.popWon, false, 1, 0, 0, v, 0⟩, ⟨.free, false, 0, 0, 0, 0, 15⟩)
  | 60 => (twoL v 0 0 0 0, ⟨.popSwap, false, 0, 0, 0, v, 0⟩, ⟨.free, true, 0, 0, 0, 0, 15⟩)
  | 61 => (twoL v 1 0 0 0, ⟨.popWon, false, 1, 0, 0, v, 0⟩, ⟨.stealSwap, true, 0, 1, 0, v, 16⟩)
  | 62 => (twoL v 1 0 0 0, ⟨.popNothing, false, 1, 0, 0, v, 0⟩, ⟨.stealSwap, true, 0, 1, 0, v, 0⟩)
  | 63 => (twoL v 1 1 1 0, ⟨.takeCount, false, 1, 0, 0, 0, 0⟩, ⟨.stealSwap, true, 0, 1, 0, v, 0⟩)
  | 64 => (twoL v 1 1 1 0, ⟨.popWon, true, 1, 0, 0, v, 0⟩, ⟨.free, false, 1, 1, 0, 0, 15⟩)
  | 65 => (twoL v 1 1 1 0, ⟨.popWon, true, 1, 0, 0, v, 0⟩, ⟨.free, false, 1, 0, 0, 0, 15⟩)
  | 66 => (twoL v 1 0 0 0, ⟨.popWon, false, 1, 0, 0, v, 0⟩, ⟨.free, true, 1, 0, 0, 0, 15⟩)
  | 67 => (twoL v 1 1 0 0, ⟨.popWon, true, 1, 0, 0, v, 0⟩, ⟨.stealSwap, true, 0, 1, 0, v, 16⟩)
  | 68 => (twoL v 1 1 1 0, ⟨.popWon, true, 1, 0, 0, v, 0⟩, ⟨.free, false, 0, 0, 0, 0, 15⟩)
  | 69 => (twoL v 1 0 0 0, ⟨.popWon, false, 1, 0, 0, v, 0⟩, ⟨.free, true, 0, 0, 0, 0, 15⟩)
  | 70 => (twoL v 1 1 0 0, ⟨.takeLock, false, 1, 0, 0, v, 0⟩, ⟨.stealSwap, true, 0, 1, 0, v, 0⟩)
  | 71 => (twoL v 1 1 1 0, ⟨.free, false, 1, 0, 0, 0, 15⟩, ⟨.stealSwap, true, 0, 1, 0, v, 0⟩)
  | 72 => (twoL v 1 1 0 0, ⟨.popWon, true, 1, 0, 0, v, 0⟩, ⟨.free, true, 1, 1, 0, 0, 15⟩)
  | 73 => (twoL v 1 1 0 0, ⟨.popWon, true, 1, 0, 0, v, 0⟩, ⟨.free, true, 1, 0, 0, 0, 15⟩)
  | 74 => (twoL v 1 1 0 0, ⟨.popWon, true, 1, 0, 0, v, 0⟩, ⟨.free, true, 0, 0, 0, 0, 15⟩)
  | 75 => (twoL v 1 1 1 0, ⟨.takeCount, false, 1, 0, 0, v, 0⟩, ⟨.stealSwap, true, 0, 1, 0, v, 0⟩)
  | 76 => (twoL v 1 1 0 0, ⟨.free, true, 1, 0, 0, 0, 15⟩, ⟨.stealSwap, true, 0, 1, 0, v, 0⟩)
  | 77 => (twoL v 1 1 1 0, ⟨.free, false, 1, 0, 0, v, 15⟩, ⟨.stealSwap, true, 0, 1, 0, v, 0⟩)
  | 78 => (twoL v 1 1 0 0, ⟨.free, true, 1, 0, 0, v, 15⟩, ⟨.stealSwap, true, 0, 1, 0, v, 0⟩)
  | _ => (twoL v 0 1 0 0, ⟨.popReadBottom, false, 0, 0, 0, 0, 0⟩, ⟨.stealReadTop, false, 0, 0, 0, 0, 0⟩)

def twoA : Nat → Nat
  | 0 => 1
  | 1 => 3
  | 2 => 4
  | 3 => 6
  | 4 => 7
  | 5 => 8
  | 6 => 10
  | 7 => 11
  | 8 => 13
  | 9 => 14
  | 10 => 16
  | 11 => 17
  | 12 => 18
  | 13 => 20
  | 14 => 21
  | 15 => 22
  | 16 => 23
  | 17 => 25
  | 18 => 26
  | 19 => 27
  | 20 => 29
  | 21 => 30
  | 22 => 31
  | 23 => 23
  | 24 => 32
  | 25 => 34
  | 26 => 35
  | 27 => 36
  | 28 => 37
  | 29 => 39
  | 30 => 40
  | 31 => 42
  | 32 => 32
  | 33 => 44
  | 34 => 34
  | 35 => 47
  | 36 => 48
  | 37 => 49
  | 38 => 50
  | 39 => 46
  | 40 => 51
  | 41 => 52
  | 42 => 53
  | 43 => 43
  | 44 => 44
  | 45 => 55
  | 46 => 46
  | 47 => 47
  | 48 => 58
  | 49 => 59
  | 50 => 60
  | 51 => 57
  | 52 => 62
  | 53 => 63
  | 54 => 54
  | 55 => 55
  | 56 => 65
  | 57 => 57
  | 58 => 58
  | 59 => 68
  | 60 => 69
  | 61 => 67
  | 62 => 70
  | 63 => 71
  | 64 => 64
  | 65 => 65
  | 66 => 73
  | 67 => 67
  | 68 => 68
  | 69 => 74
  | 70 => 75
  | 71 => 76
  | 72 => 72
  | 73 => 73
  | 74 => 74
  | 75 => 77
  | 76 => 76
  | 77 => 78
  | 78 => 78
  | _ => 0

def twoB : Nat → Nat
  | 0 => 2
  | 1 => 4
  | 2 => 5
  | 3 => 7
  | 4 => 8
  | 5 => 9
  | 6 => 11
  | 7 => 12
  | 8 => 14
  | 9 => 15
  | 10 => 17
  | 11 => 18
  | 12 => 19
  | 13 => 21
  | 14 => 22
  | 15 => 15
  | 16 => 24
  | 17 => 26
  | 18 => 27
  | 19 => 28
  | 20 => 30
  | 21 => 31
  | 22 => 22
  | 23 => 32
  | 24 => 33
  | 25 => 35
  | 26 => 36
  | 27 => 37
  | 28 => 38
  | 29 => 40
  | 30 => 41
  | 31 => 31
  | 32 => 43
  | 33 => 45
  | 34 => 46
  | 35 => 48
  | 36 => 49
  | 37 => 50
  | 38 => 38
  | 39 => 51
  | 40 => 52
  | 41 => 41
  | 42 => 42
  | 43 => 54
  | 44 => 55
  | 45 => 56
  | 46 => 57
  | 47 => 58
  | 48 => 59
  | 49 => 60
  | 50 => 50
  | 51 => 61
  | 52 => 52
  | 53 => 53
  | 54 => 64
  | 55 => 65
  | 56 => 66
  | 57 => 67
  | 58 => 68
  | 59 => 69
  | 60 => 60
  | 61 => 61
  | 62 => 62
  | 63 => 63
  | 64 => 72
  | 65 => 73
  | 66 => 66
  | 67 => 67
  | 68 => 74
  | 69 => 69
  | 70 => 70
  | 71 => 71
  | 72 => 72
  | 73 => 73
  | 74 => 74
  | 75 => 75
  | 76 => 76
  | 77 => 77
  | 78 => 78
  | _ => 0

def twoIt : Nat → Nat → Nat
  | 0, i => i
  | k + 1, i => twoIt k (twoB (twoA i))

def TwoOk (v : Int) (i : Nat) : Prop :=
  stepOf ⟨0, 4, 2⟩ (twoSt v i).1 (twoSt v i).2.1 = ((twoSt v (twoA i)).1, (twoSt v (twoA i)).2.1) ∧ (twoSt v (twoA i)).2.2 = (twoSt v i).2.2 ∧
  stepOf ⟨0, 4, 2⟩ (twoSt v i).1 (twoSt v i).2.2 = ((twoSt v (twoB i)).1, (twoSt v (twoB i)).2.2) ∧ (twoSt v (twoB i)).2.1 = (twoSt v i).2.1 ∧
  Fit ⟨0, 4, 2⟩ (twoSt v i).1 (twoSt v i).2.1 1000 ∧ Fit ⟨0, 4, 2⟩ (twoSt v i).1 (twoSt v i).2.2 1000

theorem small_fit (v T B L N : Int) (o : OpS) (hT : -1000 ≤ T ∧ T ≤ 1000) (hB : -1000 ≤ B ∧ B ≤ 1000) (ht : -1000 ≤ o.top ∧ o.top ≤ 1000) (hb : -1000 ≤ o.bottom ∧ o.bottom ≤ 1000) (hc : CntOk ⟨0, 4, 2⟩ o) : Fit ⟨0, 4, 2⟩ (twoL v T B L N) o 1000 := ⟨hT, hB, ht, hb, hc⟩

theorem two_0 (v : Int) : TwoOk v 0 := ⟨rfl, rfl, rfl, rfl, small_fit _ _ _ _ _ _ (show -1000 ≤ (0 : Int) ∧ (0 : Int) ≤ 1000 by decide) (show -1000 ≤ (1 : Int) ∧ (1 : Int) ≤ 1000 by decide) (show -1000 ≤ (0 : Int) ∧ (0 : Int) ≤ 1000 by decide) (show -1000 ≤ (0 : Int) ∧ (0 : Int) ≤ 1000 by decide) trivial, small_fit _ _ _ _ _ _ (show -1000 ≤ (0 : Int) ∧ (0 : Int) ≤ 1000 by decide) (show -1000 ≤ (1 : Int) ∧ (1 : Int) ≤ 1000 by decide) (show -1000 ≤ (0 : Int) ∧ (0 : Int) ≤ 1000 by decide) (show -1000 ≤ (0 : Int) ∧ (0 : Int) ≤ 1000 by decide) trivial⟩
theorem two_1 (v : Int) : TwoOk v 1 := ⟨rfl, rfl, rfl, rfl, small_fit _ _ _ _ _ _ (show -1000 ≤ (0 : Int) ∧ (0 : Int) ≤ 1000 by decide) (show -1000 ≤ (1 : Int) ∧ (1 : Int) ≤ 1000 by decide) (show -1000 ≤ (0 : Int) ∧ (0 : Int) ≤ 1000 by decide) (show -1000 ≤ (0 : Int) ∧ (0 : Int) ≤ 1000 by decide) trivial, small_fit _ _ _ _ _ _ (show -1000 ≤ (0 : Int) ∧ (0 : Int) ≤ 1000 by decide) (show -1000 ≤ (1 : Int) ∧ (1 : Int) ≤ 1000 by decide) (show -1000 ≤ (0 : Int) ∧ (0 : Int) ≤ 1000 by decide) (show -1000 ≤ (0 : Int) ∧ (0 : Int) ≤ 1000 by decide) trivial⟩
theorem two_2 (v : Int) : TwoOk v 2 := ⟨rfl, rfl, rfl, rfl, small_fit _ _ _ _ _ _ (show -1000 ≤ (0 : Int) ∧ (0 : Int) ≤ 1000 by decide) (show -1000 ≤ (1 : Int) ∧ (1 : Int) ≤ 1000 by decide) (show -1000 ≤ (0 : Int) ∧ (0 : Int) ≤ 1000 by decide) (show -1000 ≤ (0 : Int) ∧ (0 : Int) ≤ 1000 by decide) trivial, small_fit _ _ _ _ _ _ (show -1000 ≤ (0 : Int) ∧ (0 : Int) ≤ 1000 by decide) (show -1000 ≤ (1 : Int) ∧ (1 : Int) ≤ 1000 by decide) (show -1000 ≤ (0 : Int) ∧ (0 : Int) ≤ 1000 by decide) (show -1000 ≤ (0 : Int) ∧ (0 : Int) ≤ 1000 by decide) trivial⟩
theorem two_3 (v : Int) : TwoOk v 3 := ⟨rfl, rfl, rfl, rfl, small_fit _ _ _ _ _ _ (show -1000 ≤ (0 : Int) ∧ (0 : Int) ≤ 1000 by decide) (show -1000 ≤ (0 : Int) ∧ (0 : Int) ≤ 1000 by decide) (show -1000 ≤ (0 : Int) ∧ (0 : Int) ≤ 1000 by decide) (show -1000 ≤ (0 : Int) ∧ (0 : Int) ≤ 1000 by decide) trivial, small_fit _ _ _ _ _ _ (show -1000 ≤ (0 : Int) ∧ (0 : Int) ≤ 1000 by decide) (show -1000 ≤ (0 : Int) ∧ (0 : Int) ≤ 1000 by decide) (show -1000 ≤ (0 : Int) ∧ (0 : Int) ≤ 1000 by decide) (show -1000 ≤ (0 : Int) ∧ (0 : Int) ≤ 1000 by decide) trivial⟩
theorem two_4 (v : Int) : TwoOk v 4 := ⟨rfl, rfl, rfl, rfl, small_fit _ _ _ _ _ _ (show -1000 ≤ (0 : Int) ∧ (0 : Int) ≤ 1000 by decide) (show -1000 ≤ (1 : Int) ∧ (1 : Int) ≤ 1000 by decide) (show -1000 ≤ (0 : Int) ∧ (0 : Int) ≤ 1000 by decide) (show -1000 ≤ (0 : Int) ∧ (0 : Int) ≤ 1000 by decide) trivial, small_fit _ _ _ _ _ _ (show -1000 ≤ (0 : Int) ∧ (0 : Int) ≤ 1000 by decide) (show -1000 ≤ (1 : Int) ∧ (1 : Int) ≤ 1000 by decide) (show -1000 ≤ (0 : Int) ∧ (0 : Int) ≤ 1000 by decide) (show -1000 ≤ (0 : Int) ∧ (0 : Int) ≤ 1000 by decide) trivial⟩
theorem two_5 (v : Int) : TwoOk v 5 := ⟨rfl, rfl, rfl, rfl, small_fit _ _ _ _ _ _ (show -1000 ≤ (0 : Int) ∧ (0 : Int) ≤ 1000 by decide) (show -1000 ≤ (1 : Int) ∧ (1 : Int) ≤ 1000 by decide) (show -1000 ≤ (0 : Int) ∧ (0 : Int) ≤ 1000 by decide) (show -1000 ≤ (0 : Int) ∧ (0 : Int) ≤ 1000 by decide) trivial, small_fit _ _ _ _ _ _ (show -1000 ≤ (0 : Int) ∧ (0 : Int) ≤ 1000 by decide) (show -1000 ≤ (1 : Int) ∧ (1 : Int) ≤ 1000 by decide) (show -1000 ≤ (0 : Int) ∧ (0 : Int) ≤ 1000 by decide) (show -1000 ≤ (1 : Int) ∧ (1 : Int) ≤ 1000 by decide) trivial⟩
theorem two_6 (v : Int) : TwoOk v 6 := ⟨rfl, rfl, rfl, rfl, small_fit _ _ _ _ _ _ (show -1000 ≤ (0 : Int) ∧ (0 : Int) ≤ 1000 by decide) (show -1000 ≤ (0 : Int) ∧ (0 : Int) ≤ 1000 by decide) (show -1000 ≤ (0 : Int) ∧ (0 : Int) ≤ 1000 by decide) (show -1000 ≤ (0 : Int) ∧ (0 : Int) ≤ 1000 by decide) trivial, small_fit _ _ _ _ _ _ (show -1000 ≤ (0 : Int) ∧ (0 : Int) ≤ 1000 by decide) (show -1000 ≤ (0 : Int) ∧ (0 : Int) ≤ 1000 by decide) (show -1000 ≤ (0 : Int) ∧ (0 : Int) ≤ 1000 by decide) (show -1000 ≤ (0 : Int) ∧ (0 : Int) ≤ 1000 by decide) trivial⟩
theorem two_7 (v : Int) : TwoOk v 7 := ⟨rfl, rfl, rfl, rfl, small_fit _ _ _ _ _ _ (show -1000 ≤ (0 : Int) ∧ (0 : Int) ≤ 1000 by decide) (show -1000 ≤ (0 : Int) ∧ (0 : Int) ≤ 1000 by decide) (show -1000 ≤ (0 : Int) ∧ (0 : Int) ≤ 1000 by decide) (show -1000 ≤ (0 : Int) ∧ (0 : Int) ≤ 1000 by decide) trivial, small_fit _ _ _ _ _ _ (show -1000 ≤ (0 : Int) ∧ (0 : Int) ≤ 1000 by decide) (show -1000 ≤ (0 : Int) ∧ (0 : Int) ≤ 1000 by decide) (show -1000 ≤ (0 : Int) ∧ (0 : Int) ≤ 1000 by decide) (show -1000 ≤ (0 : Int) ∧ (0 : Int) ≤ 1000 by decide) trivial⟩
theorem two_8 (v : Int) : TwoOk v 8 := ⟨rfl, rfl, rfl, rfl, small_fit _ _ _ _ _ _ (show -1000 ≤ (0 : Int) ∧ (0 : Int) ≤ 1000 by decide) (show -1000 ≤ (1 : Int) ∧ (1 : Int) ≤ 1000 by decide) (show -1000 ≤ (0 : Int) ∧ (0 : Int) ≤ 1000 by decide) (show -1000 ≤ (0 : Int) ∧ (0 : Int) ≤ 1000 by decide) trivial, small_fit _ _ _ _ _ _ (show -1000 ≤ (0 : Int) ∧ (0 : Int) ≤ 1000 by decide) (show -1000 ≤ (1 : Int) ∧ (1 : Int) ≤ 1000 by decide) (show -1000 ≤ (0 : Int) ∧ (0 : Int) ≤ 1000 by decide) (show -1000 ≤ (1 : Int) ∧ (1 : Int) ≤ 1000 by decide) trivial⟩
theorem two_9 (v : Int) : TwoOk v 9 := ⟨rfl, rfl, rfl, rfl, small_fit _ _ _ _ _ _ (show -1000 ≤ (0 : Int) ∧ (0 : Int) ≤ 1000 by decide) (show -1000 ≤ (1 : Int) ∧ (1 : Int) ≤ 1000 by decide) (show -1000 ≤ (0 : Int) ∧ (0 : Int) ≤ 1000 by decide) (show -1000 ≤ (0 : Int) ∧ (0 : Int) ≤ 1000 by decide) trivial, small_fit _ _ _ _ _ _ (show -1000 ≤ (0 : Int) ∧ (0 : Int) ≤ 1000 by decide) (show -1000 ≤ (1 : Int) ∧ (1 : Int) ≤ 1000 by decide) (show -1000 ≤ (0 : Int) ∧ (0 : Int) ≤ 1000 by decide) (show -1000 ≤ (1 : Int) ∧ (1 : Int) ≤ 1000 by decide) trivial⟩
theorem two_10 (v : Int) : TwoOk v 10 := ⟨rfl, rfl, rfl, rfl, small_fit _ _ _ _ _ _ (show -1000 ≤ (0 : Int) ∧ (0 : Int) ≤ 1000 by decide) (show -1000 ≤ (0 : Int) ∧ (0 : Int) ≤ 1000 by decide) (show -1000 ≤ (0 : Int) ∧ (0 : Int) ≤ 1000 by decide) (show -1000 ≤ (0 : Int) ∧ (0 : Int) ≤ 1000 by decide) trivial, small_fit _ _ _ _ _ _ (show -1000 ≤ (0 : Int) ∧ (0 : Int) ≤ 1000 by decide) (show -1000 ≤ (0 : Int) ∧ (0 : Int) ≤ 1000 by decide) (show -1000 ≤ (0 : Int) ∧ (0 : Int) ≤ 1000 by decide) (show -1000 ≤ (0 : Int) ∧ (0 : Int) ≤ 1000 by decide) trivial⟩
theorem two_11 (v : Int) : TwoOk v 11 := ⟨rfl, rfl, rfl, rfl, small_fit _ _ _ _ _ _ (show -1000 ≤ (0 : Int) ∧ (0 : Int) ≤ 1000 by decide) (show -1000 ≤ (0 : Int) ∧ (0 : Int) ≤ 1000 by decide) (show -1000 ≤ (0 : Int) ∧ (0 : Int) ≤ 1000 by decide) (show -1000 ≤ (0 : Int) ∧ (0 : Int) ≤ 1000 by decide) trivial, small_fit _ _ _ _ _ _ (show -1000 ≤ (0 : Int) ∧ (0 : Int) ≤ 1000 by decide) (show -1000 ≤ (0 : Int) ∧ (0 : Int) ≤ 1000 by decide) (show -1000 ≤ (0 : Int) ∧ (0 : Int) ≤ 1000 by decide) (show -1000 ≤ (0 : Int) ∧ (0 : Int) ≤ 1000 by decide) trivial⟩
theorem two_12 (v : Int) : TwoOk v 12 := ⟨rfl, rfl, rfl, rfl, small_fit _ _ _ _ _ _ (show -1000 ≤ (0 : Int) ∧ (0 : Int) ≤ 1000 by decide) (show -1000 ≤ (0 : Int) ∧ (0 : Int) ≤ 1000 by decide) (show -1000 ≤ (0 : Int) ∧ (0 : Int) ≤ 1000 by decide) (show -1000 ≤ (0 : Int) ∧ (0 : Int) ≤ 1000 by decide) trivial, small_fit _ _ _ _ _ _ (show -1000 ≤ (0 : Int) ∧ (0 : Int) ≤ 1000 by decide) (show -1000 ≤ (0 : Int) ∧ (0 : Int) ≤ 1000 by decide) (show -1000 ≤ (0 : Int) ∧ (0 : Int) ≤ 1000 by decide) (show -1000 ≤ (0 : Int) ∧ (0 : Int) ≤ 1000 by decide) trivial⟩
theorem two_13 (v : Int) : TwoOk v 13 := ⟨rfl, rfl, rfl, rfl, small_fit _ _ _ _ _ _ (show -1000 ≤ (0 : Int) ∧ (0 : Int) ≤ 1000 by decide) (show -1000 ≤ (0 : Int) ∧ (0 : Int) ≤ 1000 by decide) (show -1000 ≤ (0 : Int) ∧ (0 : Int) ≤ 1000 by decide) (show -1000 ≤ (0 : Int) ∧ (0 : Int) ≤ 1000 by decide) trivial, small_fit _ _ _ _ _ _ (show -1000 ≤ (0 : Int) ∧ (0 : Int) ≤ 1000 by decide) (show -1000 ≤ (0 : Int) ∧ (0 : Int) ≤ 1000 by decide) (show -1000 ≤ (0 : Int) ∧ (0 : Int) ≤ 1000 by decide) (show -1000 ≤ (1 : Int) ∧ (1 : Int) ≤ 1000 by decide) trivial⟩
theorem two_14 (v : Int) : TwoOk v 14 := ⟨rfl, rfl, rfl, rfl, small_fit _ _ _ _ _ _ (show -1000 ≤ (0 : Int) ∧ (0 : Int) ≤ 1000 by decide) (show -1000 ≤ (1 : Int) ∧ (1 : Int) ≤ 1000 by decide) (show -1000 ≤ (0 : Int) ∧ (0 : Int) ≤ 1000 by decide) (show -1000 ≤ (0 : Int) ∧ (0 : Int) ≤ 1000 by decide) trivial, small_fit _ _ _ _ _ _ (show -1000 ≤ (0 : Int) ∧ (0 : Int) ≤ 1000 by decide) (show -1000 ≤ (1 : Int) ∧ (1 : Int) ≤ 1000 by decide) (show -1000 ≤ (0 : Int) ∧ (0 : Int) ≤ 1000 by decide) (show -1000 ≤ (1 : Int) ∧ (1 : Int) ≤ 1000 by decide) trivial⟩
theorem two_15 (v : Int) : TwoOk v 15 := ⟨rfl, rfl, rfl, rfl, small_fit _ _ _ _ _ _ (show -1000 ≤ (1 : Int) ∧ (1 : Int) ≤ 1000 by decide) (show -1000 ≤ (1 : Int) ∧ (1 : Int) ≤ 1000 by decide) (show -1000 ≤ (0 : Int) ∧ (0 : Int) ≤ 1000 by decide) (show -1000 ≤ (0 : Int) ∧ (0 : Int) ≤ 1000 by decide) trivial, small_fit _ _ _ _ _ _ (show -1000 ≤ (1 : Int) ∧ (1 : Int) ≤ 1000 by decide) (show -1000 ≤ (1 : Int) ∧ (1 : Int) ≤ 1000 by decide) (show -1000 ≤ (0 : Int) ∧ (0 : Int) ≤ 1000 by decide) (show -1000 ≤ (1 : Int) ∧ (1 : Int) ≤ 1000 by decide) trivial⟩
theorem two_16 (v : Int) : TwoOk v 16 := ⟨rfl, rfl, rfl, rfl, small_fit _ _ _ _ _ _ (show -1000 ≤ (1 : Int) ∧ (1 : Int) ≤ 1000 by decide) (show -1000 ≤ (0 : Int) ∧ (0 : Int) ≤ 1000 by decide) (show -1000 ≤ (1 : Int) ∧ (1 : Int) ≤ 1000 by decide) (show -1000 ≤ (0 : Int) ∧ (0 : Int) ≤ 1000 by decide) trivial, small_fit _ _ _ _ _ _ (show -1000 ≤ (1 : Int) ∧ (1 : Int) ≤ 1000 by decide) (show -1000 ≤ (0 : Int) ∧ (0 : Int) ≤ 1000 by decide) (show -1000 ≤ (0 : Int) ∧ (0 : Int) ≤ 1000 by decide) (show -1000 ≤ (0 : Int) ∧ (0 : Int) ≤ 1000 by decide) trivial⟩
theorem two_17 (v : Int) : TwoOk v 17 := ⟨rfl, rfl, rfl, rfl, small_fit _ _ _ _ _ _ (show -1000 ≤ (0 : Int) ∧ (0 : Int) ≤ 1000 by decide) (show -1000 ≤ (0 : Int) ∧ (0 : Int) ≤ 1000 by decide) (show -1000 ≤ (0 : Int) ∧ (0 : Int) ≤ 1000 by decide) (show -1000 ≤ (0 : Int) ∧ (0 : Int) ≤ 1000 by decide) trivial, small_fit _ _ _ _ _ _ (show -1000 ≤ (0 : Int) ∧ (0 : Int) ≤ 1000 by decide) (show -1000 ≤ (0 : Int) ∧ (0 : Int) ≤ 1000 by decide) (show -1000 ≤ (0 : Int) ∧ (0 : Int) ≤ 1000 by decide) (show -1000 ≤ (0 : Int) ∧ (0 : Int) ≤ 1000 by decide) trivial⟩
theorem two_18 (v : Int) : TwoOk v 18 := ⟨rfl, rfl, rfl, rfl, small_fit _ _ _ _ _ _ (show -1000 ≤ (0 : Int) ∧ (0 : Int) ≤ 1000 by decide) (show -1000 ≤ (0 : Int) ∧ (0 : Int) ≤ 1000 by decide) (show -1000 ≤ (0 : Int) ∧ (0 : Int) ≤ 1000 by decide) (show -1000 ≤ (0 : Int) ∧ (0 : Int) ≤ 1000 by decide) trivial, small_fit _ _ _ _ _ _ (show -1000 ≤ (0 : Int) ∧ (0 : Int) ≤ 1000 by decide) (show -1000 ≤ (0 : Int) ∧ (0 : Int) ≤ 1000 by decide) (show -1000 ≤ (0 : Int) ∧ (0 : Int) ≤ 1000 by decide) (show -1000 ≤ (0 : Int) ∧ (0 : Int) ≤ 1000 by decide) trivial⟩
theorem two_19 (v : Int) : TwoOk v 19 := ⟨rfl, rfl, rfl, rfl, small_fit _ _ _ _ _ _ (show -1000 ≤ (0 : Int) ∧ (0 : Int) ≤ 1000 by decide) (show -1000 ≤ (0 : Int) ∧ (0 : Int) ≤ 1000 by decide) (show -1000 ≤ (0 : Int) ∧ (0 : Int) ≤ 1000 by decide) (show -1000 ≤ (0 : Int) ∧ (0 : Int) ≤ 1000 by decide) trivial, small_fit _ _ _ _ _ _ (show -1000 ≤ (0 : Int) ∧ (0 : Int) ≤ 1000 by decide) (show -1000 ≤ (0 : Int) ∧ (0 : Int) ≤ 1000 by decide) (show -1000 ≤ (0 : Int) ∧ (0 : Int) ≤ 1000 by decide) (show -1000 ≤ (0 : Int) ∧ (0 : Int) ≤ 1000 by decide) trivial⟩
theorem two_20 (v : Int) : TwoOk v 20 := ⟨rfl, rfl, rfl, rfl, small_fit _ _ _ _ _ _ (show -1000 ≤ (0 : Int) ∧ (0 : Int) ≤ 1000 by decide) (show -1000 ≤ (0 : Int) ∧ (0 : Int) ≤ 1000 by decide) (show -1000 ≤ (0 : Int) ∧ (0 : Int) ≤ 1000 by decide) (show -1000 ≤ (0 : Int) ∧ (0 : Int) ≤ 1000 by decide) trivial, small_fit _ _ _ _ _ _ (show -1000 ≤ (0 : Int) ∧ (0 : Int) ≤ 1000 by decide) (show -1000 ≤ (0 : Int) ∧ (0 : Int) ≤ 1000 by decide) (show -1000 ≤ (0 : Int) ∧ (0 : Int) ≤ 1000 by decide) (show -1000 ≤ (1 : Int) ∧ (1 : Int) ≤ 1000 by decide) trivial⟩
theorem two_21 (v : Int) : TwoOk v 21 := ⟨rfl, rfl, rfl, rfl, small_fit _ _ _ _ _ _ (show -1000 ≤ (0 : Int) ∧ (0 : Int) ≤ 1000 by decide) (show -1000 ≤ (0 : Int) ∧ (0 : Int) ≤ 1000 by decide) (show -1000 ≤ (0 : Int) ∧ (0 : Int) ≤ 1000 by decide) (show -1000 ≤ (0 : Int) ∧ (0 : Int) ≤ 1000 by decide) trivial, small_fit _ _ _ _ _ _ (show -1000 ≤ (0 : Int) ∧ (0 : Int) ≤ 1000 by decide) (show -1000 ≤ (0 : Int) ∧ (0 : Int) ≤ 1000 by decide) (show -1000 ≤ (0 : Int) ∧ (0 : Int) ≤ 1000 by decide) (show -1000 ≤ (1 : Int) ∧ (1 : Int) ≤ 1000 by decide) trivial⟩
theorem two_22 (v : Int) : TwoOk v 22 := ⟨rfl, rfl, rfl, rfl, small_fit _ _ _ _ _ _ (show -1000 ≤ (1 : Int) ∧ (1 : Int) ≤ 1000 by decide) (show -1000 ≤ (1 : Int) ∧ (1 : Int) ≤ 1000 by decide) (show -1000 ≤ (0 : Int) ∧ (0 : Int) ≤ 1000 by decide) (show -1000 ≤ (0 : Int) ∧ (0 : Int) ≤ 1000 by decide) trivial, small_fit _ _ _ _ _ _ (show -1000 ≤ (1 : Int) ∧ (1 : Int) ≤ 1000 by decide) (show -1000 ≤ (1 : Int) ∧ (1 : Int) ≤ 1000 by decide) (show -1000 ≤ (0 : Int) ∧ (0 : Int) ≤ 1000 by decide) (show -1000 ≤ (1 : Int) ∧ (1 : Int) ≤ 1000 by decide) trivial⟩
theorem two_23 (v : Int) : TwoOk v 23 := ⟨rfl, rfl, rfl, rfl, small_fit _ _ _ _ _ _ (show -1000 ≤ (1 : Int) ∧ (1 : Int) ≤ 1000 by decide) (show -1000 ≤ (1 : Int) ∧ (1 : Int) ≤ 1000 by decide) (show -1000 ≤ (1 : Int) ∧ (1 : Int) ≤ 1000 by decide) (show -1000 ≤ (0 : Int) ∧ (0 : Int) ≤ 1000 by decide) trivial, small_fit _ _ _ _ _ _ (show -1000 ≤ (1 : Int) ∧ (1 : Int) ≤ 1000 by decide) (show -1000 ≤ (1 : Int) ∧ (1 : Int) ≤ 1000 by decide) (show -1000 ≤ (0 : Int) ∧ (0 : Int) ≤ 1000 by decide) (show -1000 ≤ (0 : Int) ∧ (0 : Int) ≤ 1000 by decide) trivial⟩
theorem two_24 (v : Int) : TwoOk v 24 := ⟨rfl, rfl, rfl, rfl, small_fit _ _ _ _ _ _ (show -1000 ≤ (1 : Int) ∧ (1 : Int) ≤ 1000 by decide) (show -1000 ≤ (0 : Int) ∧ (0 : Int) ≤ 1000 by decide) (show -1000 ≤ (1 : Int) ∧ (1 : Int) ≤ 1000 by decide) (show -1000 ≤ (0 : Int) ∧ (0 : Int) ≤ 1000 by decide) trivial, small_fit _ _ _ _ _ _ (show -1000 ≤ (1 : Int) ∧ (1 : Int) ≤ 1000 by decide) (show -1000 ≤ (0 : Int) ∧ (0 : Int) ≤ 1000 by decide) (show -1000 ≤ (1 : Int) ∧ (1 : Int) ≤ 1000 by decide) (show -1000 ≤ (0 : Int) ∧ (0 : Int) ≤ 1000 by decide) trivial⟩
theorem two_25 (v : Int) : TwoOk v 25 := ⟨rfl, rfl, rfl, rfl, small_fit _ _ _ _ _ _ (show -1000 ≤ (1 : Int) ∧ (1 : Int) ≤ 1000 by decide) (show -1000 ≤ (0 : Int) ∧ (0 : Int) ≤ 1000 by decide) (show -1000 ≤ (1 : Int) ∧ (1 : Int) ≤ 1000 by decide) (show -1000 ≤ (0 : Int) ∧ (0 : Int) ≤ 1000 by decide) trivial, small_fit _ _ _ _ _ _ (show -1000 ≤ (1 : Int) ∧ (1 : Int) ≤ 1000 by decide) (show -1000 ≤ (0 : Int) ∧ (0 : Int) ≤ 1000 by decide) (show -1000 ≤ (0 : Int) ∧ (0 : Int) ≤ 1000 by decide) (show -1000 ≤ (0 : Int) ∧ (0 : Int) ≤ 1000 by decide) trivial⟩
theorem two_26 (v : Int) : TwoOk v 26 := ⟨rfl, rfl, rfl, rfl, small_fit _ _ _ _ _ _ (show -1000 ≤ (0 : Int) ∧ (0 : Int) ≤ 1000 by decide) (show -1000 ≤ (0 : Int) ∧ (0 : Int) ≤ 1000 by decide) (show -1000 ≤ (0 : Int) ∧ (0 : Int) ≤ 1000 by decide) (show -1000 ≤ (0 : Int) ∧ (0 : Int) ≤ 1000 by decide) trivial, small_fit _ _ _ _ _ _ (show -1000 ≤ (0 : Int) ∧ (0 : Int) ≤ 1000 by decide) (show -1000 ≤ (0 : Int) ∧ (0 : Int) ≤ 1000 by decide) (show -1000 ≤ (0 : Int) ∧ (0 : Int) ≤ 1000 by decide) (show -1000 ≤ (0 : Int) ∧ (0 : Int) ≤ 1000 by decide) trivial⟩
theorem two_27 (v : Int) : TwoOk v 27 := ⟨rfl, rfl, rfl, rfl, small_fit _ _ _ _ _ _ (show -1000 ≤ (0 : Int) ∧ (0 : Int) ≤ 1000 by decide) (show -1000 ≤ (0 : Int) ∧ (0 : Int) ≤ 1000 by decide) (show -1000 ≤ (0 : Int) ∧ (0 : Int) ≤ 1000 by decide) (show -1000 ≤ (0 : Int) ∧ (0 : Int) ≤ 1000 by decide) trivial, small_fit _ _ _ _ _ _ (show -1000 ≤ (0 : Int) ∧ (0 : Int) ≤ 1000 by decide) (show -1000 ≤ (0 : Int) ∧ (0 : Int) ≤ 1000 by decide) (show -1000 ≤ (0 : Int) ∧ (0 : Int) ≤ 1000 by decide) (show -1000 ≤ (0 : Int) ∧ (0 : Int) ≤ 1000 by decide) trivial⟩
theorem two_28 (v : Int) : TwoOk v 28 := ⟨rfl, rfl, rfl, rfl, small_fit _ _ _ _ _ _ (show -1000 ≤ (0 : Int) ∧ (0 : Int) ≤ 1000 by decide) (show -1000 ≤ (0 : Int) ∧ (0 : Int) ≤ 1000 by decide) (show -1000 ≤ (0 : Int) ∧ (0 : Int) ≤ 1000 by decide) (show -1000 ≤ (0 : Int) ∧ (0 : Int) ≤ 1000 by decide) trivial, small_fit _ _ _ _ _ _ (show -1000 ≤ (0 : Int) ∧ (0 : Int) ≤ 1000 by decide) (show -1000 ≤ (0 : Int) ∧ (0 : Int) ≤ 1000 by decide) (show -1000 ≤ (0 : Int) ∧ (0 : Int) ≤ 1000 by decide) (show -1000 ≤ (0 : Int) ∧ (0 : Int) ≤ 1000 by decide) trivial⟩
theorem two_29 (v : Int) : TwoOk v 29 := ⟨rfl, rfl, rfl, rfl, small_fit _ _ _ _ _ _ (show -1000 ≤ (0 : Int) ∧ (0 : Int) ≤ 1000 by decide) (show -1000 ≤ (0 : Int) ∧ (0 : Int) ≤ 1000 by decide) (show -1000 ≤ (0 : Int) ∧ (0 : Int) ≤ 1000 by decide) (show -1000 ≤ (0 : Int) ∧ (0 : Int) ≤ 1000 by decide) trivial, small_fit _ _ _ _ _ _ (show -1000 ≤ (0 : Int) ∧ (0 : Int) ≤ 1000 by decide) (show -1000 ≤ (0 : Int) ∧ (0 : Int) ≤ 1000 by decide) (show -1000 ≤ (0 : Int) ∧ (0 : Int) ≤ 1000 by decide) (show -1000 ≤ (1 : Int) ∧ (1 : Int) ≤ 1000 by decide) trivial⟩
theorem two_30 (v : Int) : TwoOk v 30 := ⟨rfl, rfl, rfl, rfl, small_fit _ _ _ _ _ _ (show -1000 ≤ (0 : Int) ∧ (0 : Int) ≤ 1000 by decide) (show -1000 ≤ (0 : Int) ∧ (0 : Int) ≤ 1000 by decide) (show -1000 ≤ (0 : Int) ∧ (0 : Int) ≤ 1000 by decide) (show -1000 ≤ (0 : Int) ∧ (0 : Int) ≤ 1000 by decide) trivial, small_fit _ _ _ _ _ _ (show -1000 ≤ (0 : Int) ∧ (0 : Int) ≤ 1000 by decide) (show -1000 ≤ (0 : Int) ∧ (0 : Int) ≤ 1000 by decide) (show -1000 ≤ (0 : Int) ∧ (0 : Int) ≤ 1000 by decide) (show -1000 ≤ (1 : Int) ∧ (1 : Int) ≤ 1000 by decide) trivial⟩
theorem two_31 (v : Int) : TwoOk v 31 := ⟨rfl, rfl, rfl, rfl, small_fit _ _ _ _ _ _ (show -1000 ≤ (1 : Int) ∧ (1 : Int) ≤ 1000 by decide) (show -1000 ≤ (0 : Int) ∧ (0 : Int) ≤ 1000 by decide) (show -1000 ≤ (0 : Int) ∧ (0 : Int) ≤ 1000 by decide) (show -1000 ≤ (0 : Int) ∧ (0 : Int) ≤ 1000 by decide) trivial, small_fit _ _ _ _ _ _ (show -1000 ≤ (1 : Int) ∧ (1 : Int) ≤ 1000 by decide) (show -1000 ≤ (0 : Int) ∧ (0 : Int) ≤ 1000 by decide) (show -1000 ≤ (0 : Int) ∧ (0 : Int) ≤ 1000 by decide) (show -1000 ≤ (1 : Int) ∧ (1 : Int) ≤ 1000 by decide) trivial⟩
theorem two_32 (v : Int) : TwoOk v 32 := ⟨rfl, rfl, rfl, rfl, small_fit _ _ _ _ _ _ (show -1000 ≤ (1 : Int) ∧ (1 : Int) ≤ 1000 by decide) (show -1000 ≤ (1 : Int) ∧ (1 : Int) ≤ 1000 by decide) (show -1000 ≤ (1 : Int) ∧ (1 : Int) ≤ 1000 by decide) (show -1000 ≤ (0 : Int) ∧ (0 : Int) ≤ 1000 by decide) trivial, small_fit _ _ _ _ _ _ (show -1000 ≤ (1 : Int) ∧ (1 : Int) ≤ 1000 by decide) (show -1000 ≤ (1 : Int) ∧ (1 : Int) ≤ 1000 by decide) (show -1000 ≤ (1 : Int) ∧ (1 : Int) ≤ 1000 by decide) (show -1000 ≤ (0 : Int) ∧ (0 : Int) ≤ 1000 by decide) trivial⟩
theorem two_33 (v : Int) : TwoOk v 33 := ⟨rfl, rfl, rfl, rfl, small_fit _ _ _ _ _ _ (show -1000 ≤ (1 : Int) ∧ (1 : Int) ≤ 1000 by decide) (show -1000 ≤ (0 : Int) ∧ (0 : Int) ≤ 1000 by decide) (show -1000 ≤ (1 : Int) ∧ (1 : Int) ≤ 1000 by decide) (show -1000 ≤ (0 : Int) ∧ (0 : Int) ≤ 1000 by decide) trivial, small_fit _ _ _ _ _ _ (show -1000 ≤ (1 : Int) ∧ (1 : Int) ≤ 1000 by decide) (show -1000 ≤ (0 : Int) ∧ (0 : Int) ≤ 1000 by decide) (show -1000 ≤ (1 : Int) ∧ (1 : Int) ≤ 1000 by decide) (show -1000 ≤ (0 : Int) ∧ (0 : Int) ≤ 1000 by decide) trivial⟩
theorem two_34 (v : Int) : TwoOk v 34 := ⟨rfl, rfl, rfl, rfl, small_fit _ _ _ _ _ _ (show -1000 ≤ (1 : Int) ∧ (1 : Int) ≤ 1000 by decide) (show -1000 ≤ (1 : Int) ∧ (1 : Int) ≤ 1000 by decide) (show -1000 ≤ (1 : Int) ∧ (1 : Int) ≤ 1000 by decide) (show -1000 ≤ (0 : Int) ∧ (0 : Int) ≤ 1000 by decide) trivial, small_fit _ _ _ _ _ _ (show -1000 ≤ (1 : Int) ∧ (1 : Int) ≤ 1000 by decide) (show -1000 ≤ (1 : Int) ∧ (1 : Int) ≤ 1000 by decide) (show -1000 ≤ (0 : Int) ∧ (0 : Int) ≤ 1000 by decide) (show -1000 ≤ (0 : Int) ∧ (0 : Int) ≤ 1000 by decide) trivial⟩
theorem two_35 (v : Int) : TwoOk v 35 := ⟨rfl, rfl, rfl, rfl, small_fit _ _ _ _ _ _ (show -1000 ≤ (1 : Int) ∧ (1 : Int) ≤ 1000 by decide) (show -1000 ≤ (0 : Int) ∧ (0 : Int) ≤ 1000 by decide) (show -1000 ≤ (1 : Int) ∧ (1 : Int) ≤ 1000 by decide) (show -1000 ≤ (0 : Int) ∧ (0 : Int) ≤ 1000 by decide) trivial, small_fit _ _ _ _ _ _ (show -1000 ≤ (1 : Int) ∧ (1 : Int) ≤ 1000 by decide) (show -1000 ≤ (0 : Int) ∧ (0 : Int) ≤ 1000 by decide) (show -1000 ≤ (0 : Int) ∧ (0 : Int) ≤ 1000 by decide) (show -1000 ≤ (0 : Int) ∧ (0 : Int) ≤ 1000 by decide) trivial⟩
theorem two_36 (v : Int) : TwoOk v 36 := ⟨rfl, rfl, rfl, rfl, small_fit _ _ _ _ _ _ (show -1000 ≤ (0 : Int) ∧ (0 : Int) ≤ 1000 by decide) (show -1000 ≤ (0 : Int) ∧ (0 : Int) ≤ 1000 by decide) (show -1000 ≤ (0 : Int) ∧ (0 : Int) ≤ 1000 by decide) (show -1000 ≤ (0 : Int) ∧ (0 : Int) ≤ 1000 by decide) trivial, small_fit _ _ _ _ _ _ (show -1000 ≤ (0 : Int) ∧ (0 : Int) ≤ 1000 by decide) (show -1000 ≤ (0 : Int) ∧ (0 : Int) ≤ 1000 by decide) (show -1000 ≤ (0 : Int) ∧ (0 : Int) ≤ 1000 by decide) (show -1000 ≤ (0 : Int) ∧ (0 : Int) ≤ 1000 by decide) trivial⟩
theorem two_37 (v : Int) : TwoOk v 37 := ⟨rfl, rfl, rfl, rfl, small_fit _ _ _ _ _ _ (show -1000 ≤ (0 : Int) ∧ (0 : Int) ≤ 1000 by decide) (show -1000 ≤ (0 : Int) ∧ (0 : Int) ≤ 1000 by decide) (show -1000 ≤ (0 : Int) ∧ (0 : Int) ≤ 1000 by decide) (show -1000 ≤ (0 : Int) ∧ (0 : Int) ≤ 1000 by decide) trivial, small_fit _ _ _ _ _ _ (show -1000 ≤ (0 : Int) ∧ (0 : Int) ≤ 1000 by decide) (show -1000 ≤ (0 : Int) ∧ (0 : Int) ≤ 1000 by decide) (show -1000 ≤ (0 : Int) ∧ (0 : Int) ≤ 1000 by decide) (show -1000 ≤ (0 : Int) ∧ (0 : Int) ≤ 1000 by decide) trivial⟩
theorem two_38 (v : Int) : TwoOk v 38 := ⟨rfl, rfl, rfl, rfl, small_fit _ _ _ _ _ _ (show -1000 ≤ (0 : Int) ∧ (0 : Int) ≤ 1000 by decide) (show -1000 ≤ (0 : Int) ∧ (0 : Int) ≤ 1000 by decide) (show -1000 ≤ (0 : Int) ∧ (0 : Int) ≤ 1000 by decide) (show -1000 ≤ (0 : Int) ∧ (0 : Int) ≤ 1000 by decide) trivial, small_fit _ _ _ _ _ _ (show -1000 ≤ (0 : Int) ∧ (0 : Int) ≤ 1000 by decide) (show -1000 ≤ (0 : Int) ∧ (0 : Int) ≤ 1000 by decide) (show -1000 ≤ (0 : Int) ∧ (0 : Int) ≤ 1000 by decide) (show -1000 ≤ (0 : Int) ∧ (0 : Int) ≤ 1000 by decide) trivial⟩
theorem two_39 (v : Int) : TwoOk v 39 := ⟨rfl, rfl, rfl, rfl, small_fit _ _ _ _ _ _ (show -1000 ≤ (1 : Int) ∧ (1 : Int) ≤ 1000 by decide) (show -1000 ≤ (0 : Int) ∧ (0 : Int) ≤ 1000 by decide) (show -1000 ≤ (1 : Int) ∧ (1 : Int) ≤ 1000 by decide) (show -1000 ≤ (0 : Int) ∧ (0 : Int) ≤ 1000 by decide) trivial, small_fit _ _ _ _ _ _ (show -1000 ≤ (1 : Int) ∧ (1 : Int) ≤ 1000 by decide) (show -1000 ≤ (0 : Int) ∧ (0 : Int) ≤ 1000 by decide) (show -1000 ≤ (0 : Int) ∧ (0 : Int) ≤ 1000 by decide) (show -1000 ≤ (1 : Int) ∧ (1 : Int) ≤ 1000 by decide) trivial⟩
theorem two_40 (v : Int) : TwoOk v 40 := ⟨rfl, rfl, rfl, rfl, small_fit _ _ _ _ _ _ (show -1000 ≤ (0 : Int) ∧ (0 : Int) ≤ 1000 by decide) (show -1000 ≤ (0 : Int) ∧ (0 : Int) ≤ 1000 by decide) (show -1000 ≤ (0 : Int) ∧ (0 : Int) ≤ 1000 by decide) (show -1000 ≤ (0 : Int) ∧ (0 : Int) ≤ 1000 by decide) trivial, small_fit _ _ _ _ _ _ (show -1000 ≤ (0 : Int) ∧ (0 : Int) ≤ 1000 by decide) (show -1000 ≤ (0 : Int) ∧ (0 : Int) ≤ 1000 by decide) (show -1000 ≤ (0 : Int) ∧ (0 : Int) ≤ 1000 by decide) (show -1000 ≤ (1 : Int) ∧ (1 : Int) ≤ 1000 by decide) trivial⟩
theorem two_41 (v : Int) : TwoOk v 41 := ⟨rfl, rfl, rfl, rfl, small_fit _ _ _ _ _ _ (show -1000 ≤ (1 : Int) ∧ (1 : Int) ≤ 1000 by decide) (show -1000 ≤ (0 : Int) ∧ (0 : Int) ≤ 1000 by decide) (show -1000 ≤ (0 : Int) ∧ (0 : Int) ≤ 1000 by decide) (show -1000 ≤ (0 : Int) ∧ (0 : Int) ≤ 1000 by decide) trivial, small_fit _ _ _ _ _ _ (show -1000 ≤ (1 : Int) ∧ (1 : Int) ≤ 1000 by decide) (show -1000 ≤ (0 : Int) ∧ (0 : Int) ≤ 1000 by decide) (show -1000 ≤ (0 : Int) ∧ (0 : Int) ≤ 1000 by decide) (show -1000 ≤ (1 : Int) ∧ (1 : Int) ≤ 1000 by decide) trivial⟩
theorem two_42 (v : Int) : TwoOk v 42 := ⟨rfl, rfl, rfl, rfl, small_fit _ _ _ _ _ _ (show -1000 ≤ (1 : Int) ∧ (1 : Int) ≤ 1000 by decide) (show -1000 ≤ (0 : Int) ∧ (0 : Int) ≤ 1000 by decide) (show -1000 ≤ (1 : Int) ∧ (1 : Int) ≤ 1000 by decide) (show -1000 ≤ (0 : Int) ∧ (0 : Int) ≤ 1000 by decide) trivial, small_fit _ _ _ _ _ _ (show -1000 ≤ (1 : Int) ∧ (1 : Int) ≤ 1000 by decide) (show -1000 ≤ (0 : Int) ∧ (0 : Int) ≤ 1000 by decide) (show -1000 ≤ (0 : Int) ∧ (0 : Int) ≤ 1000 by decide) (show -1000 ≤ (1 : Int) ∧ (1 : Int) ≤ 1000 by decide) trivial⟩
theorem two_43 (v : Int) : TwoOk v 43 := ⟨rfl, rfl, rfl, rfl, small_fit _ _ _ _ _ _ (show -1000 ≤ (1 : Int) ∧ (1 : Int) ≤ 1000 by decide) (show -1000 ≤ (1 : Int) ∧ (1 : Int) ≤ 1000 by decide) (show -1000 ≤ (1 : Int) ∧ (1 : Int) ≤ 1000 by decide) (show -1000 ≤ (0 : Int) ∧ (0 : Int) ≤ 1000 by decide) trivial, small_fit _ _ _ _ _ _ (show -1000 ≤ (1 : Int) ∧ (1 : Int) ≤ 1000 by decide) (show -1000 ≤ (1 : Int) ∧ (1 : Int) ≤ 1000 by decide) (show -1000 ≤ (1 : Int) ∧ (1 : Int) ≤ 1000 by decide) (show -1000 ≤ (1 : Int) ∧ (1 : Int) ≤ 1000 by decide) trivial⟩
theorem two_44 (v : Int) : TwoOk v 44 := ⟨rfl, rfl, rfl, rfl, small_fit _ _ _ _ _ _ (show -1000 ≤ (1 : Int) ∧ (1 : Int) ≤ 1000 by decide) (show -1000 ≤ (1 : Int) ∧ (1 : Int) ≤ 1000 by decide) (show -1000 ≤ (1 : Int) ∧ (1 : Int) ≤ 1000 by decide) (show -1000 ≤ (0 : Int) ∧ (0 : Int) ≤ 1000 by decide) trivial, small_fit _ _ _ _ _ _ (show -1000 ≤ (1 : Int) ∧ (1 : Int) ≤ 1000 by decide) (show -1000 ≤ (1 : Int) ∧ (1 : Int) ≤ 1000 by decide) (show -1000 ≤ (1 : Int) ∧ (1 : Int) ≤ 1000 by decide) (show -1000 ≤ (0 : Int) ∧ (0 : Int) ≤ 1000 by decide) trivial⟩
theorem two_45 (v : Int) : TwoOk v 45 := ⟨rfl, rfl, rfl, rfl, small_fit _ _ _ _ _ _ (show -1000 ≤ (1 : Int) ∧ (1 : Int) ≤ 1000 by decide) (show -1000 ≤ (0 : Int) ∧ (0 : Int) ≤ 1000 by decide) (show -1000 ≤ (1 : Int) ∧ (1 : Int) ≤ 1000 by decide) (show -1000 ≤ (0 : Int) ∧ (0 : Int) ≤ 1000 by decide) trivial, small_fit _ _ _ _ _ _ (show -1000 ≤ (1 : Int) ∧ (1 : Int) ≤ 1000 by decide) (show -1000 ≤ (0 : Int) ∧ (0 : Int) ≤ 1000 by decide) (show -1000 ≤ (1 : Int) ∧ (1 : Int) ≤ 1000 by decide) (show -1000 ≤ (0 : Int) ∧ (0 : Int) ≤ 1000 by decide) trivial⟩
theorem two_46 (v : Int) : TwoOk v 46 := ⟨rfl, rfl, rfl, rfl, small_fit _ _ _ _ _ _ (show -1000 ≤ (1 : Int) ∧ (1 : Int) ≤ 1000 by decide) (show -1000 ≤ (1 : Int) ∧ (1 : Int) ≤ 1000 by decide) (show -1000 ≤ (1 : Int) ∧ (1 : Int) ≤ 1000 by decide) (show -1000 ≤ (0 : Int) ∧ (0 : Int) ≤ 1000 by decide) trivial, small_fit _ _ _ _ _ _ (show -1000 ≤ (1 : Int) ∧ (1 : Int) ≤ 1000 by decide) (show -1000 ≤ (1 : Int) ∧ (1 : Int) ≤ 1000 by decide) (show -1000 ≤ (0 : Int) ∧ (0 : Int) ≤ 1000 by decide) (show -1000 ≤ (1 : Int) ∧ (1 : Int) ≤ 1000 by decide) trivial⟩
theorem two_47 (v : Int) : TwoOk v 47 := ⟨rfl, rfl, rfl, rfl, small_fit _ _ _ _ _ _ (show -1000 ≤ (1 : Int) ∧ (1 : Int) ≤ 1000 by decide) (show -1000 ≤ (1 : Int) ∧ (1 : Int) ≤ 1000 by decide) (show -1000 ≤ (1 : Int) ∧ (1 : Int) ≤ 1000 by decide) (show -1000 ≤ (0 : Int) ∧ (0 : Int) ≤ 1000 by decide) trivial, small_fit _ _ _ _ _ _ (show -1000 ≤ (1 : Int) ∧ (1 : Int) ≤ 1000 by decide) (show -1000 ≤ (1 : Int) ∧ (1 : Int) ≤ 1000 by decide) (show -1000 ≤ (0 : Int) ∧ (0 : Int) ≤ 1000 by decide) (show -1000 ≤ (0 : Int) ∧ (0 : Int) ≤ 1000 by decide) trivial⟩
theorem two_48 (v : Int) : TwoOk v 48 := ⟨rfl, rfl, rfl, rfl, small_fit _ _ _ _ _ _ (show -1000 ≤ (1 : Int) ∧ (1 : Int) ≤ 1000 by decide) (show -1000 ≤ (0 : Int) ∧ (0 : Int) ≤ 1000 by decide) (show -1000 ≤ (1 : Int) ∧ (1 : Int) ≤ 1000 by decide) (show -1000 ≤ (0 : Int) ∧ (0 : Int) ≤ 1000 by decide) trivial, small_fit _ _ _ _ _ _ (show -1000 ≤ (1 : Int) ∧ (1 : Int) ≤ 1000 by decide) (show -1000 ≤ (0 : Int) ∧ (0 : Int) ≤ 1000 by decide) (show -1000 ≤ (0 : Int) ∧ (0 : Int) ≤ 1000 by decide) (show -1000 ≤ (0 : Int) ∧ (0 : Int) ≤ 1000 by decide) trivial⟩
theorem two_49 (v : Int) : TwoOk v 49 := ⟨rfl, rfl, rfl, rfl, small_fit _ _ _ _ _ _ (show -1000 ≤ (0 : Int) ∧ (0 : Int) ≤ 1000 by decide) (show -1000 ≤ (0 : Int) ∧ (0 : Int) ≤ 1000 by decide) (show -1000 ≤ (0 : Int) ∧ (0 : Int) ≤ 1000 by decide) (show -1000 ≤ (0 : Int) ∧ (0 : Int) ≤ 1000 by decide) trivial, small_fit _ _ _ _ _ _ (show -1000 ≤ (0 : Int) ∧ (0 : Int) ≤ 1000 by decide) (show -1000 ≤ (0 : Int) ∧ (0 : Int) ≤ 1000 by decide) (show -1000 ≤ (0 : Int) ∧ (0 : Int) ≤ 1000 by decide) (show -1000 ≤ (0 : Int) ∧ (0 : Int) ≤ 1000 by decide) trivial⟩
theorem two_50 (v : Int) : TwoOk v 50 := ⟨rfl, rfl, rfl, rfl, small_fit _ _ _ _ _ _ (show -1000 ≤ (0 : Int) ∧ (0 : Int) ≤ 1000 by decide) (show -1000 ≤ (0 : Int) ∧ (0 : Int) ≤ 1000 by decide) (show -1000 ≤ (0 : Int) ∧ (0 : Int) ≤ 1000 by decide) (show -1000 ≤ (0 : Int) ∧ (0 : Int) ≤ 1000 by decide) trivial, small_fit _ _ _ _ _ _ (show -1000 ≤ (0 : Int) ∧ (0 : Int) ≤ 1000 by decide) (show -1000 ≤ (0 : Int) ∧ (0 : Int) ≤ 1000 by decide) (show -1000 ≤ (0 : Int) ∧ (0 : Int) ≤ 1000 by decide) (show -1000 ≤ (0 : Int) ∧ (0 : Int) ≤ 1000 by decide) trivial⟩
theorem two_51 (v : Int) : TwoOk v 51 := ⟨rfl, rfl, rfl, rfl, small_fit _ _ _ _ _ _ (show -1000 ≤ (1 : Int) ∧ (1 : Int) ≤ 1000 by decide) (show -1000 ≤ (0 : Int) ∧ (0 : Int) ≤ 1000 by decide) (show -1000 ≤ (1 : Int) ∧ (1 : Int) ≤ 1000 by decide) (show -1000 ≤ (0 : Int) ∧ (0 : Int) ≤ 1000 by decide) trivial, small_fit _ _ _ _ _ _ (show -1000 ≤ (1 : Int) ∧ (1 : Int) ≤ 1000 by decide) (show -1000 ≤ (0 : Int) ∧ (0 : Int) ≤ 1000 by decide) (show -1000 ≤ (0 : Int) ∧ (0 : Int) ≤ 1000 by decide) (show -1000 ≤ (1 : Int) ∧ (1 : Int) ≤ 1000 by decide) trivial⟩
theorem two_52 (v : Int) : TwoOk v 52 := ⟨rfl, rfl, rfl, rfl, small_fit _ _ _ _ _ _ (show -1000 ≤ (1 : Int) ∧ (1 : Int) ≤ 1000 by decide) (show -1000 ≤ (0 : Int) ∧ (0 : Int) ≤ 1000 by decide) (show -1000 ≤ (0 : Int) ∧ (0 : Int) ≤ 1000 by decide) (show -1000 ≤ (0 : Int) ∧ (0 : Int) ≤ 1000 by decide) trivial, small_fit _ _ _ _ _ _ (show -1000 ≤ (1 : Int) ∧ (1 : Int) ≤ 1000 by decide) (show -1000 ≤ (0 : Int) ∧ (0 : Int) ≤ 1000 by decide) (show -1000 ≤ (0 : Int) ∧ (0 : Int) ≤ 1000 by decide) (show -1000 ≤ (1 : Int) ∧ (1 : Int) ≤ 1000 by decide) trivial⟩
theorem two_53 (v : Int) : TwoOk v 53 := ⟨rfl, rfl, rfl, rfl, small_fit _ _ _ _ _ _ (show -1000 ≤ (1 : Int) ∧ (1 : Int) ≤ 1000 by decide) (show -1000 ≤ (1 : Int) ∧ (1 : Int) ≤ 1000 by decide) (show -1000 ≤ (1 : Int) ∧ (1 : Int) ≤ 1000 by decide) (show -1000 ≤ (0 : Int) ∧ (0 : Int) ≤ 1000 by decide) trivial, small_fit _ _ _ _ _ _ (show -1000 ≤ (1 : Int) ∧ (1 : Int) ≤ 1000 by decide) (show -1000 ≤ (1 : Int) ∧ (1 : Int) ≤ 1000 by decide) (show -1000 ≤ (0 : Int) ∧ (0 : Int) ≤ 1000 by decide) (show -1000 ≤ (1 : Int) ∧ (1 : Int) ≤ 1000 by decide) trivial⟩
theorem two_54 (v : Int) : TwoOk v 54 := ⟨rfl, rfl, rfl, rfl, small_fit _ _ _ _ _ _ (show -1000 ≤ (1 : Int) ∧ (1 : Int) ≤ 1000 by decide) (show -1000 ≤ (1 : Int) ∧ (1 : Int) ≤ 1000 by decide) (show -1000 ≤ (1 : Int) ∧ (1 : Int) ≤ 1000 by decide) (show -1000 ≤ (0 : Int) ∧ (0 : Int) ≤ 1000 by decide) trivial, small_fit _ _ _ _ _ _ (show -1000 ≤ (1 : Int) ∧ (1 : Int) ≤ 1000 by decide) (show -1000 ≤ (1 : Int) ∧ (1 : Int) ≤ 1000 by decide) (show -1000 ≤ (1 : Int) ∧ (1 : Int) ≤ 1000 by decide) (show -1000 ≤ (1 : Int) ∧ (1 : Int) ≤ 1000 by decide) trivial⟩
theorem two_55 (v : Int) : TwoOk v 55 := ⟨rfl, rfl, rfl, rfl, small_fit _ _ _ _ _ _ (show -1000 ≤ (1 : Int) ∧ (1 : Int) ≤ 1000 by decide) (show -1000 ≤ (1 : Int) ∧ (1 : Int) ≤ 1000 by decide) (show -1000 ≤ (1 : Int) ∧ (1 : Int) ≤ 1000 by decide) (show -1000 ≤ (0 : Int) ∧ (0 : Int) ≤ 1000 by decide) trivial, small_fit _ _ _ _ _ _ (show -1000 ≤ (1 : Int) ∧ (1 : Int) ≤ 1000 by decide) (show -1000 ≤ (1 : Int) ∧ (1 : Int) ≤ 1000 by decide) (show -1000 ≤ (1 : Int) ∧ (1 : Int) ≤ 1000 by decide) (show -1000 ≤ (0 : Int) ∧ (0 : Int) ≤ 1000 by decide) trivial⟩
theorem two_56 (v : Int) : TwoOk v 56 := ⟨rfl, rfl, rfl, rfl, small_fit _ _ _ _ _ _ (show -1000 ≤ (1 : Int) ∧ (1 : Int) ≤ 1000 by decide) (show -1000 ≤ (0 : Int) ∧ (0 : Int) ≤ 1000 by decide) (show -1000 ≤ (1 : Int) ∧ (1 : Int) ≤ 1000 by decide) (show -1000 ≤ (0 : Int) ∧ (0 : Int) ≤ 1000 by decide) trivial, small_fit _ _ _ _ _ _ (show -1000 ≤ (1 : Int) ∧ (1 : Int) ≤ 1000 by decide) (show -1000 ≤ (0 : Int) ∧ (0 : Int) ≤ 1000 by decide) (show -1000 ≤ (1 : Int) ∧ (1 : Int) ≤ 1000 by decide) (show -1000 ≤ (0 : Int) ∧ (0 : Int) ≤ 1000 by decide) trivial⟩
theorem two_57 (v : Int) : TwoOk v 57 := ⟨rfl, rfl, rfl, rfl, small_fit _ _ _ _ _ _ (show -1000 ≤ (1 : Int) ∧ (1 : Int) ≤ 1000 by decide) (show -1000 ≤ (1 : Int) ∧ (1 : Int) ≤ 1000 by decide) (show -1000 ≤ (1 : Int) ∧ (1 : Int) ≤ 1000 by decide) (show -1000 ≤ (0 : Int) ∧ (0 : Int) ≤ 1000 by decide) trivial, small_fit _ _ _ _ _ _ (show -1000 ≤ (1 : Int) ∧ (1 : Int) ≤ 1000 by decide) (show -1000 ≤ (1 : Int) ∧ (1 : Int) ≤ 1000 by decide) (show -1000 ≤ (0 : Int) ∧ (0 : Int) ≤ 1000 by decide) (show -1000 ≤ (1 : Int) ∧ (1 : Int) ≤ 1000 by decide) trivial⟩
theorem two_58 (v : Int) : TwoOk v 58 := ⟨rfl, rfl, rfl, rfl, small_fit _ _ _ _ _ _ (show -1000 ≤ (1 : Int) ∧ (1 : Int) ≤ 1000 by decide) (show -1000 ≤ (1 : Int) ∧ (1 : Int) ≤ 1000 by decide) (show -1000 ≤ (1 : Int) ∧ (1 : Int) ≤ 1000 by decide) (show -1000 ≤ (0 : Int) ∧ (0 : Int) ≤ 1000 by decide) trivial, small_fit _ _ _ _ _ _ (show -1000 ≤ (1 : Int) ∧ (1 : Int) ≤ 1000 by decide) (show -1000 ≤ (1 : Int) ∧ (1 : Int) ≤ 1000 by decide) (show -1000 ≤ (0 : Int) ∧ (0 : Int) ≤ 1000 by decide) (show -1000 ≤ (0 : Int) ∧ (0 : Int) ≤ 1000 by decide) trivial⟩
theorem two_59 (v : Int) : TwoOk v 59 := ⟨rfl, rfl, rfl, rfl, small_fit _ _ _ _ _ _ (show -1000 ≤ (1 : Int) ∧ (1 : Int) ≤ 1000 by decide) (show -1000 ≤ (0 : Int) ∧ (0 : Int) ≤ 1000 by decide) (show -1000 ≤ (1 : Int) ∧ (1 : Int) ≤ 1000 by decide) (show -1000 ≤ (0 : Int) ∧ (0 : Int) ≤ 1000 by decide) trivial, small_fit _ _ _ _ _ _ (show -1000 ≤ (1 : Int) ∧ (1 : Int) ≤ 1000 by decide) (show -1000 ≤ (0 : Int) ∧ (0 : Int) ≤ 1000 by decide) (show -1000 ≤ (0 : Int) ∧ (0 : Int) ≤ 1000 by decide) (show -1000 ≤ (0 : Int) ∧ (0 : Int) ≤ 1000 by decide) trivial⟩
theorem two_60 (v : Int) : TwoOk v 60 := ⟨rfl, rfl, rfl, rfl, small_fit _ _ _ _ _ _ (show -1000 ≤ (0 : Int) ∧ (0 : Int) ≤ 1000 by decide) (show -1000 ≤ (0 : Int) ∧ (0 : Int) ≤ 1000 by decide) (show -1000 ≤ (0 : Int) ∧ (0 : Int) ≤ 1000 by decide) (show -1000 ≤ (0 : Int) ∧ (0 : Int) ≤ 1000 by decide) trivial, small_fit _ _ _ _ _ _ (show -1000 ≤ (0 : Int) ∧ (0 : Int) ≤ 1000 by decide) (show -1000 ≤ (0 : Int) ∧ (0 : Int) ≤ 1000 by decide) (show -1000 ≤ (0 : Int) ∧ (0 : Int) ≤ 1000 by decide) (show -1000 ≤ (0 : Int) ∧ (0 : Int) ≤ 1000 by decide) trivial⟩
theorem two_61 (v : Int) : TwoOk v 61 := ⟨rfl, rfl, rfl, rfl, small_fit _ _ _ _ _ _ (show -1000 ≤ (1 : Int) ∧ (1 : Int) ≤ 1000 by decide) (show -1000 ≤ (0 : Int) ∧ (0 : Int) ≤ 1000 by decide) (show -1000 ≤ (1 : Int) ∧ (1 : Int) ≤ 1000 by decide) (show -1000 ≤ (0 : Int) ∧ (0 : Int) ≤ 1000 by decide) trivial, small_fit _ _ _ _ _ _ (show -1000 ≤ (1 : Int) ∧ (1 : Int) ≤ 1000 by decide) (show -1000 ≤ (0 : Int) ∧ (0 : Int) ≤ 1000 by decide) (show -1000 ≤ (0 : Int) ∧ (0 : Int) ≤ 1000 by decide) (show -1000 ≤ (1 : Int) ∧ (1 : Int) ≤ 1000 by decide) trivial⟩
theorem two_62 (v : Int) : TwoOk v 62 := ⟨rfl, rfl, rfl, rfl, small_fit _ _ _ _ _ _ (show -1000 ≤ (1 : Int) ∧ (1 : Int) ≤ 1000 by decide) (show -1000 ≤ (0 : Int) ∧ (0 : Int) ≤ 1000 by decide) (show -1000 ≤ (1 : Int) ∧ (1 : Int) ≤ 1000 by decide) (show -1000 ≤ (0 : Int) ∧ (0 : Int) ≤ 1000 by decide) trivial, small_fit _ _ _ _ _ _ (show -1000 ≤ (1 : Int) ∧ (1 : Int) ≤ 1000 by decide) (show -1000 ≤ (0 : Int) ∧ (0 : Int) ≤ 1000 by decide) (show -1000 ≤ (0 : Int) ∧ (0 : Int) ≤ 1000 by decide) (show -1000 ≤ (1 : Int) ∧ (1 : Int) ≤ 1000 by decide) trivial⟩
theorem two_63 (v : Int) : TwoOk v 63 := ⟨rfl, rfl, rfl, rfl, small_fit _ _ _ _ _ _ (show -1000 ≤ (1 : Int) ∧ (1 : Int) ≤ 1000 by decide) (show -1000 ≤ (1 : Int) ∧ (1 : Int) ≤ 1000 by decide) (show -1000 ≤ (1 : Int) ∧ (1 : Int) ≤ 1000 by decide) (show -1000 ≤ (0 : Int) ∧ (0 : Int) ≤ 1000 by decide) trivial, small_fit _ _ _ _ _ _ (show -1000 ≤ (1 : Int) ∧ (1 : Int) ≤ 1000 by decide) (show -1000 ≤ (1 : Int) ∧ (1 : Int) ≤ 1000 by decide) (show -1000 ≤ (0 : Int) ∧ (0 : Int) ≤ 1000 by decide) (show -1000 ≤ (1 : Int) ∧ (1 : Int) ≤ 1000 by decide) trivial⟩
theorem two_64 (v : Int) : TwoOk v 64 := ⟨rfl, rfl, rfl, rfl, small_fit _ _ _ _ _ _ (show -1000 ≤ (1 : Int) ∧ (1 : Int) ≤ 1000 by decide) (show -1000 ≤ (1 : Int) ∧ (1 : Int) ≤ 1000 by decide) (show -1000 ≤ (1 : Int) ∧ (1 : Int) ≤ 1000 by decide) (show -1000 ≤ (0 : Int) ∧ (0 : Int) ≤ 1000 by decide) trivial, small_fit _ _ _ _ _ _ (show -1000 ≤ (1 : Int) ∧ (1 : Int) ≤ 1000 by decide) (show -1000 ≤ (1 : Int) ∧ (1 : Int) ≤ 1000 by decide) (show -1000 ≤ (1 : Int) ∧ (1 : Int) ≤ 1000 by decide) (show -1000 ≤ (1 : Int) ∧ (1 : Int) ≤ 1000 by decide) trivial⟩
theorem two_65 (v : Int) : TwoOk v 65 := ⟨rfl, rfl, rfl, rfl, small_fit _ _ _ _ _ _ (show -1000 ≤ (1 : Int) ∧ (1 : Int) ≤ 1000 by decide) (show -1000 ≤ (1 : Int) ∧ (1 : Int) ≤ 1000 by decide) (show -1000 ≤ (1 : Int) ∧ (1 : Int) ≤ 1000 by decide) (show -1000 ≤ (0 : Int) ∧ (0 : Int) ≤ 1000 by decide) trivial, small_fit _ _ _ _ _ _ (show -1000 ≤ (1 : Int) ∧ (1 : Int) ≤ 1000 by decide) (show -1000 ≤ (1 : Int) ∧ (1 : Int) ≤ 1000 by decide) (show -1000 ≤ (1 : Int) ∧ (1 : Int) ≤ 1000 by decide) (show -1000 ≤ (0 : Int) ∧ (0 : Int) ≤ 1000 by decide) trivial⟩
theorem two_66 (v : Int) : TwoOk v 66 := ⟨rfl, rfl, rfl, rfl, small_fit _ _ _ _ _ _ (show -1000 ≤ (1 : Int) ∧ (1 : Int) ≤ 1000 by decide) (show -1000 ≤ (0 : Int) ∧ (0 : Int) ≤ 1000 by decide) (show -1000 ≤ (1 : Int) ∧ (1 : Int) ≤ 1000 by decide) (show -1000 ≤ (0 : Int) ∧ (0 : Int) ≤ 1000 by decide) trivial, small_fit _ _ _ _ _ _ (show -1000 ≤ (1 : Int) ∧ (1 : Int) ≤ 1000 by decide) (show -1000 ≤ (0 : Int) ∧ (0 : Int) ≤ 1000 by decide) (show -1000 ≤ (1 : Int) ∧ (1 : Int) ≤ 1000 by decide) (show -1000 ≤ (0 : Int) ∧ (0 : Int) ≤ 1000 by decide) trivial⟩
theorem two_67 (v : Int) : TwoOk v 67 := ⟨rfl, rfl, rfl, rfl, small_fit _ _ _ _ _ _ (show -1000 ≤ (1 : Int) ∧ (1 : Int) ≤ 1000 by decide) (show -1000 ≤ (1 : Int) ∧ (1 : Int) ≤ 1000 by decide) (show -1000 ≤ (1 : Int) ∧ (1 : Int) ≤ 1000 by decide) (show -1000 ≤ (0 : Int) ∧ (0 : Int) ≤ 1000 by decide) trivial, small_fit _ _ _ _ _ _ (show -1000 ≤ (1 : Int) ∧ (1 : Int) ≤ 1000 by decide) (show -1000 ≤ (1 : Int) ∧ (1 : Int) ≤ 1000 by decide) (show -1000 ≤ (0 : Int) ∧ (0 : Int) ≤ 1000 by decide) (show -1000 ≤ (1 : Int) ∧ (1 : Int) ≤ 1000 by decide) trivial⟩
theorem two_68 (v : Int) : TwoOk v 68 := ⟨rfl, rfl, rfl, rfl, small_fit _ _ _ _ _ _ (show -1000 ≤ (1 : Int) ∧ (1 : Int) ≤ 1000 by decide) (show -1000 ≤ (1 : Int) ∧ (1 : Int) ≤ 1000 by decide) (show -1000 ≤ (1 : Int) ∧ (1 : Int) ≤ 1000 by decide) (show -1000 ≤ (0 : Int) ∧ (0 : Int) ≤ 1000 by decide) trivial, small_fit _ _ _ _ _ _ (show -1000 ≤ (1 : Int) ∧ (1 : Int) ≤ 1000 by decide) (show -1000 ≤ (1 : Int) ∧ (1 : Int) ≤ 1000 by decide) (show -1000 ≤ (0 : Int) ∧ (0 : Int) ≤ 1000 by decide) (show -1000 ≤ (0 : Int) ∧ (0 : Int) ≤ 1000 by decide) trivial⟩
theorem two_69 (v : Int) : TwoOk v 69 := ⟨rfl, rfl, rfl, rfl, small_fit _ _ _ _ _ _ (show -1000 ≤ (1 : Int) ∧ (1 : Int) ≤ 1000 by decide) (show -1000 ≤ (0 : Int) ∧ (0 : Int) ≤ 1000 by decide) (show -1000 ≤ (1 : Int) ∧ (1 : Int) ≤ 1000 by decide) (show -1000 ≤ (0 : Int) ∧ (0 : Int) ≤ 1000 by decide) trivial, small_fit _ _ _ _ _ _ (show -1000 ≤ (1 : Int) ∧ (1 : Int) ≤ 1000 by decide) (show -1000 ≤ (0 : Int) ∧ (0 : Int) ≤ 1000 by decide) (show -1000 ≤ (0 : Int) ∧ (0 : Int) ≤ 1000 by decide) (show -1000 ≤ (0 : Int) ∧ (0 : Int) ≤ 1000 by decide) trivial⟩
theorem two_70 (v : Int) : TwoOk v 70 := ⟨rfl, rfl, rfl, rfl, small_fit _ _ _ _ _ _ (show -1000 ≤ (1 : Int) ∧ (1 : Int) ≤ 1000 by decide) (show -1000 ≤ (1 : Int) ∧ (1 : Int) ≤ 1000 by decide) (show -1000 ≤ (1 : Int) ∧ (1 : Int) ≤ 1000 by decide) (show -1000 ≤ (0 : Int) ∧ (0 : Int) ≤ 1000 by decide) trivial, small_fit _ _ _ _ _ _ (show -1000 ≤ (1 : Int) ∧ (1 : Int) ≤ 1000 by decide) (show -1000 ≤ (1 : Int) ∧ (1 : Int) ≤ 1000 by decide) (show -1000 ≤ (0 : Int) ∧ (0 : Int) ≤ 1000 by decide) (show -1000 ≤ (1 : Int) ∧ (1 : Int) ≤ 1000 by decide) trivial⟩
theorem two_71 (v : Int) : TwoOk v 71 := ⟨rfl, rfl, rfl, rfl, small_fit _ _ _ _ _ _ (show -1000 ≤ (1 : Int) ∧ (1 : Int) ≤ 1000 by decide) (show -1000 ≤ (1 : Int) ∧ (1 : Int) ≤ 1000 by decide) (show -1000 ≤ (1 : Int) ∧ (1 : Int) ≤ 1000 by decide) (show -1000 ≤ (0 : Int) ∧ (0 : Int) ≤ 1000 by decide) trivial, small_fit _ _ _ _ _ _ (show -1000 ≤ (1 : Int) ∧ (1 : Int) ≤ 1000 by decide) (show -1000 ≤ (1 : Int) ∧ (1 : Int) ≤ 1000 by decide) (show -1000 ≤ (0 : Int) ∧ (0 : Int) ≤ 1000 by decide) (show -1000 ≤ (1 : Int) ∧ (1 : Int) ≤ 1000 by decide) trivial⟩
theorem two_72 (v : Int) : TwoOk v 72 := ⟨rfl, rfl, rfl, rfl, small_fit _ _ _ _ _ _ (show -1000 ≤ (1 : Int) ∧ (1 : Int) ≤ 1000 by decide) (show -1000 ≤ (1 : Int) ∧ (1 : Int) ≤ 1000 by decide) (show -1000 ≤ (1 : Int) ∧ (1 : Int) ≤ 1000 by decide) (show -1000 ≤ (0 : Int) ∧ (0 : Int) ≤ 1000 by decide) trivial, small_fit _ _ _ _ _ _ (show -1000 ≤ (1 : Int) ∧ (1 : Int) ≤ 1000 by decide) (show -1000 ≤ (1 : Int) ∧ (1 : Int) ≤ 1000 by decide) (show -1000 ≤ (1 : Int) ∧ (1 : Int) ≤ 1000 by decide) (show -1000 ≤ (1 : Int) ∧ (1 : Int) ≤ 1000 by decide) trivial⟩
theorem two_73 (v : Int) : TwoOk v 73 := ⟨rfl, rfl, rfl, rfl, small_fit _ _ _ _ _ _ (show -1000 ≤ (1 : Int) ∧ (1 : Int) ≤ 1000 by decide) (show -1000 ≤ (1 : Int) ∧ (1 : Int) ≤ 1000 by decide) (show -1000 ≤ (1 : Int) ∧ (1 : Int) ≤ 1000 by decide) (show -1000 ≤ (0 : Int) ∧ (0 : Int) ≤ 1000 by decide) trivial, small_fit _ _ _ _ _ _ (show -1000 ≤ (1 : Int) ∧ (1 : Int) ≤ 1000 by decide) (show -1000 ≤ (1 : Int) ∧ (1 : Int) ≤ 1000 by decide) (show -1000 ≤ (1 : Int) ∧ (1 : Int) ≤ 1000 by decide) (show -1000 ≤ (0 : Int) ∧ (0 : Int) ≤ 1000 by decide) trivial⟩
theorem two_74 (v : Int) : TwoOk v 74 := ⟨rfl, rfl, rfl, rfl, small_fit _ _ _ _ _ _ (show -1000 ≤ (1 : Int) ∧ (1 : Int) ≤ 1000 by decide) (show -1000 ≤ (1 : Int) ∧ (1 : Int) ≤ 1000 by decide) (show -1000 ≤ (1 : Int) ∧ (1 : Int) ≤ 1000 by decide) (show -1000 ≤ (0 : Int) ∧ (0 : Int) ≤ 1000 by decide) trivial, small_fit _ _ _ _ _ _ (show -1000 ≤ (1 : Int) ∧ (1 : Int) ≤ 1000 by decide) (show -1000 ≤ (1 : Int) ∧ (1 : Int) ≤ 1000 by decide) (show -1000 ≤ (0 : Int) ∧ (0 : Int) ≤ 1000 by decide) (show -1000 ≤ (0 : Int) ∧ (0 : Int) ≤ 1000 by decide) trivial⟩
theorem two_75 (v : Int) : TwoOk v 75 := ⟨rfl, rfl, rfl, rfl, small_fit _ _ _ _ _ _ (show -1000 ≤ (1 : Int) ∧ (1 : Int) ≤ 1000 by decide) (show -1000 ≤ (1 : Int) ∧ (1 : Int) ≤ 1000 by decide) (show -1000 ≤ (1 : Int) ∧ (1 : Int) ≤ 1000 by decide) (show -1000 ≤ (0 : Int) ∧ (0 : Int) ≤ 1000 by decide) trivial, small_fit _ _ _ _ _ _ (show -1000 ≤ (1 : Int) ∧ (1 : Int) ≤ 1000 by decide) (show -1000 ≤ (1 : Int) ∧ (1 : Int) ≤ 1000 by decide) (show -1000 ≤ (0 : Int) ∧ (0 : Int) ≤ 1000 by decide) (show -1000 ≤ (1 : Int) ∧ (1 : Int) ≤ 1000 by decide) trivial⟩
theorem two_76 (v : Int) : TwoOk v 76 := ⟨rfl, rfl, rfl, rfl, small_fit _ _ _ _ _ _ (show -1000 ≤ (1 : Int) ∧ (1 : Int) ≤ 1000 by decide) (show -1000 ≤ (1 : Int) ∧ (1 : Int) ≤ 1000 by decide) (show -1000 ≤ (1 : Int) ∧ (1 : Int) ≤ 1000 by decide) (show -1000 ≤ (0 : Int) ∧ (0 : Int) ≤ 1000 by decide) trivial, small_fit _ _ _ _ _ _ (show -1000 ≤ (1 : Int) ∧ (1 : Int) ≤ 1000 by decide) (show -1000 ≤ (1 : Int) ∧ (1 : Int) ≤ 1000 by decide) (show -1000 ≤ (0 : Int) ∧ (0 : Int) ≤ 1000 by decide) (show -1000 ≤ (1 : Int) ∧ (1 : Int) ≤ 1000 by decide) trivial⟩
theorem two_77 (v : Int) : TwoOk v 77 := ⟨rfl, rfl, rfl, rfl, small_fit _ _ _ _ _ _ (show -1000 ≤ (1 : Int) ∧ (1 : Int) ≤ 1000 by decide) (show -1000 ≤ (1 : Int) ∧ (1 : Int) ≤ 1000 by decide) (show -1000 ≤ (1 : Int) ∧ (1 : Int) ≤ 1000 by decide) (show -1000 ≤ (0 : Int) ∧ (0 : Int) ≤ 1000 by decide) trivial, small_fit _ _ _ _ _ _ (show -1000 ≤ (1 : Int) ∧ (1 : Int) ≤ 1000 by decide) (show -1000 ≤ (1 : Int) ∧ (1 : Int) ≤ 1000 by decide) (show -1000 ≤ (0 : Int) ∧ (0 : Int) ≤ 1000 by decide) (show -1000 ≤ (1 : Int) ∧ (1 : Int) ≤ 1000 by decide) trivial⟩
theorem two_78 (v : Int) : TwoOk v 78 := ⟨rfl, rfl, rfl, rfl, small_fit _ _ _ _ _ _ (show -1000 ≤ (1 : Int) ∧ (1 : Int) ≤ 1000 by decide) (show -1000 ≤ (1 : Int) ∧ (1 : Int) ≤ 1000 by decide) (show -1000 ≤ (1 : Int) ∧ (1 : Int) ≤ 1000 by decide) (show -1000 ≤ (0 : Int) ∧ (0 : Int) ≤ 1000 by decide) trivial, small_fit _ _ _ _ _ _ (show -1000 ≤ (1 : Int) ∧ (1 : Int) ≤ 1000 by decide) (show -1000 ≤ (1 : Int) ∧ (1 : Int) ≤ 1000 by decide) (show -1000 ≤ (0 : Int) ∧ (0 : Int) ≤ 1000 by decide) (show -1000 ≤ (1 : Int) ∧ (1 : Int) ≤ 1000 by decide) trivial⟩

theorem two_ok (v : Int) : ∀ i, i < 79 → TwoOk v i
  | 0, _ => two_0 v
  | 1, _ => two_1 v
  | 2, _ => two_2 v
  | 3, _ => two_3 v
  | 4, _ => two_4 v
  | 5, _ => two_5 v
  | 6, _ => two_6 v
  | 7, _ => two_7 v
  | 8, _ => two_8 v
  | 9, _ => two_9 v
  | 10, _ => two_10 v
  | 11, _ => two_11 v
  | 12, _ => two_12 v
  | 13, _ => two_13 v
  | 14, _ => two_14 v
  | 15, _ => two_15 v
  | 16, _ => two_16 v
  | 17, _ => two_17 v
  | 18, _ => two_18 v
  | 19, _ => two_19 v
  | 20, _ => two_20 v
  | 21, _ => two_21 v
  | 22, _ => two_22 v
  | 23, _ => two_23 v
  | 24, _ => two_24 v
  | 25, _ => two_25 v
  | 26, _ => two_26 v
  | 27, _ => two_27 v
  | 28, _ => two_28 v
  | 29, _ => two_29 v
  | 30, _ => two_30 v
  | 31, _ => two_31 v
  | 32, _ => two_32 v
  | 33, _ => two_33 v
  | 34, _ => two_34 v
  | 35, _ => two_35 v
  | 36, _ => two_36 v
  | 37, _ => two_37 v
  | 38, _ => two_38 v
  | 39, _ => two_39 v
  | 40, _ => two_40 v
  | 41, _ => two_41 v
  | 42, _ => two_42 v
  | 43, _ => two_43 v
  | 44, _ => two_44 v
  | 45, _ => two_45 v
  | 46, _ => two_46 v
  | 47, _ => two_47 v
  | 48, _ => two_48 v
  | 49, _ => two_49 v
  | 50, _ => two_50 v
  | 51, _ => two_51 v
  | 52, _ => two_52 v
  | 53, _ => two_53 v
  | 54, _ => two_54 v
  | 55, _ => two_55 v
  | 56, _ => two_56 v
  | 57, _ => two_57 v
  | 58, _ => two_58 v
  | 59, _ => two_59 v
  | 60, _ => two_60 v
  | 61, _ => two_61 v
  | 62, _ => two_62 v
  | 63, _ => two_63 v
  | 64, _ => two_64 v
  | 65, _ => two_65 v
  | 66, _ => two_66 v
  | 67, _ => two_67 v
  | 68, _ => two_68 v
  | 69, _ => two_69 v
  | 70, _ => two_70 v
  | 71, _ => two_71 v
  | 72, _ => two_72 v
  | 73, _ => two_73 v
  | 74, _ => two_74 v
  | 75, _ => two_75 v
  | 76, _ => two_76 v
  | 77, _ => two_77 v
  | 78, _ => two_78 v
  | i + 79, h => absurd h (by omega)

theorem twoA_lt : ∀ i, i < 79 → twoA i < 79 := by decide +kernel
set_option maxRecDepth 100000 in
theorem twoB_lt : ∀ i, i < 79 → twoB i < 79 := by decide +kernel

theorem two_goes (v : Int) (k : Nat) : ∀ i, i < 79 → goes2 ⟨0, 4, 2⟩ k (twoSt v i) = twoSt v (twoIt k i) := by
  induction k with
  | zero => intro i _; rfl
  | succ k ih =>
    intro i hi
    obtain ⟨h1, h2, _⟩ := two_ok v i hi
    have hA := twoA_lt i hi
    obtain ⟨_, _, h3, h4, _⟩ := two_ok v (twoA i) hA
    rw [goes2, h1]
    simp only
    rw [← h2, h3, ← h4]
    exact ih _ (twoB_lt _ hA)

def twoEnds : List Nat := [67, 72, 73, 74, 76, 78]
set_option maxRecDepth 100000 in
theorem two_ends : ∀ i, i < 79 → twoIt 14 i ∈ twoEnds := by decide +kernel

/-- Just one of them has the item. -/
def TwoFin (v : Int) (r : List Int × OpS × OpS) : Prop :=
  r.1 = twoL v 1 1 0 0 ∧ r.2.1.done = true ∧ r.2.2.done = true ∧ ((valOf r.2.1 = (v, 0) ∧ (valOf r.2.2 = (0, 15) ∨ valOf r.2.2 = (0, 16))) ∨ (valOf r.2.1 = (0, 15) ∧ valOf r.2.2 = (v, 0)))

theorem twof_67 (v : Int) : TwoFin v (twoSt v 67) := ⟨rfl, rfl, rfl, .inl ⟨rfl, .inr rfl⟩⟩
theorem twof_72 (v : Int) : TwoFin v (twoSt v 72) := ⟨rfl, rfl, rfl, .inl ⟨rfl, .inl rfl⟩⟩
theorem twof_73 (v : Int) : TwoFin v (twoSt v 73) := ⟨rfl, rfl, rfl, .inl ⟨rfl, .inl rfl⟩⟩
theorem twof_74 (v : Int) : TwoFin v (twoSt v 74) := ⟨rfl, rfl, rfl, .inl ⟨rfl, .inl rfl⟩⟩
theorem twof_76 (v : Int) : TwoFin v (twoSt v 76) := ⟨rfl, rfl, rfl, .inr ⟨rfl, rfl⟩⟩
theorem twof_78 (v : Int) : TwoFin v (twoSt v 78) := ⟨rfl, rfl, rfl, .inr ⟨rfl, rfl⟩⟩

theorem two_fin (v : Int) (i : Nat) (hi : i < 79) : TwoFin v (goes2 ⟨0, 4, 2⟩ 14 (twoSt v i)) := by
  rw [two_goes v 14 i hi]
  have h := two_ends i hi
  simp only [twoEnds, List.mem_cons, List.not_mem_nil, or_false] at h
  rcases h with h | h | h | h | h | h
  · rw [h]; exact twof_67 v
  · rw [h]; exact twof_72 v
  · rw [h]; exact twof_73 v
  · rw [h]; exact twof_74 v
  · rw [h]; exact twof_76 v
  · rw [h]; exact twof_78 v

end Go.Proofs.Ytdhfggdmlhgdoaa
