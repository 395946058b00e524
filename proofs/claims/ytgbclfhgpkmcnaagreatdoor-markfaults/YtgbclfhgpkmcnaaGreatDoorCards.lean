/-
  DERIVED. GIVEN WITH THE SEED: THE CARDS: each row of YtgbclfhgpkmcnaaGreatDoorRows.lean that lists a variable, with what it lists TIED to the program's text (the seventh form; the later family's looks); each row that meets fmt, with fmt's text TOLD by the authors' own Lean function (tested against real Go, not proved from fmt's source: count such statements apart). THE CARD IS WHAT COUNTS. Prove the row's statement (the work); the ties are given (YtgbclfhgpkmcnaaGreatDoorTie.lean); close each card by the builder's one call (the guide's Derived/Test/ToyasCard.lean, 'card_holds'). Laid BY PROGRAM, IN A SANDBOX (cutbox-door.mjs). By AI agents, Wed Nov 11 2026. No macro, syntax, notation, axiom, sorry.
-/
import Derived.Test.YtgbclfhgpkmcnaaGreatDoorRows
import GoSem.ClaimSeven
namespace Go.Proofs.YtgbclfhgpkmcnaaGreatDoor
namespace Rows

/-- THE TIED CARD OF 'ballastlaw11.MarkReaches'. -/
def markReachesCard : Claim7 := { stood := { row := markReachesRow, standIns := [], harness := (true, "29f035bce71caeb5b79f2687d8f97c0670415334fbc7d71c992065f1874d33da"), looks := false }, kinds := [], alts := [], laidByText := true, laidKinds := [.data], laidTests := true, laidLooks := .later }
def MarkReachesCardSaid : Prop := Claim7.holds Tryz.pinned (.plain (OpenSpec.ofChange markReachesSpec)) markReachesCard

/-- THE TIED CARD OF 'ballastlaw11.MarkSteps'. -/
def markStepsCard : Claim7 := { stood := { row := markStepsRow, standIns := [], harness := (true, "29f035bce71caeb5b79f2687d8f97c0670415334fbc7d71c992065f1874d33da"), looks := false }, kinds := [], alts := [], laidByText := true, laidKinds := [.data], laidTests := true, laidLooks := .later }
def MarkStepsCardSaid : Prop := Claim7.holds Tryz.pinned (.plain (OpenSpec.ofChange markStepsSpec)) markStepsCard

/-- THE TIED CARD OF 'ballastlaw11.MarkFaults'. -/
def markFaultsCard : Claim7 := { stood := { row := markFaultsRow, standIns := [], harness := (true, "29f035bce71caeb5b79f2687d8f97c0670415334fbc7d71c992065f1874d33da"), looks := false }, kinds := [], alts := [], laidByText := true, laidKinds := [.data], laidTests := true, laidLooks := .later }
def MarkFaultsCardSaid : Prop := Claim7.holds Tryz.pinned (.plain (OpenSpec.ofChange markFaultsSpec)) markFaultsCard

/-- THE TIED CARD OF 'ballastlaw11.MarkNil'. -/
def markNilCard : Claim7 := { stood := { row := markNilRow, standIns := [], harness := (true, "29f035bce71caeb5b79f2687d8f97c0670415334fbc7d71c992065f1874d33da"), looks := false }, kinds := [], alts := [], laidByText := true, laidKinds := [.data], laidTests := true, laidLooks := .later }
def MarkNilCardSaid : Prop := Claim7.holds Tryz.pinned (.plain (OpenSpec.ofChange markNilSpec)) markNilCard

/-- THE TIED CARD OF 'ballastlaw11.MarkWorkers'. -/
def markWorkersCard : Claim7 := { stood := { row := markWorkersRow, standIns := [], harness := (true, "29f035bce71caeb5b79f2687d8f97c0670415334fbc7d71c992065f1874d33da"), looks := false }, kinds := [], alts := [], laidByText := true, laidKinds := [.data], laidTests := true, laidLooks := .later }
def MarkWorkersCardSaid : Prop := Claim7.holds Tryz.pinned (.plain (OpenSpec.ofChange markWorkersSpec)) markWorkersCard

/-- THE TIED CARD OF 'ballastlaw11.MarkTwice'. -/
def markTwiceCard : Claim7 := { stood := { row := markTwiceRow, standIns := [], harness := (true, "29f035bce71caeb5b79f2687d8f97c0670415334fbc7d71c992065f1874d33da"), looks := false }, kinds := [], alts := [], laidByText := true, laidKinds := [.data], laidTests := true, laidLooks := .later }
def MarkTwiceCardSaid : Prop := Claim7.holds Tryz.pinned (.plain (OpenSpec.ofChange markTwiceSpec)) markTwiceCard

/-- THE SECOND FORM's CARD OF 'ballastlaw11.MarkReaches'. -/
def markReachesUptoCard : Claim7 := { stood := { row := markReachesUptoRow, standIns := [], harness := (true, "29f035bce71caeb5b79f2687d8f97c0670415334fbc7d71c992065f1874d33da"), looks := false }, kinds := [], alts := [], laidByText := true, laidKinds := [.data], laidTests := true, laidLooks := .later }
def MarkReachesUptoCardSaid : Prop := Claim7.holds Tryz.pinned (.plain (OpenSpec.upto markReachesSpec)) markReachesUptoCard

/-- THE SECOND FORM's CARD OF 'ballastlaw11.MarkSteps'. -/
def markStepsUptoCard : Claim7 := { stood := { row := markStepsUptoRow, standIns := [], harness := (true, "29f035bce71caeb5b79f2687d8f97c0670415334fbc7d71c992065f1874d33da"), looks := false }, kinds := [], alts := [], laidByText := true, laidKinds := [.data], laidTests := true, laidLooks := .later }
def MarkStepsUptoCardSaid : Prop := Claim7.holds Tryz.pinned (.plain (OpenSpec.upto markStepsSpec)) markStepsUptoCard

/-- THE SECOND FORM's CARD OF 'ballastlaw11.MarkFaults'. -/
def markFaultsUptoCard : Claim7 := { stood := { row := markFaultsUptoRow, standIns := [], harness := (true, "29f035bce71caeb5b79f2687d8f97c0670415334fbc7d71c992065f1874d33da"), looks := false }, kinds := [], alts := [], laidByText := true, laidKinds := [.data], laidTests := true, laidLooks := .later }
def MarkFaultsUptoCardSaid : Prop := Claim7.holds Tryz.pinned (.plain (OpenSpec.upto markFaultsSpec)) markFaultsUptoCard

/-- THE SECOND FORM's CARD OF 'ballastlaw11.MarkNil'. -/
def markNilUptoCard : Claim7 := { stood := { row := markNilUptoRow, standIns := [], harness := (true, "29f035bce71caeb5b79f2687d8f97c0670415334fbc7d71c992065f1874d33da"), looks := false }, kinds := [], alts := [], laidByText := true, laidKinds := [.data], laidTests := true, laidLooks := .later }
def MarkNilUptoCardSaid : Prop := Claim7.holds Tryz.pinned (.plain (OpenSpec.upto markNilSpec)) markNilUptoCard

/-- THE SECOND FORM's CARD OF 'ballastlaw11.MarkWorkers'. -/
def markWorkersUptoCard : Claim7 := { stood := { row := markWorkersUptoRow, standIns := [], harness := (true, "29f035bce71caeb5b79f2687d8f97c0670415334fbc7d71c992065f1874d33da"), looks := false }, kinds := [], alts := [], laidByText := true, laidKinds := [.data], laidTests := true, laidLooks := .later }
def MarkWorkersUptoCardSaid : Prop := Claim7.holds Tryz.pinned (.plain (OpenSpec.upto markWorkersSpec)) markWorkersUptoCard

/-- THE SECOND FORM's CARD OF 'ballastlaw11.MarkTwice'. -/
def markTwiceUptoCard : Claim7 := { stood := { row := markTwiceUptoRow, standIns := [], harness := (true, "29f035bce71caeb5b79f2687d8f97c0670415334fbc7d71c992065f1874d33da"), looks := false }, kinds := [], alts := [], laidByText := true, laidKinds := [.data], laidTests := true, laidLooks := .later }
def MarkTwiceUptoCardSaid : Prop := Claim7.holds Tryz.pinned (.plain (OpenSpec.upto markTwiceSpec)) markTwiceUptoCard
end Rows
end Go.Proofs.YtgbclfhgpkmcnaaGreatDoor
