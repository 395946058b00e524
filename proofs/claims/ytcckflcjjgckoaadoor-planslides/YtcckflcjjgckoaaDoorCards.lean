/-
  DERIVED. GIVEN WITH THE SEED: THE CARDS: each row of YtcckflcjjgckoaaDoorRows.lean that lists a variable, with what it lists TIED to the program's text (the seventh form; the later family's looks); each row that meets fmt, with fmt's text TOLD by the authors' own Lean function (tested against real Go, not proved from fmt's source: count such statements apart). THE CARD IS WHAT COUNTS. Prove the row's statement (the work); the ties are given (YtcckflcjjgckoaaDoorTie.lean); close each card by the builder's one call (the guide's Derived/Test/ToyasCard.lean, 'card_holds'). Laid BY PROGRAM, IN A SANDBOX (cutbox-door.mjs). By AI agents, Wed Nov 11 2026. No macro, syntax, notation, axiom, sorry.
-/
import Derived.Test.YtcckflcjjgckoaaDoorRows
import GoSem.ClaimSeven
namespace Go.Proofs.YtcckflcjjgckoaaDoor
namespace Rows

/-- THE TIED CARD OF 'ballastlaw13.PlanSlides'. -/
def planSlidesCard : Claim7 := { stood := { row := planSlidesRow, standIns := [], harness := (true, "93a7997730259cae9f3f0c1927f908b9c37ccd102838b6615c31768ae36cf7fa"), looks := false }, kinds := [], alts := [], laidByText := true, laidKinds := [.data], laidTests := true, laidLooks := .later }
def PlanSlidesCardSaid : Prop := Claim7.holds Tryd.pinned (.plain (OpenSpec.ofChange planSlidesSpec)) planSlidesCard

/-- THE TIED CARD OF 'ballastlaw13.PlanTakes'. -/
def planTakesCard : Claim7 := { stood := { row := planTakesRow, standIns := [], harness := (true, "93a7997730259cae9f3f0c1927f908b9c37ccd102838b6615c31768ae36cf7fa"), looks := false }, kinds := [], alts := [], laidByText := true, laidKinds := [.data], laidTests := true, laidLooks := .later }
def PlanTakesCardSaid : Prop := Claim7.holds Tryd.pinned (.plain (OpenSpec.ofChange planTakesSpec)) planTakesCard

/-- THE TIED CARD OF 'ballastlaw13.PlanWaste'. -/
def planWasteCard : Claim7 := { stood := { row := planWasteRow, standIns := [], harness := (true, "93a7997730259cae9f3f0c1927f908b9c37ccd102838b6615c31768ae36cf7fa"), looks := false }, kinds := [], alts := [], laidByText := true, laidKinds := [.data], laidTests := true, laidLooks := .later }
def PlanWasteCardSaid : Prop := Claim7.holds Tryd.pinned (.plain (OpenSpec.ofChange planWasteSpec)) planWasteCard

/-- THE TIED CARD OF 'ballastlaw13.PlanNothing'. -/
def planNothingCard : Claim7 := { stood := { row := planNothingRow, standIns := [], harness := (true, "93a7997730259cae9f3f0c1927f908b9c37ccd102838b6615c31768ae36cf7fa"), looks := false }, kinds := [], alts := [], laidByText := true, laidKinds := [.data], laidTests := true, laidLooks := .later }
def PlanNothingCardSaid : Prop := Claim7.holds Tryd.pinned (.plain (OpenSpec.ofChange planNothingSpec)) planNothingCard

/-- THE SECOND FORM's CARD OF 'ballastlaw13.PlanSlides'. -/
def planSlidesUptoCard : Claim7 := { stood := { row := planSlidesUptoRow, standIns := [], harness := (true, "93a7997730259cae9f3f0c1927f908b9c37ccd102838b6615c31768ae36cf7fa"), looks := false }, kinds := [], alts := [], laidByText := true, laidKinds := [.data], laidTests := true, laidLooks := .later }
def PlanSlidesUptoCardSaid : Prop := Claim7.holds Tryd.pinned (.plain (OpenSpec.upto planSlidesSpec)) planSlidesUptoCard

/-- THE SECOND FORM's CARD OF 'ballastlaw13.PlanTakes'. -/
def planTakesUptoCard : Claim7 := { stood := { row := planTakesUptoRow, standIns := [], harness := (true, "93a7997730259cae9f3f0c1927f908b9c37ccd102838b6615c31768ae36cf7fa"), looks := false }, kinds := [], alts := [], laidByText := true, laidKinds := [.data], laidTests := true, laidLooks := .later }
def PlanTakesUptoCardSaid : Prop := Claim7.holds Tryd.pinned (.plain (OpenSpec.upto planTakesSpec)) planTakesUptoCard

/-- THE SECOND FORM's CARD OF 'ballastlaw13.PlanWaste'. -/
def planWasteUptoCard : Claim7 := { stood := { row := planWasteUptoRow, standIns := [], harness := (true, "93a7997730259cae9f3f0c1927f908b9c37ccd102838b6615c31768ae36cf7fa"), looks := false }, kinds := [], alts := [], laidByText := true, laidKinds := [.data], laidTests := true, laidLooks := .later }
def PlanWasteUptoCardSaid : Prop := Claim7.holds Tryd.pinned (.plain (OpenSpec.upto planWasteSpec)) planWasteUptoCard

/-- THE SECOND FORM's CARD OF 'ballastlaw13.PlanNothing'. -/
def planNothingUptoCard : Claim7 := { stood := { row := planNothingUptoRow, standIns := [], harness := (true, "93a7997730259cae9f3f0c1927f908b9c37ccd102838b6615c31768ae36cf7fa"), looks := false }, kinds := [], alts := [], laidByText := true, laidKinds := [.data], laidTests := true, laidLooks := .later }
def PlanNothingUptoCardSaid : Prop := Claim7.holds Tryd.pinned (.plain (OpenSpec.upto planNothingSpec)) planNothingUptoCard
end Rows
end Go.Proofs.YtcckflcjjgckoaaDoor
