/-
  DERIVED. GIVEN WITH THE SEED: THE CARDS: each row of YtpeglndlhjnaaaaGreatDoorRows.lean that lists a variable, with what it lists TIED to the program's text (the seventh form; the later family's looks); each row that meets fmt, with fmt's text TOLD by the authors' own Lean function (tested against real Go, not proved from fmt's source: count such statements apart). THE CARD IS WHAT COUNTS. Prove the row's statement (the work); the ties are given (YtpeglndlhjnaaaaGreatDoorTie.lean); close each card by the builder's one call (the guide's Derived/Test/ToyasCard.lean, 'card_holds'). Laid BY PROGRAM, IN A SANDBOX (cutbox-door.mjs). By AI agents, Wed Nov 11 2026. No macro, syntax, notation, axiom, sorry.
-/
import Derived.Test.YtpeglndlhjnaaaaGreatDoorRows
import GoSem.ClaimSeven
namespace Go.Proofs.YtpeglndlhjnaaaaGreatDoor
namespace Rows

/-- THE TIED CARD OF 'ballastlaw14.AdjustTurns'. -/
def adjustTurnsCard : Claim7 := { stood := { row := adjustTurnsRow, standIns := [], harness := (true, "86325e7443bb722ee4584097915b61d10e9630ced99e1170ef9784b29efbf3d3"), looks := false }, kinds := [], alts := [], laidByText := true, laidKinds := [.data], laidTests := true, laidLooks := .later }
def AdjustTurnsCardSaid : Prop := Claim7.holds Tryz.pinned (.plain (OpenSpec.ofChange adjustTurnsSpec)) adjustTurnsCard

/-- THE TIED CARD OF 'ballastlaw14.AdjustNil'. -/
def adjustNilCard : Claim7 := { stood := { row := adjustNilRow, standIns := [], harness := (true, "86325e7443bb722ee4584097915b61d10e9630ced99e1170ef9784b29efbf3d3"), looks := false }, kinds := [], alts := [], laidByText := true, laidKinds := [.data], laidTests := true, laidLooks := .later }
def AdjustNilCardSaid : Prop := Claim7.holds Tryz.pinned (.plain (OpenSpec.ofChange adjustNilSpec)) adjustNilCard

/-- THE TIED CARD OF 'ballastlaw14.AdjustWorkers'. -/
def adjustWorkersCard : Claim7 := { stood := { row := adjustWorkersRow, standIns := [], harness := (true, "86325e7443bb722ee4584097915b61d10e9630ced99e1170ef9784b29efbf3d3"), looks := false }, kinds := [], alts := [], laidByText := true, laidKinds := [.data], laidTests := true, laidLooks := .later }
def AdjustWorkersCardSaid : Prop := Claim7.holds Tryz.pinned (.plain (OpenSpec.ofChange adjustWorkersSpec)) adjustWorkersCard

/-- THE TIED CARD OF 'ballastlaw14.AdjustStays'. -/
def adjustStaysCard : Claim7 := { stood := { row := adjustStaysRow, standIns := [], harness := (true, "86325e7443bb722ee4584097915b61d10e9630ced99e1170ef9784b29efbf3d3"), looks := false }, kinds := [], alts := [], laidByText := true, laidKinds := [.data], laidTests := true, laidLooks := .later }
def AdjustStaysCardSaid : Prop := Claim7.holds Tryz.pinned (.plain (OpenSpec.ofChange adjustStaysSpec)) adjustStaysCard

/-- THE SECOND FORM's CARD OF 'ballastlaw14.AdjustTurns'. -/
def adjustTurnsUptoCard : Claim7 := { stood := { row := adjustTurnsUptoRow, standIns := [], harness := (true, "86325e7443bb722ee4584097915b61d10e9630ced99e1170ef9784b29efbf3d3"), looks := false }, kinds := [], alts := [], laidByText := true, laidKinds := [.data], laidTests := true, laidLooks := .later }
def AdjustTurnsUptoCardSaid : Prop := Claim7.holds Tryz.pinned (.plain (OpenSpec.upto adjustTurnsSpec)) adjustTurnsUptoCard

/-- THE SECOND FORM's CARD OF 'ballastlaw14.AdjustNil'. -/
def adjustNilUptoCard : Claim7 := { stood := { row := adjustNilUptoRow, standIns := [], harness := (true, "86325e7443bb722ee4584097915b61d10e9630ced99e1170ef9784b29efbf3d3"), looks := false }, kinds := [], alts := [], laidByText := true, laidKinds := [.data], laidTests := true, laidLooks := .later }
def AdjustNilUptoCardSaid : Prop := Claim7.holds Tryz.pinned (.plain (OpenSpec.upto adjustNilSpec)) adjustNilUptoCard

/-- THE SECOND FORM's CARD OF 'ballastlaw14.AdjustWorkers'. -/
def adjustWorkersUptoCard : Claim7 := { stood := { row := adjustWorkersUptoRow, standIns := [], harness := (true, "86325e7443bb722ee4584097915b61d10e9630ced99e1170ef9784b29efbf3d3"), looks := false }, kinds := [], alts := [], laidByText := true, laidKinds := [.data], laidTests := true, laidLooks := .later }
def AdjustWorkersUptoCardSaid : Prop := Claim7.holds Tryz.pinned (.plain (OpenSpec.upto adjustWorkersSpec)) adjustWorkersUptoCard

/-- THE SECOND FORM's CARD OF 'ballastlaw14.AdjustStays'. -/
def adjustStaysUptoCard : Claim7 := { stood := { row := adjustStaysUptoRow, standIns := [], harness := (true, "86325e7443bb722ee4584097915b61d10e9630ced99e1170ef9784b29efbf3d3"), looks := false }, kinds := [], alts := [], laidByText := true, laidKinds := [.data], laidTests := true, laidLooks := .later }
def AdjustStaysUptoCardSaid : Prop := Claim7.holds Tryz.pinned (.plain (OpenSpec.upto adjustStaysSpec)) adjustStaysUptoCard
end Rows
end Go.Proofs.YtpeglndlhjnaaaaGreatDoor
