/-
  DERIVED. GIVEN WITH THE SEED: THE CARDS: each row of YtbmlggemheljkaaGreatDoorRows.lean that lists a variable, with what it lists TIED to the program's text (the seventh form; the later family's looks); each row that meets fmt, with fmt's text TOLD by the authors' own Lean function (tested against real Go, not proved from fmt's source: count such statements apart). THE CARD IS WHAT COUNTS. Prove the row's statement (the work); the ties are given (YtbmlggemheljkaaGreatDoorTie.lean); close each card by the builder's one call (the guide's Derived/Test/ToyasCard.lean, 'card_holds'). Laid BY PROGRAM, IN A SANDBOX (cutbox-door.mjs). By AI agents, Wed Nov 11 2026. No macro, syntax, notation, axiom, sorry.
-/
import Derived.Test.YtbmlggemheljkaaGreatDoorRows
import GoSem.ClaimSeven
namespace Go.Proofs.YtbmlggemheljkaaGreatDoor
namespace Rows

/-- THE TIED CARD OF 'ballastlaw15.SlideMoves'. -/
def slideMovesCard : Claim7 := { stood := { row := slideMovesRow, standIns := [], harness := (true, "b2d96fda76e7c5fd95c722df6d36d958df902712dd83b70a58a8937743c77a3d"), looks := true }, kinds := [], alts := [], laidByText := true, laidKinds := [.data], laidTests := true, laidLooks := .later }
def SlideMovesCardSaid : Prop := Claim7.holds Tryz.pinned (.plain (OpenSpec.ofChange slideMovesSpec)) slideMovesCard

/-- THE TIED CARD OF 'ballastlaw15.SlideReady'. -/
def slideReadyCard : Claim7 := { stood := { row := slideReadyRow, standIns := [], harness := (true, "b2d96fda76e7c5fd95c722df6d36d958df902712dd83b70a58a8937743c77a3d"), looks := true }, kinds := [], alts := [], laidByText := true, laidKinds := [.data], laidTests := true, laidLooks := .later }
def SlideReadyCardSaid : Prop := Claim7.holds Tryz.pinned (.plain (OpenSpec.ofChange slideReadySpec)) slideReadyCard

/-- THE TIED CARD OF 'ballastlaw15.SlideAsks'. -/
def slideAsksCard : Claim7 := { stood := { row := slideAsksRow, standIns := [], harness := (true, "b2d96fda76e7c5fd95c722df6d36d958df902712dd83b70a58a8937743c77a3d"), looks := true }, kinds := [], alts := [], laidByText := true, laidKinds := [.data], laidTests := true, laidLooks := .later }
def SlideAsksCardSaid : Prop := Claim7.holds Tryz.pinned (.plain (OpenSpec.ofChange slideAsksSpec)) slideAsksCard

/-- THE TIED CARD OF 'ballastlaw15.SlideNil'. -/
def slideNilCard : Claim7 := { stood := { row := slideNilRow, standIns := [], harness := (true, "b2d96fda76e7c5fd95c722df6d36d958df902712dd83b70a58a8937743c77a3d"), looks := true }, kinds := [], alts := [], laidByText := true, laidKinds := [.data], laidTests := true, laidLooks := .later }
def SlideNilCardSaid : Prop := Claim7.holds Tryz.pinned (.plain (OpenSpec.ofChange slideNilSpec)) slideNilCard

/-- THE TIED CARD OF 'ballastlaw15.SlideWorkers'. -/
def slideWorkersCard : Claim7 := { stood := { row := slideWorkersRow, standIns := [], harness := (true, "b2d96fda76e7c5fd95c722df6d36d958df902712dd83b70a58a8937743c77a3d"), looks := true }, kinds := [], alts := [], laidByText := true, laidKinds := [.data], laidTests := true, laidLooks := .later }
def SlideWorkersCardSaid : Prop := Claim7.holds Tryz.pinned (.plain (OpenSpec.ofChange slideWorkersSpec)) slideWorkersCard

/-- THE TIED CARD OF 'ballastlaw15.SlideRises'. -/
def slideRisesCard : Claim7 := { stood := { row := slideRisesRow, standIns := [], harness := (true, "b2d96fda76e7c5fd95c722df6d36d958df902712dd83b70a58a8937743c77a3d"), looks := true }, kinds := [], alts := [], laidByText := true, laidKinds := [.data], laidTests := true, laidLooks := .later }
def SlideRisesCardSaid : Prop := Claim7.holds Tryz.pinned (.plain (OpenSpec.ofChange slideRisesSpec)) slideRisesCard

/-- THE SECOND FORM's CARD OF 'ballastlaw15.SlideMoves'. -/
def slideMovesUptoCard : Claim7 := { stood := { row := slideMovesUptoRow, standIns := [], harness := (true, "b2d96fda76e7c5fd95c722df6d36d958df902712dd83b70a58a8937743c77a3d"), looks := true }, kinds := [], alts := [], laidByText := true, laidKinds := [.data], laidTests := true, laidLooks := .later }
def SlideMovesUptoCardSaid : Prop := Claim7.holds Tryz.pinned (.plain (OpenSpec.upto slideMovesSpec)) slideMovesUptoCard

/-- THE SECOND FORM's CARD OF 'ballastlaw15.SlideReady'. -/
def slideReadyUptoCard : Claim7 := { stood := { row := slideReadyUptoRow, standIns := [], harness := (true, "b2d96fda76e7c5fd95c722df6d36d958df902712dd83b70a58a8937743c77a3d"), looks := true }, kinds := [], alts := [], laidByText := true, laidKinds := [.data], laidTests := true, laidLooks := .later }
def SlideReadyUptoCardSaid : Prop := Claim7.holds Tryz.pinned (.plain (OpenSpec.upto slideReadySpec)) slideReadyUptoCard

/-- THE SECOND FORM's CARD OF 'ballastlaw15.SlideAsks'. -/
def slideAsksUptoCard : Claim7 := { stood := { row := slideAsksUptoRow, standIns := [], harness := (true, "b2d96fda76e7c5fd95c722df6d36d958df902712dd83b70a58a8937743c77a3d"), looks := true }, kinds := [], alts := [], laidByText := true, laidKinds := [.data], laidTests := true, laidLooks := .later }
def SlideAsksUptoCardSaid : Prop := Claim7.holds Tryz.pinned (.plain (OpenSpec.upto slideAsksSpec)) slideAsksUptoCard

/-- THE SECOND FORM's CARD OF 'ballastlaw15.SlideNil'. -/
def slideNilUptoCard : Claim7 := { stood := { row := slideNilUptoRow, standIns := [], harness := (true, "b2d96fda76e7c5fd95c722df6d36d958df902712dd83b70a58a8937743c77a3d"), looks := true }, kinds := [], alts := [], laidByText := true, laidKinds := [.data], laidTests := true, laidLooks := .later }
def SlideNilUptoCardSaid : Prop := Claim7.holds Tryz.pinned (.plain (OpenSpec.upto slideNilSpec)) slideNilUptoCard

/-- THE SECOND FORM's CARD OF 'ballastlaw15.SlideWorkers'. -/
def slideWorkersUptoCard : Claim7 := { stood := { row := slideWorkersUptoRow, standIns := [], harness := (true, "b2d96fda76e7c5fd95c722df6d36d958df902712dd83b70a58a8937743c77a3d"), looks := true }, kinds := [], alts := [], laidByText := true, laidKinds := [.data], laidTests := true, laidLooks := .later }
def SlideWorkersUptoCardSaid : Prop := Claim7.holds Tryz.pinned (.plain (OpenSpec.upto slideWorkersSpec)) slideWorkersUptoCard

/-- THE SECOND FORM's CARD OF 'ballastlaw15.SlideRises'. -/
def slideRisesUptoCard : Claim7 := { stood := { row := slideRisesUptoRow, standIns := [], harness := (true, "b2d96fda76e7c5fd95c722df6d36d958df902712dd83b70a58a8937743c77a3d"), looks := true }, kinds := [], alts := [], laidByText := true, laidKinds := [.data], laidTests := true, laidLooks := .later }
def SlideRisesUptoCardSaid : Prop := Claim7.holds Tryz.pinned (.plain (OpenSpec.upto slideRisesSpec)) slideRisesUptoCard
end Rows
end Go.Proofs.YtbmlggemheljkaaGreatDoor
