/-
  DERIVED. GIVEN WITH THE SEED: THE CARDS: each row of YtaofkddondaceaaDoorRows.lean that lists a variable, with what it lists TIED to the program's text (the seventh form; the later family's looks); each row that meets fmt, with fmt's text TOLD by the authors' own Lean function (tested against real Go, not proved from fmt's source: count such statements apart). THE CARD IS WHAT COUNTS. Prove the row's statement (the work); the ties are given (YtaofkddondaceaaDoorTie.lean); close each card by the builder's one call (the guide's Derived/Test/ToyasCard.lean, 'card_holds'). Laid BY PROGRAM, IN A SANDBOX (cutbox-door.mjs). By AI agents, Wed Nov 11 2026. No macro, syntax, notation, axiom, sorry.
-/
import Derived.Test.YtaofkddondaceaaDoorRows
import GoSem.ClaimSeven
namespace Go.Proofs.YtaofkddondaceaaDoor
namespace Rows

/-- THE TIED CARD OF 'ballastlaw05.BitsPlays'. -/
def bitsPlaysCard : Claim7 := { stood := { row := bitsPlaysRow, standIns := [], harness := (true, "f069c726ede690b0318cc4d2f003ef7ba27cb056684015b40e6702e988cfae98"), looks := false }, kinds := [], alts := [], laidByText := true, laidKinds := [.data], laidTests := true, laidLooks := .later }
def BitsPlaysCardSaid : Prop := Claim7.holds Tryd.pinned (.plain (OpenSpec.ofChange bitsPlaysSpec)) bitsPlaysCard

/-- THE TIED CARD OF 'ballastlaw05.BitsParts'. -/
def bitsPartsCard : Claim7 := { stood := { row := bitsPartsRow, standIns := [], harness := (true, "f069c726ede690b0318cc4d2f003ef7ba27cb056684015b40e6702e988cfae98"), looks := false }, kinds := [], alts := [], laidByText := true, laidKinds := [.data], laidTests := true, laidLooks := .later }
def BitsPartsCardSaid : Prop := Claim7.holds Tryd.pinned (.plain (OpenSpec.ofChange bitsPartsSpec)) bitsPartsCard

/-- THE TIED CARD OF 'ballastlaw05.BitsOrder'. -/
def bitsOrderCard : Claim7 := { stood := { row := bitsOrderRow, standIns := [], harness := (true, "f069c726ede690b0318cc4d2f003ef7ba27cb056684015b40e6702e988cfae98"), looks := false }, kinds := [], alts := [], laidByText := true, laidKinds := [.data], laidTests := true, laidLooks := .later }
def BitsOrderCardSaid : Prop := Claim7.holds Tryd.pinned (.plain (OpenSpec.ofChange bitsOrderSpec)) bitsOrderCard

/-- THE TIED CARD OF 'ballastlaw05.BitsNil'. -/
def bitsNilCard : Claim7 := { stood := { row := bitsNilRow, standIns := [], harness := (true, "f069c726ede690b0318cc4d2f003ef7ba27cb056684015b40e6702e988cfae98"), looks := false }, kinds := [], alts := [], laidByText := true, laidKinds := [.data], laidTests := true, laidLooks := .later }
def BitsNilCardSaid : Prop := Claim7.holds Tryd.pinned (.plain (OpenSpec.ofChange bitsNilSpec)) bitsNilCard

/-- THE TIED CARD OF 'ballastlaw05.BitsAgain'. -/
def bitsAgainCard : Claim7 := { stood := { row := bitsAgainRow, standIns := [], harness := (true, "f069c726ede690b0318cc4d2f003ef7ba27cb056684015b40e6702e988cfae98"), looks := false }, kinds := [], alts := [], laidByText := true, laidKinds := [.data], laidTests := true, laidLooks := .later }
def BitsAgainCardSaid : Prop := Claim7.holds Tryd.pinned (.plain (OpenSpec.ofChange bitsAgainSpec)) bitsAgainCard

/-- THE TIED CARD OF 'ballastlaw05.BitsEach'. -/
def bitsEachCard : Claim7 := { stood := { row := bitsEachRow, standIns := [], harness := (true, "f069c726ede690b0318cc4d2f003ef7ba27cb056684015b40e6702e988cfae98"), looks := false }, kinds := [], alts := [], laidByText := true, laidKinds := [.data], laidTests := true, laidLooks := .later }
def BitsEachCardSaid : Prop := Claim7.holds Tryd.pinned (.plain (OpenSpec.ofChange bitsEachSpec)) bitsEachCard

/-- THE SECOND FORM's CARD OF 'ballastlaw05.BitsPlays'. -/
def bitsPlaysUptoCard : Claim7 := { stood := { row := bitsPlaysUptoRow, standIns := [], harness := (true, "f069c726ede690b0318cc4d2f003ef7ba27cb056684015b40e6702e988cfae98"), looks := false }, kinds := [], alts := [], laidByText := true, laidKinds := [.data], laidTests := true, laidLooks := .later }
def BitsPlaysUptoCardSaid : Prop := Claim7.holds Tryd.pinned (.plain (OpenSpec.upto bitsPlaysSpec)) bitsPlaysUptoCard

/-- THE SECOND FORM's CARD OF 'ballastlaw05.BitsParts'. -/
def bitsPartsUptoCard : Claim7 := { stood := { row := bitsPartsUptoRow, standIns := [], harness := (true, "f069c726ede690b0318cc4d2f003ef7ba27cb056684015b40e6702e988cfae98"), looks := false }, kinds := [], alts := [], laidByText := true, laidKinds := [.data], laidTests := true, laidLooks := .later }
def BitsPartsUptoCardSaid : Prop := Claim7.holds Tryd.pinned (.plain (OpenSpec.upto bitsPartsSpec)) bitsPartsUptoCard

/-- THE SECOND FORM's CARD OF 'ballastlaw05.BitsOrder'. -/
def bitsOrderUptoCard : Claim7 := { stood := { row := bitsOrderUptoRow, standIns := [], harness := (true, "f069c726ede690b0318cc4d2f003ef7ba27cb056684015b40e6702e988cfae98"), looks := false }, kinds := [], alts := [], laidByText := true, laidKinds := [.data], laidTests := true, laidLooks := .later }
def BitsOrderUptoCardSaid : Prop := Claim7.holds Tryd.pinned (.plain (OpenSpec.upto bitsOrderSpec)) bitsOrderUptoCard

/-- THE SECOND FORM's CARD OF 'ballastlaw05.BitsNil'. -/
def bitsNilUptoCard : Claim7 := { stood := { row := bitsNilUptoRow, standIns := [], harness := (true, "f069c726ede690b0318cc4d2f003ef7ba27cb056684015b40e6702e988cfae98"), looks := false }, kinds := [], alts := [], laidByText := true, laidKinds := [.data], laidTests := true, laidLooks := .later }
def BitsNilUptoCardSaid : Prop := Claim7.holds Tryd.pinned (.plain (OpenSpec.upto bitsNilSpec)) bitsNilUptoCard

/-- THE SECOND FORM's CARD OF 'ballastlaw05.BitsAgain'. -/
def bitsAgainUptoCard : Claim7 := { stood := { row := bitsAgainUptoRow, standIns := [], harness := (true, "f069c726ede690b0318cc4d2f003ef7ba27cb056684015b40e6702e988cfae98"), looks := false }, kinds := [], alts := [], laidByText := true, laidKinds := [.data], laidTests := true, laidLooks := .later }
def BitsAgainUptoCardSaid : Prop := Claim7.holds Tryd.pinned (.plain (OpenSpec.upto bitsAgainSpec)) bitsAgainUptoCard

/-- THE SECOND FORM's CARD OF 'ballastlaw05.BitsEach'. -/
def bitsEachUptoCard : Claim7 := { stood := { row := bitsEachUptoRow, standIns := [], harness := (true, "f069c726ede690b0318cc4d2f003ef7ba27cb056684015b40e6702e988cfae98"), looks := false }, kinds := [], alts := [], laidByText := true, laidKinds := [.data], laidTests := true, laidLooks := .later }
def BitsEachUptoCardSaid : Prop := Claim7.holds Tryd.pinned (.plain (OpenSpec.upto bitsEachSpec)) bitsEachUptoCard
end Rows
end Go.Proofs.YtaofkddondaceaaDoor
