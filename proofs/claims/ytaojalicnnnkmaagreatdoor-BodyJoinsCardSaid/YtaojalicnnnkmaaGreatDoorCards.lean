/-
  DERIVED. GIVEN WITH THE SEED: THE CARDS: each row of YtaojalicnnnkmaaGreatDoorRows.lean that lists a variable, with what it lists TIED to the program's text (the seventh form; the later family's looks); each row that meets fmt, with fmt's text TOLD by the authors' own Lean function (tested against real Go, not proved from fmt's source: count such statements apart). THE CARD IS WHAT COUNTS. Prove the row's statement (the work); the ties are given (YtaojalicnnnkmaaGreatDoorTie.lean); close each card by the builder's one call (the guide's Derived/Test/ToyasCard.lean, 'card_holds'). Laid BY PROGRAM, IN A SANDBOX (cutbox-door.mjs). By AI agents, Wed Nov 11 2026. No macro, syntax, notation, axiom, sorry.
-/
import Derived.Test.YtaojalicnnnkmaaGreatDoorRows
import GoSem.ClaimSeven
namespace Go.Proofs.YtaojalicnnnkmaaGreatDoor
namespace Rows

/-- THE TIED CARD OF 'sizarlaw14.BodyKnown'. -/
def bodyKnownCard : Claim7 := { stood := { row := bodyKnownRow, standIns := [], harness := (true, "33570ed6f5f17567edf92922097cefebf8e6d6f46405d756c182f11447c17dca"), looks := true }, kinds := [], alts := [], laidByText := true, laidKinds := [.data, .data, .data, .sentinel, .sentinel], laidTests := true, laidLooks := .later }
def BodyKnownCardSaid : Prop := Claim7.holds Tryz.pinned (.plain (OpenSpec.ofChange bodyKnownSpec)) bodyKnownCard

/-- THE TIED CARD OF 'sizarlaw14.BodySays'. -/
def bodySaysCard : Claim7 := { stood := { row := bodySaysRow, standIns := [], harness := (true, "33570ed6f5f17567edf92922097cefebf8e6d6f46405d756c182f11447c17dca"), looks := true }, kinds := [], alts := [], laidByText := true, laidKinds := [.data, .data, .data, .sentinel, .sentinel], laidTests := true, laidLooks := .later }
def BodySaysCardSaid : Prop := Claim7.holds Tryz.pinned (.plain (OpenSpec.ofChange bodySaysSpec)) bodySaysCard

/-- THE TIED CARD OF 'sizarlaw14.BodyBack'. -/
def bodyBackCard : Claim7 := { stood := { row := bodyBackRow, standIns := [], harness := (true, "33570ed6f5f17567edf92922097cefebf8e6d6f46405d756c182f11447c17dca"), looks := true }, kinds := [], alts := [], laidByText := true, laidKinds := [.data, .data, .data, .sentinel, .sentinel], laidTests := true, laidLooks := .later }
def BodyBackCardSaid : Prop := Claim7.holds Tryz.pinned (.plain (OpenSpec.ofChange bodyBackSpec)) bodyBackCard

/-- THE TIED CARD OF 'sizarlaw14.BodyJoins'. -/
def bodyJoinsCard : Claim7 := { stood := { row := bodyJoinsRow, standIns := [], harness := (true, "33570ed6f5f17567edf92922097cefebf8e6d6f46405d756c182f11447c17dca"), looks := true }, kinds := [], alts := [], laidByText := true, laidKinds := [.data, .data, .data, .sentinel, .sentinel], laidTests := true, laidLooks := .later }
def BodyJoinsCardSaid : Prop := Claim7.holds Tryz.pinned (.plain (OpenSpec.ofChange bodyJoinsSpec)) bodyJoinsCard

/-- THE SECOND FORM's CARD OF 'sizarlaw14.BodyKnown'. -/
def bodyKnownUptoCard : Claim7 := { stood := { row := bodyKnownUptoRow, standIns := [], harness := (true, "33570ed6f5f17567edf92922097cefebf8e6d6f46405d756c182f11447c17dca"), looks := true }, kinds := [], alts := [], laidByText := true, laidKinds := [.data, .data, .data, .sentinel, .sentinel], laidTests := true, laidLooks := .later }
def BodyKnownUptoCardSaid : Prop := Claim7.holds Tryz.pinned (.plain (OpenSpec.upto bodyKnownSpec)) bodyKnownUptoCard

/-- THE SECOND FORM's CARD OF 'sizarlaw14.BodySays'. -/
def bodySaysUptoCard : Claim7 := { stood := { row := bodySaysUptoRow, standIns := [], harness := (true, "33570ed6f5f17567edf92922097cefebf8e6d6f46405d756c182f11447c17dca"), looks := true }, kinds := [], alts := [], laidByText := true, laidKinds := [.data, .data, .data, .sentinel, .sentinel], laidTests := true, laidLooks := .later }
def BodySaysUptoCardSaid : Prop := Claim7.holds Tryz.pinned (.plain (OpenSpec.upto bodySaysSpec)) bodySaysUptoCard

/-- THE SECOND FORM's CARD OF 'sizarlaw14.BodyBack'. -/
def bodyBackUptoCard : Claim7 := { stood := { row := bodyBackUptoRow, standIns := [], harness := (true, "33570ed6f5f17567edf92922097cefebf8e6d6f46405d756c182f11447c17dca"), looks := true }, kinds := [], alts := [], laidByText := true, laidKinds := [.data, .data, .data, .sentinel, .sentinel], laidTests := true, laidLooks := .later }
def BodyBackUptoCardSaid : Prop := Claim7.holds Tryz.pinned (.plain (OpenSpec.upto bodyBackSpec)) bodyBackUptoCard

/-- THE SECOND FORM's CARD OF 'sizarlaw14.BodyJoins'. -/
def bodyJoinsUptoCard : Claim7 := { stood := { row := bodyJoinsUptoRow, standIns := [], harness := (true, "33570ed6f5f17567edf92922097cefebf8e6d6f46405d756c182f11447c17dca"), looks := true }, kinds := [], alts := [], laidByText := true, laidKinds := [.data, .data, .data, .sentinel, .sentinel], laidTests := true, laidLooks := .later }
def BodyJoinsUptoCardSaid : Prop := Claim7.holds Tryz.pinned (.plain (OpenSpec.upto bodyJoinsSpec)) bodyJoinsUptoCard
end Rows
end Go.Proofs.YtaojalicnnnkmaaGreatDoor
