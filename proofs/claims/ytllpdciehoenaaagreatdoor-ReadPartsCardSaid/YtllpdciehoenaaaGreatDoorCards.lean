/-
  DERIVED. GIVEN WITH THE SEED: THE CARDS: each row of YtllpdciehoenaaaGreatDoorRows.lean that lists a variable, with what it lists TIED to the program's text (the seventh form; the later family's looks); each row that meets fmt, with fmt's text TOLD by the authors' own Lean function (tested against real Go, not proved from fmt's source: count such statements apart). THE CARD IS WHAT COUNTS. Prove the row's statement (the work); the ties are given (YtllpdciehoenaaaGreatDoorTie.lean); close each card by the builder's one call (the guide's Derived/Test/ToyasCard.lean, 'card_holds'). Laid BY PROGRAM, IN A SANDBOX (cutbox-door.mjs). By AI agents, Wed Nov 11 2026. No macro, syntax, notation, axiom, sorry.
-/
import Derived.Test.YtllpdciehoenaaaGreatDoorRows
import GoSem.ClaimSeven
namespace Go.Proofs.YtllpdciehoenaaaGreatDoor
namespace Rows

/-- THE TIED CARD OF 'sizarlaw8.ReadKnown'. -/
def readKnownCard : Claim7 := { stood := { row := readKnownRow, standIns := [], harness := (true, "97572f07b9143e79e9e01a3547109bb720cb7738775db8ae5d8b2d8977e5c4da"), looks := true }, kinds := [], alts := [], laidByText := true, laidKinds := [.data, .data, .data, .sentinel, .sentinel], laidTests := true, laidLooks := .later }
def ReadKnownCardSaid : Prop := Claim7.holds Tryz.pinned (.plain (OpenSpec.ofChange readKnownSpec)) readKnownCard

/-- THE TIED CARD OF 'sizarlaw8.ReadPlain'. -/
def readPlainCard : Claim7 := { stood := { row := readPlainRow, standIns := [], harness := (true, "97572f07b9143e79e9e01a3547109bb720cb7738775db8ae5d8b2d8977e5c4da"), looks := true }, kinds := [], alts := [], laidByText := true, laidKinds := [.data, .data, .data, .sentinel, .sentinel], laidTests := true, laidLooks := .later }
def ReadPlainCardSaid : Prop := Claim7.holds Tryz.pinned (.plain (OpenSpec.ofChange readPlainSpec)) readPlainCard

/-- THE TIED CARD OF 'sizarlaw8.ReadParts'. -/
def readPartsCard : Claim7 := { stood := { row := readPartsRow, standIns := [], harness := (true, "97572f07b9143e79e9e01a3547109bb720cb7738775db8ae5d8b2d8977e5c4da"), looks := true }, kinds := [], alts := [], laidByText := true, laidKinds := [.data, .data, .data, .sentinel, .sentinel], laidTests := true, laidLooks := .later }
def ReadPartsCardSaid : Prop := Claim7.holds Tryz.pinned (.plain (OpenSpec.ofChange readPartsSpec)) readPartsCard

/-- THE TIED CARD OF 'sizarlaw8.ReadBrackets'. -/
def readBracketsCard : Claim7 := { stood := { row := readBracketsRow, standIns := [], harness := (true, "97572f07b9143e79e9e01a3547109bb720cb7738775db8ae5d8b2d8977e5c4da"), looks := true }, kinds := [], alts := [], laidByText := true, laidKinds := [.data, .data, .data, .sentinel, .sentinel], laidTests := true, laidLooks := .later }
def ReadBracketsCardSaid : Prop := Claim7.holds Tryz.pinned (.plain (OpenSpec.ofChange readBracketsSpec)) readBracketsCard

/-- THE SECOND FORM's CARD OF 'sizarlaw8.ReadKnown'. -/
def readKnownUptoCard : Claim7 := { stood := { row := readKnownUptoRow, standIns := [], harness := (true, "97572f07b9143e79e9e01a3547109bb720cb7738775db8ae5d8b2d8977e5c4da"), looks := true }, kinds := [], alts := [], laidByText := true, laidKinds := [.data, .data, .data, .sentinel, .sentinel], laidTests := true, laidLooks := .later }
def ReadKnownUptoCardSaid : Prop := Claim7.holds Tryz.pinned (.plain (OpenSpec.upto readKnownSpec)) readKnownUptoCard

/-- THE SECOND FORM's CARD OF 'sizarlaw8.ReadPlain'. -/
def readPlainUptoCard : Claim7 := { stood := { row := readPlainUptoRow, standIns := [], harness := (true, "97572f07b9143e79e9e01a3547109bb720cb7738775db8ae5d8b2d8977e5c4da"), looks := true }, kinds := [], alts := [], laidByText := true, laidKinds := [.data, .data, .data, .sentinel, .sentinel], laidTests := true, laidLooks := .later }
def ReadPlainUptoCardSaid : Prop := Claim7.holds Tryz.pinned (.plain (OpenSpec.upto readPlainSpec)) readPlainUptoCard

/-- THE SECOND FORM's CARD OF 'sizarlaw8.ReadParts'. -/
def readPartsUptoCard : Claim7 := { stood := { row := readPartsUptoRow, standIns := [], harness := (true, "97572f07b9143e79e9e01a3547109bb720cb7738775db8ae5d8b2d8977e5c4da"), looks := true }, kinds := [], alts := [], laidByText := true, laidKinds := [.data, .data, .data, .sentinel, .sentinel], laidTests := true, laidLooks := .later }
def ReadPartsUptoCardSaid : Prop := Claim7.holds Tryz.pinned (.plain (OpenSpec.upto readPartsSpec)) readPartsUptoCard

/-- THE SECOND FORM's CARD OF 'sizarlaw8.ReadBrackets'. -/
def readBracketsUptoCard : Claim7 := { stood := { row := readBracketsUptoRow, standIns := [], harness := (true, "97572f07b9143e79e9e01a3547109bb720cb7738775db8ae5d8b2d8977e5c4da"), looks := true }, kinds := [], alts := [], laidByText := true, laidKinds := [.data, .data, .data, .sentinel, .sentinel], laidTests := true, laidLooks := .later }
def ReadBracketsUptoCardSaid : Prop := Claim7.holds Tryz.pinned (.plain (OpenSpec.upto readBracketsSpec)) readBracketsUptoCard
end Rows
end Go.Proofs.YtllpdciehoenaaaGreatDoor
