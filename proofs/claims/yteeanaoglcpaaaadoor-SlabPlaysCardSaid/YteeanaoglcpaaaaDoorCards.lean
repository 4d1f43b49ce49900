/-
  DERIVED. GIVEN WITH THE SEED: THE CARDS: each row of YteeanaoglcpaaaaDoorRows.lean that lists a variable, with what it lists TIED to the program's text (the seventh form; the later family's looks); each row that meets fmt, with fmt's text TOLD by the authors' own Lean function (tested against real Go, not proved from fmt's source: count such statements apart). THE CARD IS WHAT COUNTS. Prove the row's statement (the work); the ties are given (YteeanaoglcpaaaaDoorTie.lean); close each card by the builder's one call (the guide's Derived/Test/ToyasCard.lean, 'card_holds'). Laid BY PROGRAM, IN A SANDBOX (cutbox-door.mjs). By AI agents, Wed Nov 11 2026. No macro, syntax, notation, axiom, sorry.
-/
import Derived.Test.YteeanaoglcpaaaaDoorRows
import GoSem.ClaimSeven
namespace Go.Proofs.YteeanaoglcpaaaaDoor
namespace Rows

/-- THE TIED CARD OF 'cellaretlaw11.SlabKnown'. -/
def slabKnownCard : Claim7 := { stood := { row := slabKnownRow, standIns := [], harness := (true, "64957ea71870747787e01b1504ef7a755223854f2840f0348a30a572cd882a87"), looks := false }, kinds := [], alts := [], laidByText := true, laidKinds := [.data], laidTests := true, laidLooks := .later }
def SlabKnownCardSaid : Prop := Claim7.holds Tryd.pinned (.plain (OpenSpec.ofChange slabKnownSpec)) slabKnownCard

/-- THE TIED CARD OF 'cellaretlaw11.SlabPlays'. -/
def slabPlaysCard : Claim7 := { stood := { row := slabPlaysRow, standIns := [], harness := (true, "64957ea71870747787e01b1504ef7a755223854f2840f0348a30a572cd882a87"), looks := false }, kinds := [], alts := [], laidByText := true, laidKinds := [.data], laidTests := true, laidLooks := .later }
def SlabPlaysCardSaid : Prop := Claim7.holds Tryd.pinned (.plain (OpenSpec.ofChange slabPlaysSpec)) slabPlaysCard

/-- THE TIED CARD OF 'cellaretlaw11.SlabApart'. -/
def slabApartCard : Claim7 := { stood := { row := slabApartRow, standIns := [], harness := (true, "64957ea71870747787e01b1504ef7a755223854f2840f0348a30a572cd882a87"), looks := false }, kinds := [], alts := [], laidByText := true, laidKinds := [.data], laidTests := true, laidLooks := .later }
def SlabApartCardSaid : Prop := Claim7.holds Tryd.pinned (.plain (OpenSpec.ofChange slabApartSpec)) slabApartCard

/-- THE TIED CARD OF 'cellaretlaw11.SlabFits'. -/
def slabFitsCard : Claim7 := { stood := { row := slabFitsRow, standIns := [], harness := (true, "64957ea71870747787e01b1504ef7a755223854f2840f0348a30a572cd882a87"), looks := false }, kinds := [], alts := [], laidByText := true, laidKinds := [.data], laidTests := true, laidLooks := .later }
def SlabFitsCardSaid : Prop := Claim7.holds Tryd.pinned (.plain (OpenSpec.ofChange slabFitsSpec)) slabFitsCard

/-- THE TIED CARD OF 'cellaretlaw11.SlabAgain'. -/
def slabAgainCard : Claim7 := { stood := { row := slabAgainRow, standIns := [], harness := (true, "64957ea71870747787e01b1504ef7a755223854f2840f0348a30a572cd882a87"), looks := false }, kinds := [], alts := [], laidByText := true, laidKinds := [.data], laidTests := true, laidLooks := .later }
def SlabAgainCardSaid : Prop := Claim7.holds Tryd.pinned (.plain (OpenSpec.ofChange slabAgainSpec)) slabAgainCard

/-- THE TIED CARD OF 'cellaretlaw11.SlabMoves'. -/
def slabMovesCard : Claim7 := { stood := { row := slabMovesRow, standIns := [], harness := (true, "64957ea71870747787e01b1504ef7a755223854f2840f0348a30a572cd882a87"), looks := false }, kinds := [], alts := [], laidByText := true, laidKinds := [.data], laidTests := true, laidLooks := .later }
def SlabMovesCardSaid : Prop := Claim7.holds Tryd.pinned (.plain (OpenSpec.ofChange slabMovesSpec)) slabMovesCard

/-- THE SECOND FORM's CARD OF 'cellaretlaw11.SlabKnown'. -/
def slabKnownUptoCard : Claim7 := { stood := { row := slabKnownUptoRow, standIns := [], harness := (true, "64957ea71870747787e01b1504ef7a755223854f2840f0348a30a572cd882a87"), looks := false }, kinds := [], alts := [], laidByText := true, laidKinds := [.data], laidTests := true, laidLooks := .later }
def SlabKnownUptoCardSaid : Prop := Claim7.holds Tryd.pinned (.plain (OpenSpec.upto slabKnownSpec)) slabKnownUptoCard

/-- THE SECOND FORM's CARD OF 'cellaretlaw11.SlabPlays'. -/
def slabPlaysUptoCard : Claim7 := { stood := { row := slabPlaysUptoRow, standIns := [], harness := (true, "64957ea71870747787e01b1504ef7a755223854f2840f0348a30a572cd882a87"), looks := false }, kinds := [], alts := [], laidByText := true, laidKinds := [.data], laidTests := true, laidLooks := .later }
def SlabPlaysUptoCardSaid : Prop := Claim7.holds Tryd.pinned (.plain (OpenSpec.upto slabPlaysSpec)) slabPlaysUptoCard

/-- THE SECOND FORM's CARD OF 'cellaretlaw11.SlabApart'. -/
def slabApartUptoCard : Claim7 := { stood := { row := slabApartUptoRow, standIns := [], harness := (true, "64957ea71870747787e01b1504ef7a755223854f2840f0348a30a572cd882a87"), looks := false }, kinds := [], alts := [], laidByText := true, laidKinds := [.data], laidTests := true, laidLooks := .later }
def SlabApartUptoCardSaid : Prop := Claim7.holds Tryd.pinned (.plain (OpenSpec.upto slabApartSpec)) slabApartUptoCard

/-- THE SECOND FORM's CARD OF 'cellaretlaw11.SlabFits'. -/
def slabFitsUptoCard : Claim7 := { stood := { row := slabFitsUptoRow, standIns := [], harness := (true, "64957ea71870747787e01b1504ef7a755223854f2840f0348a30a572cd882a87"), looks := false }, kinds := [], alts := [], laidByText := true, laidKinds := [.data], laidTests := true, laidLooks := .later }
def SlabFitsUptoCardSaid : Prop := Claim7.holds Tryd.pinned (.plain (OpenSpec.upto slabFitsSpec)) slabFitsUptoCard

/-- THE SECOND FORM's CARD OF 'cellaretlaw11.SlabAgain'. -/
def slabAgainUptoCard : Claim7 := { stood := { row := slabAgainUptoRow, standIns := [], harness := (true, "64957ea71870747787e01b1504ef7a755223854f2840f0348a30a572cd882a87"), looks := false }, kinds := [], alts := [], laidByText := true, laidKinds := [.data], laidTests := true, laidLooks := .later }
def SlabAgainUptoCardSaid : Prop := Claim7.holds Tryd.pinned (.plain (OpenSpec.upto slabAgainSpec)) slabAgainUptoCard

/-- THE SECOND FORM's CARD OF 'cellaretlaw11.SlabMoves'. -/
def slabMovesUptoCard : Claim7 := { stood := { row := slabMovesUptoRow, standIns := [], harness := (true, "64957ea71870747787e01b1504ef7a755223854f2840f0348a30a572cd882a87"), looks := false }, kinds := [], alts := [], laidByText := true, laidKinds := [.data], laidTests := true, laidLooks := .later }
def SlabMovesUptoCardSaid : Prop := Claim7.holds Tryd.pinned (.plain (OpenSpec.upto slabMovesSpec)) slabMovesUptoCard
end Rows
end Go.Proofs.YteeanaoglcpaaaaDoor
