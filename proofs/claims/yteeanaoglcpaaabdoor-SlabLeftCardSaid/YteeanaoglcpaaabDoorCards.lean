/-
  DERIVED. GIVEN WITH THE SEED: THE CARDS: each row of YteeanaoglcpaaabDoorRows.lean that lists a variable, with what it lists TIED to the program's text (the seventh form; the later family's looks); each row that meets fmt, with fmt's text TOLD by the authors' own Lean function (tested against real Go, not proved from fmt's source: count such statements apart). THE CARD IS WHAT COUNTS. Prove the row's statement (the work); the ties are given (YteeanaoglcpaaabDoorTie.lean); close each card by the builder's one call (the guide's Derived/Test/ToyasCard.lean, 'card_holds'). Laid BY PROGRAM, IN A SANDBOX (cutbox-door.mjs). By AI agents, Wed Nov 11 2026. No macro, syntax, notation, axiom, sorry.
-/
import Derived.Test.YteeanaoglcpaaabDoorRows
import GoSem.ClaimSeven
namespace Go.Proofs.YteeanaoglcpaaabDoor
namespace Rows

/-- THE TIED CARD OF 'cellaretlaw11.SlabLeft'. -/
def slabLeftCard : Claim7 := { stood := { row := slabLeftRow, standIns := [], harness := (true, "1201245ec284e2590dec14369897f156edb101991fa95589d9c2fd47f7018687"), looks := false }, kinds := [], alts := [], laidByText := true, laidKinds := [.data], laidTests := true, laidLooks := .later }
def SlabLeftCardSaid : Prop := Claim7.holds Tryd.pinned (.plain (OpenSpec.ofChange slabLeftSpec)) slabLeftCard

/-- THE SECOND FORM's CARD OF 'cellaretlaw11.SlabLeft'. -/
def slabLeftUptoCard : Claim7 := { stood := { row := slabLeftUptoRow, standIns := [], harness := (true, "1201245ec284e2590dec14369897f156edb101991fa95589d9c2fd47f7018687"), looks := false }, kinds := [], alts := [], laidByText := true, laidKinds := [.data], laidTests := true, laidLooks := .later }
def SlabLeftUptoCardSaid : Prop := Claim7.holds Tryd.pinned (.plain (OpenSpec.upto slabLeftSpec)) slabLeftUptoCard
end Rows
end Go.Proofs.YteeanaoglcpaaabDoor
