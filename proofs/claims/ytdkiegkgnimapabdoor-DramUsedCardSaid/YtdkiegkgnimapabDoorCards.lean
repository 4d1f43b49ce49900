/-
  DERIVED. GIVEN WITH THE SEED: THE CARDS: each row of YtdkiegkgnimapabDoorRows.lean that lists a variable, with what it lists TIED to the program's text (the seventh form; the later family's looks); each row that meets fmt, with fmt's text TOLD by the authors' own Lean function (tested against real Go, not proved from fmt's source: count such statements apart). THE CARD IS WHAT COUNTS. Prove the row's statement (the work); the ties are given (YtdkiegkgnimapabDoorTie.lean); close each card by the builder's one call (the guide's Derived/Test/ToyasCard.lean, 'card_holds'). Laid BY PROGRAM, IN A SANDBOX (cutbox-door.mjs). By AI agents, Wed Nov 11 2026. No macro, syntax, notation, axiom, sorry.
-/
import Derived.Test.YtdkiegkgnimapabDoorRows
import GoSem.ClaimSeven
namespace Go.Proofs.YtdkiegkgnimapabDoor
namespace Rows

/-- THE TIED CARD OF 'cellaretlaw14.DramUsed'. -/
def dramUsedCard : Claim7 := { stood := { row := dramUsedRow, standIns := [], harness := (true, "fd8358d5ef674d59d80a7786cc3cf9acb5c91ae2930fbb8da9ece9519ed841a9"), looks := false }, kinds := [], alts := [], laidByText := true, laidKinds := [.data], laidTests := true, laidLooks := .later }
def DramUsedCardSaid : Prop := Claim7.holds Tryd.pinned (.plain (OpenSpec.ofChange dramUsedSpec)) dramUsedCard

/-- THE SECOND FORM's CARD OF 'cellaretlaw14.DramUsed'. -/
def dramUsedUptoCard : Claim7 := { stood := { row := dramUsedUptoRow, standIns := [], harness := (true, "fd8358d5ef674d59d80a7786cc3cf9acb5c91ae2930fbb8da9ece9519ed841a9"), looks := false }, kinds := [], alts := [], laidByText := true, laidKinds := [.data], laidTests := true, laidLooks := .later }
def DramUsedUptoCardSaid : Prop := Claim7.holds Tryd.pinned (.plain (OpenSpec.upto dramUsedSpec)) dramUsedUptoCard
end Rows
end Go.Proofs.YtdkiegkgnimapabDoor
