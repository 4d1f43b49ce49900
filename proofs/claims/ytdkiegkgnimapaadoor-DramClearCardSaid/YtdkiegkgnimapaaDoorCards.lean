/-
  DERIVED. GIVEN WITH THE SEED: THE CARDS: each row of YtdkiegkgnimapaaDoorRows.lean that lists a variable, with what it lists TIED to the program's text (the seventh form; the later family's looks); each row that meets fmt, with fmt's text TOLD by the authors' own Lean function (tested against real Go, not proved from fmt's source: count such statements apart). THE CARD IS WHAT COUNTS. Prove the row's statement (the work); the ties are given (YtdkiegkgnimapaaDoorTie.lean); close each card by the builder's one call (the guide's Derived/Test/ToyasCard.lean, 'card_holds'). Laid BY PROGRAM, IN A SANDBOX (cutbox-door.mjs). By AI agents, Wed Nov 11 2026. No macro, syntax, notation, axiom, sorry.
-/
import Derived.Test.YtdkiegkgnimapaaDoorRows
import GoSem.ClaimSeven
namespace Go.Proofs.YtdkiegkgnimapaaDoor
namespace Rows

/-- THE TIED CARD OF 'cellaretlaw14.DramKnown'. -/
def dramKnownCard : Claim7 := { stood := { row := dramKnownRow, standIns := [], harness := (true, "b0cbe9f36ccd132023f50c33205935b85ed40a817cb6e525f2298c0dea4fdff9"), looks := false }, kinds := [], alts := [], laidByText := true, laidKinds := [.data], laidTests := true, laidLooks := .later }
def DramKnownCardSaid : Prop := Claim7.holds Tryd.pinned (.plain (OpenSpec.ofChange dramKnownSpec)) dramKnownCard

/-- THE TIED CARD OF 'cellaretlaw14.DramRoom'. -/
def dramRoomCard : Claim7 := { stood := { row := dramRoomRow, standIns := [], harness := (true, "b0cbe9f36ccd132023f50c33205935b85ed40a817cb6e525f2298c0dea4fdff9"), looks := false }, kinds := [], alts := [], laidByText := true, laidKinds := [.data], laidTests := true, laidLooks := .later }
def DramRoomCardSaid : Prop := Claim7.holds Tryd.pinned (.plain (OpenSpec.ofChange dramRoomSpec)) dramRoomCard

/-- THE TIED CARD OF 'cellaretlaw14.DramKeeps'. -/
def dramKeepsCard : Claim7 := { stood := { row := dramKeepsRow, standIns := [], harness := (true, "b0cbe9f36ccd132023f50c33205935b85ed40a817cb6e525f2298c0dea4fdff9"), looks := false }, kinds := [], alts := [], laidByText := true, laidKinds := [.data], laidTests := true, laidLooks := .later }
def DramKeepsCardSaid : Prop := Claim7.holds Tryd.pinned (.plain (OpenSpec.ofChange dramKeepsSpec)) dramKeepsCard

/-- THE TIED CARD OF 'cellaretlaw14.DramDead'. -/
def dramDeadCard : Claim7 := { stood := { row := dramDeadRow, standIns := [], harness := (true, "b0cbe9f36ccd132023f50c33205935b85ed40a817cb6e525f2298c0dea4fdff9"), looks := false }, kinds := [], alts := [], laidByText := true, laidKinds := [.data], laidTests := true, laidLooks := .later }
def DramDeadCardSaid : Prop := Claim7.holds Tryd.pinned (.plain (OpenSpec.ofChange dramDeadSpec)) dramDeadCard

/-- THE TIED CARD OF 'cellaretlaw14.DramClear'. -/
def dramClearCard : Claim7 := { stood := { row := dramClearRow, standIns := [], harness := (true, "b0cbe9f36ccd132023f50c33205935b85ed40a817cb6e525f2298c0dea4fdff9"), looks := false }, kinds := [], alts := [], laidByText := true, laidKinds := [.data], laidTests := true, laidLooks := .later }
def DramClearCardSaid : Prop := Claim7.holds Tryd.pinned (.plain (OpenSpec.ofChange dramClearSpec)) dramClearCard

/-- THE SECOND FORM's CARD OF 'cellaretlaw14.DramKnown'. -/
def dramKnownUptoCard : Claim7 := { stood := { row := dramKnownUptoRow, standIns := [], harness := (true, "b0cbe9f36ccd132023f50c33205935b85ed40a817cb6e525f2298c0dea4fdff9"), looks := false }, kinds := [], alts := [], laidByText := true, laidKinds := [.data], laidTests := true, laidLooks := .later }
def DramKnownUptoCardSaid : Prop := Claim7.holds Tryd.pinned (.plain (OpenSpec.upto dramKnownSpec)) dramKnownUptoCard

/-- THE SECOND FORM's CARD OF 'cellaretlaw14.DramRoom'. -/
def dramRoomUptoCard : Claim7 := { stood := { row := dramRoomUptoRow, standIns := [], harness := (true, "b0cbe9f36ccd132023f50c33205935b85ed40a817cb6e525f2298c0dea4fdff9"), looks := false }, kinds := [], alts := [], laidByText := true, laidKinds := [.data], laidTests := true, laidLooks := .later }
def DramRoomUptoCardSaid : Prop := Claim7.holds Tryd.pinned (.plain (OpenSpec.upto dramRoomSpec)) dramRoomUptoCard

/-- THE SECOND FORM's CARD OF 'cellaretlaw14.DramKeeps'. -/
def dramKeepsUptoCard : Claim7 := { stood := { row := dramKeepsUptoRow, standIns := [], harness := (true, "b0cbe9f36ccd132023f50c33205935b85ed40a817cb6e525f2298c0dea4fdff9"), looks := false }, kinds := [], alts := [], laidByText := true, laidKinds := [.data], laidTests := true, laidLooks := .later }
def DramKeepsUptoCardSaid : Prop := Claim7.holds Tryd.pinned (.plain (OpenSpec.upto dramKeepsSpec)) dramKeepsUptoCard

/-- THE SECOND FORM's CARD OF 'cellaretlaw14.DramDead'. -/
def dramDeadUptoCard : Claim7 := { stood := { row := dramDeadUptoRow, standIns := [], harness := (true, "b0cbe9f36ccd132023f50c33205935b85ed40a817cb6e525f2298c0dea4fdff9"), looks := false }, kinds := [], alts := [], laidByText := true, laidKinds := [.data], laidTests := true, laidLooks := .later }
def DramDeadUptoCardSaid : Prop := Claim7.holds Tryd.pinned (.plain (OpenSpec.upto dramDeadSpec)) dramDeadUptoCard

/-- THE SECOND FORM's CARD OF 'cellaretlaw14.DramClear'. -/
def dramClearUptoCard : Claim7 := { stood := { row := dramClearUptoRow, standIns := [], harness := (true, "b0cbe9f36ccd132023f50c33205935b85ed40a817cb6e525f2298c0dea4fdff9"), looks := false }, kinds := [], alts := [], laidByText := true, laidKinds := [.data], laidTests := true, laidLooks := .later }
def DramClearUptoCardSaid : Prop := Claim7.holds Tryd.pinned (.plain (OpenSpec.upto dramClearSpec)) dramClearUptoCard
end Rows
end Go.Proofs.YtdkiegkgnimapaaDoor
