/-
  DERIVED. GIVEN WITH THE SEED: THE CARDS: each row of YtffmmpahenogdabDoorRows.lean that lists a variable, with what it lists TIED to the program's text (the seventh form; the later family's looks); each row that meets fmt, with fmt's text TOLD by the authors' own Lean function (tested against real Go, not proved from fmt's source: count such statements apart). THE CARD IS WHAT COUNTS. Prove the row's statement (the work); the ties are given (YtffmmpahenogdabDoorTie.lean); close each card by the builder's one call (the guide's Derived/Test/ToyasCard.lean, 'card_holds'). Laid BY PROGRAM, IN A SANDBOX (cutbox-door.mjs). By AI agents, Wed Nov 11 2026. No macro, syntax, notation, axiom, sorry.
-/
import Derived.Test.YtffmmpahenogdabDoorRows
import GoSem.ClaimSeven
namespace Go.Proofs.YtffmmpahenogdabDoor
namespace Rows

/-- THE TIED CARD OF 'cellaretlaw2.WordsKeys'. -/
def wordsKeysCard : Claim7 := { stood := { row := wordsKeysRow, standIns := [], harness := (true, "8dfca3a4772837f099593509057a38c705a1d5c19f3b978ae855d5e1d22520bf"), looks := false }, kinds := [], alts := [], laidByText := true, laidKinds := [.data, .data, .data], laidTests := true, laidLooks := .later }
def WordsKeysCardSaid : Prop := Claim7.holds Tryd.pinned (.plain (OpenSpec.ofChange wordsKeysSpec)) wordsKeysCard

/-- THE TIED CARD OF 'cellaretlaw2.WordsJoined'. -/
def wordsJoinedCard : Claim7 := { stood := { row := wordsJoinedRow, standIns := [], harness := (true, "8dfca3a4772837f099593509057a38c705a1d5c19f3b978ae855d5e1d22520bf"), looks := false }, kinds := [], alts := [], laidByText := true, laidKinds := [.data, .data, .data], laidTests := true, laidLooks := .later }
def WordsJoinedCardSaid : Prop := Claim7.holds Tryd.pinned (.plain (OpenSpec.ofChange wordsJoinedSpec)) wordsJoinedCard

/-- THE TIED CARD OF 'cellaretlaw2.WordsCounted'. -/
def wordsCountedCard : Claim7 := { stood := { row := wordsCountedRow, standIns := [], harness := (true, "8dfca3a4772837f099593509057a38c705a1d5c19f3b978ae855d5e1d22520bf"), looks := false }, kinds := [], alts := [], laidByText := true, laidKinds := [.data, .data, .data], laidTests := true, laidLooks := .later }
def WordsCountedCardSaid : Prop := Claim7.holds Tryd.pinned (.plain (OpenSpec.ofChange wordsCountedSpec)) wordsCountedCard

/-- THE TIED CARD OF 'cellaretlaw2.WordsSigns'. -/
def wordsSignsCard : Claim7 := { stood := { row := wordsSignsRow, standIns := [], harness := (true, "8dfca3a4772837f099593509057a38c705a1d5c19f3b978ae855d5e1d22520bf"), looks := false }, kinds := [], alts := [], laidByText := true, laidKinds := [.data, .data, .data], laidTests := true, laidLooks := .later }
def WordsSignsCardSaid : Prop := Claim7.holds Tryd.pinned (.plain (OpenSpec.ofChange wordsSignsSpec)) wordsSignsCard

/-- THE SECOND FORM's CARD OF 'cellaretlaw2.WordsKeys'. -/
def wordsKeysUptoCard : Claim7 := { stood := { row := wordsKeysUptoRow, standIns := [], harness := (true, "8dfca3a4772837f099593509057a38c705a1d5c19f3b978ae855d5e1d22520bf"), looks := false }, kinds := [], alts := [], laidByText := true, laidKinds := [.data, .data, .data], laidTests := true, laidLooks := .later }
def WordsKeysUptoCardSaid : Prop := Claim7.holds Tryd.pinned (.plain (OpenSpec.upto wordsKeysSpec)) wordsKeysUptoCard

/-- THE SECOND FORM's CARD OF 'cellaretlaw2.WordsJoined'. -/
def wordsJoinedUptoCard : Claim7 := { stood := { row := wordsJoinedUptoRow, standIns := [], harness := (true, "8dfca3a4772837f099593509057a38c705a1d5c19f3b978ae855d5e1d22520bf"), looks := false }, kinds := [], alts := [], laidByText := true, laidKinds := [.data, .data, .data], laidTests := true, laidLooks := .later }
def WordsJoinedUptoCardSaid : Prop := Claim7.holds Tryd.pinned (.plain (OpenSpec.upto wordsJoinedSpec)) wordsJoinedUptoCard

/-- THE SECOND FORM's CARD OF 'cellaretlaw2.WordsCounted'. -/
def wordsCountedUptoCard : Claim7 := { stood := { row := wordsCountedUptoRow, standIns := [], harness := (true, "8dfca3a4772837f099593509057a38c705a1d5c19f3b978ae855d5e1d22520bf"), looks := false }, kinds := [], alts := [], laidByText := true, laidKinds := [.data, .data, .data], laidTests := true, laidLooks := .later }
def WordsCountedUptoCardSaid : Prop := Claim7.holds Tryd.pinned (.plain (OpenSpec.upto wordsCountedSpec)) wordsCountedUptoCard

/-- THE SECOND FORM's CARD OF 'cellaretlaw2.WordsSigns'. -/
def wordsSignsUptoCard : Claim7 := { stood := { row := wordsSignsUptoRow, standIns := [], harness := (true, "8dfca3a4772837f099593509057a38c705a1d5c19f3b978ae855d5e1d22520bf"), looks := false }, kinds := [], alts := [], laidByText := true, laidKinds := [.data, .data, .data], laidTests := true, laidLooks := .later }
def WordsSignsUptoCardSaid : Prop := Claim7.holds Tryd.pinned (.plain (OpenSpec.upto wordsSignsSpec)) wordsSignsUptoCard
end Rows
end Go.Proofs.YtffmmpahenogdabDoor
