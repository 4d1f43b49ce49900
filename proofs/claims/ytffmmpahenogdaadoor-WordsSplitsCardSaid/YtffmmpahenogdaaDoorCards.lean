/-
  DERIVED. GIVEN WITH THE SEED: THE CARDS: each row of YtffmmpahenogdaaDoorRows.lean that lists a variable, with what it lists TIED to the program's text (the seventh form; the later family's looks); each row that meets fmt, with fmt's text TOLD by the authors' own Lean function (tested against real Go, not proved from fmt's source: count such statements apart). THE CARD IS WHAT COUNTS. Prove the row's statement (the work); the ties are given (YtffmmpahenogdaaDoorTie.lean); close each card by the builder's one call (the guide's Derived/Test/ToyasCard.lean, 'card_holds'). Laid BY PROGRAM, IN A SANDBOX (cutbox-door.mjs). By AI agents, Wed Nov 11 2026. No macro, syntax, notation, axiom, sorry.
-/
import Derived.Test.YtffmmpahenogdaaDoorRows
import GoSem.ClaimSeven
namespace Go.Proofs.YtffmmpahenogdaaDoor
namespace Rows

/-- THE TIED CARD OF 'cellaretlaw2.WordsKnown'. -/
def wordsKnownCard : Claim7 := { stood := { row := wordsKnownRow, standIns := [], harness := (true, "c8cacc798278ffac199f27020dfd6c40f2e3286cce8563a19c263ea058aa82ab"), looks := false }, kinds := [], alts := [], laidByText := true, laidKinds := [.data, .data, .data], laidTests := true, laidLooks := .later }
def WordsKnownCardSaid : Prop := Claim7.holds Tryd.pinned (.plain (OpenSpec.ofChange wordsKnownSpec)) wordsKnownCard

/-- THE TIED CARD OF 'cellaretlaw2.WordsRunes'. -/
def wordsRunesCard : Claim7 := { stood := { row := wordsRunesRow, standIns := [], harness := (true, "c8cacc798278ffac199f27020dfd6c40f2e3286cce8563a19c263ea058aa82ab"), looks := false }, kinds := [], alts := [], laidByText := true, laidKinds := [.data, .data, .data], laidTests := true, laidLooks := .later }
def WordsRunesCardSaid : Prop := Claim7.holds Tryd.pinned (.plain (OpenSpec.ofChange wordsRunesSpec)) wordsRunesCard

/-- THE TIED CARD OF 'cellaretlaw2.WordsSplits'. -/
def wordsSplitsCard : Claim7 := { stood := { row := wordsSplitsRow, standIns := [], harness := (true, "c8cacc798278ffac199f27020dfd6c40f2e3286cce8563a19c263ea058aa82ab"), looks := false }, kinds := [], alts := [], laidByText := true, laidKinds := [.data, .data, .data], laidTests := true, laidLooks := .later }
def WordsSplitsCardSaid : Prop := Claim7.holds Tryd.pinned (.plain (OpenSpec.ofChange wordsSplitsSpec)) wordsSplitsCard

/-- THE TIED CARD OF 'cellaretlaw2.WordsNumbers'. -/
def wordsNumbersCard : Claim7 := { stood := { row := wordsNumbersRow, standIns := [], harness := (true, "c8cacc798278ffac199f27020dfd6c40f2e3286cce8563a19c263ea058aa82ab"), looks := false }, kinds := [], alts := [], laidByText := true, laidKinds := [.data, .data, .data], laidTests := true, laidLooks := .later }
def WordsNumbersCardSaid : Prop := Claim7.holds Tryd.pinned (.plain (OpenSpec.ofChange wordsNumbersSpec)) wordsNumbersCard

/-- THE TIED CARD OF 'cellaretlaw2.WordsBack'. -/
def wordsBackCard : Claim7 := { stood := { row := wordsBackRow, standIns := [], harness := (true, "c8cacc798278ffac199f27020dfd6c40f2e3286cce8563a19c263ea058aa82ab"), looks := false }, kinds := [], alts := [], laidByText := true, laidKinds := [.data, .data, .data], laidTests := true, laidLooks := .later }
def WordsBackCardSaid : Prop := Claim7.holds Tryd.pinned (.plain (OpenSpec.ofChange wordsBackSpec)) wordsBackCard

/-- THE TIED CARD OF 'cellaretlaw2.WordsShown'. -/
def wordsShownCard : Claim7 := { stood := { row := wordsShownRow, standIns := [], harness := (true, "c8cacc798278ffac199f27020dfd6c40f2e3286cce8563a19c263ea058aa82ab"), looks := false }, kinds := [], alts := [], laidByText := true, laidKinds := [.data, .data, .data], laidTests := true, laidLooks := .later }
def WordsShownCardSaid : Prop := Claim7.holds Tryd.pinned (.plain (OpenSpec.ofChange wordsShownSpec)) wordsShownCard

/-- THE SECOND FORM's CARD OF 'cellaretlaw2.WordsKnown'. -/
def wordsKnownUptoCard : Claim7 := { stood := { row := wordsKnownUptoRow, standIns := [], harness := (true, "c8cacc798278ffac199f27020dfd6c40f2e3286cce8563a19c263ea058aa82ab"), looks := false }, kinds := [], alts := [], laidByText := true, laidKinds := [.data, .data, .data], laidTests := true, laidLooks := .later }
def WordsKnownUptoCardSaid : Prop := Claim7.holds Tryd.pinned (.plain (OpenSpec.upto wordsKnownSpec)) wordsKnownUptoCard

/-- THE SECOND FORM's CARD OF 'cellaretlaw2.WordsRunes'. -/
def wordsRunesUptoCard : Claim7 := { stood := { row := wordsRunesUptoRow, standIns := [], harness := (true, "c8cacc798278ffac199f27020dfd6c40f2e3286cce8563a19c263ea058aa82ab"), looks := false }, kinds := [], alts := [], laidByText := true, laidKinds := [.data, .data, .data], laidTests := true, laidLooks := .later }
def WordsRunesUptoCardSaid : Prop := Claim7.holds Tryd.pinned (.plain (OpenSpec.upto wordsRunesSpec)) wordsRunesUptoCard

/-- THE SECOND FORM's CARD OF 'cellaretlaw2.WordsSplits'. -/
def wordsSplitsUptoCard : Claim7 := { stood := { row := wordsSplitsUptoRow, standIns := [], harness := (true, "c8cacc798278ffac199f27020dfd6c40f2e3286cce8563a19c263ea058aa82ab"), looks := false }, kinds := [], alts := [], laidByText := true, laidKinds := [.data, .data, .data], laidTests := true, laidLooks := .later }
def WordsSplitsUptoCardSaid : Prop := Claim7.holds Tryd.pinned (.plain (OpenSpec.upto wordsSplitsSpec)) wordsSplitsUptoCard

/-- THE SECOND FORM's CARD OF 'cellaretlaw2.WordsNumbers'. -/
def wordsNumbersUptoCard : Claim7 := { stood := { row := wordsNumbersUptoRow, standIns := [], harness := (true, "c8cacc798278ffac199f27020dfd6c40f2e3286cce8563a19c263ea058aa82ab"), looks := false }, kinds := [], alts := [], laidByText := true, laidKinds := [.data, .data, .data], laidTests := true, laidLooks := .later }
def WordsNumbersUptoCardSaid : Prop := Claim7.holds Tryd.pinned (.plain (OpenSpec.upto wordsNumbersSpec)) wordsNumbersUptoCard

/-- THE SECOND FORM's CARD OF 'cellaretlaw2.WordsBack'. -/
def wordsBackUptoCard : Claim7 := { stood := { row := wordsBackUptoRow, standIns := [], harness := (true, "c8cacc798278ffac199f27020dfd6c40f2e3286cce8563a19c263ea058aa82ab"), looks := false }, kinds := [], alts := [], laidByText := true, laidKinds := [.data, .data, .data], laidTests := true, laidLooks := .later }
def WordsBackUptoCardSaid : Prop := Claim7.holds Tryd.pinned (.plain (OpenSpec.upto wordsBackSpec)) wordsBackUptoCard

/-- THE SECOND FORM's CARD OF 'cellaretlaw2.WordsShown'. -/
def wordsShownUptoCard : Claim7 := { stood := { row := wordsShownUptoRow, standIns := [], harness := (true, "c8cacc798278ffac199f27020dfd6c40f2e3286cce8563a19c263ea058aa82ab"), looks := false }, kinds := [], alts := [], laidByText := true, laidKinds := [.data, .data, .data], laidTests := true, laidLooks := .later }
def WordsShownUptoCardSaid : Prop := Claim7.holds Tryd.pinned (.plain (OpenSpec.upto wordsShownSpec)) wordsShownUptoCard
end Rows
end Go.Proofs.YtffmmpahenogdaaDoor
