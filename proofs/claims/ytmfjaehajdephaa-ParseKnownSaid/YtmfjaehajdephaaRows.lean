/-
  No cell of these rows narrows 'for every input' (looked for: loops, veiled, ifaces, maps, wideKeys, modest, calm, conditions, laid).
  DERIVED. THE GIVEN ROWS OF THIS SEAT. 6 by the template 'for every input the law returns true; each argument reads behind the call as it read before'; 0 by the template 'total and deterministic' (their statements: YtmfjaehajdephaaTotals.lean).
  GIVEN WITH THE SEED: the statements are not yours to turn. If you find one false, say at which input.
  Laid BY PROGRAM, IN A SANDBOX (cutbox-rows.mjs): the forced cells as the released guide's own fill.sh prints them over the translation 8dd703849f2d2519… (all of the seat's roots in one cut). By AI agents, Wed Nov 11 2026. No macro, syntax, notation, axiom, sorry.
-/
import Derived.Test.YtmfjaehajdephaaChecked
import GoSem.Claim
import GoSem.ClaimJoined
import GoSem.ClaimMapViews
import Derived.JoinedTies
import Derived.KernelRfl
namespace Go.Proofs.Ytmfjaehajdephaa
/- THE CELL 'sum', in the pinned program and in every row, IS THE sha256 OF THE DUMP (.gsa) THAT YtmfjaehajdephaaProg.lean LOADS. Nothing in Lean hashes anything: it is a label: what it is worth is what the hold of that sum in a sandbox is worth. -/
noncomputable def Try.pinned : Pinned := { name := "ytmfjaehajdephaa", sum := "8dd703849f2d2519b478f07d839679068df675e281f74adb2353df3964b93691", checked := Try.checked }
namespace Rows
def none {H : Type} : Left H := { results := [], args := [] }

/-- 'cellaretlaw18.ParseKnown': WHATEVER THE INPUT: true; the input reads as it did. -/
def parseKnownSpec : ChangeSpec := { name := "parseKnown", fn := fun _ => fun
  | [] => { results := [.lit (.bool true)], args := [] }
  | _ => none }
def parseKnownRow : OpenClaim := { program := "ytmfjaehajdephaa", sum := "8dd703849f2d2519b478f07d839679068df675e281f74adb2353df3964b93691", func := "cellaret/cellaretlaw18.ParseKnown", spec := "parseKnown", apart := false }
def ParseKnownSaid : Prop := parseKnownRow.holds Try.pinned (OpenSpec.ofChange parseKnownSpec)

/-- ITS FALSE NEIGHBOUR: 'it returns false'. Refute it at one input. -/
def parseKnownWrong : ChangeSpec := { name := "parseKnown", fn := fun _ => fun
  | [] => { results := [.lit (.bool false)], args := [] }
  | _ => none }
def ParseKnownWrongFalsely : Prop := parseKnownRow.holds Try.pinned (OpenSpec.ofChange parseKnownWrong)

/-- 'cellaretlaw18.ParseLines': WHATEVER THE INPUT: true; the input reads as it did. -/
def parseLinesSpec : ChangeSpec := { name := "parseLines", fn := fun _ => fun
  | [d] => { results := [.lit (.bool true)], args := [d] }
  | _ => none }
def parseLinesRow : OpenClaim := { program := "ytmfjaehajdephaa", sum := "8dd703849f2d2519b478f07d839679068df675e281f74adb2353df3964b93691", func := "cellaret/cellaretlaw18.ParseLines", spec := "parseLines", apart := false }
def ParseLinesSaid : Prop := parseLinesRow.holds Try.pinned (OpenSpec.ofChange parseLinesSpec)

/-- ITS FALSE NEIGHBOUR: 'it returns false'. Refute it at one input. -/
def parseLinesWrong : ChangeSpec := { name := "parseLines", fn := fun _ => fun
  | [d] => { results := [.lit (.bool false)], args := [d] }
  | _ => none }
def ParseLinesWrongFalsely : Prop := parseLinesRow.holds Try.pinned (OpenSpec.ofChange parseLinesWrong)

/-- 'cellaretlaw18.ParseFeeds': WHATEVER THE INPUT: true; the input reads as it did. -/
def parseFeedsSpec : ChangeSpec := { name := "parseFeeds", fn := fun _ => fun
  | [d] => { results := [.lit (.bool true)], args := [d] }
  | _ => none }
def parseFeedsRow : OpenClaim := { program := "ytmfjaehajdephaa", sum := "8dd703849f2d2519b478f07d839679068df675e281f74adb2353df3964b93691", func := "cellaret/cellaretlaw18.ParseFeeds", spec := "parseFeeds", apart := false }
def ParseFeedsSaid : Prop := parseFeedsRow.holds Try.pinned (OpenSpec.ofChange parseFeedsSpec)

/-- ITS FALSE NEIGHBOUR: 'it returns false'. Refute it at one input. -/
def parseFeedsWrong : ChangeSpec := { name := "parseFeeds", fn := fun _ => fun
  | [d] => { results := [.lit (.bool false)], args := [d] }
  | _ => none }
def ParseFeedsWrongFalsely : Prop := parseFeedsRow.holds Try.pinned (OpenSpec.ofChange parseFeedsWrong)

/-- 'cellaretlaw18.ParsePieces': WHATEVER THE INPUT: true; the input reads as it did. -/
def parsePiecesSpec : ChangeSpec := { name := "parsePieces", fn := fun _ => fun
  | [d1, d2] => { results := [.lit (.bool true)], args := [d1, d2] }
  | _ => none }
def parsePiecesRow : OpenClaim := { program := "ytmfjaehajdephaa", sum := "8dd703849f2d2519b478f07d839679068df675e281f74adb2353df3964b93691", func := "cellaret/cellaretlaw18.ParsePieces", spec := "parsePieces", apart := false }
def ParsePiecesSaid : Prop := parsePiecesRow.holds Try.pinned (OpenSpec.ofChange parsePiecesSpec)

/-- ITS FALSE NEIGHBOUR: 'it returns false'. Refute it at one input. -/
def parsePiecesWrong : ChangeSpec := { name := "parsePieces", fn := fun _ => fun
  | [d1, d2] => { results := [.lit (.bool false)], args := [d1, d2] }
  | _ => none }
def ParsePiecesWrongFalsely : Prop := parsePiecesRow.holds Try.pinned (OpenSpec.ofChange parsePiecesWrong)

/-- 'cellaretlaw18.ParseBack': WHATEVER THE INPUT: true; the input reads as it did. -/
def parseBackSpec : ChangeSpec := { name := "parseBack", fn := fun _ => fun
  | [d] => { results := [.lit (.bool true)], args := [d] }
  | _ => none }
def parseBackRow : OpenClaim := { program := "ytmfjaehajdephaa", sum := "8dd703849f2d2519b478f07d839679068df675e281f74adb2353df3964b93691", func := "cellaret/cellaretlaw18.ParseBack", spec := "parseBack", recurses := true, apart := false }
def ParseBackSaid : Prop := parseBackRow.holds Try.pinned (OpenSpec.ofChange parseBackSpec)

/-- ITS FALSE NEIGHBOUR: 'it returns false'. Refute it at one input. -/
def parseBackWrong : ChangeSpec := { name := "parseBack", fn := fun _ => fun
  | [d] => { results := [.lit (.bool false)], args := [d] }
  | _ => none }
def ParseBackWrongFalsely : Prop := parseBackRow.holds Try.pinned (OpenSpec.ofChange parseBackWrong)

/-- 'cellaretlaw18.ParseLong': WHATEVER THE INPUT: true; the input reads as it did. -/
def parseLongSpec : ChangeSpec := { name := "parseLong", fn := fun _ => fun
  | [d1, d2, d3] => { results := [.lit (.bool true)], args := [d1, d2, d3] }
  | _ => none }
def parseLongRow : OpenClaim := { program := "ytmfjaehajdephaa", sum := "8dd703849f2d2519b478f07d839679068df675e281f74adb2353df3964b93691", func := "cellaret/cellaretlaw18.ParseLong", spec := "parseLong", apart := false }
def ParseLongSaid : Prop := parseLongRow.holds Try.pinned (OpenSpec.ofChange parseLongSpec)

/-- ITS FALSE NEIGHBOUR: 'it returns false'. Refute it at one input. -/
def parseLongWrong : ChangeSpec := { name := "parseLong", fn := fun _ => fun
  | [d1, d2, d3] => { results := [.lit (.bool false)], args := [d1, d2, d3] }
  | _ => none }
def ParseLongWrongFalsely : Prop := parseLongRow.holds Try.pinned (OpenSpec.ofChange parseLongWrong)

/- THE SECOND FORM. 'bulk': how many values and letters a reading holds, each counted each time it is reached (what is shared counts as often as it is met; a slice's spare places count too). A statement '..UptoSaid' is the law's where the arguments, and the package variables that the reading takes, are together of bulk at most 1048576: NARROWER than '..Said'. Prove '..Said' where nothing that the law and all that it calls make is longer than what came in: it says more and counts as full. Else prove '..UptoSaid'. A law counts once. -/
mutual
def uptoBulk {H : Type} : DataW H → Nat
  | .lit (.string bytes) => bytes.length + 1
  | .lit _ => 1
  | .nil => 1
  | .ptr d => uptoBulk d + 1
  | .slice elems spare => uptoBulkAll elems + uptoBulkAll spare + 1
  | .agg parts => uptoBulkAll parts + 1
  | .iface _ d => uptoBulk d + 1
  | .map entries => uptoBulkEntries entries + 1
  | .held _ => 1
def uptoBulkAll {H : Type} : List (DataW H) → Nat
  | [] => 0
  | d :: r => uptoBulk d + uptoBulkAll r
def uptoBulkEntries {H : Type} : List (Lit × DataW H) → Nat
  | [] => 0
  | x :: r => uptoBulkEntry x + uptoBulkEntries r
def uptoBulkEntry {H : Type} : Lit × DataW H → Nat
  | (.string bytes, d) => bytes.length + uptoBulk d + 1
  | (_, d) => uptoBulk d + 1
 end
def uptoSmall : (H : Type) → List (DataW H) → Bool := fun _ ds => decide (uptoBulkAll ds ≤ 1048576)
def OpenSpec.upto (s : _root_.Go.ChangeSpec) : _root_.Go.OpenSpec := { _root_.Go.OpenSpec.ofChange s with cond := some uptoSmall }

/-- 'cellaretlaw18.ParseKnown', WHERE WHAT IT READS IS OF BULK AT MOST 1048576: true; the input reads as it did. -/
def parseKnownUptoRow : OpenClaim := { program := "ytmfjaehajdephaa", sum := "8dd703849f2d2519b478f07d839679068df675e281f74adb2353df3964b93691", func := "cellaret/cellaretlaw18.ParseKnown", spec := "parseKnown", apart := false, narrowed := true }
def ParseKnownUptoSaid : Prop := parseKnownUptoRow.holds Try.pinned (OpenSpec.upto parseKnownSpec)

/-- 'cellaretlaw18.ParseLines', WHERE WHAT IT READS IS OF BULK AT MOST 1048576: true; the input reads as it did. -/
def parseLinesUptoRow : OpenClaim := { program := "ytmfjaehajdephaa", sum := "8dd703849f2d2519b478f07d839679068df675e281f74adb2353df3964b93691", func := "cellaret/cellaretlaw18.ParseLines", spec := "parseLines", apart := false, narrowed := true }
def ParseLinesUptoSaid : Prop := parseLinesUptoRow.holds Try.pinned (OpenSpec.upto parseLinesSpec)

/-- 'cellaretlaw18.ParseFeeds', WHERE WHAT IT READS IS OF BULK AT MOST 1048576: true; the input reads as it did. -/
def parseFeedsUptoRow : OpenClaim := { program := "ytmfjaehajdephaa", sum := "8dd703849f2d2519b478f07d839679068df675e281f74adb2353df3964b93691", func := "cellaret/cellaretlaw18.ParseFeeds", spec := "parseFeeds", apart := false, narrowed := true }
def ParseFeedsUptoSaid : Prop := parseFeedsUptoRow.holds Try.pinned (OpenSpec.upto parseFeedsSpec)

/-- 'cellaretlaw18.ParsePieces', WHERE WHAT IT READS IS OF BULK AT MOST 1048576: true; the input reads as it did. -/
def parsePiecesUptoRow : OpenClaim := { program := "ytmfjaehajdephaa", sum := "8dd703849f2d2519b478f07d839679068df675e281f74adb2353df3964b93691", func := "cellaret/cellaretlaw18.ParsePieces", spec := "parsePieces", apart := false, narrowed := true }
def ParsePiecesUptoSaid : Prop := parsePiecesUptoRow.holds Try.pinned (OpenSpec.upto parsePiecesSpec)

/-- 'cellaretlaw18.ParseBack', WHERE WHAT IT READS IS OF BULK AT MOST 1048576: true; the input reads as it did. -/
def parseBackUptoRow : OpenClaim := { program := "ytmfjaehajdephaa", sum := "8dd703849f2d2519b478f07d839679068df675e281f74adb2353df3964b93691", func := "cellaret/cellaretlaw18.ParseBack", spec := "parseBack", recurses := true, apart := false, narrowed := true }
def ParseBackUptoSaid : Prop := parseBackUptoRow.holds Try.pinned (OpenSpec.upto parseBackSpec)

/-- 'cellaretlaw18.ParseLong', WHERE WHAT IT READS IS OF BULK AT MOST 1048576: true; the input reads as it did. -/
def parseLongUptoRow : OpenClaim := { program := "ytmfjaehajdephaa", sum := "8dd703849f2d2519b478f07d839679068df675e281f74adb2353df3964b93691", func := "cellaret/cellaretlaw18.ParseLong", spec := "parseLong", apart := false, narrowed := true }
def ParseLongUptoSaid : Prop := parseLongUptoRow.holds Try.pinned (OpenSpec.upto parseLongSpec)

end Rows
end Go.Proofs.Ytmfjaehajdephaa
