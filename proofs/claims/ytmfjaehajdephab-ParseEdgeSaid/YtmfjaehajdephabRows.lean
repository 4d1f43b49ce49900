/-
  No cell of these rows narrows 'for every input' (looked for: loops, veiled, ifaces, maps, wideKeys, modest, calm, conditions, laid).
  DERIVED. THE GIVEN ROWS OF THIS SEAT. 3 by the template 'for every input the law returns true; each argument reads behind the call as it read before'; 0 by the template 'total and deterministic' (their statements: YtmfjaehajdephabTotals.lean).
  GIVEN WITH THE SEED: the statements are not yours to turn. If you find one false, say at which input.
  Laid BY PROGRAM, IN A SANDBOX (cutbox-rows.mjs): the forced cells as the released guide's own fill.sh prints them over the translation 4cfb2982cebe6d7f… (all of the seat's roots in one cut). By AI agents, Wed Nov 11 2026. No macro, syntax, notation, axiom, sorry.
-/
import Derived.Test.YtmfjaehajdephabChecked
import GoSem.Claim
import GoSem.ClaimJoined
import GoSem.ClaimMapViews
import Derived.JoinedTies
import Derived.KernelRfl
namespace Go.Proofs.Ytmfjaehajdephab
/- THE CELL 'sum', in the pinned program and in every row, IS THE sha256 OF THE DUMP (.gsa) THAT YtmfjaehajdephabProg.lean LOADS. Nothing in Lean hashes anything: it is a label: what it is worth is what the hold of that sum in a sandbox is worth. -/
noncomputable def Try.pinned : Pinned := { name := "ytmfjaehajdephab", sum := "4cfb2982cebe6d7f8effd75d165e91eae12599b9e8656966f3746fb7dd13b748", checked := Try.checked }
namespace Rows
def none {H : Type} : Left H := { results := [], args := [] }

/-- 'cellaretlaw18.ParseChunk': WHATEVER THE INPUT: true; the input reads as it did. -/
def parseChunkSpec : ChangeSpec := { name := "parseChunk", fn := fun _ => fun
  | [d1, d2, d3] => { results := [.lit (.bool true)], args := [d1, d2, d3] }
  | _ => none }
def parseChunkRow : OpenClaim := { program := "ytmfjaehajdephab", sum := "4cfb2982cebe6d7f8effd75d165e91eae12599b9e8656966f3746fb7dd13b748", func := "cellaret/cellaretlaw18.ParseChunk", spec := "parseChunk", recurses := true, apart := false }
def ParseChunkSaid : Prop := parseChunkRow.holds Try.pinned (OpenSpec.ofChange parseChunkSpec)

/-- ITS FALSE NEIGHBOUR: 'it returns false'. Refute it at one input. -/
def parseChunkWrong : ChangeSpec := { name := "parseChunk", fn := fun _ => fun
  | [d1, d2, d3] => { results := [.lit (.bool false)], args := [d1, d2, d3] }
  | _ => none }
def ParseChunkWrongFalsely : Prop := parseChunkRow.holds Try.pinned (OpenSpec.ofChange parseChunkWrong)

/-- 'cellaretlaw18.ParseBig': WHATEVER THE INPUT: true; the input reads as it did. -/
def parseBigSpec : ChangeSpec := { name := "parseBig", fn := fun _ => fun
  | [d1, d2] => { results := [.lit (.bool true)], args := [d1, d2] }
  | _ => none }
def parseBigRow : OpenClaim := { program := "ytmfjaehajdephab", sum := "4cfb2982cebe6d7f8effd75d165e91eae12599b9e8656966f3746fb7dd13b748", func := "cellaret/cellaretlaw18.ParseBig", spec := "parseBig", recurses := true, apart := false }
def ParseBigSaid : Prop := parseBigRow.holds Try.pinned (OpenSpec.ofChange parseBigSpec)

/-- ITS FALSE NEIGHBOUR: 'it returns false'. Refute it at one input. -/
def parseBigWrong : ChangeSpec := { name := "parseBig", fn := fun _ => fun
  | [d1, d2] => { results := [.lit (.bool false)], args := [d1, d2] }
  | _ => none }
def ParseBigWrongFalsely : Prop := parseBigRow.holds Try.pinned (OpenSpec.ofChange parseBigWrong)

/-- 'cellaretlaw18.ParseEdge': WHATEVER THE INPUT: true; the input reads as it did. -/
def parseEdgeSpec : ChangeSpec := { name := "parseEdge", fn := fun _ => fun
  | [d1, d2] => { results := [.lit (.bool true)], args := [d1, d2] }
  | _ => none }
def parseEdgeRow : OpenClaim := { program := "ytmfjaehajdephab", sum := "4cfb2982cebe6d7f8effd75d165e91eae12599b9e8656966f3746fb7dd13b748", func := "cellaret/cellaretlaw18.ParseEdge", spec := "parseEdge", apart := false }
def ParseEdgeSaid : Prop := parseEdgeRow.holds Try.pinned (OpenSpec.ofChange parseEdgeSpec)

/-- ITS FALSE NEIGHBOUR: 'it returns false'. Refute it at one input. -/
def parseEdgeWrong : ChangeSpec := { name := "parseEdge", fn := fun _ => fun
  | [d1, d2] => { results := [.lit (.bool false)], args := [d1, d2] }
  | _ => none }
def ParseEdgeWrongFalsely : Prop := parseEdgeRow.holds Try.pinned (OpenSpec.ofChange parseEdgeWrong)

/- THE SECOND FORM. 'bulk': how many values and letters a reading holds, each counted each time it is reached (what is shared counts as often as it is met; a slice's spare places count too). A statement '..UptoSaid' is the law's where the arguments, and the package variables that the reading takes, are together of bulk at most 1048576: NARROWER than '..Said'. Prove '..Said' where nothing that the law and all that it calls make is longer than what came in: it says more and counts as full. Else prove '..UptoSaid'. A law counts once. -/
mutual
def uptoBulk {H : Type} : DataW H → Nat
  | .lit (.string bytes) => bytes.length + 1
  | .lit _ => 1
  | .nil => 1
  | .ptr d => uptoBulk d + 1
  | .slice elems spare => uptoBulkAll elems + uptoBulkAll spare + 1
  | .agg parts => uptoBulkAll parts + 1
  | .iface _ d => uptoBulk d + 1
  | .map entries => uptoBulkEntries entries + 1
  | .held _ => 1
def uptoBulkAll {H : Type} : List (DataW H) → Nat
  | [] => 0
  | d :: r => uptoBulk d + uptoBulkAll r
def uptoBulkEntries {H : Type} : List (Lit × DataW H) → Nat
  | [] => 0
  | x :: r => uptoBulkEntry x + uptoBulkEntries r
def uptoBulkEntry {H : Type} : Lit × DataW H → Nat
  | (.string bytes, d) => bytes.length + uptoBulk d + 1
  | (_, d) => uptoBulk d + 1
 end
def uptoSmall : (H : Type) → List (DataW H) → Bool := fun _ ds => decide (uptoBulkAll ds ≤ 1048576)
def OpenSpec.upto (s : _root_.Go.ChangeSpec) : _root_.Go.OpenSpec := { _root_.Go.OpenSpec.ofChange s with cond := some uptoSmall }

/-- 'cellaretlaw18.ParseChunk', WHERE WHAT IT READS IS OF BULK AT MOST 1048576: true; the input reads as it did. -/
def parseChunkUptoRow : OpenClaim := { program := "ytmfjaehajdephab", sum := "4cfb2982cebe6d7f8effd75d165e91eae12599b9e8656966f3746fb7dd13b748", func := "cellaret/cellaretlaw18.ParseChunk", spec := "parseChunk", recurses := true, apart := false, narrowed := true }
def ParseChunkUptoSaid : Prop := parseChunkUptoRow.holds Try.pinned (OpenSpec.upto parseChunkSpec)

/-- 'cellaretlaw18.ParseBig', WHERE WHAT IT READS IS OF BULK AT MOST 1048576: true; the input reads as it did. -/
def parseBigUptoRow : OpenClaim := { program := "ytmfjaehajdephab", sum := "4cfb2982cebe6d7f8effd75d165e91eae12599b9e8656966f3746fb7dd13b748", func := "cellaret/cellaretlaw18.ParseBig", spec := "parseBig", recurses := true, apart := false, narrowed := true }
def ParseBigUptoSaid : Prop := parseBigUptoRow.holds Try.pinned (OpenSpec.upto parseBigSpec)

/-- 'cellaretlaw18.ParseEdge', WHERE WHAT IT READS IS OF BULK AT MOST 1048576: true; the input reads as it did. -/
def parseEdgeUptoRow : OpenClaim := { program := "ytmfjaehajdephab", sum := "4cfb2982cebe6d7f8effd75d165e91eae12599b9e8656966f3746fb7dd13b748", func := "cellaret/cellaretlaw18.ParseEdge", spec := "parseEdge", apart := false, narrowed := true }
def ParseEdgeUptoSaid : Prop := parseEdgeUptoRow.holds Try.pinned (OpenSpec.upto parseEdgeSpec)

end Rows
end Go.Proofs.Ytmfjaehajdephab
