/-
  No cell of these rows narrows 'for every input' (looked for: loops, veiled, ifaces, maps, wideKeys, modest, calm, conditions, laid).
  DERIVED. THE GIVEN ROWS OF THIS SEAT. 6 by the template 'for every input the law returns true; each argument reads behind the call as it read before'; 0 by the template 'total and deterministic' (their statements: YtanbbmlekebhhaaTotals.lean).
  GIVEN WITH THE SEED: the statements are not yours to turn. If you find one false, say at which input.
  Laid BY PROGRAM, IN A SANDBOX (cutbox-rows.mjs): the forced cells as the released guide's own fill.sh prints them over the translation 0bf870514c5ac796… (all of the seat's roots in one cut). By AI agents, Wed Nov 11 2026. No macro, syntax, notation, axiom, sorry.
-/
import Derived.Test.YtanbbmlekebhhaaChecked
import GoSem.Claim
import GoSem.ClaimJoined
import GoSem.ClaimMapViews
import Derived.JoinedTies
import Derived.KernelRfl
namespace Go.Proofs.Ytanbbmlekebhhaa
/- THE CELL 'sum', in the pinned program and in every row, IS THE sha256 OF THE DUMP (.gsa) THAT YtanbbmlekebhhaaProg.lean LOADS. Nothing in Lean hashes anything: it is a label: what it is worth is what the hold of that sum in a sandbox is worth. -/
noncomputable def Try.pinned : Pinned := { name := "ytanbbmlekebhhaa", sum := "0bf870514c5ac796703947ab14f25264afd4e814a177d42d78127f3848192ebb", checked := Try.checked }
namespace Rows
def none {H : Type} : Left H := { results := [], args := [] }

/-- 'cellaretlaw15.ImageKnown': WHATEVER THE INPUT: true; the input reads as it did. -/
def imageKnownSpec : ChangeSpec := { name := "imageKnown", fn := fun _ => fun
  | [] => { results := [.lit (.bool true)], args := [] }
  | _ => none }
def imageKnownRow : OpenClaim := { program := "ytanbbmlekebhhaa", sum := "0bf870514c5ac796703947ab14f25264afd4e814a177d42d78127f3848192ebb", func := "cellaret/cellaretlaw15.ImageKnown", spec := "imageKnown", inPlace := ["slices.overlaps[cellaret/flash.wait]"], unfollowed := true, recurses := true, apart := false }
def ImageKnownSaid : Prop := imageKnownRow.holds Try.pinned (OpenSpec.ofChange imageKnownSpec)

/-- ITS FALSE NEIGHBOUR: 'it returns false'. Refute it at one input. -/
def imageKnownWrong : ChangeSpec := { name := "imageKnown", fn := fun _ => fun
  | [] => { results := [.lit (.bool false)], args := [] }
  | _ => none }
def ImageKnownWrongFalsely : Prop := imageKnownRow.holds Try.pinned (OpenSpec.ofChange imageKnownWrong)

/-- 'cellaretlaw15.ImagePlays': WHATEVER THE INPUT: true; the input reads as it did. -/
def imagePlaysSpec : ChangeSpec := { name := "imagePlays", fn := fun _ => fun
  | [d1, d2, d3, d4, d5] => { results := [.lit (.bool true)], args := [d1, d2, d3, d4, d5] }
  | _ => none }
def imagePlaysRow : OpenClaim := { program := "ytanbbmlekebhhaa", sum := "0bf870514c5ac796703947ab14f25264afd4e814a177d42d78127f3848192ebb", func := "cellaret/cellaretlaw15.ImagePlays", spec := "imagePlays", inPlace := ["slices.overlaps[cellaret/flash.wait]"], unfollowed := true, recurses := true, apart := false }
def ImagePlaysSaid : Prop := imagePlaysRow.holds Try.pinned (OpenSpec.ofChange imagePlaysSpec)

/-- ITS FALSE NEIGHBOUR: 'it returns false'. Refute it at one input. -/
def imagePlaysWrong : ChangeSpec := { name := "imagePlays", fn := fun _ => fun
  | [d1, d2, d3, d4, d5] => { results := [.lit (.bool false)], args := [d1, d2, d3, d4, d5] }
  | _ => none }
def ImagePlaysWrongFalsely : Prop := imagePlaysRow.holds Try.pinned (OpenSpec.ofChange imagePlaysWrong)

/-- 'cellaretlaw15.ImageBack': WHATEVER THE INPUT: true; the input reads as it did. -/
def imageBackSpec : ChangeSpec := { name := "imageBack", fn := fun _ => fun
  | [d1, d2] => { results := [.lit (.bool true)], args := [d1, d2] }
  | _ => none }
def imageBackRow : OpenClaim := { program := "ytanbbmlekebhhaa", sum := "0bf870514c5ac796703947ab14f25264afd4e814a177d42d78127f3848192ebb", func := "cellaret/cellaretlaw15.ImageBack", spec := "imageBack", inPlace := ["slices.overlaps[cellaret/flash.wait]"], unfollowed := true, recurses := true, apart := false }
def ImageBackSaid : Prop := imageBackRow.holds Try.pinned (OpenSpec.ofChange imageBackSpec)

/-- ITS FALSE NEIGHBOUR: 'it returns false'. Refute it at one input. -/
def imageBackWrong : ChangeSpec := { name := "imageBack", fn := fun _ => fun
  | [d1, d2] => { results := [.lit (.bool false)], args := [d1, d2] }
  | _ => none }
def ImageBackWrongFalsely : Prop := imageBackRow.holds Try.pinned (OpenSpec.ofChange imageBackWrong)

/-- 'cellaretlaw15.ImageLasts': WHATEVER THE INPUT: true; the input reads as it did. -/
def imageLastsSpec : ChangeSpec := { name := "imageLasts", fn := fun _ => fun
  | [d1, d2, d3] => { results := [.lit (.bool true)], args := [d1, d2, d3] }
  | _ => none }
def imageLastsRow : OpenClaim := { program := "ytanbbmlekebhhaa", sum := "0bf870514c5ac796703947ab14f25264afd4e814a177d42d78127f3848192ebb", func := "cellaret/cellaretlaw15.ImageLasts", spec := "imageLasts", inPlace := ["slices.overlaps[cellaret/flash.wait]"], unfollowed := true, recurses := true, apart := false }
def ImageLastsSaid : Prop := imageLastsRow.holds Try.pinned (OpenSpec.ofChange imageLastsSpec)

/-- ITS FALSE NEIGHBOUR: 'it returns false'. Refute it at one input. -/
def imageLastsWrong : ChangeSpec := { name := "imageLasts", fn := fun _ => fun
  | [d1, d2, d3] => { results := [.lit (.bool false)], args := [d1, d2, d3] }
  | _ => none }
def ImageLastsWrongFalsely : Prop := imageLastsRow.holds Try.pinned (OpenSpec.ofChange imageLastsWrong)

/-- 'cellaretlaw15.ImageSpoils': WHATEVER THE INPUT: true; the input reads as it did. -/
def imageSpoilsSpec : ChangeSpec := { name := "imageSpoils", fn := fun _ => fun
  | [d1, d2, d3] => { results := [.lit (.bool true)], args := [d1, d2, d3] }
  | _ => none }
def imageSpoilsRow : OpenClaim := { program := "ytanbbmlekebhhaa", sum := "0bf870514c5ac796703947ab14f25264afd4e814a177d42d78127f3848192ebb", func := "cellaret/cellaretlaw15.ImageSpoils", spec := "imageSpoils", inPlace := ["slices.overlaps[cellaret/flash.wait]"], unfollowed := true, recurses := true, apart := false }
def ImageSpoilsSaid : Prop := imageSpoilsRow.holds Try.pinned (OpenSpec.ofChange imageSpoilsSpec)

/-- ITS FALSE NEIGHBOUR: 'it returns false'. Refute it at one input. -/
def imageSpoilsWrong : ChangeSpec := { name := "imageSpoils", fn := fun _ => fun
  | [d1, d2, d3] => { results := [.lit (.bool false)], args := [d1, d2, d3] }
  | _ => none }
def ImageSpoilsWrongFalsely : Prop := imageSpoilsRow.holds Try.pinned (OpenSpec.ofChange imageSpoilsWrong)

/-- 'cellaretlaw15.ImageAnew': WHATEVER THE INPUT: true; the input reads as it did. -/
def imageAnewSpec : ChangeSpec := { name := "imageAnew", fn := fun _ => fun
  | [d1, d2] => { results := [.lit (.bool true)], args := [d1, d2] }
  | _ => none }
def imageAnewRow : OpenClaim := { program := "ytanbbmlekebhhaa", sum := "0bf870514c5ac796703947ab14f25264afd4e814a177d42d78127f3848192ebb", func := "cellaret/cellaretlaw15.ImageAnew", spec := "imageAnew", inPlace := ["slices.overlaps[cellaret/flash.wait]"], unfollowed := true, recurses := true, apart := false }
def ImageAnewSaid : Prop := imageAnewRow.holds Try.pinned (OpenSpec.ofChange imageAnewSpec)

/-- ITS FALSE NEIGHBOUR: 'it returns false'. Refute it at one input. -/
def imageAnewWrong : ChangeSpec := { name := "imageAnew", fn := fun _ => fun
  | [d1, d2] => { results := [.lit (.bool false)], args := [d1, d2] }
  | _ => none }
def ImageAnewWrongFalsely : Prop := imageAnewRow.holds Try.pinned (OpenSpec.ofChange imageAnewWrong)

/- THE SECOND FORM. 'bulk': how many values and letters a reading holds, each counted each time it is reached (what is shared counts as often as it is met; a slice's spare places count too). A statement '..UptoSaid' is the law's where the arguments, and the package variables that the reading takes, are together of bulk at most 1048576: NARROWER than '..Said'. Prove '..Said' where nothing that the law and all that it calls make is longer than what came in: it says more and counts as full. Else prove '..UptoSaid'. A law counts once. -/
mutual
def uptoBulk {H : Type} : DataW H → Nat
  | .lit (.string bytes) => bytes.length + 1
  | .lit _ => 1
  | .nil => 1
  | .ptr d => uptoBulk d + 1
  | .slice elems spare => uptoBulkAll elems + uptoBulkAll spare + 1
  | .agg parts => uptoBulkAll parts + 1
  | .iface _ d => uptoBulk d + 1
  | .map entries => uptoBulkEntries entries + 1
  | .held _ => 1
def uptoBulkAll {H : Type} : List (DataW H) → Nat
  | [] => 0
  | d :: r => uptoBulk d + uptoBulkAll r
def uptoBulkEntries {H : Type} : List (Lit × DataW H) → Nat
  | [] => 0
  | x :: r => uptoBulkEntry x + uptoBulkEntries r
def uptoBulkEntry {H : Type} : Lit × DataW H → Nat
  | (.string bytes, d) => bytes.length + uptoBulk d + 1
  | (_, d) => uptoBulk d + 1
 end
def uptoSmall : (H : Type) → List (DataW H) → Bool := fun _ ds => decide (uptoBulkAll ds ≤ 1048576)
def OpenSpec.upto (s : _root_.Go.ChangeSpec) : _root_.Go.OpenSpec := { _root_.Go.OpenSpec.ofChange s with cond := some uptoSmall }

/-- 'cellaretlaw15.ImageKnown', WHERE WHAT IT READS IS OF BULK AT MOST 1048576: true; the input reads as it did. -/
def imageKnownUptoRow : OpenClaim := { program := "ytanbbmlekebhhaa", sum := "0bf870514c5ac796703947ab14f25264afd4e814a177d42d78127f3848192ebb", func := "cellaret/cellaretlaw15.ImageKnown", spec := "imageKnown", inPlace := ["slices.overlaps[cellaret/flash.wait]"], unfollowed := true, recurses := true, apart := false, narrowed := true }
def ImageKnownUptoSaid : Prop := imageKnownUptoRow.holds Try.pinned (OpenSpec.upto imageKnownSpec)

/-- 'cellaretlaw15.ImagePlays', WHERE WHAT IT READS IS OF BULK AT MOST 1048576: true; the input reads as it did. -/
def imagePlaysUptoRow : OpenClaim := { program := "ytanbbmlekebhhaa", sum := "0bf870514c5ac796703947ab14f25264afd4e814a177d42d78127f3848192ebb", func := "cellaret/cellaretlaw15.ImagePlays", spec := "imagePlays", inPlace := ["slices.overlaps[cellaret/flash.wait]"], unfollowed := true, recurses := true, apart := false, narrowed := true }
def ImagePlaysUptoSaid : Prop := imagePlaysUptoRow.holds Try.pinned (OpenSpec.upto imagePlaysSpec)

/-- 'cellaretlaw15.ImageBack', WHERE WHAT IT READS IS OF BULK AT MOST 1048576: true; the input reads as it did. -/
def imageBackUptoRow : OpenClaim := { program := "ytanbbmlekebhhaa", sum := "0bf870514c5ac796703947ab14f25264afd4e814a177d42d78127f3848192ebb", func := "cellaret/cellaretlaw15.ImageBack", spec := "imageBack", inPlace := ["slices.overlaps[cellaret/flash.wait]"], unfollowed := true, recurses := true, apart := false, narrowed := true }
def ImageBackUptoSaid : Prop := imageBackUptoRow.holds Try.pinned (OpenSpec.upto imageBackSpec)

/-- 'cellaretlaw15.ImageLasts', WHERE WHAT IT READS IS OF BULK AT MOST 1048576: true; the input reads as it did. -/
def imageLastsUptoRow : OpenClaim := { program := "ytanbbmlekebhhaa", sum := "0bf870514c5ac796703947ab14f25264afd4e814a177d42d78127f3848192ebb", func := "cellaret/cellaretlaw15.ImageLasts", spec := "imageLasts", inPlace := ["slices.overlaps[cellaret/flash.wait]"], unfollowed := true, recurses := true, apart := false, narrowed := true }
def ImageLastsUptoSaid : Prop := imageLastsUptoRow.holds Try.pinned (OpenSpec.upto imageLastsSpec)

/-- 'cellaretlaw15.ImageSpoils', WHERE WHAT IT READS IS OF BULK AT MOST 1048576: true; the input reads as it did. -/
def imageSpoilsUptoRow : OpenClaim := { program := "ytanbbmlekebhhaa", sum := "0bf870514c5ac796703947ab14f25264afd4e814a177d42d78127f3848192ebb", func := "cellaret/cellaretlaw15.ImageSpoils", spec := "imageSpoils", inPlace := ["slices.overlaps[cellaret/flash.wait]"], unfollowed := true, recurses := true, apart := false, narrowed := true }
def ImageSpoilsUptoSaid : Prop := imageSpoilsUptoRow.holds Try.pinned (OpenSpec.upto imageSpoilsSpec)

/-- 'cellaretlaw15.ImageAnew', WHERE WHAT IT READS IS OF BULK AT MOST 1048576: true; the input reads as it did. -/
def imageAnewUptoRow : OpenClaim := { program := "ytanbbmlekebhhaa", sum := "0bf870514c5ac796703947ab14f25264afd4e814a177d42d78127f3848192ebb", func := "cellaret/cellaretlaw15.ImageAnew", spec := "imageAnew", inPlace := ["slices.overlaps[cellaret/flash.wait]"], unfollowed := true, recurses := true, apart := false, narrowed := true }
def ImageAnewUptoSaid : Prop := imageAnewUptoRow.holds Try.pinned (OpenSpec.upto imageAnewSpec)

end Rows
end Go.Proofs.Ytanbbmlekebhhaa
