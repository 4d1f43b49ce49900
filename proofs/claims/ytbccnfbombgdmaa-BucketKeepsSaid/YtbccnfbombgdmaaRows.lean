/-
  No cell of these rows narrows 'for every input' (looked for: loops, veiled, ifaces, maps, wideKeys, modest, calm, conditions, laid).
  DERIVED. THE GIVEN ROWS OF THIS SEAT. 5 by the template 'for every input the law returns true; each argument reads behind the call as it read before'; 0 by the template 'total and deterministic' (their statements: YtbccnfbombgdmaaTotals.lean).
  GIVEN WITH THE SEED: the statements are not yours to turn. If you find one false, say at which input.
  Laid BY PROGRAM, IN A SANDBOX (cutbox-rows.mjs): the forced cells as the released guide's own fill.sh prints them over the translation fafdb9d5cb41a5e7… (all of the seat's roots in one cut). By AI agents, Wed Nov 11 2026. No macro, syntax, notation, axiom, sorry.
-/
import Derived.Test.YtbccnfbombgdmaaChecked
import GoSem.Claim
import GoSem.ClaimJoined
import GoSem.ClaimMapViews
import Derived.JoinedTies
import Derived.KernelRfl
namespace Go.Proofs.Ytbccnfbombgdmaa
/- THE CELL 'sum', in the pinned program and in every row, IS THE sha256 OF THE DUMP (.gsa) THAT YtbccnfbombgdmaaProg.lean LOADS. Nothing in Lean hashes anything: it is a label: what it is worth is what the hold of that sum in a sandbox is worth. -/
noncomputable def Try.pinned : Pinned := { name := "ytbccnfbombgdmaa", sum := "fafdb9d5cb41a5e78f28b3a2fc630dc6737877b0a8111a3e5a1f2b53c82c7a8c", checked := Try.checked }
namespace Rows
def none {H : Type} : Left H := { results := [], args := [] }

/-- 'cellaretlaw8.BucketKnown': WHATEVER THE INPUT: true; the input reads as it did. -/
def bucketKnownSpec : ChangeSpec := { name := "bucketKnown", fn := fun _ => fun
  | [] => { results := [.lit (.bool true)], args := [] }
  | _ => none }
def bucketKnownRow : OpenClaim := { program := "ytbccnfbombgdmaa", sum := "fafdb9d5cb41a5e78f28b3a2fc630dc6737877b0a8111a3e5a1f2b53c82c7a8c", func := "cellaret/cellaretlaw8.BucketKnown", spec := "bucketKnown", inPlace := ["slices.overlaps[cellaret/flash.wait]"], unfollowed := true, recurses := true, apart := false }
def BucketKnownSaid : Prop := bucketKnownRow.holds Try.pinned (OpenSpec.ofChange bucketKnownSpec)

/-- ITS FALSE NEIGHBOUR: 'it returns false'. Refute it at one input. -/
def bucketKnownWrong : ChangeSpec := { name := "bucketKnown", fn := fun _ => fun
  | [] => { results := [.lit (.bool false)], args := [] }
  | _ => none }
def BucketKnownWrongFalsely : Prop := bucketKnownRow.holds Try.pinned (OpenSpec.ofChange bucketKnownWrong)

/-- 'cellaretlaw8.BucketKeeps': WHATEVER THE INPUT: true; the input reads as it did. -/
def bucketKeepsSpec : ChangeSpec := { name := "bucketKeeps", fn := fun _ => fun
  | [d1, d2] => { results := [.lit (.bool true)], args := [d1, d2] }
  | _ => none }
def bucketKeepsRow : OpenClaim := { program := "ytbccnfbombgdmaa", sum := "fafdb9d5cb41a5e78f28b3a2fc630dc6737877b0a8111a3e5a1f2b53c82c7a8c", func := "cellaret/cellaretlaw8.BucketKeeps", spec := "bucketKeeps", inPlace := ["slices.overlaps[cellaret/flash.wait]"], unfollowed := true, recurses := true, apart := false }
def BucketKeepsSaid : Prop := bucketKeepsRow.holds Try.pinned (OpenSpec.ofChange bucketKeepsSpec)

/-- ITS FALSE NEIGHBOUR: 'it returns false'. Refute it at one input. -/
def bucketKeepsWrong : ChangeSpec := { name := "bucketKeeps", fn := fun _ => fun
  | [d1, d2] => { results := [.lit (.bool false)], args := [d1, d2] }
  | _ => none }
def BucketKeepsWrongFalsely : Prop := bucketKeepsRow.holds Try.pinned (OpenSpec.ofChange bucketKeepsWrong)

/-- 'cellaretlaw8.BucketLasts': WHATEVER THE INPUT: true; the input reads as it did. -/
def bucketLastsSpec : ChangeSpec := { name := "bucketLasts", fn := fun _ => fun
  | [d1, d2, d3] => { results := [.lit (.bool true)], args := [d1, d2, d3] }
  | _ => none }
def bucketLastsRow : OpenClaim := { program := "ytbccnfbombgdmaa", sum := "fafdb9d5cb41a5e78f28b3a2fc630dc6737877b0a8111a3e5a1f2b53c82c7a8c", func := "cellaret/cellaretlaw8.BucketLasts", spec := "bucketLasts", inPlace := ["slices.overlaps[cellaret/flash.wait]"], unfollowed := true, recurses := true, apart := false }
def BucketLastsSaid : Prop := bucketLastsRow.holds Try.pinned (OpenSpec.ofChange bucketLastsSpec)

/-- ITS FALSE NEIGHBOUR: 'it returns false'. Refute it at one input. -/
def bucketLastsWrong : ChangeSpec := { name := "bucketLasts", fn := fun _ => fun
  | [d1, d2, d3] => { results := [.lit (.bool false)], args := [d1, d2, d3] }
  | _ => none }
def BucketLastsWrongFalsely : Prop := bucketLastsRow.holds Try.pinned (OpenSpec.ofChange bucketLastsWrong)

/-- 'cellaretlaw8.BucketApart': WHATEVER THE INPUT: true; the input reads as it did. -/
def bucketApartSpec : ChangeSpec := { name := "bucketApart", fn := fun _ => fun
  | [d1, d2] => { results := [.lit (.bool true)], args := [d1, d2] }
  | _ => none }
def bucketApartRow : OpenClaim := { program := "ytbccnfbombgdmaa", sum := "fafdb9d5cb41a5e78f28b3a2fc630dc6737877b0a8111a3e5a1f2b53c82c7a8c", func := "cellaret/cellaretlaw8.BucketApart", spec := "bucketApart", inPlace := ["slices.overlaps[cellaret/flash.wait]"], unfollowed := true, recurses := true, apart := false }
def BucketApartSaid : Prop := bucketApartRow.holds Try.pinned (OpenSpec.ofChange bucketApartSpec)

/-- ITS FALSE NEIGHBOUR: 'it returns false'. Refute it at one input. -/
def bucketApartWrong : ChangeSpec := { name := "bucketApart", fn := fun _ => fun
  | [d1, d2] => { results := [.lit (.bool false)], args := [d1, d2] }
  | _ => none }
def BucketApartWrongFalsely : Prop := bucketApartRow.holds Try.pinned (OpenSpec.ofChange bucketApartWrong)

/-- 'cellaretlaw8.BucketFirst': WHATEVER THE INPUT: true; the input reads as it did. -/
def bucketFirstSpec : ChangeSpec := { name := "bucketFirst", fn := fun _ => fun
  | [d] => { results := [.lit (.bool true)], args := [d] }
  | _ => none }
def bucketFirstRow : OpenClaim := { program := "ytbccnfbombgdmaa", sum := "fafdb9d5cb41a5e78f28b3a2fc630dc6737877b0a8111a3e5a1f2b53c82c7a8c", func := "cellaret/cellaretlaw8.BucketFirst", spec := "bucketFirst", inPlace := ["slices.overlaps[cellaret/flash.wait]"], unfollowed := true, recurses := true, apart := false }
def BucketFirstSaid : Prop := bucketFirstRow.holds Try.pinned (OpenSpec.ofChange bucketFirstSpec)

/-- ITS FALSE NEIGHBOUR: 'it returns false'. Refute it at one input. -/
def bucketFirstWrong : ChangeSpec := { name := "bucketFirst", fn := fun _ => fun
  | [d] => { results := [.lit (.bool false)], args := [d] }
  | _ => none }
def BucketFirstWrongFalsely : Prop := bucketFirstRow.holds Try.pinned (OpenSpec.ofChange bucketFirstWrong)

/- THE SECOND FORM. 'bulk': how many values and letters a reading holds, each counted each time it is reached (what is shared counts as often as it is met; a slice's spare places count too). A statement '..UptoSaid' is the law's where the arguments, and the package variables that the reading takes, are together of bulk at most 1048576: NARROWER than '..Said'. Prove '..Said' where nothing that the law and all that it calls make is longer than what came in: it says more and counts as full. Else prove '..UptoSaid'. A law counts once. -/
mutual
def uptoBulk {H : Type} : DataW H → Nat
  | .lit (.string bytes) => bytes.length + 1
  | .lit _ => 1
  | .nil => 1
  | .ptr d => uptoBulk d + 1
  | .slice elems spare => uptoBulkAll elems + uptoBulkAll spare + 1
  | .agg parts => uptoBulkAll parts + 1
  | .iface _ d => uptoBulk d + 1
  | .map entries => uptoBulkEntries entries + 1
  | .held _ => 1
def uptoBulkAll {H : Type} : List (DataW H) → Nat
  | [] => 0
  | d :: r => uptoBulk d + uptoBulkAll r
def uptoBulkEntries {H : Type} : List (Lit × DataW H) → Nat
  | [] => 0
  | x :: r => uptoBulkEntry x + uptoBulkEntries r
def uptoBulkEntry {H : Type} : Lit × DataW H → Nat
  | (.string bytes, d) => bytes.length + uptoBulk d + 1
  | (_, d) => uptoBulk d + 1
 end
def uptoSmall : (H : Type) → List (DataW H) → Bool := fun _ ds => decide (uptoBulkAll ds ≤ 1048576)
def OpenSpec.upto (s : _root_.Go.ChangeSpec) : _root_.Go.OpenSpec := { _root_.Go.OpenSpec.ofChange s with cond := some uptoSmall }

/-- 'cellaretlaw8.BucketKnown', WHERE WHAT IT READS IS OF BULK AT MOST 1048576: true; the input reads as it did. -/
def bucketKnownUptoRow : OpenClaim := { program := "ytbccnfbombgdmaa", sum := "fafdb9d5cb41a5e78f28b3a2fc630dc6737877b0a8111a3e5a1f2b53c82c7a8c", func := "cellaret/cellaretlaw8.BucketKnown", spec := "bucketKnown", inPlace := ["slices.overlaps[cellaret/flash.wait]"], unfollowed := true, recurses := true, apart := false, narrowed := true }
def BucketKnownUptoSaid : Prop := bucketKnownUptoRow.holds Try.pinned (OpenSpec.upto bucketKnownSpec)

/-- 'cellaretlaw8.BucketKeeps', WHERE WHAT IT READS IS OF BULK AT MOST 1048576: true; the input reads as it did. -/
def bucketKeepsUptoRow : OpenClaim := { program := "ytbccnfbombgdmaa", sum := "fafdb9d5cb41a5e78f28b3a2fc630dc6737877b0a8111a3e5a1f2b53c82c7a8c", func := "cellaret/cellaretlaw8.BucketKeeps", spec := "bucketKeeps", inPlace := ["slices.overlaps[cellaret/flash.wait]"], unfollowed := true, recurses := true, apart := false, narrowed := true }
def BucketKeepsUptoSaid : Prop := bucketKeepsUptoRow.holds Try.pinned (OpenSpec.upto bucketKeepsSpec)

/-- 'cellaretlaw8.BucketLasts', WHERE WHAT IT READS IS OF BULK AT MOST 1048576: true; the input reads as it did. -/
def bucketLastsUptoRow : OpenClaim := { program := "ytbccnfbombgdmaa", sum := "fafdb9d5cb41a5e78f28b3a2fc630dc6737877b0a8111a3e5a1f2b53c82c7a8c", func := "cellaret/cellaretlaw8.BucketLasts", spec := "bucketLasts", inPlace := ["slices.overlaps[cellaret/flash.wait]"], unfollowed := true, recurses := true, apart := false, narrowed := true }
def BucketLastsUptoSaid : Prop := bucketLastsUptoRow.holds Try.pinned (OpenSpec.upto bucketLastsSpec)

/-- 'cellaretlaw8.BucketApart', WHERE WHAT IT READS IS OF BULK AT MOST 1048576: true; the input reads as it did. -/
def bucketApartUptoRow : OpenClaim := { program := "ytbccnfbombgdmaa", sum := "fafdb9d5cb41a5e78f28b3a2fc630dc6737877b0a8111a3e5a1f2b53c82c7a8c", func := "cellaret/cellaretlaw8.BucketApart", spec := "bucketApart", inPlace := ["slices.overlaps[cellaret/flash.wait]"], unfollowed := true, recurses := true, apart := false, narrowed := true }
def BucketApartUptoSaid : Prop := bucketApartUptoRow.holds Try.pinned (OpenSpec.upto bucketApartSpec)

/-- 'cellaretlaw8.BucketFirst', WHERE WHAT IT READS IS OF BULK AT MOST 1048576: true; the input reads as it did. -/
def bucketFirstUptoRow : OpenClaim := { program := "ytbccnfbombgdmaa", sum := "fafdb9d5cb41a5e78f28b3a2fc630dc6737877b0a8111a3e5a1f2b53c82c7a8c", func := "cellaret/cellaretlaw8.BucketFirst", spec := "bucketFirst", inPlace := ["slices.overlaps[cellaret/flash.wait]"], unfollowed := true, recurses := true, apart := false, narrowed := true }
def BucketFirstUptoSaid : Prop := bucketFirstUptoRow.holds Try.pinned (OpenSpec.upto bucketFirstSpec)

end Rows
end Go.Proofs.Ytbccnfbombgdmaa
