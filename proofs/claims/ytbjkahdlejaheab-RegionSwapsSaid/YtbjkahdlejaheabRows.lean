/-
  No cell of these rows narrows 'for every input' (looked for: loops, veiled, ifaces, maps, wideKeys, modest, calm, conditions, laid).
  DERIVED. THE GIVEN ROWS OF THIS SEAT. 4 by the template 'for every input the law returns true; each argument reads behind the call as it read before'; 0 by the template 'total and deterministic' (their statements: YtbjkahdlejaheabTotals.lean).
  GIVEN WITH THE SEED: the statements are not yours to turn. If you find one false, say at which input.
  Laid BY PROGRAM, IN A SANDBOX (cutbox-rows.mjs): the forced cells as the released guide's own fill.sh prints them over the translation 17610a96d58ee5ab… (all of the seat's roots in one cut). By AI agents, Wed Nov 11 2026. No macro, syntax, notation, axiom, sorry.
-/
import Derived.Test.YtbjkahdlejaheabChecked
import GoSem.Claim
import GoSem.ClaimJoined
import GoSem.ClaimMapViews
import Derived.JoinedTies
import Derived.KernelRfl
namespace Go.Proofs.Ytbjkahdlejaheab
/- THE CELL 'sum', in the pinned program and in every row, IS THE sha256 OF THE DUMP (.gsa) THAT YtbjkahdlejaheabProg.lean LOADS. Nothing in Lean hashes anything: it is a label: what it is worth is what the hold of that sum in a sandbox is worth. -/
noncomputable def Try.pinned : Pinned := { name := "ytbjkahdlejaheab", sum := "17610a96d58ee5ab6de3c01c5c188f60cb218aa8bb0debc32b1e7db8f94c3b99", checked := Try.checked }
namespace Rows
def none {H : Type} : Left H := { results := [], args := [] }

/-- 'cellaretlaw9.RegionHalf': WHATEVER THE INPUT: true; the input reads as it did. -/
def regionHalfSpec : ChangeSpec := { name := "regionHalf", fn := fun _ => fun
  | [d1, d2, d3] => { results := [.lit (.bool true)], args := [d1, d2, d3] }
  | _ => none }
def regionHalfRow : OpenClaim := { program := "ytbjkahdlejaheab", sum := "17610a96d58ee5ab6de3c01c5c188f60cb218aa8bb0debc32b1e7db8f94c3b99", func := "cellaret/cellaretlaw9.RegionHalf", spec := "regionHalf", inPlace := ["slices.overlaps[cellaret/flash.wait]"], unfollowed := true, recurses := true, apart := false }
def RegionHalfSaid : Prop := regionHalfRow.holds Try.pinned (OpenSpec.ofChange regionHalfSpec)

/-- ITS FALSE NEIGHBOUR: 'it returns false'. Refute it at one input. -/
def regionHalfWrong : ChangeSpec := { name := "regionHalf", fn := fun _ => fun
  | [d1, d2, d3] => { results := [.lit (.bool false)], args := [d1, d2, d3] }
  | _ => none }
def RegionHalfWrongFalsely : Prop := regionHalfRow.holds Try.pinned (OpenSpec.ofChange regionHalfWrong)

/-- 'cellaretlaw9.RegionSwaps': WHATEVER THE INPUT: true; the input reads as it did. -/
def regionSwapsSpec : ChangeSpec := { name := "regionSwaps", fn := fun _ => fun
  | [d1, d2, d3] => { results := [.lit (.bool true)], args := [d1, d2, d3] }
  | _ => none }
def regionSwapsRow : OpenClaim := { program := "ytbjkahdlejaheab", sum := "17610a96d58ee5ab6de3c01c5c188f60cb218aa8bb0debc32b1e7db8f94c3b99", func := "cellaret/cellaretlaw9.RegionSwaps", spec := "regionSwaps", inPlace := ["slices.overlaps[cellaret/flash.wait]"], unfollowed := true, recurses := true, apart := false }
def RegionSwapsSaid : Prop := regionSwapsRow.holds Try.pinned (OpenSpec.ofChange regionSwapsSpec)

/-- ITS FALSE NEIGHBOUR: 'it returns false'. Refute it at one input. -/
def regionSwapsWrong : ChangeSpec := { name := "regionSwaps", fn := fun _ => fun
  | [d1, d2, d3] => { results := [.lit (.bool false)], args := [d1, d2, d3] }
  | _ => none }
def RegionSwapsWrongFalsely : Prop := regionSwapsRow.holds Try.pinned (OpenSpec.ofChange regionSwapsWrong)

/-- 'cellaretlaw9.RegionNumbers': WHATEVER THE INPUT: true; the input reads as it did. -/
def regionNumbersSpec : ChangeSpec := { name := "regionNumbers", fn := fun _ => fun
  | [d1, d2, d3, d4] => { results := [.lit (.bool true)], args := [d1, d2, d3, d4] }
  | _ => none }
def regionNumbersRow : OpenClaim := { program := "ytbjkahdlejaheab", sum := "17610a96d58ee5ab6de3c01c5c188f60cb218aa8bb0debc32b1e7db8f94c3b99", func := "cellaret/cellaretlaw9.RegionNumbers", spec := "regionNumbers", inPlace := ["slices.overlaps[cellaret/flash.wait]"], unfollowed := true, recurses := true, apart := false }
def RegionNumbersSaid : Prop := regionNumbersRow.holds Try.pinned (OpenSpec.ofChange regionNumbersSpec)

/-- ITS FALSE NEIGHBOUR: 'it returns false'. Refute it at one input. -/
def regionNumbersWrong : ChangeSpec := { name := "regionNumbers", fn := fun _ => fun
  | [d1, d2, d3, d4] => { results := [.lit (.bool false)], args := [d1, d2, d3, d4] }
  | _ => none }
def RegionNumbersWrongFalsely : Prop := regionNumbersRow.holds Try.pinned (OpenSpec.ofChange regionNumbersWrong)

/-- 'cellaretlaw9.RegionTwice': WHATEVER THE INPUT: true; the input reads as it did. -/
def regionTwiceSpec : ChangeSpec := { name := "regionTwice", fn := fun _ => fun
  | [d1, d2, d3, d4, d5, d6, d7] => { results := [.lit (.bool true)], args := [d1, d2, d3, d4, d5, d6, d7] }
  | _ => none }
def regionTwiceRow : OpenClaim := { program := "ytbjkahdlejaheab", sum := "17610a96d58ee5ab6de3c01c5c188f60cb218aa8bb0debc32b1e7db8f94c3b99", func := "cellaret/cellaretlaw9.RegionTwice", spec := "regionTwice", inPlace := ["slices.overlaps[cellaret/flash.wait]"], unfollowed := true, recurses := true, apart := false }
def RegionTwiceSaid : Prop := regionTwiceRow.holds Try.pinned (OpenSpec.ofChange regionTwiceSpec)

/-- ITS FALSE NEIGHBOUR: 'it returns false'. Refute it at one input. -/
def regionTwiceWrong : ChangeSpec := { name := "regionTwice", fn := fun _ => fun
  | [d1, d2, d3, d4, d5, d6, d7] => { results := [.lit (.bool false)], args := [d1, d2, d3, d4, d5, d6, d7] }
  | _ => none }
def RegionTwiceWrongFalsely : Prop := regionTwiceRow.holds Try.pinned (OpenSpec.ofChange regionTwiceWrong)

/- THE SECOND FORM. 'bulk': how many values and letters a reading holds, each counted each time it is reached (what is shared counts as often as it is met; a slice's spare places count too). A statement '..UptoSaid' is the law's where the arguments, and the package variables that the reading takes, are together of bulk at most 1048576: NARROWER than '..Said'. Prove '..Said' where nothing that the law and all that it calls make is longer than what came in: it says more and counts as full. Else prove '..UptoSaid'. A law counts once. -/
mutual
def uptoBulk {H : Type} : DataW H → Nat
  | .lit (.string bytes) => bytes.length + 1
  | .lit _ => 1
  | .nil => 1
  | .ptr d => uptoBulk d + 1
  | .slice elems spare => uptoBulkAll elems + uptoBulkAll spare + 1
  | .agg parts => uptoBulkAll parts + 1
  | .iface _ d => uptoBulk d + 1
  | .map entries => uptoBulkEntries entries + 1
  | .held _ => 1
def uptoBulkAll {H : Type} : List (DataW H) → Nat
  | [] => 0
  | d :: r => uptoBulk d + uptoBulkAll r
def uptoBulkEntries {H : Type} : List (Lit × DataW H) → Nat
  | [] => 0
  | x :: r => uptoBulkEntry x + uptoBulkEntries r
def uptoBulkEntry {H : Type} : Lit × DataW H → Nat
  | (.string bytes, d) => bytes.length + uptoBulk d + 1
  | (_, d) => uptoBulk d + 1
 end
def uptoSmall : (H : Type) → List (DataW H) → Bool := fun _ ds => decide (uptoBulkAll ds ≤ 1048576)
def OpenSpec.upto (s : _root_.Go.ChangeSpec) : _root_.Go.OpenSpec := { _root_.Go.OpenSpec.ofChange s with cond := some uptoSmall }

/-- 'cellaretlaw9.RegionHalf', WHERE WHAT IT READS IS OF BULK AT MOST 1048576: true; the input reads as it did. -/
def regionHalfUptoRow : OpenClaim := { program := "ytbjkahdlejaheab", sum := "17610a96d58ee5ab6de3c01c5c188f60cb218aa8bb0debc32b1e7db8f94c3b99", func := "cellaret/cellaretlaw9.RegionHalf", spec := "regionHalf", inPlace := ["slices.overlaps[cellaret/flash.wait]"], unfollowed := true, recurses := true, apart := false, narrowed := true }
def RegionHalfUptoSaid : Prop := regionHalfUptoRow.holds Try.pinned (OpenSpec.upto regionHalfSpec)

/-- 'cellaretlaw9.RegionSwaps', WHERE WHAT IT READS IS OF BULK AT MOST 1048576: true; the input reads as it did. -/
def regionSwapsUptoRow : OpenClaim := { program := "ytbjkahdlejaheab", sum := "17610a96d58ee5ab6de3c01c5c188f60cb218aa8bb0debc32b1e7db8f94c3b99", func := "cellaret/cellaretlaw9.RegionSwaps", spec := "regionSwaps", inPlace := ["slices.overlaps[cellaret/flash.wait]"], unfollowed := true, recurses := true, apart := false, narrowed := true }
def RegionSwapsUptoSaid : Prop := regionSwapsUptoRow.holds Try.pinned (OpenSpec.upto regionSwapsSpec)

/-- 'cellaretlaw9.RegionNumbers', WHERE WHAT IT READS IS OF BULK AT MOST 1048576: true; the input reads as it did. -/
def regionNumbersUptoRow : OpenClaim := { program := "ytbjkahdlejaheab", sum := "17610a96d58ee5ab6de3c01c5c188f60cb218aa8bb0debc32b1e7db8f94c3b99", func := "cellaret/cellaretlaw9.RegionNumbers", spec := "regionNumbers", inPlace := ["slices.overlaps[cellaret/flash.wait]"], unfollowed := true, recurses := true, apart := false, narrowed := true }
def RegionNumbersUptoSaid : Prop := regionNumbersUptoRow.holds Try.pinned (OpenSpec.upto regionNumbersSpec)

/-- 'cellaretlaw9.RegionTwice', WHERE WHAT IT READS IS OF BULK AT MOST 1048576: true; the input reads as it did. -/
def regionTwiceUptoRow : OpenClaim := { program := "ytbjkahdlejaheab", sum := "17610a96d58ee5ab6de3c01c5c188f60cb218aa8bb0debc32b1e7db8f94c3b99", func := "cellaret/cellaretlaw9.RegionTwice", spec := "regionTwice", inPlace := ["slices.overlaps[cellaret/flash.wait]"], unfollowed := true, recurses := true, apart := false, narrowed := true }
def RegionTwiceUptoSaid : Prop := regionTwiceUptoRow.holds Try.pinned (OpenSpec.upto regionTwiceSpec)

end Rows
end Go.Proofs.Ytbjkahdlejaheab
