/-
  No cell of these rows narrows 'for every input' (looked for: loops, veiled, ifaces, maps, wideKeys, modest, calm, conditions, laid).
  DERIVED. THE GIVEN ROWS OF THIS SEAT. 6 by the template 'for every input the law returns true; each argument reads behind the call as it read before'; 0 by the template 'total and deterministic' (their statements: YtghdkicijdfpcaaTotals.lean).
  GIVEN WITH THE SEED: the statements are not yours to turn. If you find one false, say at which input.
  Laid BY PROGRAM, IN A SANDBOX (cutbox-rows.mjs): the forced cells as the released guide's own fill.sh prints them over the translation ed928c70ea2ec383… (all of the seat's roots in one cut). By AI agents, Wed Nov 11 2026. No macro, syntax, notation, axiom, sorry.
-/
import Derived.Test.YtghdkicijdfpcaaChecked
import GoSem.Claim
import GoSem.ClaimJoined
import GoSem.ClaimMapViews
import Derived.JoinedTies
import Derived.KernelRfl
namespace Go.Proofs.Ytghdkicijdfpcaa
/- THE CELL 'sum', in the pinned program and in every row, IS THE sha256 OF THE DUMP (.gsa) THAT YtghdkicijdfpcaaProg.lean LOADS. Nothing in Lean hashes anything: it is a label: what it is worth is what the hold of that sum in a sandbox is worth. -/
noncomputable def Try.pinned : Pinned := { name := "ytghdkicijdfpcaa", sum := "ed928c70ea2ec383e3d5827595c81e53a64dc1c65180f390862b6eda51ec078c", checked := Try.checked }
namespace Rows
def none {H : Type} : Left H := { results := [], args := [] }

/-- 'cellaretlaw6.TombKnown': WHATEVER THE INPUT: true; the input reads as it did. -/
def tombKnownSpec : ChangeSpec := { name := "tombKnown", fn := fun _ => fun
  | [] => { results := [.lit (.bool true)], args := [] }
  | _ => none }
def tombKnownRow : OpenClaim := { program := "ytghdkicijdfpcaa", sum := "ed928c70ea2ec383e3d5827595c81e53a64dc1c65180f390862b6eda51ec078c", func := "cellaret/cellaretlaw6.TombKnown", spec := "tombKnown", inPlace := ["slices.overlaps[cellaret/flash.wait]"], unfollowed := true, recurses := true, apart := false }
def TombKnownSaid : Prop := tombKnownRow.holds Try.pinned (OpenSpec.ofChange tombKnownSpec)

/-- ITS FALSE NEIGHBOUR: 'it returns false'. Refute it at one input. -/
def tombKnownWrong : ChangeSpec := { name := "tombKnown", fn := fun _ => fun
  | [] => { results := [.lit (.bool false)], args := [] }
  | _ => none }
def TombKnownWrongFalsely : Prop := tombKnownRow.holds Try.pinned (OpenSpec.ofChange tombKnownWrong)

/-- 'cellaretlaw6.TombPlays': WHATEVER THE INPUT: true; the input reads as it did. -/
def tombPlaysSpec : ChangeSpec := { name := "tombPlays", fn := fun _ => fun
  | [d1, d2, d3, d4] => { results := [.lit (.bool true)], args := [d1, d2, d3, d4] }
  | _ => none }
def tombPlaysRow : OpenClaim := { program := "ytghdkicijdfpcaa", sum := "ed928c70ea2ec383e3d5827595c81e53a64dc1c65180f390862b6eda51ec078c", func := "cellaret/cellaretlaw6.TombPlays", spec := "tombPlays", inPlace := ["slices.overlaps[cellaret/flash.wait]"], unfollowed := true, recurses := true, apart := false }
def TombPlaysSaid : Prop := tombPlaysRow.holds Try.pinned (OpenSpec.ofChange tombPlaysSpec)

/-- ITS FALSE NEIGHBOUR: 'it returns false'. Refute it at one input. -/
def tombPlaysWrong : ChangeSpec := { name := "tombPlays", fn := fun _ => fun
  | [d1, d2, d3, d4] => { results := [.lit (.bool false)], args := [d1, d2, d3, d4] }
  | _ => none }
def TombPlaysWrongFalsely : Prop := tombPlaysRow.holds Try.pinned (OpenSpec.ofChange tombPlaysWrong)

/-- 'cellaretlaw6.TombLasts': WHATEVER THE INPUT: true; the input reads as it did. -/
def tombLastsSpec : ChangeSpec := { name := "tombLasts", fn := fun _ => fun
  | [d1, d2, d3] => { results := [.lit (.bool true)], args := [d1, d2, d3] }
  | _ => none }
def tombLastsRow : OpenClaim := { program := "ytghdkicijdfpcaa", sum := "ed928c70ea2ec383e3d5827595c81e53a64dc1c65180f390862b6eda51ec078c", func := "cellaret/cellaretlaw6.TombLasts", spec := "tombLasts", inPlace := ["slices.overlaps[cellaret/flash.wait]"], unfollowed := true, recurses := true, apart := false }
def TombLastsSaid : Prop := tombLastsRow.holds Try.pinned (OpenSpec.ofChange tombLastsSpec)

/-- ITS FALSE NEIGHBOUR: 'it returns false'. Refute it at one input. -/
def tombLastsWrong : ChangeSpec := { name := "tombLasts", fn := fun _ => fun
  | [d1, d2, d3] => { results := [.lit (.bool false)], args := [d1, d2, d3] }
  | _ => none }
def TombLastsWrongFalsely : Prop := tombLastsRow.holds Try.pinned (OpenSpec.ofChange tombLastsWrong)

/-- 'cellaretlaw6.TombGens': WHATEVER THE INPUT: true; the input reads as it did. -/
def tombGensSpec : ChangeSpec := { name := "tombGens", fn := fun _ => fun
  | [d1, d2, d3] => { results := [.lit (.bool true)], args := [d1, d2, d3] }
  | _ => none }
def tombGensRow : OpenClaim := { program := "ytghdkicijdfpcaa", sum := "ed928c70ea2ec383e3d5827595c81e53a64dc1c65180f390862b6eda51ec078c", func := "cellaret/cellaretlaw6.TombGens", spec := "tombGens", inPlace := ["slices.overlaps[cellaret/flash.wait]"], unfollowed := true, recurses := true, apart := false }
def TombGensSaid : Prop := tombGensRow.holds Try.pinned (OpenSpec.ofChange tombGensSpec)

/-- ITS FALSE NEIGHBOUR: 'it returns false'. Refute it at one input. -/
def tombGensWrong : ChangeSpec := { name := "tombGens", fn := fun _ => fun
  | [d1, d2, d3] => { results := [.lit (.bool false)], args := [d1, d2, d3] }
  | _ => none }
def TombGensWrongFalsely : Prop := tombGensRow.holds Try.pinned (OpenSpec.ofChange tombGensWrong)

/-- 'cellaretlaw6.TombMost': WHATEVER THE INPUT: true; the input reads as it did. -/
def tombMostSpec : ChangeSpec := { name := "tombMost", fn := fun _ => fun
  | [d1, d2, d3] => { results := [.lit (.bool true)], args := [d1, d2, d3] }
  | _ => none }
def tombMostRow : OpenClaim := { program := "ytghdkicijdfpcaa", sum := "ed928c70ea2ec383e3d5827595c81e53a64dc1c65180f390862b6eda51ec078c", func := "cellaret/cellaretlaw6.TombMost", spec := "tombMost", inPlace := ["slices.overlaps[cellaret/flash.wait]"], unfollowed := true, recurses := true, apart := false }
def TombMostSaid : Prop := tombMostRow.holds Try.pinned (OpenSpec.ofChange tombMostSpec)

/-- ITS FALSE NEIGHBOUR: 'it returns false'. Refute it at one input. -/
def tombMostWrong : ChangeSpec := { name := "tombMost", fn := fun _ => fun
  | [d1, d2, d3] => { results := [.lit (.bool false)], args := [d1, d2, d3] }
  | _ => none }
def TombMostWrongFalsely : Prop := tombMostRow.holds Try.pinned (OpenSpec.ofChange tombMostWrong)

/-- 'cellaretlaw6.TombPages': WHATEVER THE INPUT: true; the input reads as it did. -/
def tombPagesSpec : ChangeSpec := { name := "tombPages", fn := fun _ => fun
  | [d1, d2] => { results := [.lit (.bool true)], args := [d1, d2] }
  | _ => none }
def tombPagesRow : OpenClaim := { program := "ytghdkicijdfpcaa", sum := "ed928c70ea2ec383e3d5827595c81e53a64dc1c65180f390862b6eda51ec078c", func := "cellaret/cellaretlaw6.TombPages", spec := "tombPages", inPlace := ["slices.overlaps[cellaret/flash.wait]"], unfollowed := true, recurses := true, apart := false }
def TombPagesSaid : Prop := tombPagesRow.holds Try.pinned (OpenSpec.ofChange tombPagesSpec)

/-- ITS FALSE NEIGHBOUR: 'it returns false'. Refute it at one input. -/
def tombPagesWrong : ChangeSpec := { name := "tombPages", fn := fun _ => fun
  | [d1, d2] => { results := [.lit (.bool false)], args := [d1, d2] }
  | _ => none }
def TombPagesWrongFalsely : Prop := tombPagesRow.holds Try.pinned (OpenSpec.ofChange tombPagesWrong)

/- THE SECOND FORM. 'bulk': how many values and letters a reading holds, each counted each time it is reached (what is shared counts as often as it is met; a slice's spare places count too). A statement '..UptoSaid' is the law's where the arguments, and the package variables that the reading takes, are together of bulk at most 1048576: NARROWER than '..Said'. Prove '..Said' where nothing that the law and all that it calls make is longer than what came in: it says more and counts as full. Else prove '..UptoSaid'. A law counts once. -/
mutual
def uptoBulk {H : Type} : DataW H → Nat
  | .lit (.string bytes) => bytes.length + 1
  | .lit _ => 1
  | .nil => 1
  | .ptr d => uptoBulk d + 1
  | .slice elems spare => uptoBulkAll elems + uptoBulkAll spare + 1
  | .agg parts => uptoBulkAll parts + 1
  | .iface _ d => uptoBulk d + 1
  | .map entries => uptoBulkEntries entries + 1
  | .held _ => 1
def uptoBulkAll {H : Type} : List (DataW H) → Nat
  | [] => 0
  | d :: r => uptoBulk d + uptoBulkAll r
def uptoBulkEntries {H : Type} : List (Lit × DataW H) → Nat
  | [] => 0
  | x :: r => uptoBulkEntry x + uptoBulkEntries r
def uptoBulkEntry {H : Type} : Lit × DataW H → Nat
  | (.string bytes, d) => bytes.length + uptoBulk d + 1
  | (_, d) => uptoBulk d + 1
 end
def uptoSmall : (H : Type) → List (DataW H) → Bool := fun _ ds => decide (uptoBulkAll ds ≤ 1048576)
def OpenSpec.upto (s : _root_.Go.ChangeSpec) : _root_.Go.OpenSpec := { _root_.Go.OpenSpec.ofChange s with cond := some uptoSmall }

/-- 'cellaretlaw6.TombKnown', WHERE WHAT IT READS IS OF BULK AT MOST 1048576: true; the input reads as it did. -/
def tombKnownUptoRow : OpenClaim := { program := "ytghdkicijdfpcaa", sum := "ed928c70ea2ec383e3d5827595c81e53a64dc1c65180f390862b6eda51ec078c", func := "cellaret/cellaretlaw6.TombKnown", spec := "tombKnown", inPlace := ["slices.overlaps[cellaret/flash.wait]"], unfollowed := true, recurses := true, apart := false, narrowed := true }
def TombKnownUptoSaid : Prop := tombKnownUptoRow.holds Try.pinned (OpenSpec.upto tombKnownSpec)

/-- 'cellaretlaw6.TombPlays', WHERE WHAT IT READS IS OF BULK AT MOST 1048576: true; the input reads as it did. -/
def tombPlaysUptoRow : OpenClaim := { program := "ytghdkicijdfpcaa", sum := "ed928c70ea2ec383e3d5827595c81e53a64dc1c65180f390862b6eda51ec078c", func := "cellaret/cellaretlaw6.TombPlays", spec := "tombPlays", inPlace := ["slices.overlaps[cellaret/flash.wait]"], unfollowed := true, recurses := true, apart := false, narrowed := true }
def TombPlaysUptoSaid : Prop := tombPlaysUptoRow.holds Try.pinned (OpenSpec.upto tombPlaysSpec)

/-- 'cellaretlaw6.TombLasts', WHERE WHAT IT READS IS OF BULK AT MOST 1048576: true; the input reads as it did. -/
def tombLastsUptoRow : OpenClaim := { program := "ytghdkicijdfpcaa", sum := "ed928c70ea2ec383e3d5827595c81e53a64dc1c65180f390862b6eda51ec078c", func := "cellaret/cellaretlaw6.TombLasts", spec := "tombLasts", inPlace := ["slices.overlaps[cellaret/flash.wait]"], unfollowed := true, recurses := true, apart := false, narrowed := true }
def TombLastsUptoSaid : Prop := tombLastsUptoRow.holds Try.pinned (OpenSpec.upto tombLastsSpec)

/-- 'cellaretlaw6.TombGens', WHERE WHAT IT READS IS OF BULK AT MOST 1048576: true; the input reads as it did. -/
def tombGensUptoRow : OpenClaim := { program := "ytghdkicijdfpcaa", sum := "ed928c70ea2ec383e3d5827595c81e53a64dc1c65180f390862b6eda51ec078c", func := "cellaret/cellaretlaw6.TombGens", spec := "tombGens", inPlace := ["slices.overlaps[cellaret/flash.wait]"], unfollowed := true, recurses := true, apart := false, narrowed := true }
def TombGensUptoSaid : Prop := tombGensUptoRow.holds Try.pinned (OpenSpec.upto tombGensSpec)

/-- 'cellaretlaw6.TombMost', WHERE WHAT IT READS IS OF BULK AT MOST 1048576: true; the input reads as it did. -/
def tombMostUptoRow : OpenClaim := { program := "ytghdkicijdfpcaa", sum := "ed928c70ea2ec383e3d5827595c81e53a64dc1c65180f390862b6eda51ec078c", func := "cellaret/cellaretlaw6.TombMost", spec := "tombMost", inPlace := ["slices.overlaps[cellaret/flash.wait]"], unfollowed := true, recurses := true, apart := false, narrowed := true }
def TombMostUptoSaid : Prop := tombMostUptoRow.holds Try.pinned (OpenSpec.upto tombMostSpec)

/-- 'cellaretlaw6.TombPages', WHERE WHAT IT READS IS OF BULK AT MOST 1048576: true; the input reads as it did. -/
def tombPagesUptoRow : OpenClaim := { program := "ytghdkicijdfpcaa", sum := "ed928c70ea2ec383e3d5827595c81e53a64dc1c65180f390862b6eda51ec078c", func := "cellaret/cellaretlaw6.TombPages", spec := "tombPages", inPlace := ["slices.overlaps[cellaret/flash.wait]"], unfollowed := true, recurses := true, apart := false, narrowed := true }
def TombPagesUptoSaid : Prop := tombPagesUptoRow.holds Try.pinned (OpenSpec.upto tombPagesSpec)

end Rows
end Go.Proofs.Ytghdkicijdfpcaa
