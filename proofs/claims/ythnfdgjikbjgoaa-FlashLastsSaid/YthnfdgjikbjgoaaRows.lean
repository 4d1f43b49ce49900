/-
  No cell of these rows narrows 'for every input' (looked for: loops, veiled, ifaces, maps, wideKeys, modest, calm, conditions, laid).
  DERIVED. THE GIVEN ROWS OF THIS SEAT. 6 by the template 'for every input the law returns true; each argument reads behind the call as it read before'; 0 by the template 'total and deterministic' (their statements: YthnfdgjikbjgoaaTotals.lean).
  GIVEN WITH THE SEED: the statements are not yours to turn. If you find one false, say at which input.
  Laid BY PROGRAM, IN A SANDBOX (cutbox-rows.mjs): the forced cells as the released guide's own fill.sh prints them over the translation 18a14c82058d791d… (all of the seat's roots in one cut). By AI agents, Wed Nov 11 2026. No macro, syntax, notation, axiom, sorry.
-/
import Derived.Test.YthnfdgjikbjgoaaChecked
import GoSem.Claim
import GoSem.ClaimJoined
import GoSem.ClaimMapViews
import Derived.JoinedTies
import Derived.KernelRfl
namespace Go.Proofs.Ythnfdgjikbjgoaa
/- THE CELL 'sum', in the pinned program and in every row, IS THE sha256 OF THE DUMP (.gsa) THAT YthnfdgjikbjgoaaProg.lean LOADS. Nothing in Lean hashes anything: it is a label: what it is worth is what the hold of that sum in a sandbox is worth. -/
noncomputable def Try.pinned : Pinned := { name := "ythnfdgjikbjgoaa", sum := "18a14c82058d791d731cbaeffc594fa63265e2e549e369391cdc30c0d957992d", checked := Try.checked }
namespace Rows
def none {H : Type} : Left H := { results := [], args := [] }

/-- 'cellaretlaw3.FlashKnown': WHATEVER THE INPUT: true; the input reads as it did. -/
def flashKnownSpec : ChangeSpec := { name := "flashKnown", fn := fun _ => fun
  | [] => { results := [.lit (.bool true)], args := [] }
  | _ => none }
def flashKnownRow : OpenClaim := { program := "ythnfdgjikbjgoaa", sum := "18a14c82058d791d731cbaeffc594fa63265e2e549e369391cdc30c0d957992d", func := "cellaret/cellaretlaw3.FlashKnown", spec := "flashKnown", inPlace := ["slices.overlaps[cellaret/flash.wait]"], unfollowed := true, recurses := true, apart := false }
def FlashKnownSaid : Prop := flashKnownRow.holds Try.pinned (OpenSpec.ofChange flashKnownSpec)

/-- ITS FALSE NEIGHBOUR: 'it returns false'. Refute it at one input. -/
def flashKnownWrong : ChangeSpec := { name := "flashKnown", fn := fun _ => fun
  | [] => { results := [.lit (.bool false)], args := [] }
  | _ => none }
def FlashKnownWrongFalsely : Prop := flashKnownRow.holds Try.pinned (OpenSpec.ofChange flashKnownWrong)

/-- 'cellaretlaw3.FlashPlays': WHATEVER THE INPUT: true; the input reads as it did. -/
def flashPlaysSpec : ChangeSpec := { name := "flashPlays", fn := fun _ => fun
  | [d1, d2] => { results := [.lit (.bool true)], args := [d1, d2] }
  | _ => none }
def flashPlaysRow : OpenClaim := { program := "ythnfdgjikbjgoaa", sum := "18a14c82058d791d731cbaeffc594fa63265e2e549e369391cdc30c0d957992d", func := "cellaret/cellaretlaw3.FlashPlays", spec := "flashPlays", inPlace := ["slices.overlaps[cellaret/flash.wait]"], unfollowed := true, recurses := true, apart := false }
def FlashPlaysSaid : Prop := flashPlaysRow.holds Try.pinned (OpenSpec.ofChange flashPlaysSpec)

/-- ITS FALSE NEIGHBOUR: 'it returns false'. Refute it at one input. -/
def flashPlaysWrong : ChangeSpec := { name := "flashPlays", fn := fun _ => fun
  | [d1, d2] => { results := [.lit (.bool false)], args := [d1, d2] }
  | _ => none }
def FlashPlaysWrongFalsely : Prop := flashPlaysRow.holds Try.pinned (OpenSpec.ofChange flashPlaysWrong)

/-- 'cellaretlaw3.FlashLasts': WHATEVER THE INPUT: true; the input reads as it did. -/
def flashLastsSpec : ChangeSpec := { name := "flashLasts", fn := fun _ => fun
  | [d1, d2, d3, d4, d5] => { results := [.lit (.bool true)], args := [d1, d2, d3, d4, d5] }
  | _ => none }
def flashLastsRow : OpenClaim := { program := "ythnfdgjikbjgoaa", sum := "18a14c82058d791d731cbaeffc594fa63265e2e549e369391cdc30c0d957992d", func := "cellaret/cellaretlaw3.FlashLasts", spec := "flashLasts", inPlace := ["slices.overlaps[cellaret/flash.wait]"], unfollowed := true, recurses := true, apart := false }
def FlashLastsSaid : Prop := flashLastsRow.holds Try.pinned (OpenSpec.ofChange flashLastsSpec)

/-- ITS FALSE NEIGHBOUR: 'it returns false'. Refute it at one input. -/
def flashLastsWrong : ChangeSpec := { name := "flashLasts", fn := fun _ => fun
  | [d1, d2, d3, d4, d5] => { results := [.lit (.bool false)], args := [d1, d2, d3, d4, d5] }
  | _ => none }
def FlashLastsWrongFalsely : Prop := flashLastsRow.holds Try.pinned (OpenSpec.ofChange flashLastsWrong)

/-- 'cellaretlaw3.FlashPicks': WHATEVER THE INPUT: true; the input reads as it did. -/
def flashPicksSpec : ChangeSpec := { name := "flashPicks", fn := fun _ => fun
  | [d1, d2, d3] => { results := [.lit (.bool true)], args := [d1, d2, d3] }
  | _ => none }
def flashPicksRow : OpenClaim := { program := "ythnfdgjikbjgoaa", sum := "18a14c82058d791d731cbaeffc594fa63265e2e549e369391cdc30c0d957992d", func := "cellaret/cellaretlaw3.FlashPicks", spec := "flashPicks", inPlace := ["slices.overlaps[cellaret/flash.wait]"], unfollowed := true, recurses := true, apart := false }
def FlashPicksSaid : Prop := flashPicksRow.holds Try.pinned (OpenSpec.ofChange flashPicksSpec)

/-- ITS FALSE NEIGHBOUR: 'it returns false'. Refute it at one input. -/
def flashPicksWrong : ChangeSpec := { name := "flashPicks", fn := fun _ => fun
  | [d1, d2, d3] => { results := [.lit (.bool false)], args := [d1, d2, d3] }
  | _ => none }
def FlashPicksWrongFalsely : Prop := flashPicksRow.holds Try.pinned (OpenSpec.ofChange flashPicksWrong)

/-- 'cellaretlaw3.FlashOff': WHATEVER THE INPUT: true; the input reads as it did. -/
def flashOffSpec : ChangeSpec := { name := "flashOff", fn := fun _ => fun
  | [d1, d2, d3] => { results := [.lit (.bool true)], args := [d1, d2, d3] }
  | _ => none }
def flashOffRow : OpenClaim := { program := "ythnfdgjikbjgoaa", sum := "18a14c82058d791d731cbaeffc594fa63265e2e549e369391cdc30c0d957992d", func := "cellaret/cellaretlaw3.FlashOff", spec := "flashOff", inPlace := ["slices.overlaps[cellaret/flash.wait]"], unfollowed := true, recurses := true, apart := false }
def FlashOffSaid : Prop := flashOffRow.holds Try.pinned (OpenSpec.ofChange flashOffSpec)

/-- ITS FALSE NEIGHBOUR: 'it returns false'. Refute it at one input. -/
def flashOffWrong : ChangeSpec := { name := "flashOff", fn := fun _ => fun
  | [d1, d2, d3] => { results := [.lit (.bool false)], args := [d1, d2, d3] }
  | _ => none }
def FlashOffWrongFalsely : Prop := flashOffRow.holds Try.pinned (OpenSpec.ofChange flashOffWrong)

/-- 'cellaretlaw3.FlashArms': WHATEVER THE INPUT: true; the input reads as it did. -/
def flashArmsSpec : ChangeSpec := { name := "flashArms", fn := fun _ => fun
  | [d1, d2, d3] => { results := [.lit (.bool true)], args := [d1, d2, d3] }
  | _ => none }
def flashArmsRow : OpenClaim := { program := "ythnfdgjikbjgoaa", sum := "18a14c82058d791d731cbaeffc594fa63265e2e549e369391cdc30c0d957992d", func := "cellaret/cellaretlaw3.FlashArms", spec := "flashArms", inPlace := ["slices.overlaps[cellaret/flash.wait]"], unfollowed := true, recurses := true, apart := false }
def FlashArmsSaid : Prop := flashArmsRow.holds Try.pinned (OpenSpec.ofChange flashArmsSpec)

/-- ITS FALSE NEIGHBOUR: 'it returns false'. Refute it at one input. -/
def flashArmsWrong : ChangeSpec := { name := "flashArms", fn := fun _ => fun
  | [d1, d2, d3] => { results := [.lit (.bool false)], args := [d1, d2, d3] }
  | _ => none }
def FlashArmsWrongFalsely : Prop := flashArmsRow.holds Try.pinned (OpenSpec.ofChange flashArmsWrong)

/- THE SECOND FORM. 'bulk': how many values and letters a reading holds, each counted each time it is reached (what is shared counts as often as it is met; a slice's spare places count too). A statement '..UptoSaid' is the law's where the arguments, and the package variables that the reading takes, are together of bulk at most 1048576: NARROWER than '..Said'. Prove '..Said' where nothing that the law and all that it calls make is longer than what came in: it says more and counts as full. Else prove '..UptoSaid'. A law counts once. -/
mutual
def uptoBulk {H : Type} : DataW H → Nat
  | .lit (.string bytes) => bytes.length + 1
  | .lit _ => 1
  | .nil => 1
  | .ptr d => uptoBulk d + 1
  | .slice elems spare => uptoBulkAll elems + uptoBulkAll spare + 1
  | .agg parts => uptoBulkAll parts + 1
  | .iface _ d => uptoBulk d + 1
  | .map entries => uptoBulkEntries entries + 1
  | .held _ => 1
def uptoBulkAll {H : Type} : List (DataW H) → Nat
  | [] => 0
  | d :: r => uptoBulk d + uptoBulkAll r
def uptoBulkEntries {H : Type} : List (Lit × DataW H) → Nat
  | [] => 0
  | x :: r => uptoBulkEntry x + uptoBulkEntries r
def uptoBulkEntry {H : Type} : Lit × DataW H → Nat
  | (.string bytes, d) => bytes.length + uptoBulk d + 1
  | (_, d) => uptoBulk d + 1
 end
def uptoSmall : (H : Type) → List (DataW H) → Bool := fun _ ds => decide (uptoBulkAll ds ≤ 1048576)
def OpenSpec.upto (s : _root_.Go.ChangeSpec) : _root_.Go.OpenSpec := { _root_.Go.OpenSpec.ofChange s with cond := some uptoSmall }

/-- 'cellaretlaw3.FlashKnown', WHERE WHAT IT READS IS OF BULK AT MOST 1048576: true; the input reads as it did. -/
def flashKnownUptoRow : OpenClaim := { program := "ythnfdgjikbjgoaa", sum := "18a14c82058d791d731cbaeffc594fa63265e2e549e369391cdc30c0d957992d", func := "cellaret/cellaretlaw3.FlashKnown", spec := "flashKnown", inPlace := ["slices.overlaps[cellaret/flash.wait]"], unfollowed := true, recurses := true, apart := false, narrowed := true }
def FlashKnownUptoSaid : Prop := flashKnownUptoRow.holds Try.pinned (OpenSpec.upto flashKnownSpec)

/-- 'cellaretlaw3.FlashPlays', WHERE WHAT IT READS IS OF BULK AT MOST 1048576: true; the input reads as it did. -/
def flashPlaysUptoRow : OpenClaim := { program := "ythnfdgjikbjgoaa", sum := "18a14c82058d791d731cbaeffc594fa63265e2e549e369391cdc30c0d957992d", func := "cellaret/cellaretlaw3.FlashPlays", spec := "flashPlays", inPlace := ["slices.overlaps[cellaret/flash.wait]"], unfollowed := true, recurses := true, apart := false, narrowed := true }
def FlashPlaysUptoSaid : Prop := flashPlaysUptoRow.holds Try.pinned (OpenSpec.upto flashPlaysSpec)

/-- 'cellaretlaw3.FlashLasts', WHERE WHAT IT READS IS OF BULK AT MOST 1048576: true; the input reads as it did. -/
def flashLastsUptoRow : OpenClaim := { program := "ythnfdgjikbjgoaa", sum := "18a14c82058d791d731cbaeffc594fa63265e2e549e369391cdc30c0d957992d", func := "cellaret/cellaretlaw3.FlashLasts", spec := "flashLasts", inPlace := ["slices.overlaps[cellaret/flash.wait]"], unfollowed := true, recurses := true, apart := false, narrowed := true }
def FlashLastsUptoSaid : Prop := flashLastsUptoRow.holds Try.pinned (OpenSpec.upto flashLastsSpec)

/-- 'cellaretlaw3.FlashPicks', WHERE WHAT IT READS IS OF BULK AT MOST 1048576: true; the input reads as it did. -/
def flashPicksUptoRow : OpenClaim := { program := "ythnfdgjikbjgoaa", sum := "18a14c82058d791d731cbaeffc594fa63265e2e549e369391cdc30c0d957992d", func := "cellaret/cellaretlaw3.FlashPicks", spec := "flashPicks", inPlace := ["slices.overlaps[cellaret/flash.wait]"], unfollowed := true, recurses := true, apart := false, narrowed := true }
def FlashPicksUptoSaid : Prop := flashPicksUptoRow.holds Try.pinned (OpenSpec.upto flashPicksSpec)

/-- 'cellaretlaw3.FlashOff', WHERE WHAT IT READS IS OF BULK AT MOST 1048576: true; the input reads as it did. -/
def flashOffUptoRow : OpenClaim := { program := "ythnfdgjikbjgoaa", sum := "18a14c82058d791d731cbaeffc594fa63265e2e549e369391cdc30c0d957992d", func := "cellaret/cellaretlaw3.FlashOff", spec := "flashOff", inPlace := ["slices.overlaps[cellaret/flash.wait]"], unfollowed := true, recurses := true, apart := false, narrowed := true }
def FlashOffUptoSaid : Prop := flashOffUptoRow.holds Try.pinned (OpenSpec.upto flashOffSpec)

/-- 'cellaretlaw3.FlashArms', WHERE WHAT IT READS IS OF BULK AT MOST 1048576: true; the input reads as it did. -/
def flashArmsUptoRow : OpenClaim := { program := "ythnfdgjikbjgoaa", sum := "18a14c82058d791d731cbaeffc594fa63265e2e549e369391cdc30c0d957992d", func := "cellaret/cellaretlaw3.FlashArms", spec := "flashArms", inPlace := ["slices.overlaps[cellaret/flash.wait]"], unfollowed := true, recurses := true, apart := false, narrowed := true }
def FlashArmsUptoSaid : Prop := flashArmsUptoRow.holds Try.pinned (OpenSpec.upto flashArmsSpec)

end Rows
end Go.Proofs.Ythnfdgjikbjgoaa
