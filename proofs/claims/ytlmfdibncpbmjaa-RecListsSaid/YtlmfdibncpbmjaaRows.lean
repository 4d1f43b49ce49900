/-
  No cell of these rows narrows 'for every input' (looked for: loops, veiled, ifaces, maps, wideKeys, modest, calm, conditions, laid).
  DERIVED. THE GIVEN ROWS OF THIS SEAT. 6 by the template 'for every input the law returns true; each argument reads behind the call as it read before'; 0 by the template 'total and deterministic' (their statements: YtlmfdibncpbmjaaTotals.lean).
  GIVEN WITH THE SEED: the statements are not yours to turn. If you find one false, say at which input.
  Laid BY PROGRAM, IN A SANDBOX (cutbox-rows.mjs): the forced cells as the released guide's own fill.sh prints them over the translation 3726d44af7312668… (all of the seat's roots in one cut). By AI agents, Wed Nov 11 2026. No macro, syntax, notation, axiom, sorry.
-/
import Derived.Test.YtlmfdibncpbmjaaChecked
import GoSem.Claim
import GoSem.ClaimJoined
import GoSem.ClaimMapViews
import Derived.JoinedTies
import Derived.KernelRfl
namespace Go.Proofs.Ytlmfdibncpbmjaa
/- THE CELL 'sum', in the pinned program and in every row, IS THE sha256 OF THE DUMP (.gsa) THAT YtlmfdibncpbmjaaProg.lean LOADS. Nothing in Lean hashes anything: it is a label: what it is worth is what the hold of that sum in a sandbox is worth. -/
noncomputable def Try.pinned : Pinned := { name := "ytlmfdibncpbmjaa", sum := "3726d44af73126689a61fecefd0ce355f940768d21a898b164972a2bc4d6f57f", checked := Try.checked }
namespace Rows
def none {H : Type} : Left H := { results := [], args := [] }

/-- 'cellaretlaw4.RecKnown': WHATEVER THE INPUT: true; the input reads as it did. -/
def recKnownSpec : ChangeSpec := { name := "recKnown", fn := fun _ => fun
  | [] => { results := [.lit (.bool true)], args := [] }
  | _ => none }
def recKnownRow : OpenClaim := { program := "ytlmfdibncpbmjaa", sum := "3726d44af73126689a61fecefd0ce355f940768d21a898b164972a2bc4d6f57f", func := "cellaret/cellaretlaw4.RecKnown", spec := "recKnown", apart := false }
def RecKnownSaid : Prop := recKnownRow.holds Try.pinned (OpenSpec.ofChange recKnownSpec)

/-- ITS FALSE NEIGHBOUR: 'it returns false'. Refute it at one input. -/
def recKnownWrong : ChangeSpec := { name := "recKnown", fn := fun _ => fun
  | [] => { results := [.lit (.bool false)], args := [] }
  | _ => none }
def RecKnownWrongFalsely : Prop := recKnownRow.holds Try.pinned (OpenSpec.ofChange recKnownWrong)

/-- 'cellaretlaw4.RecPuts': WHATEVER THE INPUT: true; the input reads as it did. -/
def recPutsSpec : ChangeSpec := { name := "recPuts", fn := fun _ => fun
  | [d1, d2] => { results := [.lit (.bool true)], args := [d1, d2] }
  | _ => none }
def recPutsRow : OpenClaim := { program := "ytlmfdibncpbmjaa", sum := "3726d44af73126689a61fecefd0ce355f940768d21a898b164972a2bc4d6f57f", func := "cellaret/cellaretlaw4.RecPuts", spec := "recPuts", apart := false }
def RecPutsSaid : Prop := recPutsRow.holds Try.pinned (OpenSpec.ofChange recPutsSpec)

/-- ITS FALSE NEIGHBOUR: 'it returns false'. Refute it at one input. -/
def recPutsWrong : ChangeSpec := { name := "recPuts", fn := fun _ => fun
  | [d1, d2] => { results := [.lit (.bool false)], args := [d1, d2] }
  | _ => none }
def RecPutsWrongFalsely : Prop := recPutsRow.holds Try.pinned (OpenSpec.ofChange recPutsWrong)

/-- 'cellaretlaw4.RecTakes': WHATEVER THE INPUT: true; the input reads as it did. -/
def recTakesSpec : ChangeSpec := { name := "recTakes", fn := fun _ => fun
  | [d] => { results := [.lit (.bool true)], args := [d] }
  | _ => none }
def recTakesRow : OpenClaim := { program := "ytlmfdibncpbmjaa", sum := "3726d44af73126689a61fecefd0ce355f940768d21a898b164972a2bc4d6f57f", func := "cellaret/cellaretlaw4.RecTakes", spec := "recTakes", apart := false }
def RecTakesSaid : Prop := recTakesRow.holds Try.pinned (OpenSpec.ofChange recTakesSpec)

/-- ITS FALSE NEIGHBOUR: 'it returns false'. Refute it at one input. -/
def recTakesWrong : ChangeSpec := { name := "recTakes", fn := fun _ => fun
  | [d] => { results := [.lit (.bool false)], args := [d] }
  | _ => none }
def RecTakesWrongFalsely : Prop := recTakesRow.holds Try.pinned (OpenSpec.ofChange recTakesWrong)

/-- 'cellaretlaw4.RecSpoils': WHATEVER THE INPUT: true; the input reads as it did. -/
def recSpoilsSpec : ChangeSpec := { name := "recSpoils", fn := fun _ => fun
  | [d1, d2, d3, d4] => { results := [.lit (.bool true)], args := [d1, d2, d3, d4] }
  | _ => none }
def recSpoilsRow : OpenClaim := { program := "ytlmfdibncpbmjaa", sum := "3726d44af73126689a61fecefd0ce355f940768d21a898b164972a2bc4d6f57f", func := "cellaret/cellaretlaw4.RecSpoils", spec := "recSpoils", apart := false }
def RecSpoilsSaid : Prop := recSpoilsRow.holds Try.pinned (OpenSpec.ofChange recSpoilsSpec)

/-- ITS FALSE NEIGHBOUR: 'it returns false'. Refute it at one input. -/
def recSpoilsWrong : ChangeSpec := { name := "recSpoils", fn := fun _ => fun
  | [d1, d2, d3, d4] => { results := [.lit (.bool false)], args := [d1, d2, d3, d4] }
  | _ => none }
def RecSpoilsWrongFalsely : Prop := recSpoilsRow.holds Try.pinned (OpenSpec.ofChange recSpoilsWrong)

/-- 'cellaretlaw4.RecLists': WHATEVER THE INPUT: true; the input reads as it did. -/
def recListsSpec : ChangeSpec := { name := "recLists", fn := fun _ => fun
  | [d1, d2] => { results := [.lit (.bool true)], args := [d1, d2] }
  | _ => none }
def recListsRow : OpenClaim := { program := "ytlmfdibncpbmjaa", sum := "3726d44af73126689a61fecefd0ce355f940768d21a898b164972a2bc4d6f57f", func := "cellaret/cellaretlaw4.RecLists", spec := "recLists", apart := false }
def RecListsSaid : Prop := recListsRow.holds Try.pinned (OpenSpec.ofChange recListsSpec)

/-- ITS FALSE NEIGHBOUR: 'it returns false'. Refute it at one input. -/
def recListsWrong : ChangeSpec := { name := "recLists", fn := fun _ => fun
  | [d1, d2] => { results := [.lit (.bool false)], args := [d1, d2] }
  | _ => none }
def RecListsWrongFalsely : Prop := recListsRow.holds Try.pinned (OpenSpec.ofChange recListsWrong)

/-- 'cellaretlaw4.RecApart': WHATEVER THE INPUT: true; the input reads as it did. -/
def recApartSpec : ChangeSpec := { name := "recApart", fn := fun _ => fun
  | [d1, d2] => { results := [.lit (.bool true)], args := [d1, d2] }
  | _ => none }
def recApartRow : OpenClaim := { program := "ytlmfdibncpbmjaa", sum := "3726d44af73126689a61fecefd0ce355f940768d21a898b164972a2bc4d6f57f", func := "cellaret/cellaretlaw4.RecApart", spec := "recApart", apart := false }
def RecApartSaid : Prop := recApartRow.holds Try.pinned (OpenSpec.ofChange recApartSpec)

/-- ITS FALSE NEIGHBOUR: 'it returns false'. Refute it at one input. -/
def recApartWrong : ChangeSpec := { name := "recApart", fn := fun _ => fun
  | [d1, d2] => { results := [.lit (.bool false)], args := [d1, d2] }
  | _ => none }
def RecApartWrongFalsely : Prop := recApartRow.holds Try.pinned (OpenSpec.ofChange recApartWrong)

/- THE SECOND FORM. 'bulk': how many values and letters a reading holds, each counted each time it is reached (what is shared counts as often as it is met; a slice's spare places count too). A statement '..UptoSaid' is the law's where the arguments, and the package variables that the reading takes, are together of bulk at most 1048576: NARROWER than '..Said'. Prove '..Said' where nothing that the law and all that it calls make is longer than what came in: it says more and counts as full. Else prove '..UptoSaid'. A law counts once. -/
mutual
def uptoBulk {H : Type} : DataW H → Nat
  | .lit (.string bytes) => bytes.length + 1
  | .lit _ => 1
  | .nil => 1
  | .ptr d => uptoBulk d + 1
  | .slice elems spare => uptoBulkAll elems + uptoBulkAll spare + 1
  | .agg parts => uptoBulkAll parts + 1
  | .iface _ d => uptoBulk d + 1
  | .map entries => uptoBulkEntries entries + 1
  | .held _ => 1
def uptoBulkAll {H : Type} : List (DataW H) → Nat
  | [] => 0
  | d :: r => uptoBulk d + uptoBulkAll r
def uptoBulkEntries {H : Type} : List (Lit × DataW H) → Nat
  | [] => 0
  | x :: r => uptoBulkEntry x + uptoBulkEntries r
def uptoBulkEntry {H : Type} : Lit × DataW H → Nat
  | (.string bytes, d) => bytes.length + uptoBulk d + 1
  | (_, d) => uptoBulk d + 1
 end
def uptoSmall : (H : Type) → List (DataW H) → Bool := fun _ ds => decide (uptoBulkAll ds ≤ 1048576)
def OpenSpec.upto (s : _root_.Go.ChangeSpec) : _root_.Go.OpenSpec := { _root_.Go.OpenSpec.ofChange s with cond := some uptoSmall }

/-- 'cellaretlaw4.RecKnown', WHERE WHAT IT READS IS OF BULK AT MOST 1048576: true; the input reads as it did. -/
def recKnownUptoRow : OpenClaim := { program := "ytlmfdibncpbmjaa", sum := "3726d44af73126689a61fecefd0ce355f940768d21a898b164972a2bc4d6f57f", func := "cellaret/cellaretlaw4.RecKnown", spec := "recKnown", apart := false, narrowed := true }
def RecKnownUptoSaid : Prop := recKnownUptoRow.holds Try.pinned (OpenSpec.upto recKnownSpec)

/-- 'cellaretlaw4.RecPuts', WHERE WHAT IT READS IS OF BULK AT MOST 1048576: true; the input reads as it did. -/
def recPutsUptoRow : OpenClaim := { program := "ytlmfdibncpbmjaa", sum := "3726d44af73126689a61fecefd0ce355f940768d21a898b164972a2bc4d6f57f", func := "cellaret/cellaretlaw4.RecPuts", spec := "recPuts", apart := false, narrowed := true }
def RecPutsUptoSaid : Prop := recPutsUptoRow.holds Try.pinned (OpenSpec.upto recPutsSpec)

/-- 'cellaretlaw4.RecTakes', WHERE WHAT IT READS IS OF BULK AT MOST 1048576: true; the input reads as it did. -/
def recTakesUptoRow : OpenClaim := { program := "ytlmfdibncpbmjaa", sum := "3726d44af73126689a61fecefd0ce355f940768d21a898b164972a2bc4d6f57f", func := "cellaret/cellaretlaw4.RecTakes", spec := "recTakes", apart := false, narrowed := true }
def RecTakesUptoSaid : Prop := recTakesUptoRow.holds Try.pinned (OpenSpec.upto recTakesSpec)

/-- 'cellaretlaw4.RecSpoils', WHERE WHAT IT READS IS OF BULK AT MOST 1048576: true; the input reads as it did. -/
def recSpoilsUptoRow : OpenClaim := { program := "ytlmfdibncpbmjaa", sum := "3726d44af73126689a61fecefd0ce355f940768d21a898b164972a2bc4d6f57f", func := "cellaret/cellaretlaw4.RecSpoils", spec := "recSpoils", apart := false, narrowed := true }
def RecSpoilsUptoSaid : Prop := recSpoilsUptoRow.holds Try.pinned (OpenSpec.upto recSpoilsSpec)

/-- 'cellaretlaw4.RecLists', WHERE WHAT IT READS IS OF BULK AT MOST 1048576: true; the input reads as it did. -/
def recListsUptoRow : OpenClaim := { program := "ytlmfdibncpbmjaa", sum := "3726d44af73126689a61fecefd0ce355f940768d21a898b164972a2bc4d6f57f", func := "cellaret/cellaretlaw4.RecLists", spec := "recLists", apart := false, narrowed := true }
def RecListsUptoSaid : Prop := recListsUptoRow.holds Try.pinned (OpenSpec.upto recListsSpec)

/-- 'cellaretlaw4.RecApart', WHERE WHAT IT READS IS OF BULK AT MOST 1048576: true; the input reads as it did. -/
def recApartUptoRow : OpenClaim := { program := "ytlmfdibncpbmjaa", sum := "3726d44af73126689a61fecefd0ce355f940768d21a898b164972a2bc4d6f57f", func := "cellaret/cellaretlaw4.RecApart", spec := "recApart", apart := false, narrowed := true }
def RecApartUptoSaid : Prop := recApartUptoRow.holds Try.pinned (OpenSpec.upto recApartSpec)

end Rows
end Go.Proofs.Ytlmfdibncpbmjaa
