/-
  The chapter's bounds answer as told: proof of the law 'BloomKnown'. No conditions.
-/
import Derived.WalkKit
import Derived.Below
import Derived.Test.YtipgfkcfbiofdaaAwake
namespace Go.Proofs.Ytipgfkcfbiofdaa.bloomKnown
open Go.RowKit Go.Deep
set_option linter.unusedVariables false
set_option linter.unusedSimpArgs false

set_option maxRecDepth 4000 in
set_option maxHeartbeats 4000000 in
theorem walk  (w : World)  :
    Calls Try.prog 3 #[] w fun e w' => e = .returned (.bool true) ∧ Below w.heap.size w w' := by
  have ca := hide (awake_any w)
  have c1 := hide (fun W : World => new_bad 7 1 W (by omega))
  have c2 := hide (fun W : World => new_bad 65537 1 W (by omega))
  have c3 := hide (fun W : World => new_bad 8 0 W (by omega))
  have c4 := hide (fun W : World => new_bad 8 9 W (by omega))
  go_enter Try.func3, Try.ntmps3
  go_wp2_with fail
  refine ca.out.mono ?_
  rintro r w1 ⟨rfl, h1⟩
  have B1 := hide h1
  clear h1 ca
  go_wp2_with fail
  refine (c1.out _).mono ?_
  rintro r w2 ⟨rfl, h⟩
  obtain rfl : w1 = w2 := h.symm
  clear h c1
  go_wp2_with fail
  refine (c2.out _).mono ?_
  rintro r w2 ⟨rfl, h⟩
  obtain rfl : w1 = w2 := h.symm
  clear h c2
  go_wp2_with fail
  refine (c3.out _).mono ?_
  rintro r w2 ⟨rfl, h⟩
  obtain rfl : w1 = w2 := h.symm
  clear h c3
  go_wp2_with fail
  refine (c4.out _).mono ?_
  rintro r w2 ⟨rfl, h⟩
  obtain rfl : w1 = w2 := h.symm
  clear h c4
  go_wp2
  go_ret
  exact ⟨rfl, B1.out⟩
end Go.Proofs.Ytipgfkcfbiofdaa.bloomKnown
