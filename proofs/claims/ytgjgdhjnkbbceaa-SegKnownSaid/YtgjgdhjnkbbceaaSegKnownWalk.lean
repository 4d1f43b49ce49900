/-
  SegKnown answers true: what chapter 13 says of none.
-/
import Derived.WalkKit
import Derived.Below
import Derived.Test.YtgjgdhjnkbbceaaAwake
namespace Go.Proofs.Ytgjgdhjnkbbceaa.segKnown
open Go.RowKit Go.Deep Sgm
set_option linter.unusedVariables false
set_option linter.unusedSimpArgs false

set_option maxRecDepth 8000 in
set_option maxHeartbeats 40000000 in
theorem walk  (w : World)  :
    Calls Try.prog 3 #[] w fun e w' => e = .returned (.bool true) ∧ Below w.heap.size w w' := by
  have c0 := hide (awake_any w)
  go_enter Try.func3, Try.ntmps3
  go_wp2_with fail
  refine c0.out.mono ?_
  rintro e w1 ⟨rfl, B1⟩
  have cN := hide (new_l B1)
  clear c0 B1
  go_wp2_with fail
  refine cN.out.mono ?_
  rintro e w2 ⟨f, rfl, h2, _⟩
  have c2 : Hid (Calls Try.prog 11 #[.pointer (some ⟨f, 0, none⟩)] w2 fun e W' => e = .returned (.tuple #[.int .i64 0, .bool false]) ∧ SL w f St0 W' ∧ OffT w2 W') := evict_l h2 (by decide)
  clear cN h2
  go_wp2_with fail
  refine c2.out.mono ?_
  rintro e w3 ⟨rfl, h3, _⟩
  have c3 : Hid (Calls Try.prog 12 #[.pointer (some ⟨f, 0, none⟩), .int .i64 1] w3 fun e W' => e = .returned (.bool false) ∧ SL w f St0 W' ∧ OffT w3 W') := touch_l h3 (i := 1) (i64_small (by decide))
  clear c2 h3
  go_wp2_with fail
  refine c3.out.mono ?_
  rintro e w4 ⟨rfl, h4, _⟩
  have c4 : Hid (Calls Try.prog 13 #[.pointer (some ⟨f, 0, none⟩), .int .i64 1] w4 fun e W' => e = .returned (.bool false) ∧ SL w f St0 W' ∧ OffT w4 W') := remove_l h4 (i := 1) (i64_small (by decide)) (by decide)
  clear c3 h4
  go_wp2_with fail
  refine c4.out.mono ?_
  rintro e w5 ⟨rfl, h5, _⟩
  have c5 : Hid (Calls Try.prog 14 #[.pointer (some ⟨f, 0, none⟩)] w5 fun e W' => e = .returned (.int .i64 0) ∧ W' = w5) := len_l h5
  have c6 := hide (add_l h5 (i := 1) (i64_small (by decide)) (by decide))
  rw [a1, show (!St0.has 1) = true from rfl] at c6
  clear c4 h5
  go_wp2_with fail
  refine c5.out.mono ?_
  rintro e wx ⟨rfl, hx⟩
  obtain rfl : w5 = wx := hx.symm
  clear hx c5
  go_wp2_with fail
  refine c6.out.mono ?_
  rintro e w6 ⟨rfl, h6, _⟩
  have c7 := hide (add_l h6 (i := 1) (i64_small (by decide)) (by decide))
  rw [show (!St.has ⟨[(1, false)], [], []⟩ 1) = false from rfl] at c7
  clear c6 h6
  go_wp2_with fail
  refine c7.out.mono ?_
  rintro e w7 ⟨rfl, h7, _⟩
  have HB := hide h7.bel
  clear c7 h7
  go_wp2
  go_ret
  exact ⟨rfl, HB.out⟩
end Go.Proofs.Ytgjgdhjnkbbceaa.segKnown
