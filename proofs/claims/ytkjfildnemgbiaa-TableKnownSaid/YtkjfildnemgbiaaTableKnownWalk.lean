/-
  TableKnown answers true: what chapter 12 says of its bounds.
-/
import Derived.WalkKit
import Derived.Below
import Derived.Test.YtkjfildnemgbiaaAwake
namespace Go.Proofs.Ytkjfildnemgbiaa.tableKnown
open Go.RowKit Go.Deep Go.Shelf Math Tab Go.Sort
set_option linter.unusedVariables false
set_option linter.unusedSimpArgs false

set_option maxRecDepth 8000 in
set_option maxHeartbeats 40000000 in
theorem walk  (w : World)  :
    Calls Try.prog 3 #[] w fun e w' => e = .returned (.bool true) ∧ Below w.heap.size w w' := by
  have c0 := hide (awake_any w)
  go_enter Try.func3, Try.ntmps3
  go_wp2_with fail
  refine c0.out.mono ?_
  rintro e w1 ⟨rfl, B1⟩
  have c1 : Hid (Calls Try.prog 10 #[.int .i64 3] w1 fun e w' => e = .returned (.tuple #[.pointer none, .int .i64 1]) ∧ w' = w1) := new_bad 3 w1 rfl
  have c2 : Hid (Calls Try.prog 10 #[.int .i64 2048] w1 fun e w' => e = .returned (.tuple #[.pointer none, .int .i64 1]) ∧ w' = w1) := new_bad 2048 w1 rfl
  have c3 : Hid (Calls Try.prog 10 #[.int .i64 0] w1 fun e w' => e = .returned (.tuple #[.pointer none, .int .i64 1]) ∧ w' = w1) := new_bad 0 w1 rfl
  have c4 : Hid (Calls Try.prog 10 #[.int .i64 4] w1 fun e W' => ∃ f, e = .returned (.tuple #[.pointer (some ⟨f, 0, none⟩), .int .i64 0]) ∧ TL w f (Tb.mk0 4) W') := new_l B1 4 rfl
  clear c0 B1
  go_wp2_with fail
  refine c1.out.mono ?_
  rintro e wx ⟨rfl, hx⟩
  obtain rfl : w1 = wx := hx.symm
  clear hx c1
  go_wp2_with fail
  refine c2.out.mono ?_
  rintro e wx ⟨rfl, hx⟩
  obtain rfl : w1 = wx := hx.symm
  clear hx c2
  go_wp2_with fail
  refine c3.out.mono ?_
  rintro e wx ⟨rfl, hx⟩
  obtain rfl : w1 = wx := hx.symm
  clear hx c3
  go_wp2_with fail
  refine c4.out.mono ?_
  rintro e w2 ⟨f, rfl, h2⟩
  have c5 : Hid (Calls Try.prog 11 #[.pointer (some ⟨f, 0, none⟩), .string ⟨#[97]⟩] w2 fun e W' => e = .returned (.tuple #[.int .i64 0, .bool false]) ∧ TL w f (Tb.mk0 4) W') := by
    have := get_l h2 [97] (by decide)
    rw [mk0_all] at this
    exact this
  clear c4 h2
  go_wp2_with fail
  refine c5.out.mono ?_
  rintro e w3 ⟨rfl, h3⟩
  have cC : Hid (∀ W, TL w f (Tb.mk0 4) W → ∀ i : Int, Calls Try.prog 12 #[.pointer (some ⟨f, 0, none⟩), .int .i64 i] W fun e W' => ∃ va vc, e = .returned (.slice va (chK (Tb.mk0 4) i).length vc) ∧ TL w f (Tb.mk0 4) W') := fun W hW i => by
    refine (chain_l hW i (by rw [mk0_all]; simp)).mono ?_
    rintro e W' ⟨va, vc, rfl, _, h⟩
    exact ⟨va, vc, rfl, h⟩
  have c6 : Hid (Calls Try.prog 12 #[.pointer (some ⟨f, 0, none⟩), .int .i64 4] w3 fun e W' => ∃ va vc, e = .returned (.slice va 0 vc) ∧ TL w f (Tb.mk0 4) W') := cC.out w3 h3 4
  have c7 : Hid (∀ W, TL w f (Tb.mk0 4) W → Calls Try.prog 12 #[.pointer (some ⟨f, 0, none⟩), .int .i64 (-1)] W fun e W' => ∃ va vc, e = .returned (.slice va 0 vc) ∧ TL w f (Tb.mk0 4) W') := fun W hW => cC.out W hW (-1)
  have c8 : Hid (∀ W, TL w f (Tb.mk0 4) W → Calls Try.prog 13 #[.pointer (some ⟨f, 0, none⟩)] W fun e W' => ∃ g cap, e = .returned (.slice (some ⟨g, 0, none⟩) 0 cap) ∧ Below w.heap.size w W') := fun W hW => by
    refine (keys_l hW (by rw [mk0_all]; simp)).mono ?_
    rintro e W' ⟨g, cap, rfl, _, h⟩
    exact ⟨g, cap, by rw [mk0_all]; rfl, h.bel⟩
  clear c5 h3 cC
  go_wp2_with fail
  refine c6.out.mono ?_
  rintro e w4 ⟨va, vc, rfl, h4⟩
  have c7' := hide (c7.out w4 h4)
  clear c6 c7 h4
  go_wp2_with fail
  refine c7'.out.mono ?_
  rintro e w5 ⟨va1, vc1, rfl, h5⟩
  have c8' := hide (c8.out w5 h5)
  clear c7' c8 h5
  go_wp2_with fail
  refine c8'.out.mono ?_
  rintro e w6 ⟨g, cap, rfl, B6⟩
  have B := hide B6
  clear c8' B6
  go_wp2
  go_ret
  exact ⟨rfl, B.out⟩
end Go.Proofs.Ytkjfildnemgbiaa.tableKnown
