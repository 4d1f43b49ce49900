/-
  EventKnown holds for every input.
-/
import Derived.WalkKit
import Derived.Below
import Derived.Test.YtofjadgnkpcaeaaLaw
namespace Go.Proofs.Ytofjadgnkpcaeaa.eventKnown
open Go.RowKit Go.Deep Go.Shelf
set_option linter.unusedVariables false
set_option linter.unusedSimpArgs false

set_option maxRecDepth 8000 in
set_option maxHeartbeats 40000000 in
theorem walk  (w : World)  :
    Calls Try.prog 3 #[] w fun e w' => e = .returned (.bool true) ∧ Below w.heap.size w w' := by
  have B := Below.refl w.heap.size w
  go_enter Try.func3, Try.ntmps3
  go_wp2_with fail
  refine (awake_any w).mono ?_
  rintro e wj ⟨rfl, hj⟩
  replace B := B.trans (hj.mono B.size)
  clear hj
  go_wp2_with fail
  refine (name_is ⟨⟨#[119, 104, 97, 116]⟩, ⟨#[]⟩, [], ⟨#[]⟩, 0, 0, 0, 0, false, false, false, false⟩ ⟨#[]⟩ (by kernel_rfl) none 0 0 _ StrsAt.nil (by omega) (by decide)).mono ?_
  rintro e wj ⟨rfl, hj⟩
  replace B := B.trans (hj.mono B.size)
  clear hj
  go_wp2_with fail
  refine (name_is ⟨⟨#[98, 97, 100]⟩, ⟨#[]⟩, [], ⟨#[]⟩, 0, 0, 0, 0, false, false, false, false⟩ ⟨#[98, 97, 100]⟩ (by kernel_rfl) none 0 0 _ StrsAt.nil (by omega) (by decide)).mono ?_
  rintro e wj ⟨rfl, hj⟩
  replace B := B.trans (hj.mono B.size)
  clear hj
  go_wp2_with fail
  refine (name_is ⟨⟨#[103, 101, 116]⟩, ⟨#[]⟩, [], ⟨#[]⟩, 0, 0, 0, 0, false, true, false, false⟩ ⟨#[103, 97, 116]⟩ (by kernel_rfl) none 0 0 _ StrsAt.nil (by omega) (by decide)).mono ?_
  rintro e wj ⟨rfl, hj⟩
  replace B := B.trans (hj.mono B.size)
  clear hj
  go_wp2_with fail
  refine (name_is ⟨⟨#[97, 114, 105, 116, 104]⟩, ⟨#[]⟩, [], ⟨#[]⟩, 0, 0, 0, 0, false, false, true, false⟩ ⟨#[100, 101, 99, 114]⟩ (by kernel_rfl) none 0 0 _ StrsAt.nil (by omega) (by decide)).mono ?_
  rintro e wj ⟨rfl, hj⟩
  replace B := B.trans (hj.mono B.size)
  clear hj
  go_wp2_with fail
  refine (name_is ⟨⟨#[102, 108, 117, 115, 104]⟩, ⟨#[]⟩, [], ⟨#[]⟩, 0, 0, 0, 0, false, false, false, false⟩ ⟨#[102, 108, 117, 115, 104, 95, 97, 108, 108]⟩ (by kernel_rfl) none 0 0 _ StrsAt.nil (by omega) (by decide)).mono ?_
  rintro e wj ⟨rfl, hj⟩
  replace B := B.trans (hj.mono B.size)
  clear hj
  go_wp2_with fail
  refine (name_is ⟨⟨#[100, 101, 108, 101, 116, 101]⟩, ⟨#[]⟩, [], ⟨#[]⟩, 0, 0, 0, 0, false, false, false, false⟩ ⟨#[100, 101, 108, 101, 116, 101]⟩ (by kernel_rfl) none 0 0 _ StrsAt.nil (by omega) (by decide)).mono ?_
  rintro e wj ⟨rfl, hj⟩
  replace B := B.trans (hj.mono B.size)
  clear hj
  go_wp2_with fail
  refine (good_is ⟨⟨#[98, 97, 100]⟩, ⟨#[]⟩, [], ⟨#[]⟩, 0, 0, 0, 0, false, false, false, false⟩ false (by kernel_rfl) none 0 0 _ StrsAt.nil (by omega) (by decide)).mono ?_
  rintro e wj ⟨rfl, hj⟩
  replace B := B.trans (hj.mono B.size)
  clear hj
  have B1 := B.alloc B.size (.cells #[.string ⟨#[97]⟩] 9)
  go_wp2_with fail
  refine (keys_is ⟨⟨#[119, 111, 114, 100]⟩, ⟨#[]⟩, [⟨#[97]⟩], ⟨#[]⟩, 0, 0, 0, 0, false, false, false, false⟩ [] (by kernel_rfl) _ 1 1 _ (one_strs _ ⟨#[97]⟩ (by decide)) (by omega)).mono ?_
  rintro e wj ⟨a', c', rfl, ho, hj⟩
  replace B := B1.trans (hj.mono B1.size)
  clear hj ho B1
  go_wp2_with fail
  refine (quiet_is ⟨⟨#[103, 101, 116]⟩, ⟨#[]⟩, [], ⟨#[]⟩, 0, 0, 0, 0, false, false, false, true⟩ false (by kernel_rfl) none 0 0 _ StrsAt.nil (by omega)).mono ?_
  rintro e wj ⟨rfl, hj⟩
  replace B := B.trans (hj.mono B.size)
  clear hj
  go_wp2
  go_ret
  exact ⟨rfl, B⟩
end Go.Proofs.Ytofjadgnkpcaeaa.eventKnown
