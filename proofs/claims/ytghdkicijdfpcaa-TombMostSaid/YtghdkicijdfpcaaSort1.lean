/- Sort of at most one key; Sorted; Marks of a journal with at most one key. -/
import Derived.Test.YtghdkicijdfpcaaKeys
import Derived.Deep.LoopGhost
set_option linter.unusedVariables false
set_option linter.unusedSimpArgs false
set_option maxRecDepth 8000
namespace Go.Proofs.Ytghdkicijdfpcaa
open Go.RowKit Go.Deep

set_option maxHeartbeats 1000000 in
theorem len64_0 (w : World) : Calls Try.prog 79 #[.int .u64 0] w fun e w' => (∃ k, e = .returned (.int .i64 k)) ∧ w' = w := by
  go_enter Try.func79, Try.ntmps79
  go_wp2
  go_ret
  exact ⟨⟨_, rfl⟩, rfl⟩
set_option maxHeartbeats 1000000 in
theorem len64_1 (w : World) : Calls Try.prog 79 #[.int .u64 1] w fun e w' => (∃ k, e = .returned (.int .i64 k)) ∧ w' = w := by
  go_enter Try.func79, Try.ntmps79
  go_wp2
  go_ret
  exact ⟨⟨_, rfl⟩, rfl⟩
set_option maxHeartbeats 1000000 in
theorem len_0 (w : World) : Calls Try.prog 64 #[.int .u64 0] w fun e w' => (∃ k, e = .returned (.int .i64 k)) ∧ w' = w := by
  go_enter Try.func64, Try.ntmps64
  go_wp2_with (go_at_call 79; refine (len64_0 _).mono ?_; rintro e w' ⟨⟨k, rfl⟩, rfl⟩)
  go_ret
  exact ⟨⟨_, rfl⟩, rfl⟩
set_option maxHeartbeats 1000000 in
theorem len_1 (w : World) : Calls Try.prog 64 #[.int .u64 1] w fun e w' => (∃ k, e = .returned (.int .i64 k)) ∧ w' = w := by
  go_enter Try.func64, Try.ntmps64
  go_wp2_with (go_at_call 79; refine (len64_1 _).mono ?_; rintro e w' ⟨⟨k, rfl⟩, rfl⟩)
  go_ret
  exact ⟨⟨_, rfl⟩, rfl⟩
set_option maxHeartbeats 1000000 in
theorem ins_0 (a : Option Addr) (n c : Nat) (w : World) : Calls Try.prog 69 #[.slice a n c, .int .i64 0, .int .i64 0] w fun e w' => e = .returned (.tuple #[]) ∧ w' = w := by
  go_enter Try.func69, Try.ntmps69
  go_wp2
  go_loop [6] (fun i => i = .int .i64 1) (fun _ => 0)
  case atStart => rfl
  case round =>
    subst hrel
    go_wp2
    go_end0
    exact ⟨rfl, rfl⟩
set_option maxHeartbeats 1000000 in
theorem ins_1 (a : Option Addr) (n c : Nat) (w : World) : Calls Try.prog 69 #[.slice a n c, .int .i64 0, .int .i64 1] w fun e w' => e = .returned (.tuple #[]) ∧ w' = w := by
  go_enter Try.func69, Try.ntmps69
  go_wp2
  go_loop [6] (fun i => i = .int .i64 1) (fun _ => 0)
  case atStart => rfl
  case round =>
    subst hrel
    go_wp2
    go_end0
    exact ⟨rfl, rfl⟩
set_option maxHeartbeats 2000000 in
theorem pdq_0 (a : Option Addr) (n c : Nat) (k : Int) (w : World) : Calls Try.prog 63 #[.slice a n c, .int .i64 0, .int .i64 0, .int .i64 k] w fun e w' => e = .returned (.tuple #[]) ∧ w' = w := by
  have ci := hide' (ins_0 a n c w)
  go_enter Try.func63, Try.ntmps63
  go_wp2_with fail
  go_loopg [1, 2, 3, 8, 9] 1 (fun kx s1 s2 s3 s8 s9 wr => s1 = .int .i64 0 ∧ s2 = .int .i64 0 ∧ s3 = .int .i64 k ∧ s8 = .bool true ∧ s9 = .bool true ∧ Hid (wr = w))
  case atStart => exact ⟨rfl, rfl, rfl, rfl, rfl, rfl⟩
  case round =>
    obtain ⟨rfl, rfl, rfl, rfl, rfl, e⟩ := hrel
    obtain rfl : wr = w := e.out
    go_wp2_with fail
    refine ci.out.mono ?_
    rintro r w1 ⟨rfl, rfl⟩
    go_wp2
    refine bodyPost_ret (results_none rfl _ _ _) rfl ?_
    exact ⟨rfl, rfl⟩
set_option maxHeartbeats 2000000 in
theorem pdq_1 (a : Option Addr) (n c : Nat) (k : Int) (w : World) : Calls Try.prog 63 #[.slice a n c, .int .i64 0, .int .i64 1, .int .i64 k] w fun e w' => e = .returned (.tuple #[]) ∧ w' = w := by
  have ci := hide' (ins_1 a n c w)
  go_enter Try.func63, Try.ntmps63
  go_wp2_with fail
  go_loopg [1, 2, 3, 8, 9] 1 (fun kx s1 s2 s3 s8 s9 wr => s1 = .int .i64 0 ∧ s2 = .int .i64 1 ∧ s3 = .int .i64 k ∧ s8 = .bool true ∧ s9 = .bool true ∧ Hid (wr = w))
  case atStart => exact ⟨rfl, rfl, rfl, rfl, rfl, rfl⟩
  case round =>
    obtain ⟨rfl, rfl, rfl, rfl, rfl, e⟩ := hrel
    obtain rfl : wr = w := e.out
    go_wp2_with fail
    refine ci.out.mono ?_
    rintro r w1 ⟨rfl, rfl⟩
    go_wp2
    refine bodyPost_ret (results_none rfl _ _ _) rfl ?_
    exact ⟨rfl, rfl⟩
set_option maxHeartbeats 1000000 in
theorem sort_0 (a : Option Addr) (c : Nat) (w : World) : Calls Try.prog 54 #[.slice a 0 c] w fun e w' => e = .returned (.tuple #[]) ∧ w' = w := by
  have cp := hide' (fun k => pdq_0 a 0 c k w)
  go_enter Try.func54, Try.ntmps54
  go_wp2_with fail
  refine (len_0 _).mono ?_
  rintro r w1 ⟨⟨k, rfl⟩, h1⟩
  obtain rfl : w = w1 := h1.symm
  clear h1
  go_wp2_with fail
  refine (cp.out k).mono ?_
  rintro r w1 ⟨rfl, rfl⟩
  go_wp2
  go_end0
  exact ⟨rfl, rfl⟩
set_option maxHeartbeats 1000000 in
theorem sort_1 (a : Option Addr) (c : Nat) (w : World) : Calls Try.prog 54 #[.slice a 1 c] w fun e w' => e = .returned (.tuple #[]) ∧ w' = w := by
  have cp := hide' (fun k => pdq_1 a 1 c k w)
  go_enter Try.func54, Try.ntmps54
  go_wp2_with fail
  refine (len_1 _).mono ?_
  rintro r w1 ⟨⟨k, rfl⟩, h1⟩
  obtain rfl : w = w1 := h1.symm
  clear h1
  go_wp2_with fail
  refine (cp.out k).mono ?_
  rintro r w1 ⟨rfl, rfl⟩
  go_wp2
  go_end0
  exact ⟨rfl, rfl⟩
end Go.Proofs.Ytghdkicijdfpcaa
