/- The length of a small number in bits; the numbers that break patterns. -/
import Derived.Test.YtghdkicijdfpcaaSortI
import Derived.Sort.LotD5
set_option linter.unusedVariables false
set_option linter.unusedSimpArgs false
set_option maxRecDepth 8000
namespace Go.Proofs.Ytghdkicijdfpcaa
open Go.RowKit Go.Deep Go.Sort

set_option maxHeartbeats 8000000 in
theorem len64_small (n : Nat) (hn : n < 32) (w : World) : Calls Try.prog 79 #[.int .u64 (n : Int)] w fun e w' => e = .returned (.int .i64 (bitsLen n : Nat)) ∧ w' = w := by
  have key : ∀ m : Nat, m < 32 → Calls Try.prog 79 #[.int .u64 (m : Int)] w fun e w' => e = .returned (.int .i64 (bitsLen m : Nat)) ∧ w' = w := by
    intro m hm
    match m, hm with
    | 0, _ =>
      show Calls Try.prog 79 #[.int .u64 0] w fun e w' => e = .returned (.int .i64 0) ∧ w' = w
      go_enter Try.func79, Try.ntmps79
      go_wp2
      go_ret
      exact ⟨by kernel_rfl, rfl⟩
    | 1, _ =>
      show Calls Try.prog 79 #[.int .u64 1] w fun e w' => e = .returned (.int .i64 1) ∧ w' = w
      go_enter Try.func79, Try.ntmps79
      go_wp2
      go_ret
      exact ⟨by kernel_rfl, rfl⟩
    | 2, _ =>
      show Calls Try.prog 79 #[.int .u64 2] w fun e w' => e = .returned (.int .i64 2) ∧ w' = w
      go_enter Try.func79, Try.ntmps79
      go_wp2
      go_ret
      exact ⟨by kernel_rfl, rfl⟩
    | 3, _ =>
      show Calls Try.prog 79 #[.int .u64 3] w fun e w' => e = .returned (.int .i64 2) ∧ w' = w
      go_enter Try.func79, Try.ntmps79
      go_wp2
      go_ret
      exact ⟨by kernel_rfl, rfl⟩
    | 4, _ =>
      show Calls Try.prog 79 #[.int .u64 4] w fun e w' => e = .returned (.int .i64 3) ∧ w' = w
      go_enter Try.func79, Try.ntmps79
      go_wp2
      go_ret
      exact ⟨by kernel_rfl, rfl⟩
    | 5, _ =>
      show Calls Try.prog 79 #[.int .u64 5] w fun e w' => e = .returned (.int .i64 3) ∧ w' = w
      go_enter Try.func79, Try.ntmps79
      go_wp2
      go_ret
      exact ⟨by kernel_rfl, rfl⟩
    | 6, _ =>
      show Calls Try.prog 79 #[.int .u64 6] w fun e w' => e = .returned (.int .i64 3) ∧ w' = w
      go_enter Try.func79, Try.ntmps79
      go_wp2
      go_ret
      exact ⟨by kernel_rfl, rfl⟩
    | 7, _ =>
      show Calls Try.prog 79 #[.int .u64 7] w fun e w' => e = .returned (.int .i64 3) ∧ w' = w
      go_enter Try.func79, Try.ntmps79
      go_wp2
      go_ret
      exact ⟨by kernel_rfl, rfl⟩
    | 8, _ =>
      show Calls Try.prog 79 #[.int .u64 8] w fun e w' => e = .returned (.int .i64 4) ∧ w' = w
      go_enter Try.func79, Try.ntmps79
      go_wp2
      go_ret
      exact ⟨by kernel_rfl, rfl⟩
    | 9, _ =>
      show Calls Try.prog 79 #[.int .u64 9] w fun e w' => e = .returned (.int .i64 4) ∧ w' = w
      go_enter Try.func79, Try.ntmps79
      go_wp2
      go_ret
      exact ⟨by kernel_rfl, rfl⟩
    | 10, _ =>
      show Calls Try.prog 79 #[.int .u64 10] w fun e w' => e = .returned (.int .i64 4) ∧ w' = w
      go_enter Try.func79, Try.ntmps79
      go_wp2
      go_ret
      exact ⟨by kernel_rfl, rfl⟩
    | 11, _ =>
      show Calls Try.prog 79 #[.int .u64 11] w fun e w' => e = .returned (.int .i64 4) ∧ w' = w
      go_enter Try.func79, Try.ntmps79
      go_wp2
      go_ret
      exact ⟨by kernel_rfl, rfl⟩
    | 12, _ =>
      show Calls Try.prog 79 #[.int .u64 12] w fun e w' => e = .returned (.int .i64 4) ∧ w' = w
      go_enter Try.func79, Try.ntmps79
      go_wp2
      go_ret
      exact ⟨by kernel_rfl, rfl⟩
    | 13, _ =>
      show Calls Try.prog 79 #[.int .u64 13] w fun e w' => e = .returned (.int .i64 4) ∧ w' = w
      go_enter Try.func79, Try.ntmps79
      go_wp2
      go_ret
      exact ⟨by kernel_rfl, rfl⟩
    | 14, _ =>
      show Calls Try.prog 79 #[.int .u64 14] w fun e w' => e = .returned (.int .i64 4) ∧ w' = w
      go_enter Try.func79, Try.ntmps79
      go_wp2
      go_ret
      exact ⟨by kernel_rfl, rfl⟩
    | 15, _ =>
      show Calls Try.prog 79 #[.int .u64 15] w fun e w' => e = .returned (.int .i64 4) ∧ w' = w
      go_enter Try.func79, Try.ntmps79
      go_wp2
      go_ret
      exact ⟨by kernel_rfl, rfl⟩
    | 16, _ =>
      show Calls Try.prog 79 #[.int .u64 16] w fun e w' => e = .returned (.int .i64 5) ∧ w' = w
      go_enter Try.func79, Try.ntmps79
      go_wp2
      go_ret
      exact ⟨by kernel_rfl, rfl⟩
    | 17, _ =>
      show Calls Try.prog 79 #[.int .u64 17] w fun e w' => e = .returned (.int .i64 5) ∧ w' = w
      go_enter Try.func79, Try.ntmps79
      go_wp2
      go_ret
      exact ⟨by kernel_rfl, rfl⟩
    | 18, _ =>
      show Calls Try.prog 79 #[.int .u64 18] w fun e w' => e = .returned (.int .i64 5) ∧ w' = w
      go_enter Try.func79, Try.ntmps79
      go_wp2
      go_ret
      exact ⟨by kernel_rfl, rfl⟩
    | 19, _ =>
      show Calls Try.prog 79 #[.int .u64 19] w fun e w' => e = .returned (.int .i64 5) ∧ w' = w
      go_enter Try.func79, Try.ntmps79
      go_wp2
      go_ret
      exact ⟨by kernel_rfl, rfl⟩
    | 20, _ =>
      show Calls Try.prog 79 #[.int .u64 20] w fun e w' => e = .returned (.int .i64 5) ∧ w' = w
      go_enter Try.func79, Try.ntmps79
      go_wp2
      go_ret
      exact ⟨by kernel_rfl, rfl⟩
    | 21, _ =>
      show Calls Try.prog 79 #[.int .u64 21] w fun e w' => e = .returned (.int .i64 5) ∧ w' = w
      go_enter Try.func79, Try.ntmps79
      go_wp2
      go_ret
      exact ⟨by kernel_rfl, rfl⟩
    | 22, _ =>
      show Calls Try.prog 79 #[.int .u64 22] w fun e w' => e = .returned (.int .i64 5) ∧ w' = w
      go_enter Try.func79, Try.ntmps79
      go_wp2
      go_ret
      exact ⟨by kernel_rfl, rfl⟩
    | 23, _ =>
      show Calls Try.prog 79 #[.int .u64 23] w fun e w' => e = .returned (.int .i64 5) ∧ w' = w
      go_enter Try.func79, Try.ntmps79
      go_wp2
      go_ret
      exact ⟨by kernel_rfl, rfl⟩
    | 24, _ =>
      show Calls Try.prog 79 #[.int .u64 24] w fun e w' => e = .returned (.int .i64 5) ∧ w' = w
      go_enter Try.func79, Try.ntmps79
      go_wp2
      go_ret
      exact ⟨by kernel_rfl, rfl⟩
    | 25, _ =>
      show Calls Try.prog 79 #[.int .u64 25] w fun e w' => e = .returned (.int .i64 5) ∧ w' = w
      go_enter Try.func79, Try.ntmps79
      go_wp2
      go_ret
      exact ⟨by kernel_rfl, rfl⟩
    | 26, _ =>
      show Calls Try.prog 79 #[.int .u64 26] w fun e w' => e = .returned (.int .i64 5) ∧ w' = w
      go_enter Try.func79, Try.ntmps79
      go_wp2
      go_ret
      exact ⟨by kernel_rfl, rfl⟩
    | 27, _ =>
      show Calls Try.prog 79 #[.int .u64 27] w fun e w' => e = .returned (.int .i64 5) ∧ w' = w
      go_enter Try.func79, Try.ntmps79
      go_wp2
      go_ret
      exact ⟨by kernel_rfl, rfl⟩
    | 28, _ =>
      show Calls Try.prog 79 #[.int .u64 28] w fun e w' => e = .returned (.int .i64 5) ∧ w' = w
      go_enter Try.func79, Try.ntmps79
      go_wp2
      go_ret
      exact ⟨by kernel_rfl, rfl⟩
    | 29, _ =>
      show Calls Try.prog 79 #[.int .u64 29] w fun e w' => e = .returned (.int .i64 5) ∧ w' = w
      go_enter Try.func79, Try.ntmps79
      go_wp2
      go_ret
      exact ⟨by kernel_rfl, rfl⟩
    | 30, _ =>
      show Calls Try.prog 79 #[.int .u64 30] w fun e w' => e = .returned (.int .i64 5) ∧ w' = w
      go_enter Try.func79, Try.ntmps79
      go_wp2
      go_ret
      exact ⟨by kernel_rfl, rfl⟩
    | 31, _ =>
      show Calls Try.prog 79 #[.int .u64 31] w fun e w' => e = .returned (.int .i64 5) ∧ w' = w
      go_enter Try.func79, Try.ntmps79
      go_wp2
      go_ret
      exact ⟨by kernel_rfl, rfl⟩
    | m + 32, h => exact absurd h (by omega)
  exact key n hn
end Go.Proofs.Ytghdkicijdfpcaa
