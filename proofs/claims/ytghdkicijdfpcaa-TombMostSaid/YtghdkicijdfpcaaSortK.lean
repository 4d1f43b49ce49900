/- The numbers that break patterns. -/
import Derived.Test.YtghdkicijdfpcaaSortJ
import Derived.Laws.Bits64
set_option linter.unusedVariables false
set_option linter.unusedSimpArgs false
set_option maxRecDepth 8000
namespace Go.Proofs.Ytghdkicijdfpcaa
open Go.RowKit Go.Deep Go.Sort

set_option maxHeartbeats 1000000 in
theorem len_small (n : Nat) (hn : n < 32) (w : World) : Calls Try.prog 64 #[.int .u64 (n : Int)] w fun e w' => e = .returned (.int .i64 (bitsLen n : Nat)) ∧ w' = w := by
  have c := hide' (len64_small n hn)
  have hb : bitsLen n ≤ 5 := by
    have : ∀ m : Fin 32, bitsLen m.val ≤ 5 := by decide
    exact this ⟨n, hn⟩
  have HB := hide' hb
  clear hb
  go_enter Try.func64, Try.ntmps64
  go_wp2_with fail
  refine (c.out _).mono ?_
  rintro e w1 ⟨rfl, h1⟩
  obtain rfl : w = w1 := h1.symm
  clear h1
  go_wp2
  go_ret
  exact ⟨rfl, rfl⟩
set_option maxHeartbeats 1000000 in
theorem pow_small (n : Nat) (hn : n < 32) (w : World) : Calls Try.prog 84 #[.int .i64 (n : Int)] w fun e w' => e = .returned (.int .u64 ((1 <<< bitsLen n : Nat) : Int)) ∧ w' = w := by
  have c := hide' (len_small n hn)
  have hb : ∃ k, k ≤ 5 ∧ bitsLen n = k := by
    have : ∀ m : Fin 32, bitsLen m.val ≤ 5 := by decide
    exact ⟨_, this ⟨n, hn⟩, rfl⟩
  obtain ⟨k, hk, e⟩ := hb
  rw [e] at c ⊢
  clear e
  match k, hk with
  | 0, _ | 1, _ | 2, _ | 3, _ | 4, _ | 5, _ =>
    go_enter Try.func84, Try.ntmps84
    go_wp2_with fail
    refine (c.out _).mono ?_
    rintro e w1 ⟨rfl, h1⟩
    obtain rfl : w = w1 := h1.symm
    clear h1
    go_wp2
    go_ret
    exact ⟨by kernel_rfl, rfl⟩
set_option maxHeartbeats 4000000 in
theorem next_any (q x : Nat) (hx : x < 18446744073709551616) (w : World) (hq : Blk w q [.int .u64 (x : Int)] 137) :
    Calls Try.prog 85 #[.pointer (some ⟨q, 0, none⟩)] w fun e w' => e = .returned (.int .u64 (xorNextN x : Nat)) ∧ Blk w' q [.int .u64 (xorNextN x : Nat)] 137 ∧ Keep [q] w w' := by
  have y := hq.cell (i := 0) rfl
  have z := hq.frozen 0
  obtain ⟨m1, hm1⟩ : ∃ m, m = x * 8192 % 18446744073709551616 := ⟨_, rfl⟩
  have w1 : IntKind.u64.wrap ((x : Int) * 8192) = (m1 : Int) := by rw [IntKind.wrap_u64]; omega
  obtain ⟨A, hA⟩ : ∃ A, A = x ^^^ m1 := ⟨_, rfl⟩
  have p : (18446744073709551616 : Nat) = 2 ^ 64 := by decide
  have v1 : bits .xor .u64 (x : Int) (m1 : Int) = (A : Int) := by rw [bits_xor_u64_nat _ _ hx (by omega), hA]
  have hAl : A < 18446744073709551616 := by rw [hA, p]; exact Nat.xor_lt_two_pow (by omega) (by omega)
  obtain ⟨m2, hm2⟩ : ∃ m, m = A / 128 := ⟨_, rfl⟩
  have w2 : (A : Int) / 128 = (m2 : Int) := by omega
  obtain ⟨B, hB⟩ : ∃ B, B = A ^^^ m2 := ⟨_, rfl⟩
  have v2 : bits .xor .u64 (A : Int) (m2 : Int) = (B : Int) := by rw [bits_xor_u64_nat _ _ hAl (by omega), hB]
  have hBl : B < 18446744073709551616 := by rw [hB, p]; exact Nat.xor_lt_two_pow (by omega) (by omega)
  obtain ⟨m3, hm3⟩ : ∃ m, m = B * 131072 % 18446744073709551616 := ⟨_, rfl⟩
  have w3 : IntKind.u64.wrap ((B : Int) * 131072) = (m3 : Int) := by rw [IntKind.wrap_u64]; omega
  have hC : xorNextN x = B ^^^ m3 := by unfold xorNextN; simp only [hm3, hB, hm2, hA, hm1]
  have v3 : bits .xor .u64 (B : Int) (m3 : Int) = ((xorNextN x : Nat) : Int) := by rw [bits_xor_u64_nat _ _ hBl (by omega), hC]
  have HQ := hide' hq
  clear hm1 hA hm2 hB hm3 hC p hx hAl hBl hq
  generalize xorNextN x = C at *
  have y3 : (((w.setCell ⟨q, 0, none⟩ (.int .u64 (A : Int))).setCell ⟨q, 0, none⟩ (.int .u64 (B : Int))).setCell ⟨q, 0, none⟩ (.int .u64 (C : Int))).cell? ⟨q, 0, none⟩ = some (.int .u64 (C : Int)) := (((HQ.out.set 0 (.int .u64 (A : Int))).set 0 (.int .u64 (B : Int))).set 0 (.int .u64 (C : Int))).cell (i := 0) rfl
  go_enter Try.func85, Try.ntmps85
  go_wp2_with fail
  go_region
  all_goals go_wp2_with fail
  go_region
  all_goals go_wp2_with fail
  go_region
  all_goals go_wp2
  go_ret
  refine ⟨rfl, ?_, ⟨rfl, rfl, rfl, ?_, fun k hk hn => ?_⟩⟩
  · exact (((HQ.out.set 0 (.int .u64 (A : Int))).set 0 (.int .u64 (B : Int))).set 0 (.int .u64 (C : Int))).same rfl
  · show w.heap.size ≤ (((w.setCell ⟨q, 0, none⟩ (.int .u64 (A : Int))).setCell ⟨q, 0, none⟩ (.int .u64 (B : Int))).setCell ⟨q, 0, none⟩ (.int .u64 (C : Int))).heap.size
    simp
  · have hk' : k ≠ q := by simpa using hn
    show (((w.setCell ⟨q, 0, none⟩ (.int .u64 (A : Int))).setCell ⟨q, 0, none⟩ (.int .u64 (B : Int))).setCell ⟨q, 0, none⟩ (.int .u64 (C : Int))).heap[k]? = _
    rw [blk_setCell_other _ _ _ _ hk', blk_setCell_other _ _ _ _ hk', blk_setCell_other _ _ _ _ hk']
end Go.Proofs.Ytghdkicijdfpcaa
