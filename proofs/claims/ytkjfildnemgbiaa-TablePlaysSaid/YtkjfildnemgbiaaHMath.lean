/-
  The hash (FNV-1a) over the model's integers; nothing here speaks of a program.
-/
import Derived.Laws.BitsAllLaws
namespace Go.Proofs.Ytkjfildnemgbiaa.Math

/-- One byte into the hash. -/
def turn1 (h x : Int) : Int := IntKind.u64.wrap (bits .xor .u64 h x * 1099511628211)
def hash (h : Int) (l : List UInt8) : Int := l.foldl (fun h x => turn1 h (x.toNat : Int)) h
theorem hash_append (h : Int) (l m : List UInt8) : hash h (l ++ m) = hash (hash h l) m := by unfold hash; rw [List.foldl_append]
theorem hash_snoc (h : Int) (l : List UInt8) (x : UInt8) : hash h (l ++ [x]) = turn1 (hash h l) (x.toNat : Int) := by rw [hash_append]; rfl
def offset : Int := 14695981039346656037
def second0 : Int := turn1 1099511628211 0
theorem turn1_nonneg (h x : Int) : 0 ≤ turn1 h x := by unfold turn1; rw [IntKind.wrap_u64]; omega
theorem turn1_lt (h x : Int) : turn1 h x < 18446744073709551616 := by unfold turn1; rw [IntKind.wrap_u64]; omega
theorem hash_range (h : Int) (l : List UInt8) (h0 : 0 ≤ h) (h1 : h < 18446744073709551616) : 0 ≤ hash h l ∧ hash h l < 18446744073709551616 := by
  induction l generalizing h with
  | nil => exact ⟨h0, h1⟩
  | cons x xs ih => exact ih _ (turn1_nonneg _ _) (turn1_lt _ _)
theorem offset_range : 0 ≤ offset ∧ offset < 18446744073709551616 := by unfold offset; omega
theorem second0_range : 0 ≤ second0 ∧ second0 < 18446744073709551616 := ⟨turn1_nonneg _ _, turn1_lt _ _⟩
theorem hash_second (l : List UInt8) : hash 1099511628211 (0 :: l) = hash second0 l := rfl
end Go.Proofs.Ytkjfildnemgbiaa.Math
