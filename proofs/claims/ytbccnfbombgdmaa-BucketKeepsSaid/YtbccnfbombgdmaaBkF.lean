/- The items of the examples. -/
import Derived.Test.YtbccnfbombgdmaaBkE
set_option linter.unusedVariables false
set_option linter.unusedSimpArgs false
set_option maxRecDepth 8000
namespace Go.Proofs.Ytbccnfbombgdmaa
open Go.RowKit Go.Deep Math
variable {w0 W W' : World} {d s : Nat} {F F' : List Nat} {S S' : Dv} {L : Int} {first n : Nat} {M : SM} {f : Nat → List It} {bs : List (List Bool)} {G : List Nat}

def exI (k : UInt8) (v : Nat) : It := ⟨[k], [118], 0, 0, v⟩
theorem exI_ok (k : UInt8) (v : Nat) (h1 : 0 < v) (h2 : v < 18446744073709551616) : (exI k v).fits ∧ (exI k v).good = true ∧ (exI k v).size ≤ 120 := by
  refine ⟨⟨by simp [exI], by simp [exI], by simp [exI], h2⟩, ?_, by simp [exI, It.size]⟩
  rw [It.good_iff]
  exact ⟨by simp [exI], by simp [exI], by simp [exI], h1⟩
set_option maxHeartbeats 1000000 in
theorem it_any (kb : ByteArray) (v : Nat) (w : World) : Calls Try.prog 21 #[.string kb, .int .u64 (v : Int)] w fun e w' => e = .returned (.agg #[.string kb, .string ⟨#[118]⟩, .int .u32 0, .int .i64 0, .int .u64 (v : Int)]) ∧ w' = w.alloc (.cells #[.string kb, .string ⟨#[118]⟩, .int .u32 0, .int .i64 0, .int .u64 (v : Int)] 36) := by
  go_enter Try.func21, Try.ntmps21
  go_wp2
  exact bodyPost_ret (v := .agg #[.string kb, .string ⟨#[118]⟩, .int .u32 0, .int .i64 0, .int .u64 (v : Int)]) (by simp [results, Try.results21, go_sem]) rfl ⟨rfl, rfl⟩
theorem bkt_one (key : List UInt8) : bkt key 1 = 0 := by
  have := bkt_lt key 1 (by omega)
  omega
theorem ovr_zero {xs : List It} (h : total xs ≤ 384) : ovr xs = 0 := by
  cases xs with
  | nil => rfl
  | cons x r => rw [ovr, if_neg (by omega)]
theorem zebra_no : mayK (keyB (keyB (keyB (List.replicate 256 false) (exI 97 1)) (exI 98 2)) (exI 97 3)) [122, 101, 98, 114, 97] = false := by decide +kernel
end Go.Proofs.Ytbccnfbombgdmaa
