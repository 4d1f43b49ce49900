/- What is set behind many Adds. -/
import Derived.Test.YtipgfkcfbiofdaaAwake
set_option linter.unusedVariables false
set_option linter.unusedSimpArgs false
namespace Go.Proofs.Ytipgfkcfbiofdaa
open Go.RowKit Go.Deep Math

def told (n t : Nat) (xs : List ByteArray) : List Nat := xs.flatMap fun k => plc k n t
/-- The bits behind these keys. -/
def bitsB (n t : Nat) (xs : List ByteArray) : List Bool := setB (List.replicate n false) (told n t xs)
theorem bitsB_nil (n t : Nat) : bitsB n t [] = List.replicate n false := rfl
theorem bitsB_length (n t : Nat) (xs : List ByteArray) : (bitsB n t xs).length = n := by unfold bitsB; rw [setB_length]; simp
theorem bitsB_snoc (n t : Nat) (xs : List ByteArray) (k : ByteArray) : setB (bitsB n t xs) (plc k (bitsB n t xs).length t) = bitsB n t (xs ++ [k]) := by
  rw [bitsB_length]; unfold bitsB told; rw [← setB_append]; simp
theorem bitsB_take {n t : Nat} {xs : List ByteArray} {i : Nat} {x : ByteArray} (h : xs[i]? = some x) : setB (bitsB n t (xs.take i)) (plc x (bitsB n t (xs.take i)).length t) = bitsB n t (xs.take (i + 1)) := by
  rw [bitsB_snoc]
  congr 1
  obtain ⟨hi, hx⟩ := List.getElem?_eq_some_iff.1 h
  rw [List.take_succ_eq_append_getElem hi, hx]
theorem bitsB_getD (n t : Nat) (xs : List ByteArray) (i : Nat) : (bitsB n t xs).getD i false = decide (i ∈ told n t xs ∧ i < n) := by
  unfold bitsB; rw [setB_getD, blank_getD]; simp
theorem mem_told {n t : Nat} {xs : List ByteArray} {i : Nat} : i ∈ told n t xs ↔ ∃ k ∈ xs, i ∈ plc k n t := by simp [told]
theorem mayB_told {n t : Nat} {xs : List ByteArray} {x : ByteArray} (hn : 0 < n) (h : x ∈ xs) : mayB (bitsB n t xs) (plc x (bitsB n t xs).length t) = true := by
  rw [bitsB_length]
  unfold bitsB
  exact mayB_set (fun i hi => mem_told.2 ⟨x, h, hi⟩) (fun i hi => by simpa using plc_lt hn i hi)
theorem wf_i64 {z : Int} (h : (Lit.int .i64 z).wf = true) : -9223372036854775808 ≤ z ∧ z ≤ 9223372036854775807 := by
  have h1 : IntKind.i64.min = -9223372036854775808 := rfl
  have h2 : IntKind.i64.max = 9223372036854775807 := rfl
  simp [Lit.wf, h1, h2] at h
  omega
end Go.Proofs.Ytipgfkcfbiofdaa
