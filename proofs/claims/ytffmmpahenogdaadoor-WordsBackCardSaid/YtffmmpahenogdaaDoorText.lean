/-
  What the document's own reckoning (package cellaretref1) answers for Text and Shown.
-/
import Derived.Test.YtffmmpahenogdaaDoorRef
namespace Go.Proofs.YtffmmpahenogdaaDoor
open Go.Shelf Go.RowKit
set_option linter.unusedVariables false

theorem digits_len (n : Nat) (h : n < 18446744073709551616) : (digits n).length ≤ 20 := by
  by_cases h0 : n < 10
  · rw [digits_small n h0]; simp
  · unfold digits
    rw [Lib.decDigits_length]
    have := Lib.numDigits_eq n (by omega) h
    split at this <;> omega
theorem cat_list (a b : List UInt8) : (ByteArray.mk a.toArray) ++ (ByteArray.mk b.toArray) = ByteArray.mk (a ++ b).toArray := by
  apply ByteArray.ext
  rw [ByteArray.data_append]
  simp

set_option maxHeartbeats 1000000 in
set_option maxRecDepth 1000000 in
theorem refText_any (m : Nat) : ∀ (n : Nat) (hn : n < m) (h64 : n < 18446744073709551616) (w : World),
    Calls Tryd.prog 23 #[.int .u64 n] w fun e w' => e = .returned (.string ⟨(digits n).toArray⟩) ∧ ∃ k, w' = w.drewN k := by
  induction m with
  | zero => intro n hn; omega
  | succ m ih =>
    intro n hn h64 w
    by_cases hs : n < 10
    · refine (refText_small n hs w).mono ?_
      rintro e w' ⟨rfl, rfl⟩
      exact ⟨rfl, 0, rfl⟩
    · have hni : ¬ (n : Int) < 10 := by omega
      have ih' := ih (n / 10) (by omega) (by omega)
      have e1 : IntKind.u64.wrap ((n : Int) / 10) = (n : Int) / 10 := by rw [IntKind.wrap_u64]; omega
      have e2 : ((n : Int)).tmod 10 = ((n % 10 : Nat) : Int) := by rw [Int.tmod_eq_emod_of_nonneg (by omega)]; omega
      have e3 : IntKind.u64.wrap (((n % 10 : Nat) : Int) + 1) = ((n % 10 : Nat) : Int) + 1 := by rw [IntKind.wrap_u64]; omega
      rw [show (((n / 10 : Nat) : Int)) = (n : Int) / 10 by omega, ← e1] at ih'
      have hsl : ∀ w, (Instr.slice 9 (.string (ByteArray.mk #[48, 49, 50, 51, 52, 53, 54, 55, 56, 57])) (some (.int .u64 ((n : Int).tmod 10))) (some (.int .u64 (IntKind.u64.wrap ((n : Int).tmod 10 + 1)))) none).run Tryd.prog w = .ok (.string ⟨(digits (n % 10)).toArray⟩) w := by
        intro w
        rw [e2, e3]
        exact ten_run (n % 10) (by omega) w
      have hcat : ¬ 9223372036854775807 < (digits (n / 10)).length + (digits (n % 10)).length := by
        have h1 := digits_len (n / 10) (by omega)
        have h2 := digits_len (n % 10) (by omega)
        omega
      clear e1 e2 e3
      clear h64 ih
      go_enter Tryd.func23, Tryd.ntmps23
      go_wp2_with fail
      go_quiet ((first | (go_at_call 23; exact Calls.quiet_of (ih' _))))
      go_wp2
      go_ret
      refine ⟨?_, _, rfl⟩
      rw [digits_big n hs, ← digits_small (n % 10) (by omega), ← cat_list]
      rfl
end Go.Proofs.YtffmmpahenogdaaDoor
