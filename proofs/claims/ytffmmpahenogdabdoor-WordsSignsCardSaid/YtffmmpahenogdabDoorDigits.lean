/-
  Plain arithmetic: a number that is written in digits is read as itself, noughts ahead or none.
-/
import Derived.Test.YtffmmpahenogdabDoorAwake
namespace Go.Proofs.YtffmmpahenogdabDoor
set_option linter.unusedVariables false

theorem digit_one (n : Nat) (h : n < 10) : digits n = [UInt8.ofNat (48 + n)] := by unfold digits; rw [Lib.decDigits, dif_pos h]
theorem digit_more (n : Nat) (h : ¬ n < 10) : digits n = digits (n / 10) ++ [UInt8.ofNat (48 + n % 10)] := by unfold digits; rw [Lib.decDigits, dif_neg h]

theorem num_append (a : List UInt8) : ∀ (b : List UInt8) (k : Nat), num (a ++ b) k = (num a k).bind (num b) := by
  induction a with
  | nil => intro b k; rfl
  | cons x t ih =>
    intro b k
    simp only [List.cons_append, num]
    split
    · exact ih b _
    · rfl

theorem num_one (k d : Nat) (hd : d < 10) (h : 10 * k + d ≤ 18446744073709551615) : num [UInt8.ofNat (48 + d)] k = some (10 * k + d) := by
  have e : (UInt8.ofNat (48 + d)).toNat = 48 + d := by simp; omega
  simp only [num, e]
  rw [if_pos ⟨by omega, by omega, by omega⟩]
  congr 1
  omega

theorem num_digits (m : Nat) : ∀ n, n < m → n ≤ 18446744073709551615 → num (digits n) 0 = some n := by
  induction m with
  | zero => intro n h; omega
  | succ m ih =>
    intro n h hle
    by_cases h10 : n < 10
    · rw [digit_one n h10, num_one 0 n h10 (by omega)]
      simp
    · rw [digit_more n h10, num_append, ih (n / 10) (by omega) (by omega)]
      simp only [Option.bind_some]
      rw [num_one (n / 10) (n % 10) (by omega) (by omega)]
      congr 1
      omega

theorem num_zeros (j : Nat) : ∀ (l : List UInt8), num (List.replicate j 48 ++ l) 0 = num l 0 := by
  induction j with
  | zero => intro l; rfl
  | succ j ih =>
    intro l
    rw [List.replicate_succ, List.cons_append]
    have e : (48 : UInt8).toNat = 48 := rfl
    simp only [num, e]
    rw [if_pos ⟨by omega, by omega, by omega⟩]
    exact ih l

theorem digit_len (n : Nat) (h : n ≤ 18446744073709551615) : 1 ≤ (digits n).length ∧ (digits n).length ≤ 20 := by
  by_cases h0 : n < 10
  · rw [digit_one n h0]; simp
  · have h1 : 1 ≤ (digits n).length := by rw [digit_more n h0]; simp
    refine ⟨h1, ?_⟩
    unfold digits
    rw [Lib.decDigits_length]
    have := Lib.numDigits_eq n (by omega) (by omega)
    split at this <;> omega

theorem number_zeros (n j : Nat) (h : n ≤ 18446744073709551615) (hj : j + (digits n).length ≤ 20) : number (List.replicate j 48 ++ digits n) = some n := by
  have hl := digit_len n h
  unfold number
  rw [if_pos (by simp; omega), num_zeros, num_digits (n + 1) n (by omega) h]
theorem number_digits (n : Nat) (h : n ≤ 18446744073709551615) : number (digits n) = some n := by
  have hl := digit_len n h
  exact number_zeros n 0 h (by omega)
theorem number_long (l : List UInt8) (h : 20 < l.length) : number l = none := by
  unfold number
  rw [if_neg (by omega)]
end Go.Proofs.YtffmmpahenogdabDoor
