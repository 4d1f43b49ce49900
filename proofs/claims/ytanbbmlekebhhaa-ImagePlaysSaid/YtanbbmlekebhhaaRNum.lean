/- 'number', 'ended'. -/
import Derived.Test.YtanbbmlekebhhaaRPut
set_option linter.unusedVariables false
set_option linter.unusedSimpArgs false
namespace Go.Proofs.Ytanbbmlekebhhaa
open Go.RowKit Go.Deep Math

/-- One more byte: the bits lie apart. -/
theorem or_byte (l : List UInt8) (x : UInt8) (hk8 : l.length < 8) (y : Int) (hy : y = ((256 ^ l.length * x.toNat : Nat) : Int)) : bits .or .u64 (up l : Int) y = (up (l ++ [x]) : Int) := by
  have h1 := up_lt l
  have h2 := up_lt (l ++ [x])
  have hx := x.toNat_lt
  rw [up_snoc] at h2 ⊢
  have hp : 256 ^ (l ++ [x]).length ≤ 18446744073709551616 := by
    have : (256 : Nat) ^ (l ++ [x]).length ≤ 256 ^ 8 := Nat.pow_le_pow_right (by decide) (by simp; omega)
    exact this
  have e256 : 256 ^ l.length = 2 ^ (8 * l.length) := by rw [Nat.pow_mul]
  rw [hy, u64_or_nat _ _ (by omega) (by omega)]
  congr 1
  rw [e256] at h1 ⊢
  have h3 := Nat.shiftLeft_add_eq_or_of_lt h1 x.toNat
  rw [Nat.shiftLeft_eq] at h3
  rw [Nat.mul_comm (2 ^ (8 * l.length)), Nat.or_comm, ← h3, Nat.add_comm]

theorem ints_getD (l : List UInt8) (k : Nat) : (ints l).getD k 0 = ((l.getD k 0).toNat : Int) := by
  simp only [ints, List.getD_eq_getElem?_getD, List.getElem?_map]
  cases l[k]? <;> rfl
theorem take_snoc_byte (l : List UInt8) (k : Nat) (h : k < l.length) : l.take (k + 1) = l.take k ++ [l.getD k 0] := by
  rw [List.take_succ_eq_append_getElem h, List.getD_eq_getElem?_getD, List.getElem?_eq_getElem h]; rfl

set_option maxHeartbeats 1000000 in
theorem number_any (a : Option Addr) (n cap : Nat) (l : List UInt8) (hn : n = l.length) (h8 : n ≤ 8) (w : World) (hr : Reads w a (ints l)) :
    Calls Try.prog 69 #[.slice a n cap] w fun e w' => e = .returned (.int .u64 (up l : Int)) ∧ w' = w := by
  have HR : Hid (Reads w a (ints l)) := hr
  have HN := hide hn
  clear hr hn
  go_enter Try.func69, Try.ntmps69
  go_wp2
  go_loop [3, 8] (fun t i => ∃ k m : Nat, k ≤ n ∧ i = .int .i64 k ∧ t = .int .u64 m ∧ Hid (m = up (l.take k))) (fun _ i => n - (intOf i).toNat)
  case atStart => exact ⟨0, 0, Nat.zero_le _, rfl, rfl, rfl⟩
  case round =>
    obtain ⟨k, m, hk, rfl, rfl, hm⟩ := hrel
    by_cases hlt : k < n
    · obtain ⟨b, off, rfl, hc⟩ := HR.out.1 k (by rw [ints_length, ← HN.out]; exact hlt)
      rw [ints_getD] at hc
      have HT := hide (take_snoc_byte l k (by rw [← HN.out]; exact hlt))
      have HL : Hid ((l.take k).length = k) := by show _ = _; rw [List.length_take, ← HN.out]; omega
      generalize l.getD k 0 = x at hc HT
      have hx1 : (x.toNat : Int) ≤ 255 := by have := x.toNat_lt; omega
      have OB : Hid (∀ y : Int, y = ((256 ^ k * x.toNat : Nat) : Int) → bits .or .u64 (m : Int) y = (up (l.take (k + 1)) : Int)) := fun y hy => by
        rw [hm.out, HT.out]
        exact or_byte (l.take k) x (by rw [HL.out]; omega) y (by rw [HL.out]; exact hy)
      clear HR
      rcases (show k = 0 ∨ k = 1 ∨ k = 2 ∨ k = 3 ∨ k = 4 ∨ k = 5 ∨ k = 6 ∨ k = 7 by omega) with rfl | rfl | rfl | rfl | rfl | rfl | rfl | rfl
      all_goals (
        try simp only [Nat.add_zero] at hc
        go_wp2
        go_round
        case rel => exact ⟨_, _, hlt, rfl, (by rw [OB.out _ (by first | omega | (rw [IntKind.wrap_u64]; omega))]), rfl⟩
        case measure => simp [intOf]; omega)
    · have hkn : Hid (k = n) := by unfold Hid; omega
      go_wp2
      go_ret
      exact ⟨ret_int (by rw [hm.out, hkn.out, HN.out, List.take_length]), rfl⟩
end Go.Proofs.Ytanbbmlekebhhaa
