/- 'Up' of the reckoning side. -/
import Derived.Test.YtlmfdibncpbmjaaNum
set_option linter.unusedVariables false
set_option linter.unusedSimpArgs false
namespace Go.Proofs.Ytlmfdibncpbmjaa
open Go.RowKit Go.Deep Math

theorem up_cons_drop (l : List UInt8) (k : Nat) (h : k < l.length) : up (l.drop k) = (l.getD k 0).toNat + 256 * up (l.drop (k + 1)) := by
  rw [List.drop_eq_getElem_cons h, List.getD_eq_getElem?_getD, List.getElem?_eq_getElem h]
  rfl

theorem or_up (x m : Nat) (hx : x < 256) (hm : m * 256 + x < 18446744073709551616) : bits .or .u64 (IntKind.u64.wrap ((m : Int) * 256)) (IntKind.u64.wrap (x : Int)) = ((x + 256 * m : Nat) : Int) := by
  have h1 : m * 256 < 18446744073709551616 := Nat.lt_of_le_of_lt (Nat.le_add_right _ _) hm
  have h2 : x < 18446744073709551616 := by omega
  have hx8 : x < 2 ^ 8 := hx
  have h3 := Nat.shiftLeft_add_eq_or_of_lt (i := 8) hx8 m
  rw [Nat.shiftLeft_eq] at h3
  have e3 : m * 2 ^ 8 = m * 256 := rfl
  rw [e3] at h3
  have e4 : x + 256 * m = m * 256 + x := by omega
  have e0 : (m : Int) * 256 = ((m * 256 : Nat) : Int) := by omega
  have e1 : IntKind.u64.wrap ((m : Int) * 256) = ((m * 256 : Nat) : Int) := by rw [e0, IntKind.wrap_u64]; omega
  have e2 : IntKind.u64.wrap (x : Int) = ((x : Nat) : Int) := by rw [IntKind.wrap_u64]; omega
  rw [e1, e2, u64_or_nat _ _ h1 h2, ← h3, e4]
theorem txt_get (l : List UInt8) (j : Nat) (h : j < l.length) (h' : j < (txt l).size) : (txt l)[j]'h' = l.getD j 0 := by
  rw [List.getD_eq_getElem?_getD, List.getElem?_eq_getElem h]
  rfl
theorem up_drop_lt (l : List UInt8) (j : Nat) (h8 : l.length ≤ 8) : up (l.drop j) < 18446744073709551616 := by
  have h1 := up_lt (l.drop j)
  have : (256 : Nat) ^ (l.drop j).length ≤ 256 ^ 8 := Nat.pow_le_pow_right (by decide) (by simp; omega)
  have e : (256 : Nat) ^ 8 = 18446744073709551616 := by decide
  omega

set_option maxHeartbeats 1000000 in
theorem up_any (l : List UInt8) (h8 : l.length ≤ 8) (w : World) :
    Calls Try.prog 33 #[.string (txt l)] w fun e w' => e = .returned (.int .u64 (up l : Int)) ∧ w' = w := by
  have hs : (txt l).size = l.length := txt_size l
  go_enter Try.func33, Try.ntmps33
  go_wp2
  go_loop [3, 4] (fun t i => ∃ k m : Nat, k ≤ l.length ∧ i = .int .i64 ((k : Int) - 1) ∧ t = .int .u64 m ∧ Hid (m = up (l.drop k))) (fun _ i => (intOf i + 1).toNat)
  case atStart => exact ⟨l.length, 0, Nat.le_refl _, rfl, rfl, by show 0 = _; rw [List.drop_length]; rfl⟩
  case round =>
    obtain ⟨k, m, hk, rfl, rfl, hm⟩ := hrel
    by_cases hlt : 0 < k
    · obtain ⟨j, rfl⟩ : ∃ j, k = j + 1 := ⟨k - 1, by omega⟩
      have hx := (l.getD j 0).toNat_lt
      have hge : (0 : Int) ≤ ((j + 1 : Nat) : Int) - 1 := by omega
      have U := hide (up_cons_drop l j (by omega))
      go_wp2
      refine ⟨⟨j, up (l.drop j), by omega, rfl, ?_, rfl⟩, by simp [intOf]⟩
      rw [txt_get l j (by omega), hm.out]
      have hd := up_drop_lt l j h8
      rw [U.out] at hd ⊢
      rw [or_up _ _ (by omega) (by omega)]
    · obtain rfl : k = 0 := by omega
      go_wp2
      go_ret
      exact ⟨ret_int (by rw [hm.out]; rfl), rfl⟩
end Go.Proofs.Ytlmfdibncpbmjaa
