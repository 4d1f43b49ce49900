/-
  What Hash and Second answer, of package sum and of the reckoning.
-/
import Derived.Test.YtkjfildnemgbiaaChecked
import Derived.Test.YtkjfildnemgbiaaHMath
import Derived.WalkKit
import Derived.WalkSpells
import Derived.WalkLawsBesides
import Derived.Below
namespace Go.Proofs.Ytkjfildnemgbiaa
open Go.RowKit Math

theorem ret_int {k : IntKind} {a b : Int} (h : a = b) : Ending.returned (.int k a) = .returned (.int k b) := by rw [h]

theorem take_snoc (s : ByteArray) (k : Nat) (h : k < s.size) : s.data.toList.take (k + 1) = s.data.toList.take k ++ [s[k]] := by
  rw [List.take_succ_eq_append_getElem (by simpa using h)]; rfl

set_option maxHeartbeats 400000 in
theorem turn_any (h x : Int) (w : World) (hx0 : 0 ≤ x) (hx1 : x ≤ 255) :
    Calls Try.prog 60 #[.int .u64 h, .int .u8 x] w fun e w' => e = .returned (.int .u64 (turn1 h x)) ∧ w' = w := by
  go_enter Try.func60, Try.ntmps60
  go_wp2
  go_ret
  exact ⟨rfl, rfl⟩

set_option maxHeartbeats 400000 in
theorem fold_any (h : Int) (s : ByteArray) (w : World) (hs : s.size ≤ maxLen) :
    Calls Try.prog 47 #[.int .u64 h, .string s] w fun e w' => e = .returned (.int .u64 (hash h s.data.toList)) ∧ w' = w := by
  unfold maxLen at hs
  go_enter Try.func47, Try.ntmps47
  go_wp2
  go_loop [0, 8] (fun t i => ∃ k : Nat, k ≤ s.size ∧ i = .int .i64 k ∧ t = .int .u64 (hash h (s.data.toList.take k))) (fun _ i => s.size - (intOf i).toNat)
  case atStart => exact ⟨0, Nat.zero_le _, rfl, rfl⟩
  case round =>
    obtain ⟨k, hk, rfl, rfl⟩ := hrel
    by_cases hlt : k < s.size
    · have HS : Hid (hash h (s.data.toList.take (k + 1)) = turn1 (hash h (s.data.toList.take k)) (s[k].toNat : Int)) := by
        unfold Hid; rw [take_snoc s k hlt, hash_snoc]
      have hx0 : (0 : Int) ≤ (s[k].toNat : Int) := by omega
      have hx1 : (s[k].toNat : Int) ≤ 255 := by have := s[k].toNat_lt; omega
      go_wp2_with (go_at_call 60; refine (turn_any _ _ _ hx0 hx1).mono ?_; rintro e w' ⟨rfl, rfl⟩)
      go_round
      case rel => exact ⟨k + 1, by omega, by go_num, by rw [HS.out]⟩
      case measure => simp [intOf]; omega
    · have hk8 : Hid (k = s.size) := by unfold Hid; omega
      go_wp2
      go_ret
      exact ⟨ret_int (by rw [hk8.out, List.take_of_length_le (by simp)]), rfl⟩

set_option maxHeartbeats 400000 in
theorem hash_any (s : ByteArray) (w : World) (hs : s.size ≤ maxLen) :
    Calls Try.prog 42 #[.string s] w fun e w' => e = .returned (.int .u64 (hash offset s.data.toList)) ∧ w' = w := by
  go_enter Try.func42, Try.ntmps42
  go_wp2_with (go_at_call 47; refine (fold_any _ _ _ hs).mono ?_; rintro e w' ⟨rfl, rfl⟩)
  go_ret
  exact ⟨rfl, rfl⟩

set_option maxHeartbeats 400000 in
theorem refTurn_any (h : Int) (s : ByteArray) (w : World) (hs : s.size ≤ maxLen) :
    Calls Try.prog 59 #[.int .u64 h, .string s] w fun e w' => e = .returned (.int .u64 (hash h s.data.toList)) ∧ w' = w := by
  unfold maxLen at hs
  go_enter Try.func59, Try.ntmps59
  go_wp2
  go_loop [0, 5] (fun t i => ∃ k : Nat, k ≤ s.size ∧ i = .int .i64 k ∧ t = .int .u64 (hash h (s.data.toList.take k))) (fun _ i => s.size - (intOf i).toNat)
  case atStart => exact ⟨0, Nat.zero_le _, rfl, rfl⟩
  case round =>
    obtain ⟨k, hk, rfl, rfl⟩ := hrel
    by_cases hlt : k < s.size
    · have HS : Hid (hash h (s.data.toList.take (k + 1)) = turn1 (hash h (s.data.toList.take k)) (s[k].toNat : Int)) := by
        unfold Hid; rw [take_snoc s k hlt, hash_snoc]
      have hx1 : (s[k].toNat : Int) ≤ 255 := by have := s[k].toNat_lt; omega
      go_wp2
      go_round
      case rel => exact ⟨k + 1, by omega, by go_num, by rw [HS.out]; rfl⟩
      case measure => simp [intOf]; omega
    · have hk8 : Hid (k = s.size) := by unfold Hid; omega
      go_wp2
      go_ret
      exact ⟨ret_int (by rw [hk8.out, List.take_of_length_le (by simp)]), rfl⟩

set_option maxHeartbeats 400000 in
theorem refHash_any (s : ByteArray) (w : World) (hs : s.size ≤ maxLen) :
    Calls Try.prog 46 #[.string s] w fun e w' => e = .returned (.int .u64 (hash offset s.data.toList)) ∧ w' = w := by
  go_enter Try.func46, Try.ntmps46
  go_wp2_with (go_at_call 59; refine (refTurn_any _ _ _ hs).mono ?_; rintro e w' ⟨rfl, rfl⟩)
  go_ret
  exact ⟨rfl, rfl⟩

/-- A key as the program holds it. -/
def txt (l : List UInt8) : ByteArray := ⟨l.toArray⟩
theorem txt_size (l : List UInt8) : (txt l).size = l.length := by show l.toArray.size = _; simp
theorem txt_data (s : ByteArray) : txt s.data.toList = s := by cases s; simp [txt]
theorem txt_list (l : List UInt8) : (txt l).toList = l := by
  unfold txt
  simp [ByteArray.toList_eq]
/-- The hash of a key. -/
def hsh (k : List UInt8) : Nat := (hash offset k).toNat
theorem hsh_int (k : List UInt8) : ((hsh k : Nat) : Int) = hash offset k := by
  have := (hash_range offset k offset_range.1 offset_range.2).1
  unfold hsh; omega
theorem hsh_lt (k : List UInt8) : hsh k < 18446744073709551616 := by
  have := hash_range offset k offset_range.1 offset_range.2
  unfold hsh; omega
theorem hash_txt (k : List UInt8) (hk : k.length ≤ maxLen) (w : World) : Calls Try.prog 42 #[.string (txt k)] w fun e w' => e = .returned (.int .u64 (hsh k : Nat)) ∧ w' = w := by
  rw [hsh_int]
  exact hash_any (txt k) w (by rw [txt_size]; exact hk)
theorem refHash_txt (k : List UInt8) (hk : k.length ≤ maxLen) (w : World) : Calls Try.prog 46 #[.string (txt k)] w fun e w' => e = .returned (.int .u64 (hsh k : Nat)) ∧ w' = w := by
  rw [hsh_int]
  exact refHash_any (txt k) w (by rw [txt_size]; exact hk)
end Go.Proofs.Ytkjfildnemgbiaa
