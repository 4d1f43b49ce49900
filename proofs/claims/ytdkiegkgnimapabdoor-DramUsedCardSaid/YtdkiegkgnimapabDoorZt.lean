/- Joined texts: THMath, THash. -/
import Derived.Laws.BitsAllLaws
import Derived.Test.YtdkiegkgnimapabDoorChecked
import Derived.WalkKit
import Derived.WalkSpells
import Derived.WalkLawsBesides
import Derived.Below
/-
  The hash (FNV-1a) over the model's integers; nothing here speaks of a program.
-/
namespace Go.Proofs.YtdkiegkgnimapabDoor.Math

/-- One byte into the hash. -/
def turn1 (h x : Int) : Int := IntKind.u64.wrap (bits .xor .u64 h x * 1099511628211)
def hash (h : Int) (l : List UInt8) : Int := l.foldl (fun h x => turn1 h (x.toNat : Int)) h
theorem hash_append (h : Int) (l m : List UInt8) : hash h (l ++ m) = hash (hash h l) m := by unfold hash; rw [List.foldl_append]
theorem hash_snoc (h : Int) (l : List UInt8) (x : UInt8) : hash h (l ++ [x]) = turn1 (hash h l) (x.toNat : Int) := by rw [hash_append]; rfl
def offset : Int := 14695981039346656037
def second0 : Int := turn1 1099511628211 0
theorem turn1_nonneg (h x : Int) : 0 ≤ turn1 h x := by unfold turn1; rw [IntKind.wrap_u64]; omega
theorem turn1_lt (h x : Int) : turn1 h x < 18446744073709551616 := by unfold turn1; rw [IntKind.wrap_u64]; omega
theorem hash_range (h : Int) (l : List UInt8) (h0 : 0 ≤ h) (h1 : h < 18446744073709551616) : 0 ≤ hash h l ∧ hash h l < 18446744073709551616 := by
  induction l generalizing h with
  | nil => exact ⟨h0, h1⟩
  | cons x xs ih => exact ih _ (turn1_nonneg _ _) (turn1_lt _ _)
theorem offset_range : 0 ≤ offset ∧ offset < 18446744073709551616 := by unfold offset; omega
theorem second0_range : 0 ≤ second0 ∧ second0 < 18446744073709551616 := ⟨turn1_nonneg _ _, turn1_lt _ _⟩
theorem hash_second (l : List UInt8) : hash 1099511628211 (0 :: l) = hash second0 l := rfl
end Go.Proofs.YtdkiegkgnimapabDoor.Math

/-
  What Hash and Second answer, of package sum and of the reckoning.
-/
namespace Go.Proofs.YtdkiegkgnimapabDoor.Tbl
open Go.RowKit Math

theorem ret_int {k : IntKind} {a b : Int} (h : a = b) : Ending.returned (.int k a) = .returned (.int k b) := by rw [h]

theorem take_snoc (s : ByteArray) (k : Nat) (h : k < s.size) : s.data.toList.take (k + 1) = s.data.toList.take k ++ [s[k]] := by
  rw [List.take_succ_eq_append_getElem (by simpa using h)]; rfl

set_option maxHeartbeats 400000 in
theorem turn_any (h x : Int) (w : World) (hx0 : 0 ≤ x) (hx1 : x ≤ 255) :
    Calls Tryd.prog 92 #[.int .u64 h, .int .u8 x] w fun e w' => e = .returned (.int .u64 (turn1 h x)) ∧ w' = w := by
  go_enter Tryd.func92, Tryd.ntmps92
  go_wp2
  go_ret
  exact ⟨rfl, rfl⟩

set_option maxHeartbeats 400000 in
theorem fold_any (h : Int) (s : ByteArray) (w : World) (hs : s.size ≤ maxLen) :
    Calls Tryd.prog 80 #[.int .u64 h, .string s] w fun e w' => e = .returned (.int .u64 (hash h s.data.toList)) ∧ w' = w := by
  unfold maxLen at hs
  go_enter Tryd.func80, Tryd.ntmps80
  go_wp2
  go_loop [0, 8] (fun t i => ∃ k : Nat, k ≤ s.size ∧ i = .int .i64 k ∧ t = .int .u64 (hash h (s.data.toList.take k))) (fun _ i => s.size - (intOf i).toNat)
  case atStart => exact ⟨0, Nat.zero_le _, rfl, rfl⟩
  case round =>
    obtain ⟨k, hk, rfl, rfl⟩ := hrel
    by_cases hlt : k < s.size
    · have HS : Hid (hash h (s.data.toList.take (k + 1)) = turn1 (hash h (s.data.toList.take k)) (s[k].toNat : Int)) := by
        unfold Hid; rw [take_snoc s k hlt, hash_snoc]
      have hx0 : (0 : Int) ≤ (s[k].toNat : Int) := by omega
      have hx1 : (s[k].toNat : Int) ≤ 255 := by have := s[k].toNat_lt; omega
      go_wp2_with (go_at_call 92; refine (turn_any _ _ _ hx0 hx1).mono ?_; rintro e w' ⟨rfl, rfl⟩)
      go_round
      case rel => exact ⟨k + 1, by omega, by go_num, by rw [HS.out]⟩
      case measure => simp [intOf]; omega
    · have hk8 : Hid (k = s.size) := by unfold Hid; omega
      go_wp2
      go_ret
      exact ⟨ret_int (by rw [hk8.out, List.take_of_length_le (by simp)]), rfl⟩

set_option maxHeartbeats 400000 in
theorem hash_any (s : ByteArray) (w : World) (hs : s.size ≤ maxLen) :
    Calls Tryd.prog 66 #[.string s] w fun e w' => e = .returned (.int .u64 (hash offset s.data.toList)) ∧ w' = w := by
  go_enter Tryd.func66, Tryd.ntmps66
  go_wp2_with (go_at_call 80; refine (fold_any _ _ _ hs).mono ?_; rintro e w' ⟨rfl, rfl⟩)
  go_ret
  exact ⟨rfl, rfl⟩

/-- A key as the program holds it. -/
def txt (l : List UInt8) : ByteArray := ⟨l.toArray⟩
theorem txt_size (l : List UInt8) : (txt l).size = l.length := by show l.toArray.size = _; simp
theorem txt_data (s : ByteArray) : txt s.data.toList = s := by cases s; simp [txt]
theorem txt_list (l : List UInt8) : (txt l).toList = l := by
  unfold txt
  simp [ByteArray.toList_eq]
/-- The hash of a key. -/
def hsh (k : List UInt8) : Nat := (hash offset k).toNat
theorem hsh_int (k : List UInt8) : ((hsh k : Nat) : Int) = hash offset k := by
  have := (hash_range offset k offset_range.1 offset_range.2).1
  unfold hsh; omega
theorem hsh_lt (k : List UInt8) : hsh k < 18446744073709551616 := by
  have := hash_range offset k offset_range.1 offset_range.2
  unfold hsh; omega
theorem hash_txt (k : List UInt8) (hk : k.length ≤ maxLen) (w : World) : Calls Tryd.prog 66 #[.string (txt k)] w fun e w' => e = .returned (.int .u64 (hsh k : Nat)) ∧ w' = w := by
  rw [hsh_int]
  exact hash_any (txt k) w (by rw [txt_size]; exact hk)
end Go.Proofs.YtdkiegkgnimapabDoor.Tbl

