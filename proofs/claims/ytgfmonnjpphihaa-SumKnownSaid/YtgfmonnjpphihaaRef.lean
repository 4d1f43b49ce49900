/-
  What the document's own reckoning answers: contracts of the reference's More, Crc, Hash, Second.
-/
import Derived.Test.YtgfmonnjpphihaaCrc
namespace Go.Proofs.Ytgfmonnjpphihaa
open Go.RowKit Math

set_option maxHeartbeats 400000 in
theorem refTurn_any (h : Int) (s : ByteArray) (w : World) (hs : s.size ≤ maxLen) :
    Calls Try.prog 21 #[.int .u64 h, .string s] w fun e w' => e = .returned (.int .u64 (hash h s.data.toList)) ∧ w' = w := by
  unfold maxLen at hs
  go_enter Try.func21, Try.ntmps21
  go_wp2
  go_loop [0, 5] (fun t i => ∃ k : Nat, k ≤ s.size ∧ i = .int .i64 k ∧ t = .int .u64 (hash h (s.data.toList.take k))) (fun _ i => s.size - (intOf i).toNat)
  case atStart => exact ⟨0, Nat.zero_le _, rfl, rfl⟩
  case round =>
    obtain ⟨k, hk, rfl, rfl⟩ := hrel
    by_cases hlt : k < s.size
    · have HS : Hid (hash h (s.data.toList.take (k + 1)) = turn1 (hash h (s.data.toList.take k)) (s[k].toNat : Int)) := by
        unfold Hid; rw [take_snoc s k hlt, hash_snoc]
      have hx1 : (s[k].toNat : Int) ≤ 255 := by have := s[k].toNat_lt; omega
      go_wp2
      go_round
      case rel => exact ⟨k + 1, by omega, by go_num, by rw [HS.out]; rfl⟩
      case measure => simp [intOf]; omega
    · have hk8 : Hid (k = s.size) := by unfold Hid; omega
      go_wp2
      go_ret
      exact ⟨ret_int (by rw [hk8.out, List.take_of_length_le (by simp)]), rfl⟩

set_option maxHeartbeats 400000 in
theorem refHash_any (s : ByteArray) (w : World) (hs : s.size ≤ maxLen) :
    Calls Try.prog 17 #[.string s] w fun e w' => e = .returned (.int .u64 (hash offset s.data.toList)) ∧ w' = w := by
  go_enter Try.func17, Try.ntmps17
  go_wp2_with (go_at_call 21; refine (refTurn_any _ _ _ hs).mono ?_; rintro e w' ⟨rfl, rfl⟩)
  go_ret
  exact ⟨rfl, rfl⟩

set_option maxHeartbeats 400000 in
theorem refSecond_any (s : ByteArray) (w : World) (hs : s.size ≤ 1048576) :
    Calls Try.prog 13 #[.string s] w fun e w' => e = .returned (.int .u64 (hash second0 s.data.toList)) ∧ w' = w := by
  go_enter Try.func13, Try.ntmps13
  go_wp2_with fail
  refine (refTurn_any _ _ _ (by rw [ByteArray.size_append]; have : (ByteArray.mk #[0]).size = 1 := rfl; unfold maxLen; omega)).mono ?_
  rintro e w' ⟨rfl, rfl⟩
  go_wp2_with fail
  go_ret
  exact ⟨ret_int (by rw [← hash_second]), rfl⟩

set_option maxHeartbeats 800000 in
theorem refMore_any (c : Int) (a : Option Addr) (cap : Nat) (l : List Int) (w : World) (hm : l.length ≤ maxLen) (hr : Reads w a l) :
    Calls Try.prog 14 #[.int .u32 c, .slice a l.length cap] w fun e w' => e = .returned (.int .u32 (U (more (B c) l))) ∧ w' = w := by
  unfold maxLen at hm
  have hnot : ∀ n, bits .xor .u32 n 4294967295 = U (~~~ B n) := not_U'
  have HR : Hid (Reads w a l) := hr
  clear hr
  go_enter Try.func14, Try.ntmps14
  go_wp2
  go_loop [5, 6] (fun t i => ∃ k : Nat, k ≤ l.length ∧ i = .int .i64 k ∧ t = .int .u32 (U (crc (~~~ B c) (l.take k)))) (fun _ i => l.length - (intOf i).toNat)
  case atStart => exact ⟨0, Nat.zero_le _, rfl, rfl⟩
  case round =>
    obtain ⟨k, hk, rfl, rfl⟩ := hrel
    by_cases hlt : k < l.length
    · obtain ⟨b, off, rfl, hc⟩ := HR.out.1 k hlt
      obtain ⟨hx0, hx1⟩ := HR.out.2 k
      have HT : Hid (l.take (k + 1) = l.take k ++ [l.getD k 0]) := take_succ_getD l k hlt
      generalize l.getD k 0 = x at hc hx0 hx1 HT
      have HC : Hid (crc (~~~ B c) (l.take (k + 1)) = sh8 (crc (~~~ B c) (l.take k) ^^^ B x)) := by unfold Hid; rw [HT.out, crc_snoc]
      clear HR HT
      generalize crc (~~~ B c) (l.take k) = d at HC ⊢
      go_wp2
      go_loop [5, 7] (fun t i => ∃ j : Nat, j ≤ 8 ∧ i = .int .i64 j ∧ t = .int .u32 (U (ref1 d x j))) (fun _ i => 8 - (intOf i).toNat)
      case atStart => exact ⟨0, Nat.zero_le _, rfl, by rw [ref1_0]⟩
      case round =>
        obtain ⟨j, hj, rfl, rfl⟩ := hrel
        by_cases hj8 : j < 8
        · go_wp2
          · go_round
            case rel => exact ⟨j + 1, by omega, by go_num, by rw [ref_odd d x j hx0 hx1 (by assumption)]⟩
            case measure => simp [intOf]; omega
          · go_round
            case rel => exact ⟨j + 1, by omega, by go_num, by rw [ref_even d x j hx0 hx1 (by assumption)]⟩
            case measure => simp [intOf]; omega
        · have hk8 : Hid (j = 8) := by unfold Hid; omega
          go_wp2
          go_round
          case rel => exact ⟨k + 1, by omega, by go_num, by rw [HC.out, hk8.out, ref1_8 _ _ hx0 hx1]⟩
          case measure => simp [intOf]; omega
    · have hk8 : Hid (k = l.length) := by unfold Hid; omega
      go_wp2
      go_ret
      exact ⟨ret_int (by rw [hk8.out, List.take_length, B_U]; rfl), rfl⟩

set_option maxHeartbeats 400000 in
theorem refCrc_any (a : Option Addr) (cap : Nat) (l : List Int) (w : World) (hm : l.length ≤ maxLen) (hr : Reads w a l) :
    Calls Try.prog 15 #[.slice a l.length cap] w fun e w' => e = .returned (.int .u32 (U (more 0#32 l))) ∧ w' = w := by
  go_enter Try.func15, Try.ntmps15
  go_wp2_with (go_at_call 14; refine (refMore_any _ _ _ _ _ hm hr).mono ?_; rintro e w' ⟨rfl, rfl⟩)
  go_ret
  exact ⟨rfl, rfl⟩

theorem refMore_at (c : Int) (a : Option Addr) (n cap : Nat) (l : List Int) (w : World) (hn : l.length = n) (hm : n ≤ maxLen) (hr : Reads w a l) :
    Calls Try.prog 14 #[.int .u32 c, .slice a n cap] w fun e w' => e = .returned (.int .u32 (U (more (B c) l))) ∧ w' = w := by
  subst hn; exact refMore_any c a cap l w hm hr
theorem refCrc_at (a : Option Addr) (n cap : Nat) (l : List Int) (w : World) (hn : l.length = n) (hm : n ≤ maxLen) (hr : Reads w a l) :
    Calls Try.prog 15 #[.slice a n cap] w fun e w' => e = .returned (.int .u32 (U (more 0#32 l))) ∧ w' = w := by
  subst hn; exact refCrc_any a cap l w hm hr

end Go.Proofs.Ytgfmonnjpphihaa
