/-
  What the calls of package sum answer: contracts of shift, More, Crc, turn, fold, Hash, Second.
-/
import Derived.Test.YtanbbmlekebhhaaChecked
import Derived.Test.YtanbbmlekebhhaaMath
import Derived.WalkKit
import Derived.WalkSpells
import Derived.WalkLawsBesides
import Derived.Below
namespace Go.Proofs.Ytanbbmlekebhhaa
open Go.RowKit Math

theorem ret_int {k : IntKind} {a b : Int} (h : a = b) : Ending.returned (.int k a) = .returned (.int k b) := by rw [h]

theorem take_snoc (s : ByteArray) (k : Nat) (h : k < s.size) : s.data.toList.take (k + 1) = s.data.toList.take k ++ [s[k]] := by
  rw [List.take_succ_eq_append_getElem (by simpa using h)]; rfl

set_option maxHeartbeats 400000 in
theorem shift_any (c : BitVec 32) (w : World) :
    Calls Try.prog 82 #[.int .u32 (U c)] w fun e w' => e = .returned (.int .u32 (U (sh8 c))) ∧ w' = w := by
  go_enter Try.func82, Try.ntmps82
  go_wp2
  go_loop [0, 3] (fun t i => ∃ k : Nat, k ≤ 8 ∧ i = .int .i64 k ∧ t = .int .u32 (U (shn k c))) (fun _ i => 8 - (intOf i).toNat)
  case atStart => exact ⟨0, Nat.zero_le _, rfl, rfl⟩
  case round =>
    obtain ⟨k, hk, rfl, rfl⟩ := hrel
    by_cases hlt : k < 8
    · by_cases ho : (shn k c).getLsbD 0 = true
      · have hl : (bits .and .u32 (U (shn k c)) 1 == 1) = true := by rw [low_U, ho]
        have H1 := step_odd _ ho
        clear ho
        go_wp2
        go_round
        case rel => exact ⟨k + 1, by omega, by go_num, rfl⟩
        case measure => simp [intOf]; omega
      · have ho' : (shn k c).getLsbD 0 = false := by simpa using ho
        have hl : (bits .and .u32 (U (shn k c)) 1 == 1) = false := by rw [low_U, ho']
        have H1 := step_even _ ho'
        clear ho ho'
        go_wp2
        go_round
        case rel => exact ⟨k + 1, by omega, by go_num, rfl⟩
        case measure => simp [intOf]; omega
    · have hk8 : Hid (k = 8) := by unfold Hid; omega
      go_wp2
      go_ret
      exact ⟨ret_int (by rw [hk8.out, shn_8]), rfl⟩

/-- A slice of bytes, as it lies in the world, with the list of its elements. -/
def Reads (w : World) (a : Option Addr) (l : List Int) : Prop :=
  (∀ i, i < l.length → ∃ b off, a = some ⟨b, off, none⟩ ∧ w.cell? ⟨b, off + i, none⟩ = some (.int .u8 (l.getD i 0))) ∧ ∀ i, 0 ≤ l.getD i 0 ∧ l.getD i 0 ≤ 255

theorem Reads.nil (w : World) (a : Option Addr) : Reads w a [] := ⟨fun i h => absurd h (by simp), fun i => by simp⟩
theorem Reads.later {w wx : World} {a : Option Addr} {l : List Int} (h : Reads w a l) (hb : Below w.heap.size w wx) : Reads wx a l :=
  ⟨fun i hi => by obtain ⟨b, off, e, hc⟩ := h.1 i hi; exact ⟨b, off, e, cell_later hb hc⟩, h.2⟩

theorem take_succ_getD (l : List Int) (k : Nat) (h : k < l.length) : l.take (k + 1) = l.take k ++ [l.getD k 0] := by
  rw [List.take_succ_eq_append_getElem h, List.getD_eq_getElem?_getD, List.getElem?_eq_getElem h]; rfl

set_option maxHeartbeats 400000 in
theorem more_any (c : Int) (a : Option Addr) (cap : Nat) (l : List Int) (w : World) (hm : l.length ≤ maxLen) (hr : Reads w a l) :
    Calls Try.prog 77 #[.int .u32 c, .slice a l.length cap] w fun e w' => e = .returned (.int .u32 (U (more (B c) l))) ∧ w' = w := by
  unfold maxLen at hm
  have hs : IntKind.u32.signed = false := rfl
  have hnot : ∀ n, bits .xor .u32 IntKind.u32.max n = U (~~~ B n) := not_max
  have HR : Hid (Reads w a l) := hr
  clear hr
  go_enter Try.func77, Try.ntmps77
  go_wp2
  go_loop [5, 12] (fun t i => ∃ k : Nat, k ≤ l.length ∧ i = .int .i64 k ∧ t = .int .u32 (U (crc (~~~ B c) (l.take k)))) (fun _ i => l.length - (intOf i).toNat)
  case atStart => exact ⟨0, Nat.zero_le _, rfl, rfl⟩
  case round =>
    obtain ⟨k, hk, rfl, rfl⟩ := hrel
    by_cases hlt : k < l.length
    · obtain ⟨b, off, rfl, hc⟩ := HR.out.1 k hlt
      obtain ⟨hx0, hx1⟩ := HR.out.2 k
      have HT : Hid (l.take (k + 1) = l.take k ++ [l.getD k 0]) := take_succ_getD l k hlt
      generalize l.getD k 0 = x at hc hx0 hx1 HT
      clear HR
      go_wp2_with fail
      rw [xor_U, B_U]
      refine (shift_any _ _).mono ?_
      rintro e w' ⟨rfl, rfl⟩
      go_wp2
      go_round
      case rel => exact ⟨k + 1, by omega, by go_num, by rw [HT.out, crc_snoc]⟩
      case measure => simp [intOf]; omega
    · have hk8 : Hid (k = l.length) := by unfold Hid; omega
      go_wp2
      go_ret
      exact ⟨ret_int (by rw [hk8.out, List.take_length, B_U]; rfl), rfl⟩

set_option maxHeartbeats 400000 in
theorem crc_any (a : Option Addr) (cap : Nat) (l : List Int) (w : World) (hm : l.length ≤ maxLen) (hr : Reads w a l) :
    Calls Try.prog 70 #[.slice a l.length cap] w fun e w' => e = .returned (.int .u32 (U (more 0#32 l))) ∧ w' = w := by
  go_enter Try.func70, Try.ntmps70
  go_wp2_with (go_at_call 77; refine (more_any _ _ _ _ _ hm hr).mono ?_; rintro e w' ⟨rfl, rfl⟩)
  go_ret
  exact ⟨rfl, rfl⟩

theorem more_at (c : Int) (a : Option Addr) (n cap : Nat) (l : List Int) (w : World) (hn : l.length = n) (hm : n ≤ maxLen) (hr : Reads w a l) :
    Calls Try.prog 77 #[.int .u32 c, .slice a n cap] w fun e w' => e = .returned (.int .u32 (U (more (B c) l))) ∧ w' = w := by
  subst hn; exact more_any c a cap l w hm hr
theorem crc_at (a : Option Addr) (n cap : Nat) (l : List Int) (w : World) (hn : l.length = n) (hm : n ≤ maxLen) (hr : Reads w a l) :
    Calls Try.prog 70 #[.slice a n cap] w fun e w' => e = .returned (.int .u32 (U (more 0#32 l))) ∧ w' = w := by
  subst hn; exact crc_any a cap l w hm hr

end Go.Proofs.Ytanbbmlekebhhaa
