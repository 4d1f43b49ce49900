/- Package image: 'number', 'addNumber', 'laid', 'within', 'allGood', 'fit'. -/
import Derived.Test.YtanbbmlekebhhaaNum9
import Derived.Test.YtanbbmlekebhhaaRRow
set_option linter.unusedVariables false
set_option linter.unusedSimpArgs false
set_option maxRecDepth 8000
namespace Go.Proofs.Ytanbbmlekebhhaa
open Go.RowKit Go.Deep Math

theorem ofInt_i64 (a : Nat) (h : a < 9223372036854775808) : (BitVec.ofInt 64 (a : Int)).toNat = a := by
  rw [BitVec.ofInt_natCast, BitVec.toNat_ofNat]; omega
theorem i64_or_nat (a b : Nat) (ha : a < 4611686018427387904) (hb : b < 4611686018427387904) : bits .or .i64 (a : Int) (b : Int) = ((a ||| b : Nat) : Int) := by
  have hx : a ||| b < 2 ^ 62 := Nat.or_lt_two_pow (by omega) (by omega)
  show IntKind.i64.wrap ((BitVec.ofInt 64 (a : Int) ||| BitVec.ofInt 64 (b : Int)).toNat : Int) = _
  rw [BitVec.toNat_or, ofInt_i64 a (by omega), ofInt_i64 b (by omega), IntKind.wrap_i64]
  omega
theorem or_byteI (l : List UInt8) (x : UInt8) (hk8 : l.length < 4) (y : Int) (hy : y = ((256 ^ l.length * x.toNat : Nat) : Int)) : bits .or .i64 (up l : Int) y = (up (l ++ [x]) : Int) := by
  have h1 := up_lt l
  have h2 := up_lt (l ++ [x])
  have hx := x.toNat_lt
  rw [up_snoc] at h2 ⊢
  have hp : 256 ^ (l ++ [x]).length ≤ 4294967296 := by
    have : (256 : Nat) ^ (l ++ [x]).length ≤ 256 ^ 4 := Nat.pow_le_pow_right (by decide) (by simp; omega)
    exact this
  have e256 : 256 ^ l.length = 2 ^ (8 * l.length) := by rw [Nat.pow_mul]
  rw [hy, i64_or_nat _ _ (by omega) (by omega)]
  congr 1
  rw [e256] at h1 ⊢
  have h3 := Nat.shiftLeft_add_eq_or_of_lt h1 x.toNat
  rw [Nat.shiftLeft_eq] at h3
  rw [Nat.mul_comm (2 ^ (8 * l.length)), Nat.or_comm, ← h3, Nat.add_comm]

set_option maxHeartbeats 1000000 in
theorem number15 (a : Option Addr) (n cap : Nat) (l : List UInt8) (hn : n = l.length) (h8 : n ≤ 4) (w : World) (hr : Reads w a (ints l)) :
    Calls Try.prog 57 #[.slice a n cap] w fun e w' => e = .returned (.int .i64 (up l : Int)) ∧ w' = w := by
  have HR : Hid (Reads w a (ints l)) := hr
  have HN := hide hn
  clear hr hn
  go_enter Try.func57, Try.ntmps57
  go_wp2
  go_loop [3, 8] (fun t i => ∃ k m : Nat, k ≤ n ∧ i = .int .i64 k ∧ t = .int .i64 m ∧ Hid (m = up (l.take k))) (fun _ i => n - (intOf i).toNat)
  case atStart => exact ⟨0, 0, Nat.zero_le _, rfl, rfl, rfl⟩
  case round =>
    obtain ⟨k, m, hk, rfl, rfl, hm⟩ := hrel
    by_cases hlt : k < n
    · obtain ⟨b, off, rfl, hc⟩ := HR.out.1 k (by rw [ints_length, ← HN.out]; exact hlt)
      rw [ints_getD] at hc
      have HT := hide (take_snoc_byte l k (by rw [← HN.out]; exact hlt))
      have HL : Hid ((l.take k).length = k) := by show _ = _; rw [List.length_take, ← HN.out]; omega
      generalize l.getD k 0 = x at hc HT
      have hx1 : (x.toNat : Int) ≤ 255 := by have := x.toNat_lt; omega
      have OB : Hid (∀ y : Int, y = ((256 ^ k * x.toNat : Nat) : Int) → bits .or .i64 (m : Int) y = (up (l.take (k + 1)) : Int)) := fun y hy => by
        rw [hm.out, HT.out]
        exact or_byteI (l.take k) x (by rw [HL.out]; omega) y (by rw [HL.out]; exact hy)
      clear HR
      rcases (show k = 0 ∨ k = 1 ∨ k = 2 ∨ k = 3 by omega) with rfl | rfl | rfl | rfl
      all_goals (
        try simp only [Nat.add_zero] at hc
        go_wp2
        go_round
        case rel => exact ⟨_, _, hlt, rfl, (by rw [OB.out _ (by first | omega | (rw [IntKind.wrap_i64]; unfold wrap64; omega) | (unfold wrap64; omega))]), rfl⟩
        case measure => simp [intOf]; omega)
    · have hkn : Hid (k = n) := by unfold Hid; omega
      go_wp2
      go_ret
      exact ⟨ret_int (by rw [hm.out, hkn.out, HN.out, List.take_length]), rfl⟩

set_option maxHeartbeats 400000 in
/-- 'addNumber' into a row with room. -/
theorem addNumber15 (g r k nl cp : Nat) (l : List UInt8) (n : Nat) (hn : n < 4294967296) (hk : k ≤ r) (hk8 : k ≤ 8) (hnl : nl = l.length) (hcp : cp = l.length + r) (hc63 : cp ≤ 9223372036854775807) (w : World) (h : Buf w g l r) :
    Calls Try.prog 66 #[.slice (some ⟨g, 0, none⟩) nl cp, .int .i64 n, .int .i64 k] w fun e w' => e = .returned (.slice (some ⟨g, 0, none⟩) (nl + k) cp) ∧ Buf w' g (l ++ low n k) (r - k) ∧ Keep [g] w w' := by
  have HB := hide h
  have HNL := hide hnl
  have HCP := hide hcp
  have HK := hide hk
  have HN := hide hn
  clear h hnl hcp hk hn hc63
  go_enter Try.func66, Try.ntmps66
  go_wp2_with fail
  go_loopg [0, 1, 8] k (fun kx s0 s1 s8 wr => ∃ i m : Nat, s8 = .int .i64 i ∧ s0 = .slice (some ⟨g, 0, none⟩) (nl + i) cp ∧ s1 = .int .i64 m ∧ i ≤ k ∧ k - i ≤ kx ∧ m < 4294967296 ∧ Hid (m = n / 256 ^ i ∧ Buf wr g (l ++ low n i) (r - i) ∧ Keep [g] w wr))
  case atStart => exact ⟨0, n, rfl, rfl, rfl, Nat.zero_le _, by omega, HN.out, by simp, by simpa [low] using HB.out, Keep.refl _ _⟩
  case round =>
    obtain ⟨i, m, rfl, rfl, rfl, hik, hg, hm4, I⟩ := hrel
    by_cases hlt : i < k
    · have hlt2 : (i : Int) < (k : Int) := by omega
      obtain ⟨W, hr, hb, hkp⟩ := buf_one (nl := nl + i) (cp := cp) I.out.2.1 m ((m : Int) % 256) (by omega) (by have := HK.out; omega) (by rw [List.length_append, low_length, HNL.out]) (by rw [List.length_append, low_length, HCP.out]; have := HK.out; omega)
      have HR := hide hr
      have HW := hide hb
      have HKP := hide hkp
      have hm5 : (m : Int) < 4294967296 := by omega
      have hm0 : (0 : Int) ≤ (m : Int) := by omega
      clear hr hb hkp
      go_wp2_with (at_builtin; refine Lib.wpList_append_run _ rfl _ _ _ _ rfl _ _ rfl rfl _ _ HR.out ?_)
      go_roundg (k - (i + 1))
      case measure => omega
      case rel =>
        refine ⟨i + 1, m / 256, rfl, rfl, rfl, by omega, by omega, by omega, ?_, ?_, I.out.2.2.trans HKP.out (fun x hx => .inl hx)⟩
        · rw [I.out.1, Nat.div_div_eq_div_mul, Nat.pow_succ]
        · rw [low_snoc, ← I.out.1, ← List.append_assoc, show r - (i + 1) = r - i - 1 by omega]
          exact HW.out
    · obtain rfl : i = k := by omega
      have hlt2 : ¬ (i : Int) < (i : Int) := by omega
      go_wp2
      go_ret
      exact ⟨rfl, I.out.2.1, I.out.2.2⟩
end Go.Proofs.Ytanbbmlekebhhaa
