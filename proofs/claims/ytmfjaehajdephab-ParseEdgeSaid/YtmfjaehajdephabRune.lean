/-
  What the document's own reckoning (package cellaretref1) answers of the rune that a text begins with.
-/
import Derived.Test.YtmfjaehajdephabJN
import Derived.Laws.BitsLemmas
namespace Go.Proofs.Ytmfjaehajdephab
open Go.Shelf Go.RowKit
set_option linter.unusedVariables false

theorem wrap_u8_small (n : Int) (h0 : 0 ≤ n) (h1 : n < 2 ^ 8) : IntKind.u8.wrap n = n := by
  rw [IntKind.wrap_u8]; omega
theorem wrap_i64_small (n : Int) (h0 : 0 ≤ n) (h1 : n < 2 ^ 62) : IntKind.i64.wrap n = n := by
  rw [IntKind.wrap_i64]; omega

set_option maxRecDepth 100000 in
theorem and192_nat : ∀ x : Fin 256, (x.val &&& 192 = 128) = (x.val / 64 = 2) := by decide
theorem and192 (b : UInt8) : (bits BinOp.and IntKind.u8 ((b.toNat : Nat) : Int) 192 != 128) = !decide (b.toNat / 64 = 2) := by
  have hb := b.toNat_lt
  have h1 := (bits_nat .u8 8 (by decide) wrap_u8_small b.toNat 192 hb (by decide)).1
  have h2 := and192_nat ⟨b.toNat, hb⟩
  simp only at h2
  rw [show (192 : Int) = ((192 : Nat) : Int) from rfl, h1]
  by_cases hc : b.toNat / 64 = 2
  · have h3 : b.toNat &&& 192 = 128 := by rw [h2]; exact hc
    rw [h3]; simp [hc]
  · have h3 : ¬ (b.toNat &&& 192 = 128) := by rw [h2]; exact hc
    have h4 : ((b.toNat &&& 192 : Nat) : Int) ≠ 128 := by omega
    simp [hc, h4]
theorem and63 (b : UInt8) : bits BinOp.and IntKind.u8 ((b.toNat : Nat) : Int) 63 = ((b.toNat % 64 : Nat) : Int) := by
  have hb := b.toNat_lt
  have := bits_mask .u8 8 (by decide) wrap_u8_small 6 (by decide) (b.toNat : Int) (by omega) (by omega)
  rw [show (63 : Int) = 2 ^ 6 - 1 from rfl, this]
  omega
theorem and_low (m i : Nat) (x : Nat) (hx : x < 256) (hi : i ≤ 62) : bits BinOp.and IntKind.i64 ((x : Nat) : Int) (2 ^ i - 1) = ((x % 2 ^ i : Nat) : Int) := by
  rw [bits_mask .i64 62 (by decide) wrap_i64_small i hi (x : Int) (by omega) (by omega)]
  simp
theorem and31 (x : Nat) (hx : x < 256) : bits BinOp.and IntKind.i64 ((x : Nat) : Int) 31 = ((x % 32 : Nat) : Int) := and_low 31 5 x hx (by decide)
theorem and15 (x : Nat) (hx : x < 256) : bits BinOp.and IntKind.i64 ((x : Nat) : Int) 15 = ((x % 16 : Nat) : Int) := and_low 15 4 x hx (by decide)
theorem and7 (x : Nat) (hx : x < 256) : bits BinOp.and IntKind.i64 ((x : Nat) : Int) 7 = ((x % 8 : Nat) : Int) := and_low 7 3 x hx (by decide)
theorem or64 (x y : Nat) (hx : x < 16777216) (hy : y < 64) : bits BinOp.or IntKind.i64 (((x : Nat) : Int) * 64) (wrap64 ((y : Nat) : Int)) = ((x * 64 + y : Nat) : Int) := by
  have e : wrap64 ((y : Nat) : Int) = ((y : Nat) : Int) := by unfold wrap64; omega
  rw [e, bits_join .i64 62 (by decide) wrap_i64_small 6 _ _ (by omega) (by omega) (by omega) (by omega) (by omega) (by omega)]
  omega

theorem drop_head (s : ByteArray) (i : Nat) (h : i < s.size) : s.data.toList.drop i = s[i] :: s.data.toList.drop (i + 1) := by
  rw [List.drop_eq_getElem_cons (by rw [size8]; exact h)]
  rfl

theorem head0 (s : ByteArray) (h0 : 0 < s.size) : s.data.toList = s[0] :: s.data.toList.drop 1 := drop_head s 0 h0

theorem scan_not {n : Nat} {s : ByteArray} {k x : Nat} (hk : k < s.size) (hn : k < n) (hc : ¬ s[k].toNat / 64 = 2) : scan (n - k) (s.data.toList.drop k) x = none := by
  rw [drop_head s k hk, show n - k = (n - k - 1) + 1 by omega]
  simp [scan, hc]
theorem scan_on {n : Nat} {s : ByteArray} {k x : Nat} (hk : k < s.size) (hn : k < n) (hc : s[k].toNat / 64 = 2) : scan (n - k) (s.data.toList.drop k) x = scan (n - (k + 1)) (s.data.toList.drop (k + 1)) (x * 64 + s[k].toNat % 64) := by
  rw [drop_head s k hk, show n - k = (n - (k + 1)) + 1 by omega]
  simp [scan, hc]
theorem fin8_none {n lo v : Nat} {t : List UInt8} (h : scan n t v = none) : fin8 n lo v t = (-1, 1) := by unfold fin8; rw [h]
theorem fin8_some {n lo v x : Nat} {t : List UInt8} (h : scan n t v = some x) : fin8 n lo v t = if x < lo ∨ 1114111 < x ∨ (55296 ≤ x ∧ x < 57344) then (-1, 1) else ((x : Int), n + 1) := by unfold fin8; rw [h]
theorem scan_short {n v : Nat} {s : ByteArray} (h0 : 0 < s.size) (h : s.size < n + 1) : scan n (s.data.toList.drop 1) v = none := by
  cases hh : scan n (s.data.toList.drop 1) v with
  | none => rfl
  | some x =>
    have := scan_len hh
    rw [drop_len] at this
    omega

set_option maxHeartbeats 4000000 in
set_option maxRecDepth 1000000 in
theorem rune1_2 (s : ByteArray) (w : World) (h0 : 0 < s.size) (hm : s.size ≤ maxLen) (h1 : 194 ≤ s[0].toNat ∧ s[0].toNat < 224) :
    Calls Try.prog 46 #[.string s] w fun e w' => e = .returned (.tuple #[.int .i64 (dec s.data.toList).1, .int .i64 (dec s.data.toList).2]) ∧ w' = w := by
  have hm' : s.size ≤ 9223372036854775807 := hm
  have hal := s[0].toNat_lt
  have HD : Hid (dec s.data.toList = fin8 1 128 (s[0].toNat % 32) (s.data.toList.drop 1)) := by
    simp only [Hid]
    conv => lhs; rw [head0 s h0]
    simp only [dec]
    rw [if_neg (by omega), if_pos (by omega)]
  have hand := and31 s[0].toNat hal
  have f0 : ¬ ((s[0].toNat : Nat) : Int) < 128 := by omega
  have f1 : 194 ≤ ((s[0].toNat : Nat) : Int) := by omega
  have f2 : ((s[0].toNat : Nat) : Int) < 224 := by omega
  by_cases hn : s.size < 2
  · have hni : (s.size : Int) < 2 := by omega
    go_enter Try.func46, Try.ntmps46
    go_wp2
    go_ret2
    have e1 := HD.out
    rw [fin8_none (scan_short h0 (by omega))] at e1
    rw [e1]
    exact ⟨rfl, rfl⟩
  · have hni : ¬ (s.size : Int) < 2 := by omega
    generalize hA : s[0].toNat = A at *
    clear hal
    go_enter Try.func46, Try.ntmps46
    go_wp2
    go_loop [7, 8] (fun v i => ∃ (x k : Nat), v = .int .i64 x ∧ i = .int .i64 k ∧ 1 ≤ k ∧ k ≤ 2 ∧ (k = 1 → x < 32) ∧ (k = 2 → x < 2048) ∧ (k = 3 → x < 131072) ∧ (k = 4 → x < 8388608) ∧ Hid (scan (2 - k) (s.data.toList.drop k) x = scan 1 (s.data.toList.drop 1) (A % 32))) (fun _ i => 2 - (intOf i).toNat)
    case atStart => exact ⟨A % 32, 1, by simp, rfl, by omega, by omega, by omega, by omega, by omega, by omega, rfl⟩
    case round =>
      obtain ⟨x, k, rfl, rfl, hk1, hk2, hx1, hx2, hx3, hx4, HS⟩ := hrel
      by_cases hk : k < 2
      · have hks : k < s.size := by omega
        have hki : (k : Int) < 2 := by omega
        by_cases hc : s[k].toNat / 64 = 2
        · have hb : (bits BinOp.and IntKind.u8 ((s[k].toNat : Nat) : Int) 192 != 128) = false := by rw [and192, decide_eq_true hc]; rfl
          have HC : Hid (scan (2 - k) (s.data.toList.drop k) x = scan (2 - (k + 1)) (s.data.toList.drop (k + 1)) (x * 64 + s[k].toNat % 64)) := scan_on hks hk hc
          have HV : Hid (bits BinOp.or IntKind.i64 (((x : Nat) : Int) * 64) (wrap64 (bits BinOp.and IntKind.u8 ((s[k].toNat : Nat) : Int) 63)) = ((x * 64 + s[k].toNat % 64 : Nat) : Int)) := by
            simp only [Hid]
            rw [and63, or64 x _ (by omega) (by omega)]
          clear hc
          go_wp2
          go_round
          case rel => exact ⟨x * 64 + s[k].toNat % 64, k + 1, by rw [HV.out], by go_num, by omega, by omega, by omega, by omega, by omega, by omega, by have := HS.out; rw [HC.out] at this; exact this⟩
          case measure => simp [intOf]; omega
        · have hb : (bits BinOp.and IntKind.u8 ((s[k].toNat : Nat) : Int) 192 != 128) = true := by rw [and192, decide_eq_false hc]; rfl
          have HC : Hid (scan (2 - k) (s.data.toList.drop k) x = none) := scan_not hks hk hc
          clear hc
          go_wp2
          go_ret2
          have e1 := HD.out
          have e2 := HS.out
          rw [HC.out] at e2
          rw [fin8_none e2.symm] at e1
          rw [e1]
          exact ⟨rfl, rfl⟩
      · obtain rfl : k = 2 := by omega
        have e1 := HD.out
        rw [fin8_some HS.out.symm] at e1
        have HE : Hid (dec s.data.toList = if x < 128 ∨ 1114111 < x ∨ (55296 ≤ x ∧ x < 57344) then (-1, 1) else ((x : Int), 1 + 1)) := e1
        clear e1 HD HS hx1 hx2 hx3 hx4 hand
        by_cases c1 : x < 128
        · have c1i : (x : Int) < 128 := by omega
          go_wp2
          go_ret2
          rw [HE.out, if_pos (.inl c1)]
          exact ⟨rfl, rfl⟩
        · have c1i : ¬ (x : Int) < 128 := by omega
          by_cases c2 : 1114111 < x
          · have c2i : (1114111 : Int) < x := by omega
            go_wp2
            go_ret2
            rw [HE.out, if_pos (.inr (.inl c2))]
            exact ⟨rfl, rfl⟩
          · have c2i : ¬ (1114111 : Int) < x := by omega
            by_cases c3 : 55296 ≤ x
            · have c3i : (55296 : Int) ≤ x := by omega
              by_cases c4 : x < 57344
              · have c4i : (x : Int) < 57344 := by omega
                go_wp2
                go_ret2
                rw [HE.out, if_pos (.inr (.inr ⟨c3, c4⟩))]
                exact ⟨rfl, rfl⟩
              · have c4i : ¬ (x : Int) < 57344 := by omega
                go_wp2
                go_ret2
                rw [HE.out, if_neg (by omega)]
                exact ⟨rfl, rfl⟩
            · have c3i : ¬ (55296 : Int) ≤ x := by omega
              go_wp2
              go_ret2
              rw [HE.out, if_neg (by omega)]
              exact ⟨rfl, rfl⟩

set_option maxHeartbeats 4000000 in
set_option maxRecDepth 1000000 in
theorem rune1_3 (s : ByteArray) (w : World) (h0 : 0 < s.size) (hm : s.size ≤ maxLen) (h1 : 224 ≤ s[0].toNat ∧ s[0].toNat < 240) :
    Calls Try.prog 46 #[.string s] w fun e w' => e = .returned (.tuple #[.int .i64 (dec s.data.toList).1, .int .i64 (dec s.data.toList).2]) ∧ w' = w := by
  have hm' : s.size ≤ 9223372036854775807 := hm
  have hal := s[0].toNat_lt
  have HD : Hid (dec s.data.toList = fin8 2 2048 (s[0].toNat % 16) (s.data.toList.drop 1)) := by
    simp only [Hid]
    conv => lhs; rw [head0 s h0]
    simp only [dec]
    rw [if_neg (by omega), if_neg (by omega), if_pos (by omega)]
  have hand := and15 s[0].toNat hal
  have f0 : ¬ ((s[0].toNat : Nat) : Int) < 128 := by omega
  have f1 : 194 ≤ ((s[0].toNat : Nat) : Int) := by omega
  have f2 : ¬ ((s[0].toNat : Nat) : Int) < 224 := by omega
  have f3 : 224 ≤ ((s[0].toNat : Nat) : Int) := by omega
  have f4 : ((s[0].toNat : Nat) : Int) < 240 := by omega
  by_cases hn : s.size < 3
  · have hni : (s.size : Int) < 3 := by omega
    go_enter Try.func46, Try.ntmps46
    go_wp2
    go_ret2
    have e1 := HD.out
    rw [fin8_none (scan_short h0 (by omega))] at e1
    rw [e1]
    exact ⟨rfl, rfl⟩
  · have hni : ¬ (s.size : Int) < 3 := by omega
    generalize hA : s[0].toNat = A at *
    clear hal
    go_enter Try.func46, Try.ntmps46
    go_wp2
    go_loop [7, 8] (fun v i => ∃ (x k : Nat), v = .int .i64 x ∧ i = .int .i64 k ∧ 1 ≤ k ∧ k ≤ 3 ∧ (k = 1 → x < 32) ∧ (k = 2 → x < 2048) ∧ (k = 3 → x < 131072) ∧ (k = 4 → x < 8388608) ∧ Hid (scan (3 - k) (s.data.toList.drop k) x = scan 2 (s.data.toList.drop 1) (A % 16))) (fun _ i => 3 - (intOf i).toNat)
    case atStart => exact ⟨A % 16, 1, by simp, rfl, by omega, by omega, by omega, by omega, by omega, by omega, rfl⟩
    case round =>
      obtain ⟨x, k, rfl, rfl, hk1, hk2, hx1, hx2, hx3, hx4, HS⟩ := hrel
      by_cases hk : k < 3
      · have hks : k < s.size := by omega
        have hki : (k : Int) < 3 := by omega
        by_cases hc : s[k].toNat / 64 = 2
        · have hb : (bits BinOp.and IntKind.u8 ((s[k].toNat : Nat) : Int) 192 != 128) = false := by rw [and192, decide_eq_true hc]; rfl
          have HC : Hid (scan (3 - k) (s.data.toList.drop k) x = scan (3 - (k + 1)) (s.data.toList.drop (k + 1)) (x * 64 + s[k].toNat % 64)) := scan_on hks hk hc
          have HV : Hid (bits BinOp.or IntKind.i64 (((x : Nat) : Int) * 64) (wrap64 (bits BinOp.and IntKind.u8 ((s[k].toNat : Nat) : Int) 63)) = ((x * 64 + s[k].toNat % 64 : Nat) : Int)) := by
            simp only [Hid]
            rw [and63, or64 x _ (by omega) (by omega)]
          clear hc
          go_wp2
          go_round
          case rel => exact ⟨x * 64 + s[k].toNat % 64, k + 1, by rw [HV.out], by go_num, by omega, by omega, by omega, by omega, by omega, by omega, by have := HS.out; rw [HC.out] at this; exact this⟩
          case measure => simp [intOf]; omega
        · have hb : (bits BinOp.and IntKind.u8 ((s[k].toNat : Nat) : Int) 192 != 128) = true := by rw [and192, decide_eq_false hc]; rfl
          have HC : Hid (scan (3 - k) (s.data.toList.drop k) x = none) := scan_not hks hk hc
          clear hc
          go_wp2
          go_ret2
          have e1 := HD.out
          have e2 := HS.out
          rw [HC.out] at e2
          rw [fin8_none e2.symm] at e1
          rw [e1]
          exact ⟨rfl, rfl⟩
      · obtain rfl : k = 3 := by omega
        have e1 := HD.out
        rw [fin8_some HS.out.symm] at e1
        have HE : Hid (dec s.data.toList = if x < 2048 ∨ 1114111 < x ∨ (55296 ≤ x ∧ x < 57344) then (-1, 1) else ((x : Int), 2 + 1)) := e1
        clear e1 HD HS hx1 hx2 hx3 hx4 hand
        by_cases c1 : x < 2048
        · have c1i : (x : Int) < 2048 := by omega
          go_wp2
          go_ret2
          rw [HE.out, if_pos (.inl c1)]
          exact ⟨rfl, rfl⟩
        · have c1i : ¬ (x : Int) < 2048 := by omega
          by_cases c2 : 1114111 < x
          · have c2i : (1114111 : Int) < x := by omega
            go_wp2
            go_ret2
            rw [HE.out, if_pos (.inr (.inl c2))]
            exact ⟨rfl, rfl⟩
          · have c2i : ¬ (1114111 : Int) < x := by omega
            by_cases c3 : 55296 ≤ x
            · have c3i : (55296 : Int) ≤ x := by omega
              by_cases c4 : x < 57344
              · have c4i : (x : Int) < 57344 := by omega
                go_wp2
                go_ret2
                rw [HE.out, if_pos (.inr (.inr ⟨c3, c4⟩))]
                exact ⟨rfl, rfl⟩
              · have c4i : ¬ (x : Int) < 57344 := by omega
                go_wp2
                go_ret2
                rw [HE.out, if_neg (by omega)]
                exact ⟨rfl, rfl⟩
            · have c3i : ¬ (55296 : Int) ≤ x := by omega
              go_wp2
              go_ret2
              rw [HE.out, if_neg (by omega)]
              exact ⟨rfl, rfl⟩

set_option maxHeartbeats 4000000 in
set_option maxRecDepth 1000000 in
theorem rune1_4 (s : ByteArray) (w : World) (h0 : 0 < s.size) (hm : s.size ≤ maxLen) (h1 : 240 ≤ s[0].toNat ∧ s[0].toNat < 245) :
    Calls Try.prog 46 #[.string s] w fun e w' => e = .returned (.tuple #[.int .i64 (dec s.data.toList).1, .int .i64 (dec s.data.toList).2]) ∧ w' = w := by
  have hm' : s.size ≤ 9223372036854775807 := hm
  have hal := s[0].toNat_lt
  have HD : Hid (dec s.data.toList = fin8 3 65536 (s[0].toNat % 8) (s.data.toList.drop 1)) := by
    simp only [Hid]
    conv => lhs; rw [head0 s h0]
    simp only [dec]
    rw [if_neg (by omega), if_neg (by omega), if_neg (by omega), if_pos (by omega)]
  have hand := and7 s[0].toNat hal
  have f0 : ¬ ((s[0].toNat : Nat) : Int) < 128 := by omega
  have f1 : 194 ≤ ((s[0].toNat : Nat) : Int) := by omega
  have f2 : ¬ ((s[0].toNat : Nat) : Int) < 224 := by omega
  have f3 : 224 ≤ ((s[0].toNat : Nat) : Int) := by omega
  have f4 : ¬ ((s[0].toNat : Nat) : Int) < 240 := by omega
  have f5 : 240 ≤ ((s[0].toNat : Nat) : Int) := by omega
  have f6 : ((s[0].toNat : Nat) : Int) < 245 := by omega
  by_cases hn : s.size < 4
  · have hni : (s.size : Int) < 4 := by omega
    go_enter Try.func46, Try.ntmps46
    go_wp2
    go_ret2
    have e1 := HD.out
    rw [fin8_none (scan_short h0 (by omega))] at e1
    rw [e1]
    exact ⟨rfl, rfl⟩
  · have hni : ¬ (s.size : Int) < 4 := by omega
    generalize hA : s[0].toNat = A at *
    clear hal
    go_enter Try.func46, Try.ntmps46
    go_wp2
    go_loop [7, 8] (fun v i => ∃ (x k : Nat), v = .int .i64 x ∧ i = .int .i64 k ∧ 1 ≤ k ∧ k ≤ 4 ∧ (k = 1 → x < 32) ∧ (k = 2 → x < 2048) ∧ (k = 3 → x < 131072) ∧ (k = 4 → x < 8388608) ∧ Hid (scan (4 - k) (s.data.toList.drop k) x = scan 3 (s.data.toList.drop 1) (A % 8))) (fun _ i => 4 - (intOf i).toNat)
    case atStart => exact ⟨A % 8, 1, by simp, rfl, by omega, by omega, by omega, by omega, by omega, by omega, rfl⟩
    case round =>
      obtain ⟨x, k, rfl, rfl, hk1, hk2, hx1, hx2, hx3, hx4, HS⟩ := hrel
      by_cases hk : k < 4
      · have hks : k < s.size := by omega
        have hki : (k : Int) < 4 := by omega
        by_cases hc : s[k].toNat / 64 = 2
        · have hb : (bits BinOp.and IntKind.u8 ((s[k].toNat : Nat) : Int) 192 != 128) = false := by rw [and192, decide_eq_true hc]; rfl
          have HC : Hid (scan (4 - k) (s.data.toList.drop k) x = scan (4 - (k + 1)) (s.data.toList.drop (k + 1)) (x * 64 + s[k].toNat % 64)) := scan_on hks hk hc
          have HV : Hid (bits BinOp.or IntKind.i64 (((x : Nat) : Int) * 64) (wrap64 (bits BinOp.and IntKind.u8 ((s[k].toNat : Nat) : Int) 63)) = ((x * 64 + s[k].toNat % 64 : Nat) : Int)) := by
            simp only [Hid]
            rw [and63, or64 x _ (by omega) (by omega)]
          clear hc
          go_wp2
          go_round
          case rel => exact ⟨x * 64 + s[k].toNat % 64, k + 1, by rw [HV.out], by go_num, by omega, by omega, by omega, by omega, by omega, by omega, by have := HS.out; rw [HC.out] at this; exact this⟩
          case measure => simp [intOf]; omega
        · have hb : (bits BinOp.and IntKind.u8 ((s[k].toNat : Nat) : Int) 192 != 128) = true := by rw [and192, decide_eq_false hc]; rfl
          have HC : Hid (scan (4 - k) (s.data.toList.drop k) x = none) := scan_not hks hk hc
          clear hc
          go_wp2
          go_ret2
          have e1 := HD.out
          have e2 := HS.out
          rw [HC.out] at e2
          rw [fin8_none e2.symm] at e1
          rw [e1]
          exact ⟨rfl, rfl⟩
      · obtain rfl : k = 4 := by omega
        have e1 := HD.out
        rw [fin8_some HS.out.symm] at e1
        have HE : Hid (dec s.data.toList = if x < 65536 ∨ 1114111 < x ∨ (55296 ≤ x ∧ x < 57344) then (-1, 1) else ((x : Int), 3 + 1)) := e1
        clear e1 HD HS hx1 hx2 hx3 hx4 hand
        by_cases c1 : x < 65536
        · have c1i : (x : Int) < 65536 := by omega
          go_wp2
          go_ret2
          rw [HE.out, if_pos (.inl c1)]
          exact ⟨rfl, rfl⟩
        · have c1i : ¬ (x : Int) < 65536 := by omega
          by_cases c2 : 1114111 < x
          · have c2i : (1114111 : Int) < x := by omega
            go_wp2
            go_ret2
            rw [HE.out, if_pos (.inr (.inl c2))]
            exact ⟨rfl, rfl⟩
          · have c2i : ¬ (1114111 : Int) < x := by omega
            by_cases c3 : 55296 ≤ x
            · have c3i : (55296 : Int) ≤ x := by omega
              by_cases c4 : x < 57344
              · have c4i : (x : Int) < 57344 := by omega
                go_wp2
                go_ret2
                rw [HE.out, if_pos (.inr (.inr ⟨c3, c4⟩))]
                exact ⟨rfl, rfl⟩
              · have c4i : ¬ (x : Int) < 57344 := by omega
                go_wp2
                go_ret2
                rw [HE.out, if_neg (by omega)]
                exact ⟨rfl, rfl⟩
            · have c3i : ¬ (55296 : Int) ≤ x := by omega
              go_wp2
              go_ret2
              rw [HE.out, if_neg (by omega)]
              exact ⟨rfl, rfl⟩
end Go.Proofs.Ytmfjaehajdephab
