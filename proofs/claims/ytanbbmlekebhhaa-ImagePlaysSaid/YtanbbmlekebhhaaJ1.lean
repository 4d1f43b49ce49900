/- The document's own device, records, Dump and Load beside the program's: texts joined. -/
import Derived.Test.YtanbbmlekebhhaaRNum
import Derived.Test.YtanbbmlekebhhaaCrc
import Derived.Test.YtanbbmlekebhhaaRTakeS
import Derived.Test.YtanbbmlekebhhaaRExt
import Derived.Deep.RegionHeld
/- 'Up' of the reckoning side. -/
set_option linter.unusedVariables false
set_option linter.unusedSimpArgs false
namespace Go.Proofs.Ytanbbmlekebhhaa
open Go.RowKit Go.Deep Math

theorem up_cons_drop (l : List UInt8) (k : Nat) (h : k < l.length) : up (l.drop k) = (l.getD k 0).toNat + 256 * up (l.drop (k + 1)) := by
  rw [List.drop_eq_getElem_cons h, List.getD_eq_getElem?_getD, List.getElem?_eq_getElem h]
  rfl

theorem or_up (x m : Nat) (hx : x < 256) (hm : m * 256 + x < 18446744073709551616) : bits .or .u64 (IntKind.u64.wrap ((m : Int) * 256)) (IntKind.u64.wrap (x : Int)) = ((x + 256 * m : Nat) : Int) := by
  have h1 : m * 256 < 18446744073709551616 := Nat.lt_of_le_of_lt (Nat.le_add_right _ _) hm
  have h2 : x < 18446744073709551616 := by omega
  have hx8 : x < 2 ^ 8 := hx
  have h3 := Nat.shiftLeft_add_eq_or_of_lt (i := 8) hx8 m
  rw [Nat.shiftLeft_eq] at h3
  have e3 : m * 2 ^ 8 = m * 256 := rfl
  rw [e3] at h3
  have e4 : x + 256 * m = m * 256 + x := by omega
  have e0 : (m : Int) * 256 = ((m * 256 : Nat) : Int) := by omega
  have e1 : IntKind.u64.wrap ((m : Int) * 256) = ((m * 256 : Nat) : Int) := by rw [e0, IntKind.wrap_u64]; omega
  have e2 : IntKind.u64.wrap (x : Int) = ((x : Nat) : Int) := by rw [IntKind.wrap_u64]; omega
  rw [e1, e2, u64_or_nat _ _ h1 h2, ← h3, e4]
theorem txt_get (l : List UInt8) (j : Nat) (h : j < l.length) (h' : j < (txt l).size) : (txt l)[j]'h' = l.getD j 0 := by
  rw [List.getD_eq_getElem?_getD, List.getElem?_eq_getElem h]
  rfl
theorem up_drop_lt (l : List UInt8) (j : Nat) (h8 : l.length ≤ 8) : up (l.drop j) < 18446744073709551616 := by
  have h1 := up_lt (l.drop j)
  have : (256 : Nat) ^ (l.drop j).length ≤ 256 ^ 8 := Nat.pow_le_pow_right (by decide) (by simp; omega)
  have e : (256 : Nat) ^ 8 = 18446744073709551616 := by decide
  omega

set_option maxHeartbeats 1000000 in
theorem up_any (l : List UInt8) (h8 : l.length ≤ 8) (w : World) :
    Calls Try.prog 48 #[.string (txt l)] w fun e w' => e = .returned (.int .u64 (up l : Int)) ∧ w' = w := by
  have hs : (txt l).size = l.length := txt_size l
  go_enter Try.func48, Try.ntmps48
  go_wp2
  go_loop [3, 4] (fun t i => ∃ k m : Nat, k ≤ l.length ∧ i = .int .i64 ((k : Int) - 1) ∧ t = .int .u64 m ∧ Hid (m = up (l.drop k))) (fun _ i => (intOf i + 1).toNat)
  case atStart => exact ⟨l.length, 0, Nat.le_refl _, rfl, rfl, by show 0 = _; rw [List.drop_length]; rfl⟩
  case round =>
    obtain ⟨k, m, hk, rfl, rfl, hm⟩ := hrel
    by_cases hlt : 0 < k
    · obtain ⟨j, rfl⟩ : ∃ j, k = j + 1 := ⟨k - 1, by omega⟩
      have hx := (l.getD j 0).toNat_lt
      have hge : (0 : Int) ≤ ((j + 1 : Nat) : Int) - 1 := by omega
      have U := hide (up_cons_drop l j (by omega))
      go_wp2
      refine ⟨⟨j, up (l.drop j), by omega, rfl, ?_, rfl⟩, by simp [intOf]⟩
      rw [txt_get l j (by omega), hm.out]
      have hd := up_drop_lt l j h8
      rw [U.out] at hd ⊢
      rw [or_up _ _ (by omega) (by omega)]
    · obtain rfl : k = 0 := by omega
      go_wp2
      go_ret
      exact ⟨ret_int (by rw [hm.out]; rfl), rfl⟩
end Go.Proofs.Ytanbbmlekebhhaa

/- The document's own checksum. -/
namespace Go.Proofs.Ytanbbmlekebhhaa
open Go.RowKit Math

set_option maxHeartbeats 800000 in
theorem refMore_any (c : Int) (a : Option Addr) (cap : Nat) (l : List Int) (w : World) (hm : l.length ≤ maxLen) (hr : Reads w a l) :
    Calls Try.prog 78 #[.int .u32 c, .slice a l.length cap] w fun e w' => e = .returned (.int .u32 (U (more (B c) l))) ∧ w' = w := by
  unfold maxLen at hm
  have hnot : ∀ n, bits .xor .u32 n 4294967295 = U (~~~ B n) := not_U'
  have HR : Hid (Reads w a l) := hr
  clear hr
  go_enter Try.func78, Try.ntmps78
  go_wp2
  go_loop [5, 6] (fun t i => ∃ k : Nat, k ≤ l.length ∧ i = .int .i64 k ∧ t = .int .u32 (U (crc (~~~ B c) (l.take k)))) (fun _ i => l.length - (intOf i).toNat)
  case atStart => exact ⟨0, Nat.zero_le _, rfl, rfl⟩
  case round =>
    obtain ⟨k, hk, rfl, rfl⟩ := hrel
    by_cases hlt : k < l.length
    · obtain ⟨b, off, rfl, hc⟩ := HR.out.1 k hlt
      obtain ⟨hx0, hx1⟩ := HR.out.2 k
      have HT : Hid (l.take (k + 1) = l.take k ++ [l.getD k 0]) := take_succ_getD l k hlt
      generalize l.getD k 0 = x at hc hx0 hx1 HT
      have HC : Hid (crc (~~~ B c) (l.take (k + 1)) = sh8 (crc (~~~ B c) (l.take k) ^^^ B x)) := by unfold Hid; rw [HT.out, crc_snoc]
      clear HR HT
      generalize crc (~~~ B c) (l.take k) = d at HC ⊢
      go_wp2
      go_loop [5, 7] (fun t i => ∃ j : Nat, j ≤ 8 ∧ i = .int .i64 j ∧ t = .int .u32 (U (ref1 d x j))) (fun _ i => 8 - (intOf i).toNat)
      case atStart => exact ⟨0, Nat.zero_le _, rfl, by rw [ref1_0]⟩
      case round =>
        obtain ⟨j, hj, rfl, rfl⟩ := hrel
        by_cases hj8 : j < 8
        · go_wp2
          · go_round
            case rel => exact ⟨j + 1, by omega, by go_num, by rw [ref_odd d x j hx0 hx1 (by assumption)]⟩
            case measure => simp [intOf]; omega
          · go_round
            case rel => exact ⟨j + 1, by omega, by go_num, by rw [ref_even d x j hx0 hx1 (by assumption)]⟩
            case measure => simp [intOf]; omega
        · have hk8 : Hid (j = 8) := by unfold Hid; omega
          go_wp2
          go_round
          case rel => exact ⟨k + 1, by omega, by go_num, by rw [HC.out, hk8.out, ref1_8 _ _ hx0 hx1]⟩
          case measure => simp [intOf]; omega
    · have hk8 : Hid (k = l.length) := by unfold Hid; omega
      go_wp2
      go_ret
      exact ⟨ret_int (by rw [hk8.out, List.take_length, B_U]; rfl), rfl⟩

set_option maxHeartbeats 400000 in
theorem refCrc_any (a : Option Addr) (cap : Nat) (l : List Int) (w : World) (hm : l.length ≤ maxLen) (hr : Reads w a l) :
    Calls Try.prog 71 #[.slice a l.length cap] w fun e w' => e = .returned (.int .u32 (U (more 0#32 l))) ∧ w' = w := by
  go_enter Try.func71, Try.ntmps71
  go_wp2_with (go_at_call 78; refine (refMore_any _ _ _ _ _ hm hr).mono ?_; rintro e w' ⟨rfl, rfl⟩)
  go_ret
  exact ⟨rfl, rfl⟩

theorem refMore_at (c : Int) (a : Option Addr) (n cap : Nat) (l : List Int) (w : World) (hn : l.length = n) (hm : n ≤ maxLen) (hr : Reads w a l) :
    Calls Try.prog 78 #[.int .u32 c, .slice a n cap] w fun e w' => e = .returned (.int .u32 (U (more (B c) l))) ∧ w' = w := by
  subst hn; exact refMore_any c a cap l w hm hr
theorem refCrc_at (a : Option Addr) (n cap : Nat) (l : List Int) (w : World) (hn : l.length = n) (hm : n ≤ maxLen) (hr : Reads w a l) :
    Calls Try.prog 71 #[.slice a n cap] w fun e w' => e = .returned (.int .u32 (U (more 0#32 l))) ∧ w' = w := by
  subst hn; exact refCrc_any a cap l w hm hr

end Go.Proofs.Ytanbbmlekebhhaa

/- 'Low' of the reckoning side. -/
set_option linter.unusedVariables false
set_option linter.unusedSimpArgs false
namespace Go.Proofs.Ytanbbmlekebhhaa
open Go.RowKit Go.Deep Math

theorem txt_append (a b : List UInt8) : txt a ++ txt b = txt (a ++ b) := by
  apply ByteArray.ext
  rw [ByteArray.data_append]
  simp [txt]
theorem str1 (m : Nat) (z : Int) (hz : z = ((m % 256 : Nat) : Int)) (W : World) : (convert 39 9 (.slice (some ⟨W.heap.size, 0, none⟩) 1 1)).run Try.prog (W.alloc (.cells #[.int .u8 z] 5)) = .ok (.string (txt [UInt8.ofNat (m % 256)])) (W.alloc (.cells #[.int .u8 z] 5)) := by
  have hb : bCells [UInt8.ofNat (m % 256)] = [.int .u8 z] := by
    simp only [bCells, List.map_cons, List.map_nil, UInt8.toNat_ofNat', hz]
    have : m % 256 % 2 ^ 8 = m % 256 := by omega
    rw [this]
  have h : Buf (W.alloc (.cells #[.int .u8 z] 5)) W.heap.size [UInt8.ofNat (m % 256)] 0 := by
    unfold Buf
    rw [hb]
    exact Blk.new W [.int .u8 z] 5
  refine str_bs (BS.mk' rfl (Nat.le_refl _) ?_) (fun h => by cases h)
  have := h.reads 0
  rwa [List.drop_zero] at this
theorem low_step (v i : Nat) : txt (low v i) ++ txt [UInt8.ofNat (v / 256 ^ i % 256)] = txt (low v (i + 1)) := by
  rw [txt_append, low_snoc]

set_option maxHeartbeats 400000 in
theorem low_any (v n : Nat) (hv : v < 18446744073709551616) (hn : n ≤ 8) (w : World) :
    Calls Try.prog 44 #[.int .u64 v, .int .i64 n] w fun e w' => e = .returned (.string (txt (low v n))) ∧ Below w.heap.size w w' := by
  go_enter Try.func44, Try.ntmps44
  go_wp2_with fail
  go_loopg [5, 6] n (fun kx s3 s4 wr => ∃ i : Nat, s4 = .int .i64 i ∧ s3 = .string (txt (low v i)) ∧ i ≤ n ∧ n - i ≤ kx ∧ Hid (Below w.heap.size w wr))
  case atStart => exact ⟨0, rfl, rfl, Nat.zero_le _, by omega, Below.refl _ _⟩
  case round =>
    obtain ⟨i, rfl, rfl, hin, hg, I⟩ := hrel
    by_cases hlt : i < n
    · have hlt2 : (i : Int) < (n : Int) := by omega
      rcases (show i = 0 ∨ i = 1 ∨ i = 2 ∨ i = 3 ∨ i = 4 ∨ i = 5 ∨ i = 6 ∨ i = 7 by omega) with rfl | rfl | rfl | rfl | rfl | rfl | rfl | rfl
      · have st := fun W => str1 (v / 256 ^ 0) ((v : Int) % 256) (by rw [show (256 : Nat) ^ 0 = 1 from rfl]; omega) W
        have LS := hide (low_step v 0)
        have h1 : (txt (low v 0)).size = 0 := by rw [txt_size, low_length]
        have h2 : (txt [UInt8.ofNat (v / 256 ^ 0 % 256)]).size = 1 := by rw [txt_size]; rfl
        generalize txt [UInt8.ofNat (v / 256 ^ 0 % 256)] = t at st LS h2
        generalize txt (low v 0) = s at *
        have hb : ¬ 9223372036854775807 < s.size + t.size := by omega
        clear h1 h2
        go_wp2
        go_roundg (n - 1)
        case measure => omega
        case rel => exact ⟨1, rfl, by rw [LS.out], by omega, by omega, I.out.alloc I.out.size _⟩
      · have st := fun W => str1 (v / 256 ^ 1) ((v : Int) / 256 % 256) (by rw [show (256 : Nat) ^ 1 = 256 from rfl]; omega) W
        have LS := hide (low_step v 1)
        have h1 : (txt (low v 1)).size = 1 := by rw [txt_size, low_length]
        have h2 : (txt [UInt8.ofNat (v / 256 ^ 1 % 256)]).size = 1 := by rw [txt_size]; rfl
        generalize txt [UInt8.ofNat (v / 256 ^ 1 % 256)] = t at st LS h2
        generalize txt (low v 1) = s at *
        have hb : ¬ 9223372036854775807 < s.size + t.size := by omega
        clear h1 h2
        go_wp2
        go_roundg (n - 2)
        case measure => omega
        case rel => exact ⟨2, rfl, by rw [LS.out], by omega, by omega, I.out.alloc I.out.size _⟩
      · have st := fun W => str1 (v / 256 ^ 2) ((v : Int) / 65536 % 256) (by rw [show (256 : Nat) ^ 2 = 65536 from rfl]; omega) W
        have LS := hide (low_step v 2)
        have h1 : (txt (low v 2)).size = 2 := by rw [txt_size, low_length]
        have h2 : (txt [UInt8.ofNat (v / 256 ^ 2 % 256)]).size = 1 := by rw [txt_size]; rfl
        generalize txt [UInt8.ofNat (v / 256 ^ 2 % 256)] = t at st LS h2
        generalize txt (low v 2) = s at *
        have hb : ¬ 9223372036854775807 < s.size + t.size := by omega
        clear h1 h2
        go_wp2
        go_roundg (n - 3)
        case measure => omega
        case rel => exact ⟨3, rfl, by rw [LS.out], by omega, by omega, I.out.alloc I.out.size _⟩
      · have st := fun W => str1 (v / 256 ^ 3) ((v : Int) / 16777216 % 256) (by rw [show (256 : Nat) ^ 3 = 16777216 from rfl]; omega) W
        have LS := hide (low_step v 3)
        have h1 : (txt (low v 3)).size = 3 := by rw [txt_size, low_length]
        have h2 : (txt [UInt8.ofNat (v / 256 ^ 3 % 256)]).size = 1 := by rw [txt_size]; rfl
        generalize txt [UInt8.ofNat (v / 256 ^ 3 % 256)] = t at st LS h2
        generalize txt (low v 3) = s at *
        have hb : ¬ 9223372036854775807 < s.size + t.size := by omega
        clear h1 h2
        go_wp2
        go_roundg (n - 4)
        case measure => omega
        case rel => exact ⟨4, rfl, by rw [LS.out], by omega, by omega, I.out.alloc I.out.size _⟩
      · have st := fun W => str1 (v / 256 ^ 4) ((v : Int) / 4294967296 % 256) (by rw [show (256 : Nat) ^ 4 = 4294967296 from rfl]; omega) W
        have LS := hide (low_step v 4)
        have h1 : (txt (low v 4)).size = 4 := by rw [txt_size, low_length]
        have h2 : (txt [UInt8.ofNat (v / 256 ^ 4 % 256)]).size = 1 := by rw [txt_size]; rfl
        generalize txt [UInt8.ofNat (v / 256 ^ 4 % 256)] = t at st LS h2
        generalize txt (low v 4) = s at *
        have hb : ¬ 9223372036854775807 < s.size + t.size := by omega
        clear h1 h2
        go_wp2
        go_roundg (n - 5)
        case measure => omega
        case rel => exact ⟨5, rfl, by rw [LS.out], by omega, by omega, I.out.alloc I.out.size _⟩
      · have st := fun W => str1 (v / 256 ^ 5) ((v : Int) / 1099511627776 % 256) (by rw [show (256 : Nat) ^ 5 = 1099511627776 from rfl]; omega) W
        have LS := hide (low_step v 5)
        have h1 : (txt (low v 5)).size = 5 := by rw [txt_size, low_length]
        have h2 : (txt [UInt8.ofNat (v / 256 ^ 5 % 256)]).size = 1 := by rw [txt_size]; rfl
        generalize txt [UInt8.ofNat (v / 256 ^ 5 % 256)] = t at st LS h2
        generalize txt (low v 5) = s at *
        have hb : ¬ 9223372036854775807 < s.size + t.size := by omega
        clear h1 h2
        go_wp2
        go_roundg (n - 6)
        case measure => omega
        case rel => exact ⟨6, rfl, by rw [LS.out], by omega, by omega, I.out.alloc I.out.size _⟩
      · have st := fun W => str1 (v / 256 ^ 6) ((v : Int) / 281474976710656 % 256) (by rw [show (256 : Nat) ^ 6 = 281474976710656 from rfl]; omega) W
        have LS := hide (low_step v 6)
        have h1 : (txt (low v 6)).size = 6 := by rw [txt_size, low_length]
        have h2 : (txt [UInt8.ofNat (v / 256 ^ 6 % 256)]).size = 1 := by rw [txt_size]; rfl
        generalize txt [UInt8.ofNat (v / 256 ^ 6 % 256)] = t at st LS h2
        generalize txt (low v 6) = s at *
        have hb : ¬ 9223372036854775807 < s.size + t.size := by omega
        clear h1 h2
        go_wp2
        go_roundg (n - 7)
        case measure => omega
        case rel => exact ⟨7, rfl, by rw [LS.out], by omega, by omega, I.out.alloc I.out.size _⟩
      · have st := fun W => str1 (v / 256 ^ 7) ((v : Int) / 72057594037927936) (by rw [show (256 : Nat) ^ 7 = 72057594037927936 from rfl]; omega) W
        have LS := hide (low_step v 7)
        have h1 : (txt (low v 7)).size = 7 := by rw [txt_size, low_length]
        have h2 : (txt [UInt8.ofNat (v / 256 ^ 7 % 256)]).size = 1 := by rw [txt_size]; rfl
        generalize txt [UInt8.ofNat (v / 256 ^ 7 % 256)] = t at st LS h2
        generalize txt (low v 7) = s at *
        have hb : ¬ 9223372036854775807 < s.size + t.size := by omega
        clear h1 h2
        go_wp2
        go_roundg (n - 8)
        case measure => omega
        case rel => exact ⟨8, rfl, by rw [LS.out], by omega, by omega, I.out.alloc I.out.size _⟩
    · obtain rfl : i = n := by omega
      have hlt2 : ¬ (i : Int) < (i : Int) := by omega
      go_wp2
      go_ret
      exact ⟨rfl, I.out⟩

set_option maxHeartbeats 400000 in
theorem crcT_any (l : List UInt8) (hl : l.length ≤ 1048576) (w : World) :
    Calls Try.prog 63 #[.string (txt l)] w fun e w' => e = .returned (.int .u64 (crcN l : Int)) ∧ Below w.heap.size w w' := by
  have hr := run_bytes w (txt l)
  have B1 := hide (below_bytes w (txt l))
  have R1 : Reads (Lib.bytesWorld w 5 (txt l)) (some ⟨w.heap.size, 0, none⟩) (ints l) := reads_bytes w (txt l)
  have cc := hide (refCrc_at (some ⟨w.heap.size, 0, none⟩) (txt l).size (grownCap w (txt l).size 0 5) (ints l) (Lib.bytesWorld w 5 (txt l)) (by rw [ints_length, txt_size]) (by rw [txt_size]; unfold maxLen; omega) R1)
  rw [crcN_U] at cc
  have hc := crcN_lt l
  have hw : IntKind.u64.wrap (crcN l : Int) = (crcN l : Int) := by rw [IntKind.wrap_u64]; omega
  generalize crcN l = c at *
  generalize txt l = s at *
  clear R1 hl
  generalize Lib.bytesWorld w 5 s = wb at *
  generalize grownCap w s.size 0 5 = gc at *
  go_enter Try.func63, Try.ntmps63
  go_wp2_with fail
  refine cc.out.mono ?_
  rintro r w1 ⟨rfl, h⟩
  obtain rfl : wb = w1 := h.symm
  clear h
  go_wp2
  go_ret
  exact ⟨rfl, B1.out⟩
end Go.Proofs.Ytanbbmlekebhhaa

/- 'Put' of the reckoning side. -/
set_option linter.unusedVariables false
set_option linter.unusedSimpArgs false
namespace Go.Proofs.Ytanbbmlekebhhaa
open Go.RowKit Go.Deep Math

theorem head_txt (x : It) : txt (low x.key.length 1) ++ txt (low x.value.length 2) ++ ⟨#[82]⟩ ++ txt (low x.flags 4) ++ txt (low (u64 x.exp) 8) ++ txt (low x.ver 8) = txt x.head := by
  have e : (⟨#[82]⟩ : ByteArray) = txt [82] := rfl
  rw [e, txt_append, txt_append, txt_append, txt_append, txt_append]
  unfold It.head
  simp only [List.append_assoc]
theorem enc_txt (x : It) : txt x.head ++ txt (low (crcN x.head) 4) ++ txt (low (crcN (x.key ++ x.value)) 4) ++ txt x.key ++ txt x.value = txt x.enc := by
  rw [txt_append, txt_append, txt_append, txt_append]
  unfold It.enc
  simp only [List.append_assoc]

set_option maxRecDepth 4000 in
set_option maxHeartbeats 1000000 in
theorem refPut_any (x : It) (hf : x.fits) (hg : x.good = true) (w : World) :
    Calls Try.prog 43 #[.agg #[.string (txt x.key), .string (txt x.value), .int .u32 x.flags, .int .i64 x.exp, .int .u64 x.ver]] w fun e w' => e = .returned (.string (txt x.enc)) ∧ Below w.heap.size w w' := by
  obtain ⟨g1, g2, g3, g4⟩ := x.good_iff.1 hg
  have hks : (txt x.key).size = x.key.length := txt_size _
  have hvs : (txt x.value).size = x.value.length := txt_size _
  have ff := hf.flags
  have fv := hf.ver
  have fu := u64_lt x.exp
  have c1 : Hid (∀ W, Calls Try.prog 44 #[.int .u64 ((txt x.key).size : Int), .int .i64 1] W fun e w' => e = .returned (.string (txt (low x.key.length 1))) ∧ Below W.heap.size W w') := fun W => by
    rw [hks]; exact low_any x.key.length 1 (by omega) (by omega) W
  have c2 : Hid (∀ W, Calls Try.prog 44 #[.int .u64 ((txt x.value).size : Int), .int .i64 2] W fun e w' => e = .returned (.string (txt (low x.value.length 2))) ∧ Below W.heap.size W w') := fun W => by
    rw [hvs]; exact low_any x.value.length 2 (by omega) (by omega) W
  have c3 : Hid (∀ W, Calls Try.prog 44 #[.int .u64 (x.flags : Int), .int .i64 4] W fun e w' => e = .returned (.string (txt (low x.flags 4))) ∧ Below W.heap.size W w') := fun W => low_any x.flags 4 (by omega) (by omega) W
  have c4 : Hid (∀ W, Calls Try.prog 44 #[.int .u64 (u64 x.exp : Int), .int .i64 8] W fun e w' => e = .returned (.string (txt (low (u64 x.exp) 8))) ∧ Below W.heap.size W w') := fun W => low_any (u64 x.exp) 8 (by omega) (by omega) W
  have c5 : Hid (∀ W, Calls Try.prog 44 #[.int .u64 (x.ver : Int), .int .i64 8] W fun e w' => e = .returned (.string (txt (low x.ver 8))) ∧ Below W.heap.size W w') := fun W => low_any x.ver 8 (by omega) (by omega) W
  have hl2 : (x.key ++ x.value).length ≤ 1048576 := by rw [List.length_append]; omega
  have c6 : Hid (∀ W, Calls Try.prog 63 #[.string (txt x.head)] W fun e w' => e = .returned (.int .u64 (crcN x.head : Int)) ∧ Below W.heap.size W w') := fun W => crcT_any x.head (by rw [x.head_length]; omega) W
  have c7 : Hid (∀ W, Calls Try.prog 44 #[.int .u64 (crcN x.head : Int), .int .i64 4] W fun e w' => e = .returned (.string (txt (low (crcN x.head) 4))) ∧ Below W.heap.size W w') := fun W => low_any (crcN x.head) 4 (by have := crcN_lt x.head; omega) (by omega) W
  have c8 : Hid (∀ W, Calls Try.prog 63 #[.string (txt x.key ++ txt x.value)] W fun e w' => e = .returned (.int .u64 (crcN (x.key ++ x.value) : Int)) ∧ Below W.heap.size W w') := fun W => by
    rw [txt_append]; exact crcT_any (x.key ++ x.value) hl2 W
  have c9 : Hid (∀ W, Calls Try.prog 44 #[.int .u64 (crcN (x.key ++ x.value) : Int), .int .i64 4] W fun e w' => e = .returned (.string (txt (low (crcN (x.key ++ x.value)) 4))) ∧ Below W.heap.size W w') := fun W => low_any (crcN (x.key ++ x.value)) 4 (by have := crcN_lt (x.key ++ x.value); omega) (by omega) W
  have HT := hide (head_txt x)
  have ET := hide (enc_txt x)
  have s1 : (txt (low x.key.length 1)).size = 1 := by rw [txt_size, low_length]
  have s2 : (txt (low x.value.length 2)).size = 2 := by rw [txt_size, low_length]
  have s3 : (txt (low x.flags 4)).size = 4 := by rw [txt_size, low_length]
  have s4 : (txt (low (u64 x.exp) 8)).size = 8 := by rw [txt_size, low_length]
  have s5 : (txt (low x.ver 8)).size = 8 := by rw [txt_size, low_length]
  have s6 : (txt x.head).size = 24 := by rw [txt_size, x.head_length]
  have s7 : (txt (low (crcN x.head) 4)).size = 4 := by rw [txt_size, low_length]
  have s9 : (txt (low (crcN (x.key ++ x.value)) 4)).size = 4 := by rw [txt_size, low_length]
  have wk : IntKind.u64.wrap ((txt x.key).size : Int) = ((txt x.key).size : Int) := by rw [IntKind.wrap_u64]; omega
  have wv : IntKind.u64.wrap ((txt x.value).size : Int) = ((txt x.value).size : Int) := by rw [IntKind.wrap_u64]; omega
  have wf : IntKind.u64.wrap (x.flags : Int) = (x.flags : Int) := by rw [IntKind.wrap_u64]; omega
  have we : IntKind.u64.wrap x.exp = (u64 x.exp : Int) := by rw [IntKind.wrap_u64]; unfold u64; omega
  have bk : (txt x.key).size ≤ 250 := by omega
  have bv : (txt x.value).size ≤ 1024 := by omega
  generalize u64 x.exp = ue at *
  generalize txt (low x.key.length 1) = t1 at *
  generalize txt (low x.value.length 2) = t2 at *
  generalize txt (low x.flags 4) = t3 at *
  generalize txt (low ue 8) = t4 at *
  generalize txt (low x.ver 8) = t5 at *
  generalize txt (low (crcN x.head) 4) = t7 at *
  generalize txt (low (crcN (x.key ++ x.value)) 4) = t9 at *
  generalize crcN x.head = n1 at *
  generalize crcN (x.key ++ x.value) = n2 at *
  generalize txt x.head = hb at *
  generalize txt x.key = kb at *
  generalize txt x.value = vb at *
  generalize txt x.enc = eb at *
  clear hks hvs g1 g2 g3 g4 hg hf hl2 ff fv fu
  have f5 := hide (fun W h => five_new (w := w) (W := W) (kb := kb) (vb := vb) (f := x.flags) (e := x.exp) (v := x.ver) h)
  have A := hide (Aft.new w (.cells #[.string kb, .string vb, .int .u32 x.flags, .int .i64 x.exp, .int .u64 x.ver] 32)).drew
  obtain ⟨z1, z2, z3, z4, z5⟩ := f5.out _ A.out
  go_enter Try.func43, Try.ntmps43
  go_wp2_with fail
  go_region_held (fun W => W.cell? ⟨w.heap.size, 0, none⟩ = some (.string kb) ∧ W.cell? ⟨w.heap.size, 1, none⟩ = some (.string vb) ∧ W.cell? ⟨w.heap.size, 2, none⟩ = some (.int .u32 x.flags) ∧ W.cell? ⟨w.heap.size, 3, none⟩ = some (.int .i64 x.exp) ∧ W.cell? ⟨w.heap.size, 4, none⟩ = some (.int .u64 x.ver))
    (exact f5.out _ A.out)
    (first
      | (go_at_call 44; refine (c1.out _).mono ?_; clear c1; rintro r wx ⟨rfl, hx⟩; replace A := hide (A.out.then hx); clear hx)
      | (go_at_call 44; refine (c2.out _).mono ?_; clear c2; rintro r wx ⟨rfl, hx⟩; replace A := hide (A.out.then hx); clear hx)
      | (go_at_call 44; refine (c3.out _).mono ?_; clear c3; rintro r wx ⟨rfl, hx⟩; replace A := hide (A.out.then hx); clear hx)
      | (go_at_call 44; refine (c4.out _).mono ?_; clear c4; rintro r wx ⟨rfl, hx⟩; replace A := hide (A.out.then hx); clear hx)
      | (go_at_call 44; refine (c5.out _).mono ?_; clear c5; rintro r wx ⟨rfl, hx⟩; replace A := hide (A.out.then hx); clear hx))
  rw [HT.out]
  clear s1 s2 s3 s4 s5 HT wk wv wf we z1 z2 z3 z4 z5
  replace A := hide A.out.drew
  obtain ⟨z1, z2, z3, z4, z5⟩ := f5.out _ A.out
  have q1 : ¬ 9223372036854775807 < kb.size + vb.size := by omega
  have q2 : ¬ 9223372036854775807 < 32 + kb.size := by omega
  have q3 : ¬ 9223372036854775807 < 32 + kb.size + vb.size := by omega
  go_wp2_with fail
  go_region_held (fun W => W.cell? ⟨w.heap.size, 0, none⟩ = some (.string kb) ∧ W.cell? ⟨w.heap.size, 1, none⟩ = some (.string vb))
    (exact ⟨(f5.out _ A.out).1, (f5.out _ A.out).2.1⟩)
    (first
      | (go_at_call 63; refine (c6.out _).mono ?_; clear c6; rintro r wy ⟨rfl, hx⟩; replace A := hide (A.out.then hx); clear hx)
      | (go_at_call 44; refine (c7.out _).mono ?_; clear c7; rintro r wy ⟨rfl, hx⟩; replace A := hide (A.out.then hx); clear hx)
      | (go_at_call 63; refine (c8.out _).mono ?_; clear c8; rintro r wy ⟨rfl, hx⟩; replace A := hide (A.out.then hx); clear hx)
      | (go_at_call 44; refine (c9.out _).mono ?_; clear c9; rintro r wy ⟨rfl, hx⟩; replace A := hide (A.out.then hx); clear hx))
  all_goals go_wp2
  all_goals (
    go_ret
    exact ⟨by rw [← ET.out]; rfl, A.out.old⟩)
end Go.Proofs.Ytanbbmlekebhhaa
