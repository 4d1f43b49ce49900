/- 'Low' of the reckoning side. -/
import Derived.Test.YtlmfdibncpbmjaaTakeS
set_option linter.unusedVariables false
set_option linter.unusedSimpArgs false
namespace Go.Proofs.Ytlmfdibncpbmjaa
open Go.RowKit Go.Deep Math

theorem txt_append (a b : List UInt8) : txt a ++ txt b = txt (a ++ b) := by
  apply ByteArray.ext
  rw [ByteArray.data_append]
  simp [txt]
theorem str1 (m : Nat) (z : Int) (hz : z = ((m % 256 : Nat) : Int)) (W : World) : (convert 23 9 (.slice (some ⟨W.heap.size, 0, none⟩) 1 1)).run Try.prog (W.alloc (.cells #[.int .u8 z] 5)) = .ok (.string (txt [UInt8.ofNat (m % 256)])) (W.alloc (.cells #[.int .u8 z] 5)) := by
  have hb : bCells [UInt8.ofNat (m % 256)] = [.int .u8 z] := by
    simp only [bCells, List.map_cons, List.map_nil, UInt8.toNat_ofNat', hz]
    have : m % 256 % 2 ^ 8 = m % 256 := by omega
    rw [this]
  have h : Buf (W.alloc (.cells #[.int .u8 z] 5)) W.heap.size [UInt8.ofNat (m % 256)] 0 := by
    unfold Buf
    rw [hb]
    exact Blk.new W [.int .u8 z] 5
  refine str_bs (BS.mk' rfl (Nat.le_refl _) ?_) (fun h => by cases h)
  have := h.reads 0
  rwa [List.drop_zero] at this
theorem low_step (v i : Nat) : txt (low v i) ++ txt [UInt8.ofNat (v / 256 ^ i % 256)] = txt (low v (i + 1)) := by
  rw [txt_append, low_snoc]

set_option maxHeartbeats 400000 in
theorem low_any (v n : Nat) (hv : v < 18446744073709551616) (hn : n ≤ 8) (w : World) :
    Calls Try.prog 31 #[.int .u64 v, .int .i64 n] w fun e w' => e = .returned (.string (txt (low v n))) ∧ Below w.heap.size w w' := by
  go_enter Try.func31, Try.ntmps31
  go_wp2_with fail
  go_loopg [5, 6] n (fun kx s3 s4 wr => ∃ i : Nat, s4 = .int .i64 i ∧ s3 = .string (txt (low v i)) ∧ i ≤ n ∧ n - i ≤ kx ∧ Hid (Below w.heap.size w wr))
  case atStart => exact ⟨0, rfl, rfl, Nat.zero_le _, by omega, Below.refl _ _⟩
  case round =>
    obtain ⟨i, rfl, rfl, hin, hg, I⟩ := hrel
    by_cases hlt : i < n
    · have hlt2 : (i : Int) < (n : Int) := by omega
      rcases (show i = 0 ∨ i = 1 ∨ i = 2 ∨ i = 3 ∨ i = 4 ∨ i = 5 ∨ i = 6 ∨ i = 7 by omega) with rfl | rfl | rfl | rfl | rfl | rfl | rfl | rfl
      · have st := fun W => str1 (v / 256 ^ 0) ((v : Int) % 256) (by rw [show (256 : Nat) ^ 0 = 1 from rfl]; omega) W
        have LS := hide (low_step v 0)
        have h1 : (txt (low v 0)).size = 0 := by rw [txt_size, low_length]
        have h2 : (txt [UInt8.ofNat (v / 256 ^ 0 % 256)]).size = 1 := by rw [txt_size]; rfl
        generalize txt [UInt8.ofNat (v / 256 ^ 0 % 256)] = t at st LS h2
        generalize txt (low v 0) = s at *
        have hb : ¬ 9223372036854775807 < s.size + t.size := by omega
        clear h1 h2
        go_wp2
        go_roundg (n - 1)
        case measure => omega
        case rel => exact ⟨1, rfl, by rw [LS.out], by omega, by omega, I.out.alloc I.out.size _⟩
      · have st := fun W => str1 (v / 256 ^ 1) ((v : Int) / 256 % 256) (by rw [show (256 : Nat) ^ 1 = 256 from rfl]; omega) W
        have LS := hide (low_step v 1)
        have h1 : (txt (low v 1)).size = 1 := by rw [txt_size, low_length]
        have h2 : (txt [UInt8.ofNat (v / 256 ^ 1 % 256)]).size = 1 := by rw [txt_size]; rfl
        generalize txt [UInt8.ofNat (v / 256 ^ 1 % 256)] = t at st LS h2
        generalize txt (low v 1) = s at *
        have hb : ¬ 9223372036854775807 < s.size + t.size := by omega
        clear h1 h2
        go_wp2
        go_roundg (n - 2)
        case measure => omega
        case rel => exact ⟨2, rfl, by rw [LS.out], by omega, by omega, I.out.alloc I.out.size _⟩
      · have st := fun W => str1 (v / 256 ^ 2) ((v : Int) / 65536 % 256) (by rw [show (256 : Nat) ^ 2 = 65536 from rfl]; omega) W
        have LS := hide (low_step v 2)
        have h1 : (txt (low v 2)).size = 2 := by rw [txt_size, low_length]
        have h2 : (txt [UInt8.ofNat (v / 256 ^ 2 % 256)]).size = 1 := by rw [txt_size]; rfl
        generalize txt [UInt8.ofNat (v / 256 ^ 2 % 256)] = t at st LS h2
        generalize txt (low v 2) = s at *
        have hb : ¬ 9223372036854775807 < s.size + t.size := by omega
        clear h1 h2
        go_wp2
        go_roundg (n - 3)
        case measure => omega
        case rel => exact ⟨3, rfl, by rw [LS.out], by omega, by omega, I.out.alloc I.out.size _⟩
      · have st := fun W => str1 (v / 256 ^ 3) ((v : Int) / 16777216 % 256) (by rw [show (256 : Nat) ^ 3 = 16777216 from rfl]; omega) W
        have LS := hide (low_step v 3)
        have h1 : (txt (low v 3)).size = 3 := by rw [txt_size, low_length]
        have h2 : (txt [UInt8.ofNat (v / 256 ^ 3 % 256)]).size = 1 := by rw [txt_size]; rfl
        generalize txt [UInt8.ofNat (v / 256 ^ 3 % 256)] = t at st LS h2
        generalize txt (low v 3) = s at *
        have hb : ¬ 9223372036854775807 < s.size + t.size := by omega
        clear h1 h2
        go_wp2
        go_roundg (n - 4)
        case measure => omega
        case rel => exact ⟨4, rfl, by rw [LS.out], by omega, by omega, I.out.alloc I.out.size _⟩
      · have st := fun W => str1 (v / 256 ^ 4) ((v : Int) / 4294967296 % 256) (by rw [show (256 : Nat) ^ 4 = 4294967296 from rfl]; omega) W
        have LS := hide (low_step v 4)
        have h1 : (txt (low v 4)).size = 4 := by rw [txt_size, low_length]
        have h2 : (txt [UInt8.ofNat (v / 256 ^ 4 % 256)]).size = 1 := by rw [txt_size]; rfl
        generalize txt [UInt8.ofNat (v / 256 ^ 4 % 256)] = t at st LS h2
        generalize txt (low v 4) = s at *
        have hb : ¬ 9223372036854775807 < s.size + t.size := by omega
        clear h1 h2
        go_wp2
        go_roundg (n - 5)
        case measure => omega
        case rel => exact ⟨5, rfl, by rw [LS.out], by omega, by omega, I.out.alloc I.out.size _⟩
      · have st := fun W => str1 (v / 256 ^ 5) ((v : Int) / 1099511627776 % 256) (by rw [show (256 : Nat) ^ 5 = 1099511627776 from rfl]; omega) W
        have LS := hide (low_step v 5)
        have h1 : (txt (low v 5)).size = 5 := by rw [txt_size, low_length]
        have h2 : (txt [UInt8.ofNat (v / 256 ^ 5 % 256)]).size = 1 := by rw [txt_size]; rfl
        generalize txt [UInt8.ofNat (v / 256 ^ 5 % 256)] = t at st LS h2
        generalize txt (low v 5) = s at *
        have hb : ¬ 9223372036854775807 < s.size + t.size := by omega
        clear h1 h2
        go_wp2
        go_roundg (n - 6)
        case measure => omega
        case rel => exact ⟨6, rfl, by rw [LS.out], by omega, by omega, I.out.alloc I.out.size _⟩
      · have st := fun W => str1 (v / 256 ^ 6) ((v : Int) / 281474976710656 % 256) (by rw [show (256 : Nat) ^ 6 = 281474976710656 from rfl]; omega) W
        have LS := hide (low_step v 6)
        have h1 : (txt (low v 6)).size = 6 := by rw [txt_size, low_length]
        have h2 : (txt [UInt8.ofNat (v / 256 ^ 6 % 256)]).size = 1 := by rw [txt_size]; rfl
        generalize txt [UInt8.ofNat (v / 256 ^ 6 % 256)] = t at st LS h2
        generalize txt (low v 6) = s at *
        have hb : ¬ 9223372036854775807 < s.size + t.size := by omega
        clear h1 h2
        go_wp2
        go_roundg (n - 7)
        case measure => omega
        case rel => exact ⟨7, rfl, by rw [LS.out], by omega, by omega, I.out.alloc I.out.size _⟩
      · have st := fun W => str1 (v / 256 ^ 7) ((v : Int) / 72057594037927936) (by rw [show (256 : Nat) ^ 7 = 72057594037927936 from rfl]; omega) W
        have LS := hide (low_step v 7)
        have h1 : (txt (low v 7)).size = 7 := by rw [txt_size, low_length]
        have h2 : (txt [UInt8.ofNat (v / 256 ^ 7 % 256)]).size = 1 := by rw [txt_size]; rfl
        generalize txt [UInt8.ofNat (v / 256 ^ 7 % 256)] = t at st LS h2
        generalize txt (low v 7) = s at *
        have hb : ¬ 9223372036854775807 < s.size + t.size := by omega
        clear h1 h2
        go_wp2
        go_roundg (n - 8)
        case measure => omega
        case rel => exact ⟨8, rfl, by rw [LS.out], by omega, by omega, I.out.alloc I.out.size _⟩
    · obtain rfl : i = n := by omega
      have hlt2 : ¬ (i : Int) < (i : Int) := by omega
      go_wp2
      go_ret
      exact ⟨rfl, I.out⟩

set_option maxHeartbeats 400000 in
theorem crcT_any (l : List UInt8) (hl : l.length ≤ 1048576) (w : World) :
    Calls Try.prog 32 #[.string (txt l)] w fun e w' => e = .returned (.int .u64 (crcN l : Int)) ∧ Below w.heap.size w w' := by
  have hr := run_bytes w (txt l)
  have B1 := hide (below_bytes w (txt l))
  have R1 : Reads (Lib.bytesWorld w 5 (txt l)) (some ⟨w.heap.size, 0, none⟩) (ints l) := reads_bytes w (txt l)
  have cc := hide (refCrc_at (some ⟨w.heap.size, 0, none⟩) (txt l).size (grownCap w (txt l).size 0 5) (ints l) (Lib.bytesWorld w 5 (txt l)) (by rw [ints_length, txt_size]) (by rw [txt_size]; unfold maxLen; omega) R1)
  rw [crcN_U] at cc
  have hc := crcN_lt l
  have hw : IntKind.u64.wrap (crcN l : Int) = (crcN l : Int) := by rw [IntKind.wrap_u64]; omega
  generalize crcN l = c at *
  generalize txt l = s at *
  clear R1 hl
  generalize Lib.bytesWorld w 5 s = wb at *
  generalize grownCap w s.size 0 5 = gc at *
  go_enter Try.func32, Try.ntmps32
  go_wp2_with fail
  refine cc.out.mono ?_
  rintro r w1 ⟨rfl, h⟩
  obtain rfl : wb = w1 := h.symm
  clear h
  go_wp2
  go_ret
  exact ⟨rfl, B1.out⟩
end Go.Proofs.Ytlmfdibncpbmjaa
