/- Texts joined: RefCrc, RefLow, RefTake. -/
import Derived.Test.YtbccnfbombgdmaaGreatJ01
import Derived.Test.YtbccnfbombgdmaaGreatJ07
import Derived.Test.YtbccnfbombgdmaaGreatJ32
import Derived.Deep.RegionHeld3
/- The document's own checksum. -/
namespace Go.Proofs.YtbccnfbombgdmaaGreat
open Go.RowKit Math

set_option maxHeartbeats 800000 in
theorem refMore_any (c : Int) (a : Option Addr) (cap : Nat) (l : List Int) (w : World) (hm : l.length ≤ maxLen) (hr : Reads w a l) :
    Calls Tryz.prog 105 #[.int .u32 c, .slice a l.length cap] w fun e w' => e = .returned (.int .u32 (U (more (B c) l))) ∧ w' = w := by
  unfold maxLen at hm
  have hnot : ∀ n, bits .xor .u32 n 4294967295 = U (~~~ B n) := not_U'
  have HR : Hid (Reads w a l) := hr
  clear hr
  go_enter Tryz.func105, Tryz.ntmps105
  go_wp2
  go_loop [5, 6] (fun t i => ∃ k : Nat, k ≤ l.length ∧ i = .int .i64 k ∧ t = .int .u32 (U (crc (~~~ B c) (l.take k)))) (fun _ i => l.length - (intOf i).toNat)
  case atStart => exact ⟨0, Nat.zero_le _, rfl, rfl⟩
  case round =>
    obtain ⟨k, hk, rfl, rfl⟩ := hrel
    by_cases hlt : k < l.length
    · obtain ⟨b, off, rfl, hc⟩ := HR.out.1 k hlt
      obtain ⟨hx0, hx1⟩ := HR.out.2 k
      have HT : Hid (l.take (k + 1) = l.take k ++ [l.getD k 0]) := take_succ_getD l k hlt
      generalize l.getD k 0 = x at hc hx0 hx1 HT
      have HC : Hid (crc (~~~ B c) (l.take (k + 1)) = sh8 (crc (~~~ B c) (l.take k) ^^^ B x)) := by unfold Hid; rw [HT.out, crc_snoc]
      clear HR HT
      generalize crc (~~~ B c) (l.take k) = d at HC ⊢
      go_wp2
      go_loop [5, 7] (fun t i => ∃ j : Nat, j ≤ 8 ∧ i = .int .i64 j ∧ t = .int .u32 (U (ref1 d x j))) (fun _ i => 8 - (intOf i).toNat)
      case atStart => exact ⟨0, Nat.zero_le _, rfl, by rw [ref1_0]⟩
      case round =>
        obtain ⟨j, hj, rfl, rfl⟩ := hrel
        by_cases hj8 : j < 8
        · go_wp2
          · go_round
            case rel => exact ⟨j + 1, by omega, by go_num, by rw [ref_odd d x j hx0 hx1 (by assumption)]⟩
            case measure => simp [intOf]; omega
          · go_round
            case rel => exact ⟨j + 1, by omega, by go_num, by rw [ref_even d x j hx0 hx1 (by assumption)]⟩
            case measure => simp [intOf]; omega
        · have hk8 : Hid (j = 8) := by unfold Hid; omega
          go_wp2
          go_round
          case rel => exact ⟨k + 1, by omega, by go_num, by rw [HC.out, hk8.out, ref1_8 _ _ hx0 hx1]⟩
          case measure => simp [intOf]; omega
    · have hk8 : Hid (k = l.length) := by unfold Hid; omega
      go_wp2
      go_ret
      exact ⟨ret_int (by rw [hk8.out, List.take_length, B_U]; rfl), rfl⟩

set_option maxHeartbeats 400000 in
theorem refCrc_any (a : Option Addr) (cap : Nat) (l : List Int) (w : World) (hm : l.length ≤ maxLen) (hr : Reads w a l) :
    Calls Tryz.prog 99 #[.slice a l.length cap] w fun e w' => e = .returned (.int .u32 (U (more 0#32 l))) ∧ w' = w := by
  go_enter Tryz.func99, Tryz.ntmps99
  go_wp2_with (go_at_call 105; refine (refMore_any _ _ _ _ _ hm hr).mono ?_; rintro e w' ⟨rfl, rfl⟩)
  go_ret
  exact ⟨rfl, rfl⟩

theorem refMore_at (c : Int) (a : Option Addr) (n cap : Nat) (l : List Int) (w : World) (hn : l.length = n) (hm : n ≤ maxLen) (hr : Reads w a l) :
    Calls Tryz.prog 105 #[.int .u32 c, .slice a n cap] w fun e w' => e = .returned (.int .u32 (U (more (B c) l))) ∧ w' = w := by
  subst hn; exact refMore_any c a cap l w hm hr
theorem refCrc_at (a : Option Addr) (n cap : Nat) (l : List Int) (w : World) (hn : l.length = n) (hm : n ≤ maxLen) (hr : Reads w a l) :
    Calls Tryz.prog 99 #[.slice a n cap] w fun e w' => e = .returned (.int .u32 (U (more 0#32 l))) ∧ w' = w := by
  subst hn; exact refCrc_any a cap l w hm hr

end Go.Proofs.YtbccnfbombgdmaaGreat

/- 'Low' of the reckoning side. -/
set_option linter.unusedVariables false
set_option linter.unusedSimpArgs false
namespace Go.Proofs.YtbccnfbombgdmaaGreat
open Go.RowKit Go.Deep Math

theorem txt_append (a b : List UInt8) : txt a ++ txt b = txt (a ++ b) := by
  apply ByteArray.ext
  rw [ByteArray.data_append]
  simp [txt]
theorem str1 (m : Nat) (z : Int) (hz : z = ((m % 256 : Nat) : Int)) (W : World) : (convert 40 9 (.slice (some ⟨W.heap.size, 0, none⟩) 1 1)).run Tryz.prog (W.alloc (.cells #[.int .u8 z] 5)) = .ok (.string (txt [UInt8.ofNat (m % 256)])) (W.alloc (.cells #[.int .u8 z] 5)) := by
  have hb : bCells [UInt8.ofNat (m % 256)] = [.int .u8 z] := by
    simp only [bCells, List.map_cons, List.map_nil, UInt8.toNat_ofNat', hz]
    have : m % 256 % 2 ^ 8 = m % 256 := by omega
    rw [this]
  have h : Buf (W.alloc (.cells #[.int .u8 z] 5)) W.heap.size [UInt8.ofNat (m % 256)] 0 := by
    unfold Buf
    rw [hb]
    exact Blk.new W [.int .u8 z] 5
  refine str_bs (BS.mk' rfl (Nat.le_refl _) ?_) (fun h => by cases h)
  have := h.reads 0
  rwa [List.drop_zero] at this
theorem low_step (v i : Nat) : txt (low v i) ++ txt [UInt8.ofNat (v / 256 ^ i % 256)] = txt (low v (i + 1)) := by
  rw [txt_append, low_snoc]

set_option maxHeartbeats 400000 in
theorem low_any (v n : Nat) (hv : v < 18446744073709551616) (hn : n ≤ 8) (w : World) :
    Calls Tryz.prog 90 #[.int .u64 v, .int .i64 n] w fun e w' => e = .returned (.string (txt (low v n))) ∧ Below w.heap.size w w' := by
  go_enter Tryz.func90, Tryz.ntmps90
  go_wp2_with fail
  go_loopg [5, 6] n (fun kx s3 s4 wr => ∃ i : Nat, s4 = .int .i64 i ∧ s3 = .string (txt (low v i)) ∧ i ≤ n ∧ n - i ≤ kx ∧ Hid (Below w.heap.size w wr))
  case atStart => exact ⟨0, rfl, rfl, Nat.zero_le _, by omega, Below.refl _ _⟩
  case round =>
    obtain ⟨i, rfl, rfl, hin, hg, I⟩ := hrel
    by_cases hlt : i < n
    · have hlt2 : (i : Int) < (n : Int) := by omega
      rcases (show i = 0 ∨ i = 1 ∨ i = 2 ∨ i = 3 ∨ i = 4 ∨ i = 5 ∨ i = 6 ∨ i = 7 by omega) with rfl | rfl | rfl | rfl | rfl | rfl | rfl | rfl
      · have st := fun W => str1 (v / 256 ^ 0) ((v : Int) % 256) (by rw [show (256 : Nat) ^ 0 = 1 from rfl]; omega) W
        have LS := hide (low_step v 0)
        have h1 : (txt (low v 0)).size = 0 := by rw [txt_size, low_length]
        have h2 : (txt [UInt8.ofNat (v / 256 ^ 0 % 256)]).size = 1 := by rw [txt_size]; rfl
        generalize txt [UInt8.ofNat (v / 256 ^ 0 % 256)] = t at st LS h2
        generalize txt (low v 0) = s at *
        have hb : ¬ 9223372036854775807 < s.size + t.size := by omega
        clear h1 h2
        go_wp2
        go_roundg (n - 1)
        case measure => omega
        case rel => exact ⟨1, rfl, by rw [LS.out], by omega, by omega, I.out.alloc I.out.size _⟩
      · have st := fun W => str1 (v / 256 ^ 1) ((v : Int) / 256 % 256) (by rw [show (256 : Nat) ^ 1 = 256 from rfl]; omega) W
        have LS := hide (low_step v 1)
        have h1 : (txt (low v 1)).size = 1 := by rw [txt_size, low_length]
        have h2 : (txt [UInt8.ofNat (v / 256 ^ 1 % 256)]).size = 1 := by rw [txt_size]; rfl
        generalize txt [UInt8.ofNat (v / 256 ^ 1 % 256)] = t at st LS h2
        generalize txt (low v 1) = s at *
        have hb : ¬ 9223372036854775807 < s.size + t.size := by omega
        clear h1 h2
        go_wp2
        go_roundg (n - 2)
        case measure => omega
        case rel => exact ⟨2, rfl, by rw [LS.out], by omega, by omega, I.out.alloc I.out.size _⟩
      · have st := fun W => str1 (v / 256 ^ 2) ((v : Int) / 65536 % 256) (by rw [show (256 : Nat) ^ 2 = 65536 from rfl]; omega) W
        have LS := hide (low_step v 2)
        have h1 : (txt (low v 2)).size = 2 := by rw [txt_size, low_length]
        have h2 : (txt [UInt8.ofNat (v / 256 ^ 2 % 256)]).size = 1 := by rw [txt_size]; rfl
        generalize txt [UInt8.ofNat (v / 256 ^ 2 % 256)] = t at st LS h2
        generalize txt (low v 2) = s at *
        have hb : ¬ 9223372036854775807 < s.size + t.size := by omega
        clear h1 h2
        go_wp2
        go_roundg (n - 3)
        case measure => omega
        case rel => exact ⟨3, rfl, by rw [LS.out], by omega, by omega, I.out.alloc I.out.size _⟩
      · have st := fun W => str1 (v / 256 ^ 3) ((v : Int) / 16777216 % 256) (by rw [show (256 : Nat) ^ 3 = 16777216 from rfl]; omega) W
        have LS := hide (low_step v 3)
        have h1 : (txt (low v 3)).size = 3 := by rw [txt_size, low_length]
        have h2 : (txt [UInt8.ofNat (v / 256 ^ 3 % 256)]).size = 1 := by rw [txt_size]; rfl
        generalize txt [UInt8.ofNat (v / 256 ^ 3 % 256)] = t at st LS h2
        generalize txt (low v 3) = s at *
        have hb : ¬ 9223372036854775807 < s.size + t.size := by omega
        clear h1 h2
        go_wp2
        go_roundg (n - 4)
        case measure => omega
        case rel => exact ⟨4, rfl, by rw [LS.out], by omega, by omega, I.out.alloc I.out.size _⟩
      · have st := fun W => str1 (v / 256 ^ 4) ((v : Int) / 4294967296 % 256) (by rw [show (256 : Nat) ^ 4 = 4294967296 from rfl]; omega) W
        have LS := hide (low_step v 4)
        have h1 : (txt (low v 4)).size = 4 := by rw [txt_size, low_length]
        have h2 : (txt [UInt8.ofNat (v / 256 ^ 4 % 256)]).size = 1 := by rw [txt_size]; rfl
        generalize txt [UInt8.ofNat (v / 256 ^ 4 % 256)] = t at st LS h2
        generalize txt (low v 4) = s at *
        have hb : ¬ 9223372036854775807 < s.size + t.size := by omega
        clear h1 h2
        go_wp2
        go_roundg (n - 5)
        case measure => omega
        case rel => exact ⟨5, rfl, by rw [LS.out], by omega, by omega, I.out.alloc I.out.size _⟩
      · have st := fun W => str1 (v / 256 ^ 5) ((v : Int) / 1099511627776 % 256) (by rw [show (256 : Nat) ^ 5 = 1099511627776 from rfl]; omega) W
        have LS := hide (low_step v 5)
        have h1 : (txt (low v 5)).size = 5 := by rw [txt_size, low_length]
        have h2 : (txt [UInt8.ofNat (v / 256 ^ 5 % 256)]).size = 1 := by rw [txt_size]; rfl
        generalize txt [UInt8.ofNat (v / 256 ^ 5 % 256)] = t at st LS h2
        generalize txt (low v 5) = s at *
        have hb : ¬ 9223372036854775807 < s.size + t.size := by omega
        clear h1 h2
        go_wp2
        go_roundg (n - 6)
        case measure => omega
        case rel => exact ⟨6, rfl, by rw [LS.out], by omega, by omega, I.out.alloc I.out.size _⟩
      · have st := fun W => str1 (v / 256 ^ 6) ((v : Int) / 281474976710656 % 256) (by rw [show (256 : Nat) ^ 6 = 281474976710656 from rfl]; omega) W
        have LS := hide (low_step v 6)
        have h1 : (txt (low v 6)).size = 6 := by rw [txt_size, low_length]
        have h2 : (txt [UInt8.ofNat (v / 256 ^ 6 % 256)]).size = 1 := by rw [txt_size]; rfl
        generalize txt [UInt8.ofNat (v / 256 ^ 6 % 256)] = t at st LS h2
        generalize txt (low v 6) = s at *
        have hb : ¬ 9223372036854775807 < s.size + t.size := by omega
        clear h1 h2
        go_wp2
        go_roundg (n - 7)
        case measure => omega
        case rel => exact ⟨7, rfl, by rw [LS.out], by omega, by omega, I.out.alloc I.out.size _⟩
      · have st := fun W => str1 (v / 256 ^ 7) ((v : Int) / 72057594037927936) (by rw [show (256 : Nat) ^ 7 = 72057594037927936 from rfl]; omega) W
        have LS := hide (low_step v 7)
        have h1 : (txt (low v 7)).size = 7 := by rw [txt_size, low_length]
        have h2 : (txt [UInt8.ofNat (v / 256 ^ 7 % 256)]).size = 1 := by rw [txt_size]; rfl
        generalize txt [UInt8.ofNat (v / 256 ^ 7 % 256)] = t at st LS h2
        generalize txt (low v 7) = s at *
        have hb : ¬ 9223372036854775807 < s.size + t.size := by omega
        clear h1 h2
        go_wp2
        go_roundg (n - 8)
        case measure => omega
        case rel => exact ⟨8, rfl, by rw [LS.out], by omega, by omega, I.out.alloc I.out.size _⟩
    · obtain rfl : i = n := by omega
      have hlt2 : ¬ (i : Int) < (i : Int) := by omega
      go_wp2
      go_ret
      exact ⟨rfl, I.out⟩

set_option maxHeartbeats 400000 in
theorem crcT_any (l : List UInt8) (hl : l.length ≤ 1048576) (w : World) :
    Calls Tryz.prog 91 #[.string (txt l)] w fun e w' => e = .returned (.int .u64 (crcN l : Int)) ∧ Below w.heap.size w w' := by
  have hr := run_bytes w (txt l)
  have B1 := hide (below_bytes w (txt l))
  have R1 : Reads (Lib.bytesWorld w 5 (txt l)) (some ⟨w.heap.size, 0, none⟩) (ints l) := reads_bytes w (txt l)
  have cc := hide (refCrc_at (some ⟨w.heap.size, 0, none⟩) (txt l).size (grownCap w (txt l).size 0 5) (ints l) (Lib.bytesWorld w 5 (txt l)) (by rw [ints_length, txt_size]) (by rw [txt_size]; unfold maxLen; omega) R1)
  rw [crcN_U] at cc
  have hc := crcN_lt l
  have hw : IntKind.u64.wrap (crcN l : Int) = (crcN l : Int) := by rw [IntKind.wrap_u64]; omega
  generalize crcN l = c at *
  generalize txt l = s at *
  clear R1 hl
  generalize Lib.bytesWorld w 5 s = wb at *
  generalize grownCap w s.size 0 5 = gc at *
  go_enter Tryz.func91, Tryz.ntmps91
  go_wp2_with fail
  refine cc.out.mono ?_
  rintro r w1 ⟨rfl, h⟩
  obtain rfl : wb = w1 := h.symm
  clear h
  go_wp2
  go_ret
  exact ⟨rfl, B1.out⟩
end Go.Proofs.YtbccnfbombgdmaaGreat

/- 'Take' of the reckoning side. -/
set_option linter.unusedVariables false
set_option linter.unusedSimpArgs false
namespace Go.Proofs.YtbccnfbombgdmaaGreat
open Go.RowKit Go.Deep Math

def UpIs (s : ByteArray) (U : Nat → Nat → Nat) : Prop := ∀ (W : World) (i j : Nat), i ≤ j → j ≤ s.size → j - i ≤ 8 → Calls Tryz.prog 93 #[.string (s.extract i j)] W fun e w' => e = .returned (.int .u64 (U i j : Int)) ∧ w' = W
def CrcIs (s : ByteArray) (C : Nat → Nat → Nat) : Prop := ∀ (W : World) (i j : Nat), j ≤ s.size → Calls Tryz.prog 91 #[.string (s.extract i j)] W fun e w' => e = .returned (.int .u64 (C i j : Int)) ∧ Below W.heap.size W w'
theorem box_cells {w W : World} (h : Aft (w.heap.size + 1) (w.alloc zeroBox) W) : Blk W w.heap.size [.string ⟨#[]⟩, .string ⟨#[]⟩, .int .u32 0, .int .i64 0, .int .u64 0] 39 :=
  (Blk.new w [.string ⟨#[]⟩, .string ⟨#[]⟩, .int .u32 0, .int .i64 0, .int .u64 0] 39).same (h.below.block _ (by omega))

theorem stage {X : World → Prop} {G : Prop} {S : World → Prop} (h1 : (∀ W, S W → X W) → G) (h2 : ∀ W, S W → X W) : G := h1 h2

set_option maxHeartbeats 2000000 in
theorem refTake_good (s : ByteArray) (U C : Nat → Nat → Nat) (cU : Hid (UpIs s U)) (cC : Hid (CrcIs s C)) (w : World) (he : s.toList.isEmpty = false) (hs63 : s.size ≤ 1048576) (hs0 : 0 < s.size) (k : Nat) (e0 : ∀ h : 0 < s.size, ((s[0]'h).toNat : Int) = (k : Int)) (hk0 : 1 ≤ k) (h32 : (32 : Int) ≤ (s.size : Int)) (hs3 : 3 < s.size) (e3 : ∀ h : 3 < s.size, ((s[3]'h).toNat : Int) = 82) (v : Nat) (hk255 : k ≤ 255) (hv : U 1 3 = v) (hv16 : v ≤ 65535) (h24 : U 24 28 = C 0 24) (hk1 : k ≤ 250) (hv1 : v ≤ 1024) (hver : 0 < U 16 24) (hlen : 32 + k + v ≤ s.size) (h28 : U 28 32 = C 32 (32 + k + v)) :
    Calls Tryz.prog 79 #[.string s] w fun e w' => e = .returned (.tuple #[.agg #[.string (s.extract 32 (32 + k)), .string (s.extract (32 + k) (32 + k + v)), .int .u32 (IntKind.u32.wrap (U 4 8 : Int)), .int .i64 (IntKind.i64.wrap (U 8 16 : Int)), .int .u64 (U 16 24 : Int)], .int .i64 (32 + k + v : Nat), .int .i64 0]) ∧ Below w.heap.size w w' := by
  have A := hide (Aft.new w zeroBox)
  have p0 : ((k : Int) == 0) = false := by simp; omega
  have b28 : (28 : Int) ≤ (s.size : Int) := by omega
  have b24 : (24 : Int) ≤ (s.size : Int) := by omega
  have b16 : (16 : Int) ≤ (s.size : Int) := by omega
  have b8 : (8 : Int) ≤ (s.size : Int) := by omega
  have b3 : (3 : Int) ≤ (s.size : Int) := by omega
  have hlt : ((s.size : Int) < 32) = False := eq_false (by omega)
  have h24' : (U 24 28 : Int) = (C 0 24 : Int) := by omega
  have hwk : wrap64 (k : Int) = (k : Int) := by unfold wrap64; omega
  have hwv : IntKind.i64.wrap (v : Int) = (v : Int) := by rw [IntKind.wrap_i64]; omega
  have r1 : IntKind.i64.wrap ((32 : Int) + (k : Int)) = (32 : Int) + (k : Int) := by rw [IntKind.wrap_i64]; omega
  have r2 : IntKind.i64.wrap ((32 : Int) + (k : Int) + (v : Int)) = (32 : Int) + (k : Int) + (v : Int) := by rw [IntKind.wrap_i64]; omega
  have r3 : (32 : Int) ≤ (32 : Int) + (k : Int) + (v : Int) := by omega
  have r4 : (0 : Int) ≤ (32 : Int) + (k : Int) + (v : Int) := by omega
  have q1 : ((32 : Int) + (k : Int) + (v : Int)).toNat = 32 + k + v := by omega
  have q2 : (32 : Int) + (k : Int) + (v : Int) ≤ (s.size : Int) := by omega
  have p4 : ((s.size : Int) < 32 + (k : Int) + (v : Int)) = False := eq_false (by omega)
  have p1 : ((250 : Int) < (k : Int)) = False := eq_false (by omega)
  have p2 : ((1024 : Int) < (v : Int)) = False := eq_false (by omega)
  have p3 : ((U 16 24 : Int) == 0) = false := by simp; omega
  have r5 : (32 : Int) ≤ (32 : Int) + (k : Int) := by omega
  have r6 : (32 : Int) + (k : Int) ≤ (32 : Int) + (k : Int) + (v : Int) := by omega
  have r7 : (32 : Int) + (k : Int) ≤ (s.size : Int) := by omega
  have r8 : (0 : Int) ≤ (32 : Int) + (k : Int) := by omega
  have q3 : ((32 : Int) + (k : Int)).toNat = 32 + k := by omega
  have h28' : (U 28 32 : Int) = (C 32 (32 + k + v) : Int) := by omega
  clear h28
  go_enter Tryz.func79, Tryz.ntmps79
  go_wp2_with fail
  replace A := hide A.out.drew
  clear h24
  apply stage (S := fun W => Aft (w.heap.size + 1) (w.alloc zeroBox) W)
  · intro H
    go_region_held3 (fun W => W.cell? ⟨w.heap.size, 0, none⟩ = some (.string ⟨#[]⟩))
      (exact (box_cells A.out).cell rfl)
      (first
        | (go_at_call 93; refine (cU.out _ _ _ (by omega) (by omega) (by omega)).mono ?_; rintro r wx ⟨rfl, rfl⟩)
        | (go_at_call 91; refine (cC.out _ _ _ (by omega)).mono ?_; rintro r wx ⟨rfl, hx⟩; replace A := hide (A.out.then hx); clear hx))
    all_goals exact H _ A.out
  intro W1 A1
  replace A := hide A1
  clear A1
  go_wp2_with (go_at_call 93; refine (cU.out _ _ _ (by omega) (by omega) (by omega)).mono ?_; rintro r wx ⟨rfl, rfl⟩)
  replace A := hide A.out.drew
  apply stage (S := fun W => Aft (w.heap.size + 1) (w.alloc zeroBox) W)
  · intro H
    go_region_held3 (fun W => W.cell? ⟨w.heap.size, 0, none⟩ = some (.string ⟨#[]⟩))
      (exact (box_cells A.out).cell rfl)
      (first
        | (go_at_call 93; refine (cU.out _ _ _ (by omega) (by omega) (by omega)).mono ?_; rintro r wx ⟨rfl, rfl⟩)
        | (go_at_call 91; refine (cC.out _ _ _ (by omega)).mono ?_; rintro r wx ⟨rfl, hx⟩; replace A := hide (A.out.then hx); clear hx))
    all_goals exact H _ A.out
  intro W2 A1
  replace A := hide A1
  clear A1
  go_wp2_with fail
  have bx := box_cells A.out
  obtain ⟨x0, x1, x2, x3, x4⟩ : W2.cell? ⟨w.heap.size, 0, none⟩ = some (.string ⟨#[]⟩) ∧ W2.cell? ⟨w.heap.size, 1, none⟩ = some (.string ⟨#[]⟩) ∧ W2.cell? ⟨w.heap.size, 2, none⟩ = some (.int .u32 0) ∧ W2.cell? ⟨w.heap.size, 3, none⟩ = some (.int .i64 0) ∧ W2.cell? ⟨w.heap.size, 4, none⟩ = some (.int .u64 0) := ⟨bx.cell rfl, bx.cell rfl, bx.cell rfl, bx.cell rfl, bx.cell rfl⟩
  have y0 := bx.frozen 0
  have y1 := bx.frozen 1
  have y2 := bx.frozen 2
  have y3 := bx.frozen 3
  have y4 := bx.frozen 4
  clear bx
  go_region_held3 (fun W => True)
    (trivial)
    (first
      | (go_at_call 93; refine (cU.out _ _ _ (by omega) (by omega) (by omega)).mono ?_; rintro r wx ⟨rfl, rfl⟩))
  all_goals go_wp2
  all_goals (
    refine bodyPost_ret (v := .tuple #[.agg #[.string (s.extract 32 (32 + k)), .string (s.extract (32 + k) (32 + k + v)), .int .u32 (IntKind.u32.wrap (U 4 8 : Int)), .int .i64 (IntKind.i64.wrap (U 8 16 : Int)), .int .u64 (U 16 24 : Int)], .int .i64 (32 + k + v : Nat), .int .i64 0]) ?_ rfl ⟨rfl, ?_⟩
    · have ew1 : IntKind.u32.wrap (U 4 8 : Int) = (U 4 8 : Int) % 4294967296 := IntKind.wrap_u32' _
      have ew2 : IntKind.i64.wrap (U 8 16 : Int) = wrap64 (U 8 16 : Int) := by rw [IntKind.wrap_i64]; unfold wrap64; omega
      simp [results, Tryz.results79, go_sem, x0, x1, x2, x3, x4, ew1, ew2]
    · exact (below_box (w := w) (V := W2) A.out.old _ _ _ _ _).drew)

set_option maxHeartbeats 2000000 in
theorem refTake_b5 (s : ByteArray) (U C : Nat → Nat → Nat) (cU : Hid (UpIs s U)) (cC : Hid (CrcIs s C)) (w : World) (he : s.toList.isEmpty = false) (hs63 : s.size ≤ 1048576) (hs0 : 0 < s.size) (k : Nat) (e0 : ∀ h : 0 < s.size, ((s[0]'h).toNat : Int) = (k : Int)) (hk0 : 1 ≤ k) (h32 : (32 : Int) ≤ (s.size : Int)) (hs3 : 3 < s.size) (e3 : ∀ h : 3 < s.size, ((s[3]'h).toNat : Int) = 82) (v : Nat) (hk255 : k ≤ 255) (hv : U 1 3 = v) (hv16 : v ≤ 65535) (h24 : U 24 28 = C 0 24) (hk1 : k ≤ 250) (hv1 : v ≤ 1024) (hver : 0 < U 16 24) (hlen : 32 + k + v ≤ s.size) (h28 : U 28 32 ≠ C 32 (32 + k + v)) :
    Calls Tryz.prog 79 #[.string s] w fun e w' => e = .returned (.tuple #[.agg #[.string ⟨#[]⟩, .string ⟨#[]⟩, .int .u32 0, .int .i64 0, .int .u64 0], .int .i64 0, .int .i64 3]) ∧ Below w.heap.size w w' := by
  have A := hide (Aft.new w zeroBox)
  have p0 : ((k : Int) == 0) = false := by simp; omega
  have b28 : (28 : Int) ≤ (s.size : Int) := by omega
  have b24 : (24 : Int) ≤ (s.size : Int) := by omega
  have b16 : (16 : Int) ≤ (s.size : Int) := by omega
  have b8 : (8 : Int) ≤ (s.size : Int) := by omega
  have b3 : (3 : Int) ≤ (s.size : Int) := by omega
  have hlt : ((s.size : Int) < 32) = False := eq_false (by omega)
  have h24' : (U 24 28 : Int) = (C 0 24 : Int) := by omega
  have hwk : wrap64 (k : Int) = (k : Int) := by unfold wrap64; omega
  have hwv : IntKind.i64.wrap (v : Int) = (v : Int) := by rw [IntKind.wrap_i64]; omega
  have r1 : IntKind.i64.wrap ((32 : Int) + (k : Int)) = (32 : Int) + (k : Int) := by rw [IntKind.wrap_i64]; omega
  have r2 : IntKind.i64.wrap ((32 : Int) + (k : Int) + (v : Int)) = (32 : Int) + (k : Int) + (v : Int) := by rw [IntKind.wrap_i64]; omega
  have r3 : (32 : Int) ≤ (32 : Int) + (k : Int) + (v : Int) := by omega
  have r4 : (0 : Int) ≤ (32 : Int) + (k : Int) + (v : Int) := by omega
  have q1 : ((32 : Int) + (k : Int) + (v : Int)).toNat = 32 + k + v := by omega
  have q2 : (32 : Int) + (k : Int) + (v : Int) ≤ (s.size : Int) := by omega
  have p4 : ((s.size : Int) < 32 + (k : Int) + (v : Int)) = False := eq_false (by omega)
  have p1 : ((250 : Int) < (k : Int)) = False := eq_false (by omega)
  have p2 : ((1024 : Int) < (v : Int)) = False := eq_false (by omega)
  have p3 : ((U 16 24 : Int) == 0) = false := by simp; omega
  have h28' : ¬ ((U 28 32 : Int) = (C 32 (32 + k + v) : Int)) := by omega
  clear h28
  go_enter Tryz.func79, Tryz.ntmps79
  go_wp2_with fail
  replace A := hide A.out.drew
  clear h24
  apply stage (S := fun W => Aft (w.heap.size + 1) (w.alloc zeroBox) W)
  · intro H
    go_region_held3 (fun W => W.cell? ⟨w.heap.size, 0, none⟩ = some (.string ⟨#[]⟩))
      (exact (box_cells A.out).cell rfl)
      (first
        | (go_at_call 93; refine (cU.out _ _ _ (by omega) (by omega) (by omega)).mono ?_; rintro r wx ⟨rfl, rfl⟩)
        | (go_at_call 91; refine (cC.out _ _ _ (by omega)).mono ?_; rintro r wx ⟨rfl, hx⟩; replace A := hide (A.out.then hx); clear hx))
    all_goals exact H _ A.out
  intro W1 A1
  replace A := hide A1
  clear A1
  go_wp2_with (go_at_call 93; refine (cU.out _ _ _ (by omega) (by omega) (by omega)).mono ?_; rintro r wx ⟨rfl, rfl⟩)
  replace A := hide A.out.drew
  apply stage (S := fun W => Aft (w.heap.size + 1) (w.alloc zeroBox) W)
  · intro H
    go_region_held3 (fun W => W.cell? ⟨w.heap.size, 0, none⟩ = some (.string ⟨#[]⟩))
      (exact (box_cells A.out).cell rfl)
      (first
        | (go_at_call 93; refine (cU.out _ _ _ (by omega) (by omega) (by omega)).mono ?_; rintro r wx ⟨rfl, rfl⟩)
        | (go_at_call 91; refine (cC.out _ _ _ (by omega)).mono ?_; rintro r wx ⟨rfl, hx⟩; replace A := hide (A.out.then hx); clear hx))
    all_goals exact H _ A.out
  intro W2 A1
  replace A := hide A1
  clear A1
  have bx := box_cells A.out
  obtain ⟨x0, x1, x2, x3, x4⟩ : W2.cell? ⟨w.heap.size, 0, none⟩ = some (.string ⟨#[]⟩) ∧ W2.cell? ⟨w.heap.size, 1, none⟩ = some (.string ⟨#[]⟩) ∧ W2.cell? ⟨w.heap.size, 2, none⟩ = some (.int .u32 0) ∧ W2.cell? ⟨w.heap.size, 3, none⟩ = some (.int .i64 0) ∧ W2.cell? ⟨w.heap.size, 4, none⟩ = some (.int .u64 0) := ⟨bx.cell rfl, bx.cell rfl, bx.cell rfl, bx.cell rfl, bx.cell rfl⟩
  have y0 := bx.frozen 0
  have y1 := bx.frozen 1
  have y2 := bx.frozen 2
  have y3 := bx.frozen 3
  have y4 := bx.frozen 4
  clear bx
  go_wp2
  exact bodyPost_ret (v := .tuple #[.agg #[.string ⟨#[]⟩, .string ⟨#[]⟩, .int .u32 0, .int .i64 0, .int .u64 0], .int .i64 0, .int .i64 3]) (by simp [results, Tryz.results79, go_sem, x0, x1, x2, x3, x4]) rfl ⟨rfl, below_box A.out.old _ _ _ _ _⟩

end Go.Proofs.YtbccnfbombgdmaaGreat
