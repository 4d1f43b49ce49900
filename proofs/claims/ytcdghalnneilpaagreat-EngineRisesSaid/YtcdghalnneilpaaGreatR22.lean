/- Joined texts. -/
import Derived.Test.YtcdghalnneilpaaGreatR21
set_option linter.unusedVariables false
set_option linter.unusedSimpArgs false
set_option maxRecDepth 8000
set_option maxHeartbeats 8000000
namespace Go.Proofs.YtcdghalnneilpaaGreat
open Go.RowKit Go.Deep Go.ChangeShapes Go.WideShapes Math
theorem saddNumber_any (g r k nl cp : Nat) (l : List UInt8) (n : Nat) (hn : n < 18446744073709551616) (hk : k <= r) (hk8 : k <= 8) (hnl : nl = l.length) (hcp : cp = l.length + r) (hc63 : cp <= 9223372036854775807) (w : World) (h : Buf w g l r) :
  Calls Tryz.prog 177 #[.slice (some ⟨g, 0, none⟩) nl cp, .int .u64 n, .int .i64 k] w fun e w' => e = .returned (.slice (some ⟨g, 0, none⟩) (nl + k) cp) /\ Buf w' g (l ++ low n k) (r - k) /\ Keep [g] w w' := by
 have HB := hide h
 have HNL := hide hnl
 have HCP := hide hcp
 have HK := hide hk
 have HN := hide hn
 clear h hnl hcp hk hn hc63
 go_enter Tryz.func177, Tryz.ntmps177
 go_wp2_with fail
 go_loopg [0, 1, 8] k (fun kx s0 s1 s8 wr => ∃ i m : Nat, s8 = .int .i64 i /\ s0 = .slice (some ⟨g, 0, none⟩) (nl + i) cp /\ s1 = .int .u64 m /\ i <= k /\ k - i <= kx /\ Hid (m = n / 256 ^ i /\ Buf wr g (l ++ low n i) (r - i) /\ Keep [g] w wr))
 case atStart => exact ⟨0, n, rfl, rfl, rfl, Nat.zero_le _, by omega, by simp, by simpa [low] using HB.out, Keep.refl _ _⟩
 case round =>
  obtain ⟨i, m, rfl, rfl, rfl, hik, hg, I⟩ := hrel
  by_cases hlt : i < k
  ·have hlt2 : (i : Int) < (k : Int) := by omega
   obtain ⟨W, hr, hb, hkp⟩ := buf_one (nl := nl + i) (cp := cp) I.out.2.1 m ((m : Int) % 256) (by omega) (by have := HK.out; omega) (by rw [List.length_append, low_length, HNL.out]) (by rw [List.length_append, low_length, HCP.out]; have := HK.out; omega)
   have HR := hide hr
   have HW := hide hb
   have HKP := hide hkp
   clear hr hb hkp
   go_wp2_with (at_builtin; refine Lib.wpList_append_run _ rfl _ _ _ _ rfl _ _ rfl rfl _ _ HR.out ?_)
   go_roundg (k - (i + 1))
   case measure => omega
   case rel =>
    refine ⟨i + 1, m / 256, rfl, rfl, rfl, by omega, by omega, ?_, ?_, I.out.2.2.trans HKP.out (fun x hx => .inl hx)⟩
    ·rw [I.out.1, Nat.div_div_eq_div_mul, Nat.pow_succ]
    ·rw [low_snoc, <- I.out.1, <- List.append_assoc, show r - (i + 1) = r - i - 1 by omega]
     exact HW.out
  ·obtain rfl : i = k := by omega
   have hlt2 : ¬ (i : Int) < (i : Int) := by omega
   go_wp2
   go_ret
   exact ⟨rfl, I.out.2.1, I.out.2.2⟩
theorem snumber_any (a : Option Addr) (n cap : Nat) (l : List UInt8) (hn : n = l.length) (h8 : n <= 8) (w : World) (hr : Reads w a (ints l)) :
  Calls Tryz.prog 182 #[.slice a n cap] w fun e w' => e = .returned (.int .u64 (up l : Int)) /\ w' = w := by
 have HR : Hid (Reads w a (ints l)) := hr
 have HN := hide hn
 clear hr hn
 go_enter Tryz.func182, Tryz.ntmps182
 go_wp2
 go_loop [3, 8] (fun t i => ∃ k m : Nat, k <= n /\ i = .int .i64 k /\ t = .int .u64 m /\ Hid (m = up (l.take k))) (fun _ i => n - (intOf i).toNat)
 case atStart => exact ⟨0, 0, Nat.zero_le _, rfl, rfl, rfl⟩
 case round =>
  obtain ⟨k, m, hk, rfl, rfl, hm⟩ := hrel
  by_cases hlt : k < n
  ·obtain ⟨b, off, rfl, hc⟩ := HR.out.1 k (by rw [ints_length, <- HN.out]; exact hlt)
   rw [ints_getD] at hc
   have HT := hide (take_snoc_byte l k (by rw [<- HN.out]; exact hlt))
   have HL : Hid ((l.take k).length = k) := by show _ = _; rw [List.length_take, <- HN.out]; omega
   generalize l.getD k 0 = x at hc HT
   have hx1 : (x.toNat : Int) <= 255 := by have := x.toNat_lt; omega
   have OB : Hid (∀ y : Int, y = ((256 ^ k * x.toNat : Nat) : Int) -> bits .or .u64 (m : Int) y = (up (l.take (k + 1)) : Int)) := fun y hy => by
    rw [hm.out, HT.out]
    exact or_byte (l.take k) x (by rw [HL.out]; omega) y (by rw [HL.out]; exact hy)
   clear HR
   rcases (show k = 0 \/ k = 1 \/ k = 2 \/ k = 3 \/ k = 4 \/ k = 5 \/ k = 6 \/ k = 7 by omega) with rfl | rfl | rfl | rfl | rfl | rfl | rfl | rfl
   all_goals (
    try simp only [Nat.add_zero] at hc
    go_wp2
    go_round
    case rel => exact ⟨_, _, hlt, rfl, (by rw [OB.out _ (by first | omega | (rw [IntKind.wrap_u64]; omega))]), rfl⟩
    case measure => simp [intOf]; omega)
  ·have hkn : Hid (k = n) := by unfold Hid; omega
   go_wp2
   go_ret
   exact ⟨ret_int (by rw [hm.out, hkn.out, HN.out, List.take_length]), rfl⟩
end Go.Proofs.YtcdghalnneilpaaGreat
namespace Go.Proofs.YtcdghalnneilpaaGreat
open Go.RowKit Go.Deep Math
structure Sb where
 seq : Nat
 epoch : Nat
 res : Nat
 hor : Nat
 gen : Nat
 clean : Bool
 image : Int
structure Sb.fits (b : Sb) : Prop where
 seq : b.seq < 18446744073709551616
 epoch : b.epoch < 18446744073709551616
 res : b.res < 18446744073709551616
 hor : b.hor < 18446744073709551616
 gen : b.gen < 18446744073709551616
 image0 : -9223372036854775808 <= b.image
 image1 : b.image <= 9223372036854775807
def toldN (i : Int) : Nat := if i < 0 \/ 2147483647 < i then 0 else i.toNat
theorem toldN_le (i : Int) : toldN i <= 2147483647 := by unfold toldN; split <;> omega
def bitN (c : Bool) : Nat := if c then 1 else 0
def Sb.nums (b : Sb) : List Nat := [b.seq, b.epoch, b.res, b.hor, b.gen]
def mk4 : List UInt8 := [83, 85, 80, 69]
def Sb.head (b : Sb) : List UInt8 := mk4 ++ (low b.seq 8 ++ (low b.epoch 8 ++ (low b.res 8 ++ (low b.hor 8 ++ (low b.gen 8 ++ (low (bitN b.clean) 4 ++ (low (toldN b.image) 4 ++ low 0 8)))))))
def Sb.enc (b : Sb) : List UInt8 := b.head ++ low (crcN b.head) 4
theorem Sb.head_length (b : Sb) : b.head.length = 60 := by simp [Sb.head, mk4, low_length]
theorem Sb.enc_length (b : Sb) : b.enc.length = 64 := by simp [Sb.enc, Sb.head_length, low_length]
theorem bit_any (c : Bool) (w : World) : Calls Tryz.prog 178 #[.bool c] w fun e w' => e = .returned (.int .u64 (bitN c : Nat)) /\ w' = w := by
 cases c with
 | true =>
  go_enter Tryz.func178, Tryz.ntmps178
  go_wp2
  go_ret
  exact ⟨rfl, rfl⟩
 | false =>
  go_enter Tryz.func178, Tryz.ntmps178
  go_wp2
  go_ret
  exact ⟨rfl, rfl⟩
theorem told_any (i : Int) (w : World) : Calls Tryz.prog 143 #[.int .i64 i] w fun e w' => e = .returned (.int .i64 (toldN i : Nat)) /\ w' = w := by
 by_cases h1 : i < 0
 ·have E : Hid (toldN i = 0) := by show _ = _; unfold toldN; rw [if_pos (.inl h1)]
  have h1' : (i < 0) = True := eq_true h1
  clear h1
  go_enter Tryz.func143, Tryz.ntmps143
  go_wp2
  go_ret
  exact ⟨by rw [E.out]; rfl, rfl⟩
 have h1' : (i < 0) = False := eq_false h1
 by_cases h2 : 2147483647 < i
 ·have E : Hid (toldN i = 0) := by show _ = _; unfold toldN; rw [if_pos (.inr h2)]
  have h2' : (2147483647 < i) = True := eq_true h2
  clear h1 h2
  go_enter Tryz.func143, Tryz.ntmps143
  go_wp2
  go_ret
  exact ⟨by rw [E.out]; rfl, rfl⟩
 have h2' : (2147483647 < i) = False := eq_false h2
 have E : Hid ((toldN i : Int) = i) := by show _ = _; unfold toldN; rw [if_neg (by omega)]; omega
 clear h1 h2
 go_enter Tryz.func143, Tryz.ntmps143
 go_wp2
 go_ret
 exact ⟨by rw [E.out]; rfl, rfl⟩
def Sb.val (b : Sb) : Value := .agg #[.int .u64 b.seq, .int .u64 b.epoch, .int .u64 b.res, .int .u64 b.hor, .int .u64 b.gen, .bool b.clean, .int .i64 b.image]
structure ES (w W : World) (g : Nat) (cur : List UInt8) (r : Nat) (bx : List Value) : Prop where
 buf : Buf W g cur r
 box : Blk W w.heap.size bx 30
 below : Below w.heap.size w W
 ng : w.heap.size < g
 len : cur.length + r = 64
theorem ES.num {w W : World} {g r : Nat} {cur : List UInt8} {bx : List Value} (h : ES w W g cur r bx) (n k m : Nat) (hm : m = cur.length) (hk : k <= 8) (hkr : k <= r) (hn : n < 18446744073709551616) :
  Calls Tryz.prog 177 #[.slice (some ⟨g, 0, none⟩) m 64, .int .u64 n, .int .i64 k] W fun e w' => e = .returned (.slice (some ⟨g, 0, none⟩) (m + k) 64) /\ ES w w' g (cur ++ low n k) (r - k) bx := by
 have hl := h.len
 refine (saddNumber_any g r k m 64 cur n hn hkr hk hm (by omega) (by omega) W h.buf).mono ?_
 rintro e w' ⟨he, hb, hkp⟩
 have hng := h.ng
 refine ⟨he, hb, h.box.same (hkp.block _ h.box.lt (by simp; omega)), h.below.trans (hkp.below (by simp; omega) h.below.size), hng, by rw [List.length_append, low_length]; omega⟩
theorem ES.crc {w W : World} {g r : Nat} {cur : List UInt8} {bx : List Value} (h : ES w W g cur r bx) (m : Nat) (hm : m = cur.length) : Calls Tryz.prog 179 #[.slice (some ⟨g, 0, none⟩) m 64] W fun e w' => e = .returned (.int .u32 (crcN cur : Int)) /\ w' = W := by
 have hl := h.len
 have hr := h.buf.reads 0
 rw [List.drop_zero] at hr
 exact crc_at _ m 64 (ints cur) W (by rw [ints_length, hm]) (by unfold maxLen; omega) hr
theorem ES.start (w : World) (bx : List Value) (Z : Array Value) (hZ : (zc 64).toArray = Z) : ES w ((w.alloc (.cells bx.toArray 30)).alloc (.cells Z 5)) (w.heap.size + 1) [] 64 bx := by
 refine ⟨?_, (Blk.new w bx 30).alloc _, ((Below.refl _ _).alloc (Nat.le_refl _) _).alloc (by rw [nblk_alloc]; omega) _, by omega, rfl⟩
 unfold Buf
 rw [show bCells [] ++ zc 64 = zc 64 from rfl]
 unfold Blk
 rw [hZ]
 have := blk_alloc_new (w.alloc (.cells bx.toArray 30)) (.cells Z 5)
 rw [nblk_alloc] at this
 exact this
theorem ES.mark {w W : World} {g : Nat} {bx : List Value} (h : ES w W g [] 64 bx) :
  ∃ W', (Builtin.append_ #[40, 9] 40 #[.slice (some ⟨g, 0, none⟩) 0 64, .string ⟨#[83, 85, 80, 69]⟩]).run Tryz.prog W = .ok (.slice (some ⟨g, 0, none⟩) 4 64) W' /\ ES w W' g mk4 60 bx := by
 have hs : Src Tryz.prog 1 9 (.string ⟨#[83, 85, 80, 69]⟩) 4 (bCells mk4) W := Src.ofString (P := Tryz.prog) W Tryz.underlying9 (txt mk4)
 obtain ⟨h1, h2⟩ := buf_append (nl := 0) (cp := 64) h.buf hs (by omega) rfl rfl 40
 have hk : Keep [g] W (W.setCells g 0 (bCells mk4)) := (Keep.refl _ _).setCells (.inl (by simp)) _ _
 have hng := h.ng
 exact ⟨_, h1, h2, h.box.same (hk.block _ h.box.lt (by simp; omega)), h.below.trans (hk.below (by simp; omega) h.below.size), hng, rfl⟩
theorem und72 : Tryz.prog.underlying 251 = some (.array 5 28) := by kernel_rfl
theorem c27 : Tryz.prog.cellsOf 28 = 1 := by kernel_rfl
theorem idx0 (a b c d e : Value) (W : World) : (Instr.index 251 (.agg #[a, b, c, d, e]) (.int .i64 0)).run Tryz.prog W = .ok a W := by
 simp [Instr.index, run_underlying und72, asIntOf, go_sem, c27]
theorem idx1 (a b c d e : Value) (W : World) : (Instr.index 251 (.agg #[a, b, c, d, e]) (.int .i64 1)).run Tryz.prog W = .ok b W := by
 simp [Instr.index, run_underlying und72, asIntOf, go_sem, c27]
theorem idx2 (a b c d e : Value) (W : World) : (Instr.index 251 (.agg #[a, b, c, d, e]) (.int .i64 2)).run Tryz.prog W = .ok c W := by
 simp [Instr.index, run_underlying und72, asIntOf, go_sem, c27]
theorem idx3 (a b c d e : Value) (W : World) : (Instr.index 251 (.agg #[a, b, c, d, e]) (.int .i64 3)).run Tryz.prog W = .ok d W := by
 simp [Instr.index, run_underlying und72, asIntOf, go_sem, c27]
theorem idx4 (a b c d e : Value) (W : World) : (Instr.index 251 (.agg #[a, b, c, d, e]) (.int .i64 4)).run Tryz.prog W = .ok e W := by
 simp [Instr.index, run_underlying und72, asIntOf, go_sem, c27]
def lows : List Nat -> List UInt8
 | [] => []
 | n :: r => low n 8 ++ lows r
theorem head_is (b : Sb) : mk4 ++ lows b.nums ++ low (bitN b.clean) 4 ++ low (toldN b.image) 4 ++ low 0 8 = b.head := by
 simp [Sb.nums, lows, Sb.head]
set_option maxRecDepth 4000 in
theorem encode_any (b : Sb) (hf : b.fits) (w : World) :
  Calls Tryz.prog 144 #[.agg #[.int .u64 b.seq, .int .u64 b.epoch, .int .u64 b.res, .int .u64 b.hor, .int .u64 b.gen, .bool b.clean, .int .i64 b.image]] w fun e w' => ∃ g, e = .returned (.slice (some ⟨g, 0, none⟩) 64 64) /\ w.heap.size <= g /\ Buf w' g b.enc 0 /\ Below w.heap.size w w' := by
 have hm := make_cap 64 (by omega)
 generalize hZ : (zc 64).toArray = Z at hm
 have hm' : ∀ W : World, (Instr.makeSlice 40 (.int .i64 0) (.int .i64 64)).run Tryz.prog W = .ok (.slice (some ⟨W.heap.size, 0, none⟩) 0 64) (W.alloc (.cells Z 5)) := hm
 have E0 := ES.start w [.int .u64 b.seq, .int .u64 b.epoch, .int .u64 b.res, .int .u64 b.hor, .int .u64 b.gen, .bool b.clean, .int .i64 b.image] Z hZ
 obtain ⟨W1, hr1, e1⟩ := E0.mark
 have HR1 := hide hr1
 have ST := hide e1
 have bx := e1.box
 have x0 : W1.cell? ⟨w.heap.size, 0, none⟩ = some (.int .u64 b.seq) := bx.cell rfl
 have x1 : W1.cell? ⟨w.heap.size, 1, none⟩ = some (.int .u64 b.epoch) := bx.cell rfl
 have x2 : W1.cell? ⟨w.heap.size, 2, none⟩ = some (.int .u64 b.res) := bx.cell rfl
 have x3 : W1.cell? ⟨w.heap.size, 3, none⟩ = some (.int .u64 b.hor) := bx.cell rfl
 have x4 : W1.cell? ⟨w.heap.size, 4, none⟩ = some (.int .u64 b.gen) := bx.cell rfl
 clear hr1 e1 E0 bx hZ hm
 go_enter Tryz.func144, Tryz.ntmps144
 go_wp2_with (at_builtin; refine Lib.wpList_append_run _ rfl _ _ _ _ rfl _ _ rfl rfl _ _ HR1.out ?_)
 clear x0 x1 x2 x3 x4 HR1 hm'
 go_loopg [3, 19] 5 (fun kx s3 s19 wr => ∃ i m : Nat, s19 = .int .i64 i /\ s3 = .slice (some ⟨w.heap.size + 1, 0, none⟩) m 64 /\ i <= 5 /\ 5 - i <= kx /\ Hid ((mk4 ++ lows (b.nums.take i)).length = m /\ ES w wr (w.heap.size + 1) (mk4 ++ lows (b.nums.take i)) (60 - 8 * i) [.int .u64 b.seq, .int .u64 b.epoch, .int .u64 b.res, .int .u64 b.hor, .int .u64 b.gen, .bool b.clean, .int .i64 b.image]))
 case atStart => exact ⟨0, 4, rfl, rfl, by omega, by omega, rfl, by simpa [lows] using ST.out⟩
 case round =>
  obtain ⟨i, m, rfl, rfl, hin, hg, I⟩ := hrel
  by_cases hlt : i < 5
  ·rcases (show i = 0 \/ i = 1 \/ i = 2 \/ i = 3 \/ i = 4 by omega) with rfl | rfl | rfl | rfl | rfl
   ·have cn := hide (I.out.2.num b.seq 8 m I.out.1.symm (by omega) (by omega) hf.seq)
    have LS : Hid (mk4 ++ lows (b.nums.take 0) ++ low b.seq 8 = mk4 ++ lows (b.nums.take 1)) := by show _ = _; simp [Sb.nums, lows]
    have HG := hide hg
    clear hf hg hin hlt
    have ix : ∀ W : World, (Instr.index 251 (.agg #[.int .u64 b.seq, .int .u64 b.epoch, .int .u64 b.res, .int .u64 b.hor, .int .u64 b.gen]) (.int .i64 0)).run Tryz.prog W = .ok (.int .u64 b.seq) W := fun W => idx0 _ _ _ _ _ W
    go_wp2_with (go_at_call 177; refine cn.out.mono ?_; rintro r w2 ⟨rfl, h2⟩; have S2 := hide h2; clear h2)
    go_roundg (5 - 1)
    case measure => have := HG.out; omega
    case rel => exact ⟨1, m + 8, rfl, rfl, by omega, by omega, by rw [<- LS.out, List.length_append, I.out.1, low_length], by have := S2.out; rw [LS.out] at this; exact this⟩
   ·have cn := hide (I.out.2.num b.epoch 8 m I.out.1.symm (by omega) (by omega) hf.epoch)
    have LS : Hid (mk4 ++ lows (b.nums.take 1) ++ low b.epoch 8 = mk4 ++ lows (b.nums.take 2)) := by show _ = _; simp [Sb.nums, lows]
    have HG := hide hg
    clear hf hg hin hlt
    have ix : ∀ W : World, (Instr.index 251 (.agg #[.int .u64 b.seq, .int .u64 b.epoch, .int .u64 b.res, .int .u64 b.hor, .int .u64 b.gen]) (.int .i64 1)).run Tryz.prog W = .ok (.int .u64 b.epoch) W := fun W => idx1 _ _ _ _ _ W
    go_wp2_with (go_at_call 177; refine cn.out.mono ?_; rintro r w2 ⟨rfl, h2⟩; have S2 := hide h2; clear h2)
    go_roundg (5 - 2)
    case measure => have := HG.out; omega
    case rel => exact ⟨2, m + 8, rfl, rfl, by omega, by omega, by rw [<- LS.out, List.length_append, I.out.1, low_length], by have := S2.out; rw [LS.out] at this; exact this⟩
   ·have cn := hide (I.out.2.num b.res 8 m I.out.1.symm (by omega) (by omega) hf.res)
    have LS : Hid (mk4 ++ lows (b.nums.take 2) ++ low b.res 8 = mk4 ++ lows (b.nums.take 3)) := by show _ = _; simp [Sb.nums, lows]
    have HG := hide hg
    clear hf hg hin hlt
    have ix : ∀ W : World, (Instr.index 251 (.agg #[.int .u64 b.seq, .int .u64 b.epoch, .int .u64 b.res, .int .u64 b.hor, .int .u64 b.gen]) (.int .i64 2)).run Tryz.prog W = .ok (.int .u64 b.res) W := fun W => idx2 _ _ _ _ _ W
    go_wp2_with (go_at_call 177; refine cn.out.mono ?_; rintro r w2 ⟨rfl, h2⟩; have S2 := hide h2; clear h2)
    go_roundg (5 - 3)
    case measure => have := HG.out; omega
    case rel => exact ⟨3, m + 8, rfl, rfl, by omega, by omega, by rw [<- LS.out, List.length_append, I.out.1, low_length], by have := S2.out; rw [LS.out] at this; exact this⟩
   ·have cn := hide (I.out.2.num b.hor 8 m I.out.1.symm (by omega) (by omega) hf.hor)
    have LS : Hid (mk4 ++ lows (b.nums.take 3) ++ low b.hor 8 = mk4 ++ lows (b.nums.take 4)) := by show _ = _; simp [Sb.nums, lows]
    have HG := hide hg
    clear hf hg hin hlt
    have ix : ∀ W : World, (Instr.index 251 (.agg #[.int .u64 b.seq, .int .u64 b.epoch, .int .u64 b.res, .int .u64 b.hor, .int .u64 b.gen]) (.int .i64 3)).run Tryz.prog W = .ok (.int .u64 b.hor) W := fun W => idx3 _ _ _ _ _ W
    go_wp2_with (go_at_call 177; refine cn.out.mono ?_; rintro r w2 ⟨rfl, h2⟩; have S2 := hide h2; clear h2)
    go_roundg (5 - 4)
    case measure => have := HG.out; omega
    case rel => exact ⟨4, m + 8, rfl, rfl, by omega, by omega, by rw [<- LS.out, List.length_append, I.out.1, low_length], by have := S2.out; rw [LS.out] at this; exact this⟩
   ·have cn := hide (I.out.2.num b.gen 8 m I.out.1.symm (by omega) (by omega) hf.gen)
    have LS : Hid (mk4 ++ lows (b.nums.take 4) ++ low b.gen 8 = mk4 ++ lows (b.nums.take 5)) := by show _ = _; simp [Sb.nums, lows]
    have HG := hide hg
    clear hf hg hin hlt
    have ix : ∀ W : World, (Instr.index 251 (.agg #[.int .u64 b.seq, .int .u64 b.epoch, .int .u64 b.res, .int .u64 b.hor, .int .u64 b.gen]) (.int .i64 4)).run Tryz.prog W = .ok (.int .u64 b.gen) W := fun W => idx4 _ _ _ _ _ W
    go_wp2_with (go_at_call 177; refine cn.out.mono ?_; rintro r w2 ⟨rfl, h2⟩; have S2 := hide h2; clear h2)
    go_roundg (5 - 5)
    case measure => have := HG.out; omega
    case rel => exact ⟨5, m + 8, rfl, rfl, by omega, by omega, by rw [<- LS.out, List.length_append, I.out.1, low_length], by have := S2.out; rw [LS.out] at this; exact this⟩
  ·obtain rfl : i = 5 := by omega
   have L5 : Hid (mk4 ++ lows (b.nums.take 5) = mk4 ++ lows b.nums) := rfl
   have hm44 : m = 44 := by rw [<- I.out.1]; simp [Sb.nums, lows, mk4, low_length]
   subst hm44
   have S0 := hide I.out.2
   have x5 : wr.cell? ⟨w.heap.size, 5, none⟩ = some (.bool b.clean) := S0.out.box.cell rfl
   have x6 : wr.cell? ⟨w.heap.size, 6, none⟩ = some (.int .i64 b.image) := S0.out.box.cell rfl
   have HL := hide I.out.1
   have TL := hide (toldN_le b.image)
   have cb := hide (bit_any b.clean)
   have ct := hide (told_any b.image)
   have BL : Hid (bitN b.clean < 18446744073709551616) := by show _ < _; unfold bitN; split <;> decide
   have HD := hide (head_is b)
   have hwt : IntKind.u64.wrap ((toldN b.image : Nat) : Int) = ((toldN b.image : Nat) : Int) := by rw [IntKind.wrap_u64]; have := TL.out; omega
   clear hf hg hin hlt I
   generalize toldN b.image = tn at *
   generalize bitN b.clean = bn at *
   have CL := hide (crcN_lt b.head)
   go_wp2_with (first
    | (go_at_call 178; refine (cb.out _).mono ?_; rintro r w2 ⟨rfl, rfl⟩))
   refine (S0.out.num bn 4 44 HL.out.symm (by omega) (by omega) BL.out).mono ?_
   rintro r w3 ⟨rfl, s3⟩
   have S3 := hide s3
   have y6 : w3.cell? ⟨w.heap.size, 6, none⟩ = some (.int .i64 b.image) := s3.box.cell rfl
   have L3 : Hid ((mk4 ++ lows (b.nums.take 5) ++ low bn 4).length = 48) := by show _ = _; rw [List.length_append, HL.out, low_length]
   clear s3 x5 x6 cb
   go_wp2_with (first
    | (go_at_call 143; refine (ct.out _).mono ?_; rintro r w4 ⟨rfl, rfl⟩))
   refine (S3.out.num tn 4 48 L3.out.symm (by omega) (by omega) (by have := TL.out; omega)).mono ?_
   rintro r w5 ⟨rfl, s5⟩
   have S5 := hide s5
   have L5 : Hid ((mk4 ++ lows (b.nums.take 5) ++ low bn 4 ++ low tn 4).length = 52) := by show _ = _; rw [List.length_append, L3.out, low_length]
   clear s5 y6 ct
   go_wp2_with fail
   refine (S5.out.num 0 8 52 L5.out.symm (by omega) (by omega) (by omega)).mono ?_
   rintro r w6 ⟨rfl, s6⟩
   have EH : mk4 ++ lows (b.nums.take 5) ++ low bn 4 ++ low tn 4 ++ low 0 8 = b.head := HD.out
   rw [EH] at s6
   have S6 := hide s6
   clear s6 EH
   have cc := hide (S6.out.crc 60 (by rw [b.head_length]))
   have hwc : IntKind.u64.wrap ((crcN b.head : Nat) : Int) = ((crcN b.head : Nat) : Int) := by rw [IntKind.wrap_u64]; have := CL.out; omega
   have cn := hide (S6.out.num (crcN b.head) 4 60 (by rw [b.head_length]) (by omega) (by omega) (by have := CL.out; omega))
   have EE : Hid (b.head ++ low (crcN b.head) 4 = b.enc) := rfl
   generalize crcN b.head = cr at *
   go_wp2_with fail
   refine cc.out.mono ?_
   rintro r w7 ⟨rfl, h7⟩
   obtain rfl : w6 = w7 := h7.symm
   clear h7
   go_wp2_with fail
   refine cn.out.mono ?_
   rintro r w8 ⟨rfl, s8⟩
   rw [EE.out] at s8
   have S8 := hide s8
   clear s8
   go_wp2
   go_ret
   exact ⟨w.heap.size + 1, rfl, by omega, S8.out.buf, S8.out.below⟩
def Sb.zero : Sb := ⟨0, 0, 0, 0, 0, false, 0⟩
def decB (l : List UInt8) : Sb := ⟨up (sl l 4 12), up (sl l 12 20), up (sl l 20 28), up (sl l 28 36), up (sl l 36 44), decide (l.getD 44 0 = 1), (up (sl l 48 52) : Int)⟩
def dec (l : List UInt8) : Option Sb := if l.length < 64 then none else if (decB l).enc = l.take 64 then some (decB l) else none
def bkV (b : Sb) (e : Int) : Value := .tuple #[.agg #[.int .u64 b.seq, .int .u64 b.epoch, .int .u64 b.res, .int .u64 b.hor, .int .u64 b.gen, .bool b.clean, .int .i64 b.image], .int .i64 e]
def decV : Option Sb -> Value
 | none => bkV Sb.zero 3
 | some b => bkV b 0
theorem up_sl_lt (l : List UInt8) (i j : Nat) (hj : j <= l.length) (h8 : j - i <= 8) : up (sl l i j) < 18446744073709551616 := by
 have h1 := up_lt (sl l i j)
 rw [sl_length _ _ _ hj] at h1
 have : (256 : Nat) ^ (j - i) <= 256 ^ 8 := Nat.pow_le_pow_right (by decide) h8
 have e : (256 : Nat) ^ 8 = 18446744073709551616 := by decide
 omega
theorem decB_fits (l : List UInt8) (h : 64 <= l.length) : (decB l).fits := by
 have h1 := up_lt (sl l 48 52)
 rw [sl_length _ _ _ (by omega)] at h1
 have e : (256 : Nat) ^ (52 - 48) = 4294967296 := by decide
 exact ⟨up_sl_lt l 4 12 (by omega) (by omega), up_sl_lt l 12 20 (by omega) (by omega), up_sl_lt l 20 28 (by omega) (by omega), up_sl_lt l 28 36 (by omega) (by omega), up_sl_lt l 36 44 (by omega) (by omega), by show _ <= ((up (sl l 48 52) : Nat) : Int); omega, by show ((up (sl l 48 52) : Nat) : Int) <= _; omega⟩
def Sb.told (b : Sb) : Sb := { b with image := (toldN b.image : Int) }
theorem toldN_told (b : Sb) : toldN b.told.image = toldN b.image := by
 show toldN ((toldN b.image : Nat) : Int) = _
 have := toldN_le b.image
 unfold toldN at *
 split <;> split <;> omega
theorem told_enc (b : Sb) : b.told.enc = b.enc := by
 have e : b.told.head = b.head := by
  unfold Sb.head
  rw [toldN_told]
  rfl
 unfold Sb.enc
 rw [e]
theorem dec_enc (b : Sb) (hf : b.fits) (more : List UInt8) : dec (b.enc ++ more) = some b.told := by
 have hl : (b.enc ++ more).length = 64 + more.length := by rw [List.length_append, b.enc_length]
 have hB : decB (b.enc ++ more) = b.told := by
  obtain ⟨L, hL⟩ : ∃ L, L = b.enc ++ more := ⟨_, rfl⟩
  have e : L = mk4 ++ (low b.seq 8 ++ (low b.epoch 8 ++ (low b.res 8 ++ (low b.hor 8 ++ (low b.gen 8 ++ (low (bitN b.clean) 4 ++ (low (toldN b.image) 4 ++ (low 0 8 ++ (low (crcN b.head) 4 ++ more))))))))) := by
   rw [hL]; unfold Sb.enc; rw [List.append_assoc]; unfold Sb.head; simp only [List.append_assoc]
  rw [<- hL]
  have s4 : sl L 4 12 = low b.seq 8 := by rw [e]; exact sl_mid mk4 _ _ 4 12 rfl (by rw [low_length])
  have s12 : sl L 12 20 = low b.epoch 8 := by
   rw [e, <- List.append_assoc]; exact sl_mid _ _ _ 12 20 (by simp [mk4, low_length]) (by rw [low_length])
  have s20 : sl L 20 28 = low b.res 8 := by
   rw [e, <- List.append_assoc, <- List.append_assoc]; exact sl_mid _ _ _ 20 28 (by simp [mk4, low_length]) (by rw [low_length])
  have s28 : sl L 28 36 = low b.hor 8 := by
   rw [e, <- List.append_assoc, <- List.append_assoc, <- List.append_assoc]; exact sl_mid _ _ _ 28 36 (by simp [mk4, low_length]) (by rw [low_length])
  have s36 : sl L 36 44 = low b.gen 8 := by
   rw [e, <- List.append_assoc, <- List.append_assoc, <- List.append_assoc, <- List.append_assoc]; exact sl_mid _ _ _ 36 44 (by simp [mk4, low_length]) (by rw [low_length])
  have s44 : sl L 44 48 = low (bitN b.clean) 4 := by
   rw [e, <- List.append_assoc, <- List.append_assoc, <- List.append_assoc, <- List.append_assoc, <- List.append_assoc]; exact sl_mid _ _ _ 44 48 (by simp [mk4, low_length]) (by rw [low_length])
  have s48 : sl L 48 52 = low (toldN b.image) 4 := by
   rw [e, <- List.append_assoc, <- List.append_assoc, <- List.append_assoc, <- List.append_assoc, <- List.append_assoc, <- List.append_assoc]; exact sl_mid _ _ _ 48 52 (by simp [mk4, low_length]) (by rw [low_length])
  have d44 : L.getD 44 0 = UInt8.ofNat (bitN b.clean) := by
   have h1 : (sl L 44 48)[0]? = L[44]? := by
    unfold sl
    rw [List.getElem?_drop, List.getElem?_take_of_lt (by omega)]
   rw [s44] at h1
   rw [List.getD_eq_getElem?_getD, <- h1]
   cases b.clean <;> rfl
  have tl := toldN_le b.image
  have t4 : toldN b.image < 256 ^ 4 := by
   have : (256 : Nat) ^ 4 = 4294967296 := by decide
   omega
  unfold decB Sb.told
  rw [s4, s12, s20, s28, s36, s48, d44, up_low 8 _ hf.seq, up_low 8 _ hf.epoch, up_low 8 _ hf.res, up_low 8 _ hf.hor, up_low 8 _ hf.gen, up_low 4 _ t4]
  cases hc : b.clean <;> simp [bitN]
 unfold dec
 rw [if_neg (by omega), hB, if_pos]
 rw [told_enc, List.take_left' b.enc_length]
theorem decode_short (a : Option Addr) (n cap : Nat) (l : List UInt8) (w : World) (h : BS w a n cap l) (hs : n < 64) :
  Calls Tryz.prog 151 #[.slice a n cap] w fun e w' => e = .returned (bkV Sb.zero 3) /\ Below w.heap.size w w' := by
 have hlt : ((n : Int) < 64) = True := eq_true (by omega)
 clear h hs
 go_enter Tryz.func151, Tryz.ntmps151
 go_wp2
 exact bodyPost_ret (v := bkV Sb.zero 3) (by simp [results, Tryz.results151, go_sem, bkV, Sb.zero]) rfl ⟨rfl, (Below.refl _ _).alloc (Nat.le_refl _) _⟩
end Go.Proofs.YtcdghalnneilpaaGreat
