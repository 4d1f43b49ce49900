/- A block and its bytes; 'bit', 'told', 'Encode'. -/
import Derived.Test.YtcdefadeaiklbaaRBytes
set_option linter.unusedVariables false
set_option linter.unusedSimpArgs false
namespace Go.Proofs.Ytcdefadeaiklbaa
open Go.RowKit Go.Deep Math

structure Bk where
  seq : Nat
  epoch : Nat
  res : Nat
  hor : Nat
  gen : Nat
  clean : Bool
  image : Int
structure Bk.fits (b : Bk) : Prop where
  seq : b.seq < 18446744073709551616
  epoch : b.epoch < 18446744073709551616
  res : b.res < 18446744073709551616
  hor : b.hor < 18446744073709551616
  gen : b.gen < 18446744073709551616
  image0 : -9223372036854775808 ≤ b.image
  image1 : b.image ≤ 9223372036854775807
def toldN (i : Int) : Nat := if i < 0 ∨ 2147483647 < i then 0 else i.toNat
theorem toldN_le (i : Int) : toldN i ≤ 2147483647 := by unfold toldN; split <;> omega
def bitN (c : Bool) : Nat := if c then 1 else 0
def Bk.nums (b : Bk) : List Nat := [b.seq, b.epoch, b.res, b.hor, b.gen]
def mk4 : List UInt8 := [83, 85, 80, 69]
def Bk.head (b : Bk) : List UInt8 := mk4 ++ (low b.seq 8 ++ (low b.epoch 8 ++ (low b.res 8 ++ (low b.hor 8 ++ (low b.gen 8 ++ (low (bitN b.clean) 4 ++ (low (toldN b.image) 4 ++ low 0 8)))))))
def Bk.enc (b : Bk) : List UInt8 := b.head ++ low (crcN b.head) 4
theorem Bk.head_length (b : Bk) : b.head.length = 60 := by simp [Bk.head, mk4, low_length]
theorem Bk.enc_length (b : Bk) : b.enc.length = 64 := by simp [Bk.enc, Bk.head_length, low_length]

set_option maxHeartbeats 400000 in
theorem bit_any (c : Bool) (w : World) : Calls Try.prog 37 #[.bool c] w fun e w' => e = .returned (.int .u64 (bitN c : Nat)) ∧ w' = w := by
  cases c with
  | true =>
    go_enter Try.func37, Try.ntmps37
    go_wp2
    go_ret
    exact ⟨rfl, rfl⟩
  | false =>
    go_enter Try.func37, Try.ntmps37
    go_wp2
    go_ret
    exact ⟨rfl, rfl⟩
set_option maxHeartbeats 400000 in
theorem told_any (i : Int) (w : World) : Calls Try.prog 33 #[.int .i64 i] w fun e w' => e = .returned (.int .i64 (toldN i : Nat)) ∧ w' = w := by
  by_cases h1 : i < 0
  · have E : Hid (toldN i = 0) := by show _ = _; unfold toldN; rw [if_pos (.inl h1)]
    have h1' : (i < 0) = True := eq_true h1
    clear h1
    go_enter Try.func33, Try.ntmps33
    go_wp2
    go_ret
    exact ⟨by rw [E.out]; rfl, rfl⟩
  have h1' : (i < 0) = False := eq_false h1
  by_cases h2 : 2147483647 < i
  · have E : Hid (toldN i = 0) := by show _ = _; unfold toldN; rw [if_pos (.inr h2)]
    have h2' : (2147483647 < i) = True := eq_true h2
    clear h1 h2
    go_enter Try.func33, Try.ntmps33
    go_wp2
    go_ret
    exact ⟨by rw [E.out]; rfl, rfl⟩
  have h2' : (2147483647 < i) = False := eq_false h2
  have E : Hid ((toldN i : Int) = i) := by show _ = _; unfold toldN; rw [if_neg (by omega)]; omega
  clear h1 h2
  go_enter Try.func33, Try.ntmps33
  go_wp2
  go_ret
  exact ⟨by rw [E.out]; rfl, rfl⟩

def Bk.val (b : Bk) : Value := .agg #[.int .u64 b.seq, .int .u64 b.epoch, .int .u64 b.res, .int .u64 b.hor, .int .u64 b.gen, .bool b.clean, .int .i64 b.image]
/-- While a block is laid: the row so far, the box that the block lies in. -/
structure ES (w W : World) (g : Nat) (cur : List UInt8) (r : Nat) (bx : List Value) : Prop where
  buf : Buf W g cur r
  box : Blk W w.heap.size bx 29
  below : Below w.heap.size w W
  ng : w.heap.size < g
  len : cur.length + r = 64
theorem ES.num {w W : World} {g r : Nat} {cur : List UInt8} {bx : List Value} (h : ES w W g cur r bx) (n k m : Nat) (hm : m = cur.length) (hk : k ≤ 8) (hkr : k ≤ r) (hn : n < 18446744073709551616) :
    Calls Try.prog 36 #[.slice (some ⟨g, 0, none⟩) m 64, .int .u64 n, .int .i64 k] W fun e w' => e = .returned (.slice (some ⟨g, 0, none⟩) (m + k) 64) ∧ ES w w' g (cur ++ low n k) (r - k) bx := by
  have hl := h.len
  refine (addNumber_any g r k m 64 cur n hn hkr hk hm (by omega) (by omega) W h.buf).mono ?_
  rintro e w' ⟨he, hb, hkp⟩
  have hng := h.ng
  refine ⟨he, hb, h.box.same (hkp.block _ h.box.lt (by simp; omega)), h.below.trans (hkp.below (by simp; omega) h.below.size), hng, by rw [List.length_append, low_length]; omega⟩
theorem ES.drew {w W : World} {g r : Nat} {cur : List UInt8} {bx : List Value} (h : ES w W g cur r bx) : ES w W.drew g cur r bx := ⟨h.buf, h.box, h.below.drew, h.ng, h.len⟩
theorem ES.crc {w W : World} {g r : Nat} {cur : List UInt8} {bx : List Value} (h : ES w W g cur r bx) (m : Nat) (hm : m = cur.length) : Calls Try.prog 38 #[.slice (some ⟨g, 0, none⟩) m 64] W fun e w' => e = .returned (.int .u32 (crcN cur : Int)) ∧ w' = W := by
  have hl := h.len
  have hr := h.buf.reads 0
  rw [List.drop_zero] at hr
  exact crc_at _ m 64 (ints cur) W (by rw [ints_length, hm]) (by unfold maxLen; omega) hr
theorem ES.start (w : World) (bx : List Value) (Z : Array Value) (hZ : (zc 64).toArray = Z) : ES w ((w.alloc (.cells bx.toArray 29)).alloc (.cells Z 5)) (w.heap.size + 1) [] 64 bx := by
  refine ⟨?_, (Blk.new w bx 29).alloc _, ((Below.refl _ _).alloc (Nat.le_refl _) _).alloc (by rw [nblk_alloc]; omega) _, by omega, rfl⟩
  unfold Buf
  rw [show bCells [] ++ zc 64 = zc 64 from rfl]
  unfold Blk
  rw [hZ]
  have := blk_alloc_new (w.alloc (.cells bx.toArray 29)) (.cells Z 5)
  rw [nblk_alloc] at this
  exact this
theorem ES.mark {w W : World} {g : Nat} {bx : List Value} (h : ES w W g [] 64 bx) :
    ∃ W', (Builtin.append_ #[34, 9] 34 #[.slice (some ⟨g, 0, none⟩) 0 64, .string ⟨#[83, 85, 80, 69]⟩]).run Try.prog W = .ok (.slice (some ⟨g, 0, none⟩) 4 64) W' ∧ ES w W' g mk4 60 bx := by
  have hs : Src Try.prog 1 9 (.string ⟨#[83, 85, 80, 69]⟩) 4 (bCells mk4) W := Src.ofString (P := Try.prog) W Try.underlying9 (txt mk4)
  obtain ⟨h1, h2⟩ := buf_append (nl := 0) (cp := 64) h.buf hs (by omega) rfl rfl 34
  have hk : Keep [g] W (W.setCells g 0 (bCells mk4)) := (Keep.refl _ _).setCells (.inl (by simp)) _ _
  have hng := h.ng
  exact ⟨_, h1, h2, h.box.same (hk.block _ h.box.lt (by simp; omega)), h.below.trans (hk.below (by simp; omega) h.below.size), hng, rfl⟩

theorem und72 : Try.prog.underlying 72 = some (.array 5 27) := by kernel_rfl
theorem c27 : Try.prog.cellsOf 27 = 1 := by kernel_rfl
theorem idx0 (a b c d e : Value) (W : World) : (Instr.index 72 (.agg #[a, b, c, d, e]) (.int .i64 0)).run Try.prog W = .ok a W := by
  simp [Instr.index, run_underlying und72, asIntOf, go_sem, c27]
theorem idx1 (a b c d e : Value) (W : World) : (Instr.index 72 (.agg #[a, b, c, d, e]) (.int .i64 1)).run Try.prog W = .ok b W := by
  simp [Instr.index, run_underlying und72, asIntOf, go_sem, c27]
theorem idx2 (a b c d e : Value) (W : World) : (Instr.index 72 (.agg #[a, b, c, d, e]) (.int .i64 2)).run Try.prog W = .ok c W := by
  simp [Instr.index, run_underlying und72, asIntOf, go_sem, c27]
theorem idx3 (a b c d e : Value) (W : World) : (Instr.index 72 (.agg #[a, b, c, d, e]) (.int .i64 3)).run Try.prog W = .ok d W := by
  simp [Instr.index, run_underlying und72, asIntOf, go_sem, c27]
theorem idx4 (a b c d e : Value) (W : World) : (Instr.index 72 (.agg #[a, b, c, d, e]) (.int .i64 4)).run Try.prog W = .ok e W := by
  simp [Instr.index, run_underlying und72, asIntOf, go_sem, c27]
def lows : List Nat → List UInt8
  | [] => []
  | n :: r => low n 8 ++ lows r
theorem head_is (b : Bk) : mk4 ++ lows b.nums ++ low (bitN b.clean) 4 ++ low (toldN b.image) 4 ++ low 0 8 = b.head := by
  simp [Bk.nums, lows, Bk.head]
theorem lows_snoc : ∀ (l : List Nat) (n : Nat), lows (l ++ [n]) = lows l ++ low n 8
  | [], n => by simp [lows]
  | a :: r, n => by simp [lows, lows_snoc r n]

set_option maxRecDepth 4000 in
set_option maxHeartbeats 1000000 in
theorem encode_any (b : Bk) (hf : b.fits) (w : World) :
    Calls Try.prog 14 #[.agg #[.int .u64 b.seq, .int .u64 b.epoch, .int .u64 b.res, .int .u64 b.hor, .int .u64 b.gen, .bool b.clean, .int .i64 b.image]] w fun e w' => ∃ g, e = .returned (.slice (some ⟨g, 0, none⟩) 64 64) ∧ w.heap.size ≤ g ∧ Buf w' g b.enc 0 ∧ Below w.heap.size w w' := by
  have hm := make_cap 64 (by omega)
  generalize hZ : (zc 64).toArray = Z at hm
  have hm' : ∀ W : World, (Instr.makeSlice 34 (.int .i64 0) (.int .i64 64)).run Try.prog W = .ok (.slice (some ⟨W.heap.size, 0, none⟩) 0 64) (W.alloc (.cells Z 5)) := hm
  have E0 := ES.start w [.int .u64 b.seq, .int .u64 b.epoch, .int .u64 b.res, .int .u64 b.hor, .int .u64 b.gen, .bool b.clean, .int .i64 b.image] Z hZ
  obtain ⟨W1, hr1, e1⟩ := E0.mark
  have HR1 := hide hr1
  have ST := hide e1
  have bx := e1.box
  have x0 : W1.cell? ⟨w.heap.size, 0, none⟩ = some (.int .u64 b.seq) := bx.cell rfl
  have x1 : W1.cell? ⟨w.heap.size, 1, none⟩ = some (.int .u64 b.epoch) := bx.cell rfl
  have x2 : W1.cell? ⟨w.heap.size, 2, none⟩ = some (.int .u64 b.res) := bx.cell rfl
  have x3 : W1.cell? ⟨w.heap.size, 3, none⟩ = some (.int .u64 b.hor) := bx.cell rfl
  have x4 : W1.cell? ⟨w.heap.size, 4, none⟩ = some (.int .u64 b.gen) := bx.cell rfl
  clear hr1 e1 E0 bx hZ hm
  go_enter Try.func14, Try.ntmps14
  go_wp2_with (at_builtin; refine Lib.wpList_append_run _ rfl _ _ _ _ rfl _ _ rfl rfl _ _ HR1.out ?_)
  clear x0 x1 x2 x3 x4 HR1 hm'
  go_loopg [3, 19] 5 (fun kx s3 s19 wr => ∃ i m : Nat, s19 = .int .i64 i ∧ s3 = .slice (some ⟨w.heap.size + 1, 0, none⟩) m 64 ∧ i ≤ 5 ∧ 5 - i ≤ kx ∧ Hid ((mk4 ++ lows (b.nums.take i)).length = m ∧ ES w wr (w.heap.size + 1) (mk4 ++ lows (b.nums.take i)) (60 - 8 * i) [.int .u64 b.seq, .int .u64 b.epoch, .int .u64 b.res, .int .u64 b.hor, .int .u64 b.gen, .bool b.clean, .int .i64 b.image]))
  case atStart => exact ⟨0, 4, rfl, rfl, by omega, by omega, rfl, by simpa [lows] using ST.out⟩
  case round =>
    obtain ⟨i, m, rfl, rfl, hin, hg, I⟩ := hrel
    by_cases hlt : i < 5
    · rcases (show i = 0 ∨ i = 1 ∨ i = 2 ∨ i = 3 ∨ i = 4 by omega) with rfl | rfl | rfl | rfl | rfl
      · have cn := hide (I.out.2.num b.seq 8 m I.out.1.symm (by omega) (by omega) hf.seq)
        have LS : Hid (mk4 ++ lows (b.nums.take 0) ++ low b.seq 8 = mk4 ++ lows (b.nums.take 1)) := by show _ = _; simp [Bk.nums, lows]
        have HG := hide hg
        clear hf hg hin hlt
        have ix : ∀ W : World, (Instr.index 72 (.agg #[.int .u64 b.seq, .int .u64 b.epoch, .int .u64 b.res, .int .u64 b.hor, .int .u64 b.gen]) (.int .i64 0)).run Try.prog W = .ok (.int .u64 b.seq) W := fun W => idx0 _ _ _ _ _ W
        go_wp2_with (go_at_call 36; refine cn.out.mono ?_; rintro r w2 ⟨rfl, h2⟩; have S2 := hide h2; clear h2)
        go_roundg (5 - 1)
        case measure => have := HG.out; omega
        case rel => exact ⟨1, m + 8, rfl, rfl, by omega, by omega, by rw [← LS.out, List.length_append, I.out.1, low_length], by have := S2.out; rw [LS.out] at this; exact this⟩
      · have cn := hide (I.out.2.num b.epoch 8 m I.out.1.symm (by omega) (by omega) hf.epoch)
        have LS : Hid (mk4 ++ lows (b.nums.take 1) ++ low b.epoch 8 = mk4 ++ lows (b.nums.take 2)) := by show _ = _; simp [Bk.nums, lows]
        have HG := hide hg
        clear hf hg hin hlt
        have ix : ∀ W : World, (Instr.index 72 (.agg #[.int .u64 b.seq, .int .u64 b.epoch, .int .u64 b.res, .int .u64 b.hor, .int .u64 b.gen]) (.int .i64 1)).run Try.prog W = .ok (.int .u64 b.epoch) W := fun W => idx1 _ _ _ _ _ W
        go_wp2_with (go_at_call 36; refine cn.out.mono ?_; rintro r w2 ⟨rfl, h2⟩; have S2 := hide h2; clear h2)
        go_roundg (5 - 2)
        case measure => have := HG.out; omega
        case rel => exact ⟨2, m + 8, rfl, rfl, by omega, by omega, by rw [← LS.out, List.length_append, I.out.1, low_length], by have := S2.out; rw [LS.out] at this; exact this⟩
      · have cn := hide (I.out.2.num b.res 8 m I.out.1.symm (by omega) (by omega) hf.res)
        have LS : Hid (mk4 ++ lows (b.nums.take 2) ++ low b.res 8 = mk4 ++ lows (b.nums.take 3)) := by show _ = _; simp [Bk.nums, lows]
        have HG := hide hg
        clear hf hg hin hlt
        have ix : ∀ W : World, (Instr.index 72 (.agg #[.int .u64 b.seq, .int .u64 b.epoch, .int .u64 b.res, .int .u64 b.hor, .int .u64 b.gen]) (.int .i64 2)).run Try.prog W = .ok (.int .u64 b.res) W := fun W => idx2 _ _ _ _ _ W
        go_wp2_with (go_at_call 36; refine cn.out.mono ?_; rintro r w2 ⟨rfl, h2⟩; have S2 := hide h2; clear h2)
        go_roundg (5 - 3)
        case measure => have := HG.out; omega
        case rel => exact ⟨3, m + 8, rfl, rfl, by omega, by omega, by rw [← LS.out, List.length_append, I.out.1, low_length], by have := S2.out; rw [LS.out] at this; exact this⟩
      · have cn := hide (I.out.2.num b.hor 8 m I.out.1.symm (by omega) (by omega) hf.hor)
        have LS : Hid (mk4 ++ lows (b.nums.take 3) ++ low b.hor 8 = mk4 ++ lows (b.nums.take 4)) := by show _ = _; simp [Bk.nums, lows]
        have HG := hide hg
        clear hf hg hin hlt
        have ix : ∀ W : World, (Instr.index 72 (.agg #[.int .u64 b.seq, .int .u64 b.epoch, .int .u64 b.res, .int .u64 b.hor, .int .u64 b.gen]) (.int .i64 3)).run Try.prog W = .ok (.int .u64 b.hor) W := fun W => idx3 _ _ _ _ _ W
        go_wp2_with (go_at_call 36; refine cn.out.mono ?_; rintro r w2 ⟨rfl, h2⟩; have S2 := hide h2; clear h2)
        go_roundg (5 - 4)
        case measure => have := HG.out; omega
        case rel => exact ⟨4, m + 8, rfl, rfl, by omega, by omega, by rw [← LS.out, List.length_append, I.out.1, low_length], by have := S2.out; rw [LS.out] at this; exact this⟩
      · have cn := hide (I.out.2.num b.gen 8 m I.out.1.symm (by omega) (by omega) hf.gen)
        have LS : Hid (mk4 ++ lows (b.nums.take 4) ++ low b.gen 8 = mk4 ++ lows (b.nums.take 5)) := by show _ = _; simp [Bk.nums, lows]
        have HG := hide hg
        clear hf hg hin hlt
        have ix : ∀ W : World, (Instr.index 72 (.agg #[.int .u64 b.seq, .int .u64 b.epoch, .int .u64 b.res, .int .u64 b.hor, .int .u64 b.gen]) (.int .i64 4)).run Try.prog W = .ok (.int .u64 b.gen) W := fun W => idx4 _ _ _ _ _ W
        go_wp2_with (go_at_call 36; refine cn.out.mono ?_; rintro r w2 ⟨rfl, h2⟩; have S2 := hide h2; clear h2)
        go_roundg (5 - 5)
        case measure => have := HG.out; omega
        case rel => exact ⟨5, m + 8, rfl, rfl, by omega, by omega, by rw [← LS.out, List.length_append, I.out.1, low_length], by have := S2.out; rw [LS.out] at this; exact this⟩
    · obtain rfl : i = 5 := by omega
      have L5 : Hid (mk4 ++ lows (b.nums.take 5) = mk4 ++ lows b.nums) := rfl
      have hm44 : m = 44 := by rw [← I.out.1]; simp [Bk.nums, lows, mk4, low_length]
      subst hm44
      have S0 := hide I.out.2
      have x5 : wr.cell? ⟨w.heap.size, 5, none⟩ = some (.bool b.clean) := S0.out.box.cell rfl
      have x6 : wr.cell? ⟨w.heap.size, 6, none⟩ = some (.int .i64 b.image) := S0.out.box.cell rfl
      have HL := hide I.out.1
      have TL := hide (toldN_le b.image)
      have cb := hide (bit_any b.clean)
      have ct := hide (told_any b.image)
      have BL : Hid (bitN b.clean < 18446744073709551616) := by show _ < _; unfold bitN; split <;> decide
      have HD := hide (head_is b)
      have hwt : IntKind.u64.wrap ((toldN b.image : Nat) : Int) = ((toldN b.image : Nat) : Int) := by rw [IntKind.wrap_u64]; have := TL.out; omega
      clear hf hg hin hlt I
      generalize toldN b.image = tn at *
      generalize bitN b.clean = bn at *
      have CL := hide (crcN_lt b.head)
      go_wp2_with (first
        | (go_at_call 37; refine (cb.out _).mono ?_; rintro r w2 ⟨rfl, rfl⟩))
      refine (S0.out.num bn 4 44 HL.out.symm (by omega) (by omega) BL.out).mono ?_
      rintro r w3 ⟨rfl, s3⟩
      have S3 := hide s3
      have y6 : w3.cell? ⟨w.heap.size, 6, none⟩ = some (.int .i64 b.image) := s3.box.cell rfl
      have L3 : Hid ((mk4 ++ lows (b.nums.take 5) ++ low bn 4).length = 48) := by show _ = _; rw [List.length_append, HL.out, low_length]
      clear s3 x5 x6 cb
      go_wp2_with (first
        | (go_at_call 33; refine (ct.out _).mono ?_; rintro r w4 ⟨rfl, rfl⟩))
      refine (S3.out.num tn 4 48 L3.out.symm (by omega) (by omega) (by have := TL.out; omega)).mono ?_
      rintro r w5 ⟨rfl, s5⟩
      have S5 := hide s5
      have L5 : Hid ((mk4 ++ lows (b.nums.take 5) ++ low bn 4 ++ low tn 4).length = 52) := by show _ = _; rw [List.length_append, L3.out, low_length]
      clear s5 y6 ct
      go_wp2_with fail
      refine (S5.out.num 0 8 52 L5.out.symm (by omega) (by omega) (by omega)).mono ?_
      rintro r w6 ⟨rfl, s6⟩
      have EH : mk4 ++ lows (b.nums.take 5) ++ low bn 4 ++ low tn 4 ++ low 0 8 = b.head := HD.out
      rw [EH] at s6
      have S6 := hide s6
      clear s6 EH
      have cc := hide (S6.out.crc 60 (by rw [b.head_length]))
      have hwc : IntKind.u64.wrap ((crcN b.head : Nat) : Int) = ((crcN b.head : Nat) : Int) := by rw [IntKind.wrap_u64]; have := CL.out; omega
      have cn := hide (S6.out.num (crcN b.head) 4 60 (by rw [b.head_length]) (by omega) (by omega) (by have := CL.out; omega))
      have EE : Hid (b.head ++ low (crcN b.head) 4 = b.enc) := rfl
      generalize crcN b.head = cr at *
      go_wp2_with fail
      refine cc.out.mono ?_
      rintro r w7 ⟨rfl, h7⟩
      obtain rfl : w6 = w7 := h7.symm
      clear h7
      go_wp2_with fail
      refine cn.out.mono ?_
      rintro r w8 ⟨rfl, s8⟩
      rw [EE.out] at s8
      have S8 := hide s8
      clear s8
      go_wp2
      go_ret
      exact ⟨w.heap.size + 1, rfl, by omega, S8.out.buf, S8.out.below⟩
end Go.Proofs.Ytcdefadeaiklbaa
