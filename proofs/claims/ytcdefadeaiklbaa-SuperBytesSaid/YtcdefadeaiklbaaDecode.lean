/- 'Decode'. -/
import Derived.Test.YtcdefadeaiklbaaBlock
set_option linter.unusedVariables false
set_option linter.unusedSimpArgs false
set_option maxRecDepth 8000
namespace Go.Proofs.Ytcdefadeaiklbaa
open Go.RowKit Go.Deep Math

def Bk.zero : Bk := ⟨0, 0, 0, 0, 0, false, 0⟩
def decB (l : List UInt8) : Bk := ⟨up (sl l 4 12), up (sl l 12 20), up (sl l 20 28), up (sl l 28 36), up (sl l 36 44), decide (l.getD 44 0 = 1), (up (sl l 48 52) : Int)⟩
def dec (l : List UInt8) : Option Bk := if l.length < 64 then none else if (decB l).enc = l.take 64 then some (decB l) else none
def bkV (b : Bk) (e : Int) : Value := .tuple #[.agg #[.int .u64 b.seq, .int .u64 b.epoch, .int .u64 b.res, .int .u64 b.hor, .int .u64 b.gen, .bool b.clean, .int .i64 b.image], .int .i64 e]
def decV : Option Bk → Value
  | none => bkV Bk.zero 3
  | some b => bkV b 0
theorem up_sl_lt (l : List UInt8) (i j : Nat) (hj : j ≤ l.length) (h8 : j - i ≤ 8) : up (sl l i j) < 18446744073709551616 := by
  have h1 := up_lt (sl l i j)
  rw [sl_length _ _ _ hj] at h1
  have : (256 : Nat) ^ (j - i) ≤ 256 ^ 8 := Nat.pow_le_pow_right (by decide) h8
  have e : (256 : Nat) ^ 8 = 18446744073709551616 := by decide
  omega
theorem decB_fits (l : List UInt8) (h : 64 ≤ l.length) : (decB l).fits := by
  have h1 := up_lt (sl l 48 52)
  rw [sl_length _ _ _ (by omega)] at h1
  have e : (256 : Nat) ^ (52 - 48) = 4294967296 := by decide
  exact ⟨up_sl_lt l 4 12 (by omega) (by omega), up_sl_lt l 12 20 (by omega) (by omega), up_sl_lt l 20 28 (by omega) (by omega), up_sl_lt l 28 36 (by omega) (by omega), up_sl_lt l 36 44 (by omega) (by omega), by show _ ≤ ((up (sl l 48 52) : Nat) : Int); omega, by show ((up (sl l 48 52) : Nat) : Int) ≤ _; omega⟩
/-- A block's bytes, read. -/
def Bk.told (b : Bk) : Bk := { b with image := (toldN b.image : Int) }
theorem toldN_told (b : Bk) : toldN b.told.image = toldN b.image := by
  show toldN ((toldN b.image : Nat) : Int) = _
  have := toldN_le b.image
  unfold toldN at *
  split <;> split <;> omega
theorem told_enc (b : Bk) : b.told.enc = b.enc := by
  have e : b.told.head = b.head := by
    unfold Bk.head
    rw [toldN_told]
    rfl
  unfold Bk.enc
  rw [e]
theorem dec_enc (b : Bk) (hf : b.fits) (more : List UInt8) : dec (b.enc ++ more) = some b.told := by
  have hl : (b.enc ++ more).length = 64 + more.length := by rw [List.length_append, b.enc_length]
  have hB : decB (b.enc ++ more) = b.told := by
    obtain ⟨L, hL⟩ : ∃ L, L = b.enc ++ more := ⟨_, rfl⟩
    have e : L = mk4 ++ (low b.seq 8 ++ (low b.epoch 8 ++ (low b.res 8 ++ (low b.hor 8 ++ (low b.gen 8 ++ (low (bitN b.clean) 4 ++ (low (toldN b.image) 4 ++ (low 0 8 ++ (low (crcN b.head) 4 ++ more))))))))) := by
      rw [hL]; unfold Bk.enc; rw [List.append_assoc]; unfold Bk.head; simp only [List.append_assoc]
    rw [← hL]
    have s4 : sl L 4 12 = low b.seq 8 := by rw [e]; exact sl_mid mk4 _ _ 4 12 rfl (by rw [low_length])
    have s12 : sl L 12 20 = low b.epoch 8 := by
      rw [e, ← List.append_assoc]; exact sl_mid _ _ _ 12 20 (by simp [mk4, low_length]) (by rw [low_length])
    have s20 : sl L 20 28 = low b.res 8 := by
      rw [e, ← List.append_assoc, ← List.append_assoc]; exact sl_mid _ _ _ 20 28 (by simp [mk4, low_length]) (by rw [low_length])
    have s28 : sl L 28 36 = low b.hor 8 := by
      rw [e, ← List.append_assoc, ← List.append_assoc, ← List.append_assoc]; exact sl_mid _ _ _ 28 36 (by simp [mk4, low_length]) (by rw [low_length])
    have s36 : sl L 36 44 = low b.gen 8 := by
      rw [e, ← List.append_assoc, ← List.append_assoc, ← List.append_assoc, ← List.append_assoc]; exact sl_mid _ _ _ 36 44 (by simp [mk4, low_length]) (by rw [low_length])
    have s44 : sl L 44 48 = low (bitN b.clean) 4 := by
      rw [e, ← List.append_assoc, ← List.append_assoc, ← List.append_assoc, ← List.append_assoc, ← List.append_assoc]; exact sl_mid _ _ _ 44 48 (by simp [mk4, low_length]) (by rw [low_length])
    have s48 : sl L 48 52 = low (toldN b.image) 4 := by
      rw [e, ← List.append_assoc, ← List.append_assoc, ← List.append_assoc, ← List.append_assoc, ← List.append_assoc, ← List.append_assoc]; exact sl_mid _ _ _ 48 52 (by simp [mk4, low_length]) (by rw [low_length])
    have d44 : L.getD 44 0 = UInt8.ofNat (bitN b.clean) := by
      have h1 : (sl L 44 48)[0]? = L[44]? := by
        unfold sl
        rw [List.getElem?_drop, List.getElem?_take_of_lt (by omega)]
      rw [s44] at h1
      rw [List.getD_eq_getElem?_getD, ← h1]
      cases b.clean <;> rfl
    have tl := toldN_le b.image
    have t4 : toldN b.image < 256 ^ 4 := by
      have : (256 : Nat) ^ 4 = 4294967296 := by decide
      omega
    unfold decB Bk.told
    rw [s4, s12, s20, s28, s36, s48, d44, up_low 8 _ hf.seq, up_low 8 _ hf.epoch, up_low 8 _ hf.res, up_low 8 _ hf.hor, up_low 8 _ hf.gen, up_low 4 _ t4]
    cases hc : b.clean <;> simp [bitN]
  unfold dec
  rw [if_neg (by omega), hB, if_pos]
  rw [told_enc, List.take_left' b.enc_length]

set_option maxHeartbeats 1000000 in
theorem decode_short (a : Option Addr) (n cap : Nat) (l : List UInt8) (w : World) (h : BS w a n cap l) (hs : n < 64) :
    Calls Try.prog 13 #[.slice a n cap] w fun e w' => e = .returned (bkV Bk.zero 3) ∧ Below w.heap.size w w' := by
  have hlt : ((n : Int) < 64) = True := eq_true (by omega)
  clear h hs
  go_enter Try.func13, Try.ntmps13
  go_wp2
  exact bodyPost_ret (v := bkV Bk.zero 3) (by simp [results, Try.results13, go_sem, bkV, Bk.zero]) rfl ⟨rfl, (Below.refl _ _).alloc (Nat.le_refl _) _⟩
end Go.Proofs.Ytcdefadeaiklbaa
