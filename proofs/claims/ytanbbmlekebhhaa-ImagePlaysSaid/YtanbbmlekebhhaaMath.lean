/-
  Plain mathematics of the check sum (CRC-32C, bit by bit) and of the hash (FNV-1a), over the model's integers: what one step does, that steps are linear and lose nothing.
  Conditions: none; nothing here speaks of a program.
-/
import Derived.Laws.BitsAllLaws
namespace Go.Proofs.Ytanbbmlekebhhaa.Math

/-- The 32 bits of a number, and the number of 32 bits. -/
def B (n : Int) : BitVec 32 := BitVec.ofInt 32 n
def U (b : BitVec 32) : Int := (b.toNat : Int)

theorem U_nonneg (b : BitVec 32) : 0 ≤ U b := by unfold U; omega
theorem U_lt (b : BitVec 32) : U b < 4294967296 := by unfold U; have := b.isLt; omega
theorem B_U (b : BitVec 32) : B (U b) = b := by
  unfold B U; simp
theorem U_B (n : Int) (h0 : 0 ≤ n) (h1 : n < 4294967296) : U (B n) = n := by
  unfold B U; rw [BitVec.toNat_ofInt]; omega
theorem U_inj {a b : BitVec 32} (h : U a = U b) : a = b := by
  have := congrArg B h; rwa [B_U, B_U] at this
theorem U_beq (a b : BitVec 32) : (U a == U b) = (a == b) := by
  rw [Bool.eq_iff_iff, beq_iff_eq, beq_iff_eq]
  exact ⟨U_inj, congrArg U⟩

theorem xor_U (a b : Int) : bits .xor .u32 a b = U (B a ^^^ B b) := by
  show IntKind.u32.wrap ((BitVec.ofInt 32 a ^^^ BitVec.ofInt 32 b).toNat : Int) = _
  rw [IntKind.wrap_u32']
  have := (BitVec.ofInt 32 a ^^^ BitVec.ofInt 32 b).isLt
  unfold U B; omega
theorem and_U (a b : Int) : bits .and .u32 a b = U (B a &&& B b) := by
  show IntKind.u32.wrap ((BitVec.ofInt 32 a &&& BitVec.ofInt 32 b).toNat : Int) = _
  rw [IntKind.wrap_u32']
  have := (BitVec.ofInt 32 a &&& BitVec.ofInt 32 b).isLt
  unfold U B; omega

/-- The polynomial, its lowest power in the highest bit. -/
def poly : BitVec 32 := 2197175160#32

/-- One bit out. -/
def sh1 (c : BitVec 32) : BitVec 32 := if c.getLsbD 0 then (c >>> 1) ^^^ poly else c >>> 1

theorem sh1_xor (a b : BitVec 32) : sh1 (a ^^^ b) = sh1 a ^^^ sh1 b := by
  unfold sh1
  rw [BitVec.getLsbD_xor, BitVec.ushiftRight_xor_distrib]
  cases a.getLsbD 0 <;> cases b.getLsbD 0 <;> simp
  · rw [BitVec.xor_assoc]
  · rw [BitVec.xor_assoc, BitVec.xor_assoc, BitVec.xor_comm poly]
  · rw [BitVec.xor_assoc, BitVec.xor_comm poly, BitVec.xor_assoc, BitVec.xor_self, BitVec.xor_zero]

theorem sh1_zero (a : BitVec 32) (h : sh1 a = 0#32) : a = 0#32 := by
  unfold sh1 at h
  cases hb : a.getLsbD 0
  · rw [hb] at h
    simp at h
    apply BitVec.eq_of_getLsbD_eq
    intro i hi
    cases i with
    | zero => simpa using hb
    | succ j =>
      have := congrArg (fun v : BitVec 32 => v.getLsbD j) h
      simp at this
      rw [Nat.add_comm] at this
      simpa using this
  · rw [hb] at h
    have := congrArg (fun v : BitVec 32 => v.getLsbD 31) h
    simp [poly] at this

/-- Eight bits out. -/
def sh8 (c : BitVec 32) : BitVec 32 := sh1 (sh1 (sh1 (sh1 (sh1 (sh1 (sh1 (sh1 c)))))))
def shn : Nat → BitVec 32 → BitVec 32
  | 0, c => c
  | n + 1, c => sh1 (shn n c)
theorem shn_8 (c : BitVec 32) : shn 8 c = sh8 c := rfl

theorem sh8_xor (a b : BitVec 32) : sh8 (a ^^^ b) = sh8 a ^^^ sh8 b := by
  unfold sh8; simp only [sh1_xor]
theorem sh8_zero (a : BitVec 32) (h : sh8 a = 0#32) : a = 0#32 := by
  unfold sh8 at h
  exact sh1_zero _ (sh1_zero _ (sh1_zero _ (sh1_zero _ (sh1_zero _ (sh1_zero _ (sh1_zero _ (sh1_zero _ h)))))))
theorem sh8_nil : sh8 0#32 = 0#32 := by decide

/-- All bytes, one behind the other. -/
def crc (c : BitVec 32) (l : List Int) : BitVec 32 := l.foldl (fun c x => sh8 (c ^^^ B x)) c
def more (c : BitVec 32) (l : List Int) : BitVec 32 := ~~~ (crc (~~~ c) l)
theorem crc_nil (c : BitVec 32) : crc c [] = c := rfl
theorem crc_cons (c : BitVec 32) (x : Int) (l : List Int) : crc c (x :: l) = crc (sh8 (c ^^^ B x)) l := rfl
theorem crc_append (c : BitVec 32) (l m : List Int) : crc c (l ++ m) = crc (crc c l) m := by
  unfold crc; rw [List.foldl_append]
theorem crc_snoc (c : BitVec 32) (l : List Int) (x : Int) : crc c (l ++ [x]) = sh8 (crc c l ^^^ B x) := by
  rw [crc_append]; rfl
theorem more_append (c : BitVec 32) (l m : List Int) : more c (l ++ m) = more (more c l) m := by
  unfold more; rw [crc_append, BitVec.not_not]

theorem not_U (n : Int) : bits .xor .u32 4294967295 n = U (~~~ B n) := by
  rw [xor_U]
  congr 1

theorem not_U' (n : Int) : bits .xor .u32 n 4294967295 = U (~~~ B n) := by
  rw [← not_U, xor_U, xor_U, BitVec.xor_comm]
theorem not_max (n : Int) : bits .xor .u32 IntKind.u32.max n = U (~~~ B n) := by
  have e : IntKind.u32.max = 4294967295 := by simp [IntKind.max, IntKind.bits, IntKind.signed]
  rw [e]; exact not_U n
theorem low_U (b : BitVec 32) : (bits .and .u32 (U b) 1 == 1) = b.getLsbD 0 := by
  rw [and_U, B_U]
  have e : (1 : Int) = U 1#32 := by decide
  rw [e, B_U, U_beq, Bool.eq_iff_iff, beq_iff_eq]
  constructor
  · intro h
    have := congrArg (fun v : BitVec 32 => v.getLsbD 0) h
    simpa using this
  · intro h
    apply BitVec.eq_of_getLsbD_eq
    intro i hi
    cases i with
    | zero => simpa using h
    | succ j => simp
theorem half_U (b : BitVec 32) : U b / (2 : Int) = U (b >>> 1) := by
  unfold U; rw [BitVec.toNat_ushiftRight, Nat.shiftRight_eq_div_pow]; omega
theorem step_odd (b : BitVec 32) (h : b.getLsbD 0 = true) : bits .xor .u32 (U b / 2) 2197175160 = U (sh1 b) := by
  rw [half_U, xor_U, B_U]; unfold sh1; rw [if_pos h]; rfl
theorem step_even (b : BitVec 32) (h : b.getLsbD 0 = false) : U b / 2 = U (sh1 b) := by
  rw [half_U]; unfold sh1; rw [h]; rfl

/-- The document's own reckoning: the byte is met bit by bit. -/
def ref1 (c : BitVec 32) (x : Int) (k : Nat) : BitVec 32 := shn k (c ^^^ B x) ^^^ (B x >>> k)
theorem ref1_0 (c : BitVec 32) (x : Int) : ref1 c x 0 = c := by
  unfold ref1 shn; rw [BitVec.ushiftRight_zero, BitVec.xor_assoc, BitVec.xor_self, BitVec.xor_zero]
theorem B_byte_shift (x : Int) (h0 : 0 ≤ x) (h1 : x ≤ 255) : B x >>> 8 = 0#32 := by
  apply BitVec.eq_of_toNat_eq
  have : (B x).toNat = x.toNat := by unfold B; rw [BitVec.toNat_ofInt]; omega
  rw [BitVec.toNat_ushiftRight, this, Nat.shiftRight_eq_div_pow]
  simp; omega
theorem ref1_8 (c : BitVec 32) (x : Int) (h0 : 0 ≤ x) (h1 : x ≤ 255) : ref1 c x 8 = sh8 (c ^^^ B x) := by
  unfold ref1; rw [B_byte_shift x h0 h1, BitVec.xor_zero]; rfl
theorem ref1_succ (c : BitVec 32) (x : Int) (k : Nat) :
    ref1 c x (k + 1) = (if (ref1 c x k ^^^ (B x >>> k)).getLsbD 0 then (ref1 c x k >>> 1) ^^^ poly else ref1 c x k >>> 1) := by
  have e : ref1 c x k ^^^ (B x >>> k) = shn k (c ^^^ B x) := by
    unfold ref1; rw [BitVec.xor_assoc, BitVec.xor_self, BitVec.xor_zero]
  rw [e]
  have e2 : ref1 c x k >>> 1 = (shn k (c ^^^ B x) >>> 1) ^^^ (B x >>> (k + 1)) := by
    unfold ref1; rw [BitVec.ushiftRight_xor_distrib, BitVec.shiftRight_add]
  rw [e2]
  show sh1 (shn k (c ^^^ B x)) ^^^ (B x >>> (k + 1)) = _
  generalize shn k (c ^^^ B x) = d
  unfold sh1
  cases d.getLsbD 0
  · simp
  · simp [BitVec.xor_assoc, BitVec.xor_comm]
theorem B_shift (x : Int) (k : Nat) (h0 : 0 ≤ x) (h1 : x ≤ 255) : B (x / 2 ^ k) = B x >>> k := by
  apply BitVec.eq_of_toNat_eq
  have e : (B x).toNat = x.toNat := by unfold B; rw [BitVec.toNat_ofInt]; omega
  obtain ⟨n, rfl⟩ := Int.eq_ofNat_of_zero_le h0
  have e3 : ((n : Int) / 2 ^ k) = ((n / 2 ^ k : Nat) : Int) := by simp
  have hle : n / 2 ^ k ≤ n := Nat.div_le_self _ _
  rw [BitVec.toNat_ushiftRight, e, Nat.shiftRight_eq_div_pow, e3]
  unfold B
  rw [BitVec.ofInt_natCast, BitVec.toNat_ofNat, Int.toNat_natCast]
  exact Nat.mod_eq_of_lt (by omega)

theorem B_mod (y : Int) : B (y % 4294967296) = B y := by
  apply BitVec.eq_of_toNat_eq
  unfold B; rw [BitVec.toNat_ofInt, BitVec.toNat_ofInt]
  simp
theorem ref_low (d : BitVec 32) (x : Int) (j : Nat) (h0 : 0 ≤ x) (h1 : x ≤ 255) :
    (bits .and .u32 (bits .xor .u32 (U (ref1 d x j)) (x / 2 ^ j % 4294967296)) 1 == 1) = (ref1 d x j ^^^ (B x >>> j)).getLsbD 0 := by
  rw [xor_U, B_U, B_mod, B_shift x j h0 h1, low_U]
theorem ref_odd (d : BitVec 32) (x : Int) (j : Nat) (h0 : 0 ≤ x) (h1 : x ≤ 255)
    (h : (bits .and .u32 (bits .xor .u32 (U (ref1 d x j)) (x / 2 ^ j % 4294967296)) 1 == 1) = true) :
    bits .xor .u32 (U (ref1 d x j) / 2) 2197175160 = U (ref1 d x (j + 1)) := by
  rw [ref_low d x j h0 h1] at h
  rw [ref1_succ, if_pos h, half_U, xor_U, B_U]; rfl
theorem ref_even (d : BitVec 32) (x : Int) (j : Nat) (h0 : 0 ≤ x) (h1 : x ≤ 255)
    (h : (bits .and .u32 (bits .xor .u32 (U (ref1 d x j)) (x / 2 ^ j % 4294967296)) 1 == 1) = false) :
    U (ref1 d x j) / 2 = U (ref1 d x (j + 1)) := by
  rw [ref_low d x j h0 h1] at h
  rw [ref1_succ, h, half_U]; rfl

def bytesOf (s : ByteArray) : List Int := s.data.toList.map fun b => (b.toNat : Int)
theorem bytesOf_length (s : ByteArray) : (bytesOf s).length = s.size := by unfold bytesOf; rw [List.length_map, Array.length_toList]; rfl
theorem bytesOf_range (s : ByteArray) (i : Nat) : 0 ≤ (bytesOf s).getD i 0 ∧ (bytesOf s).getD i 0 ≤ 255 := by
  unfold bytesOf
  rw [List.getD_eq_getElem?_getD, List.getElem?_map]
  cases s.data.toList[i]? with
  | none => simp
  | some b => have := b.toNat_lt; simp; omega
theorem bytesOf_append (s t : ByteArray) : bytesOf (s ++ t) = bytesOf s ++ bytesOf t := by unfold bytesOf; simp
end Go.Proofs.Ytanbbmlekebhhaa.Math
