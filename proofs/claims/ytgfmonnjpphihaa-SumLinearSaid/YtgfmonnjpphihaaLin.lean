/-
  Plain mathematics of the check sum: it is linear, and no change within four bytes one behind the other goes unseen.
-/
import Derived.Test.YtgfmonnjpphihaaMath
namespace Go.Proofs.Ytgfmonnjpphihaa.Math

theorem sh8_inj {a b : BitVec 32} (h : sh8 a = sh8 b) : a = b := by
  have h2 : sh8 (a ^^^ b) = 0#32 := by rw [sh8_xor, h, BitVec.xor_self]
  have h3 := sh8_zero _ h2
  have h4 := congrArg (fun v => v ^^^ b) h3
  simpa [BitVec.xor_assoc] using h4
theorem xor_right_inj {a b x : BitVec 32} (h : a ^^^ x = b ^^^ x) : a = b := by
  have := congrArg (fun v => v ^^^ x) h
  simpa [BitVec.xor_assoc] using this
theorem xor_left_inj {a b x : BitVec 32} (h : x ^^^ a = x ^^^ b) : a = b := by
  rw [BitVec.xor_comm x, BitVec.xor_comm x] at h; exact xor_right_inj h
theorem crc_inj {c d : BitVec 32} (l : List Int) (h : crc c l = crc d l) : c = d := by
  induction l generalizing c d with
  | nil => exact h
  | cons x xs ih => exact xor_right_inj (sh8_inj (ih h))
theorem more_inj_crc {c : BitVec 32} {l m : List Int} (h : more c l = more c m) : crc (~~~ c) l = crc (~~~ c) m := by
  unfold more at h
  have := congrArg (fun v => ~~~ v) h
  simpa using this

theorem B_byte_inj {x y : Int} (x0 : 0 ≤ x) (x1 : x ≤ 255) (y0 : 0 ≤ y) (y1 : y ≤ 255) (h : B x = B y) : x = y := by
  have := congrArg U h
  rwa [U_B x x0 (by omega), U_B y y0 (by omega)] at this

/-- One byte changed. -/
theorem crc_one (c : BitVec 32) (p q : List Int) (x y : Int) (h : crc c (p ++ x :: q) = crc c (p ++ y :: q)) : B x = B y := by
  rw [crc_append, crc_append, crc_cons, crc_cons] at h
  exact xor_left_inj (sh8_inj (crc_inj q h))

/-- Linear. -/
theorem crc_linear (c d : BitVec 32) (a b x : List Int) (h1 : a.length = b.length) (h2 : x.length = a.length) (h : ∀ i, i < a.length → B (x.getD i 0) = B (a.getD i 0) ^^^ B (b.getD i 0)) :
    crc c a ^^^ crc d b = crc (c ^^^ d) x := by
  induction a generalizing c d b x with
  | nil =>
    have hb : b = [] := List.eq_nil_of_length_eq_zero (by simpa using h1.symm)
    have hx : x = [] := List.eq_nil_of_length_eq_zero (by simpa using h2)
    subst hb; subst hx; rfl
  | cons s ss ih =>
    cases b with
    | nil => simp at h1
    | cons t ts =>
      cases x with
      | nil => simp at h2
      | cons u us =>
        rw [crc_cons, crc_cons, crc_cons, ih _ _ ts us (by simpa using h1) (by simpa using h2) (fun i hi => by simpa using h (i + 1) (by simpa using hi))]
        congr 1
        rw [← sh8_xor]
        congr 1
        have h0 : B u = B s ^^^ B t := by simpa using h 0 (by simp)
        rw [h0]
        simp only [BitVec.xor_assoc]
        congr 1
        rw [← BitVec.xor_assoc, BitVec.xor_comm (B s), BitVec.xor_assoc]

theorem not_xor_not (a b : BitVec 32) : ~~~ a ^^^ ~~~ b = a ^^^ b := by
  apply BitVec.eq_of_getLsbD_eq
  intro i hi
  simp [hi]

theorem more_linear (a b x : List Int) (h1 : a.length = b.length) (h2 : x.length = a.length) (h : ∀ i, i < a.length → B (x.getD i 0) = B (a.getD i 0) ^^^ B (b.getD i 0)) :
    more 0#32 a ^^^ more 0#32 b = more 0#32 x ^^^ more 0#32 (List.replicate a.length 0) := by
  unfold more
  rw [not_xor_not, not_xor_not, crc_linear _ _ a b x h1 h2 h]
  rw [crc_linear _ _ x (List.replicate a.length 0) x (by simpa using h2) rfl (fun i hi => by
    have e : B ((List.replicate a.length (0 : Int)).getD i 0) = 0#32 := by
      rw [List.getD_eq_getElem?_getD, List.getElem?_replicate]
      split <;> rfl
    rw [e, BitVec.xor_zero])]

/-- Four bytes one behind the other. -/
theorem sh1_shl (v : BitVec 32) (h : v.toNat < 2 ^ 31) : sh1 (v <<< 1) = v := by
  unfold sh1
  have h0 : (v <<< 1).getLsbD 0 = false := by simp
  rw [h0]
  apply BitVec.eq_of_toNat_eq
  simp only [Bool.false_eq_true, if_false, BitVec.toNat_ushiftRight, BitVec.toNat_shiftLeft, Nat.shiftRight_eq_div_pow, Nat.shiftLeft_eq]
  omega
theorem shl_toNat (v : BitVec 32) (k m : Nat) (hk : k + m ≤ 32) (h : v.toNat < 2 ^ m) : (v <<< k).toNat = v.toNat * 2 ^ k := by
  rw [BitVec.toNat_shiftLeft, Nat.shiftLeft_eq]
  apply Nat.mod_eq_of_lt
  have h2 : v.toNat * 2 ^ k < 2 ^ m * 2 ^ k := Nat.mul_lt_mul_of_pos_right h (Nat.two_pow_pos k)
  rw [← Nat.pow_add] at h2
  exact Nat.lt_of_lt_of_le h2 (Nat.pow_le_pow_right (by decide) (by omega))
theorem sh1_step (v : BitVec 32) (k : Nat) (hk : k + 25 ≤ 32) (h : v.toNat < 2 ^ 24) : sh1 (v <<< (k + 1)) = v <<< k := by
  rw [BitVec.shiftLeft_add]
  apply sh1_shl
  rw [shl_toNat v k 24 (by omega) h]
  have h2 : v.toNat * 2 ^ k < 2 ^ 24 * 2 ^ k := Nat.mul_lt_mul_of_pos_right h (Nat.two_pow_pos k)
  rw [← Nat.pow_add] at h2
  exact Nat.lt_of_lt_of_le h2 (Nat.pow_le_pow_right (by decide) (by omega))
theorem sh8_shl (v : BitVec 32) (h : v.toNat < 2 ^ 24) : sh8 (v <<< 8) = v := by
  unfold sh8
  rw [sh1_step v 7 (by omega) h, sh1_step v 6 (by omega) h, sh1_step v 5 (by omega) h, sh1_step v 4 (by omega) h, sh1_step v 3 (by omega) h, sh1_step v 2 (by omega) h, sh1_step v 1 (by omega) h, sh1_step v 0 (by omega) h]
  simp

theorem xor_lt_24 (a b : BitVec 32) (ha : a.toNat < 2 ^ 24) (hb : b.toNat < 2 ^ 24) : (a ^^^ b).toNat < 2 ^ 24 := by
  rw [BitVec.toNat_xor]; exact Nat.xor_lt_two_pow ha hb
theorem xor_move (a b c : BitVec 32) (h : a ^^^ b = c) : a = c ^^^ b := by
  rw [← h, BitVec.xor_assoc, BitVec.xor_self, BitVec.xor_zero]
theorem four_zero (e0 e1 e2 e3 : BitVec 32) (l0 : e0.toNat < 256) (l1 : e1.toNat < 256) (l2 : e2.toNat < 256) (l3 : e3.toNat < 256)
    (h : sh8 (sh8 (sh8 (sh8 e0 ^^^ e1) ^^^ e2) ^^^ e3) = 0#32) : e0 = 0#32 ∧ e1 = 0#32 ∧ e2 = 0#32 ∧ e3 = 0#32 := by
  have a3 := xor_move _ _ _ (sh8_zero _ h)
  rw [BitVec.zero_xor, ← sh8_shl e3 (by omega)] at a3
  have a2 := xor_move _ _ _ (sh8_inj a3)
  have t3 : (e3 <<< 8).toNat = e3.toNat * 256 := shl_toNat e3 8 8 (by omega) (by omega)
  have b2 : (e3 <<< 8 ^^^ e2).toNat < 2 ^ 16 := by
    rw [BitVec.toNat_xor]; exact Nat.xor_lt_two_pow (by rw [t3]; omega) (by omega)
  rw [← sh8_shl (e3 <<< 8 ^^^ e2) (by omega)] at a2
  have a1 := xor_move _ _ _ (sh8_inj a2)
  have t2 : ((e3 <<< 8 ^^^ e2) <<< 8).toNat = (e3 <<< 8 ^^^ e2).toNat * 256 := shl_toNat _ 8 16 (by omega) b2
  have b1 : ((e3 <<< 8 ^^^ e2) <<< 8 ^^^ e1).toNat < 2 ^ 24 := by
    rw [BitVec.toNat_xor]; exact Nat.xor_lt_two_pow (by rw [t2]; omega) (by omega)
  rw [← sh8_shl ((e3 <<< 8 ^^^ e2) <<< 8 ^^^ e1) b1] at a1
  have a0 := sh8_inj a1
  have t1 : (((e3 <<< 8 ^^^ e2) <<< 8 ^^^ e1) <<< 8).toNat = ((e3 <<< 8 ^^^ e2) <<< 8 ^^^ e1).toNat * 256 := shl_toNat _ 8 24 (by omega) b1
  have n0 := congrArg BitVec.toNat a0
  rw [t1] at n0
  have z1 : ((e3 <<< 8 ^^^ e2) <<< 8 ^^^ e1).toNat = 0 := by omega
  have r0 : e0 = 0#32 := BitVec.eq_of_toNat_eq (by simp; omega)
  have c1 : (e3 <<< 8 ^^^ e2) <<< 8 = e1 := by
    have : (e3 <<< 8 ^^^ e2) <<< 8 ^^^ e1 = 0#32 := BitVec.eq_of_toNat_eq (by simpa using z1)
    rw [xor_move _ _ _ this, BitVec.zero_xor]
  have n1 := congrArg BitVec.toNat c1
  rw [t2] at n1
  have r1 : e1 = 0#32 := BitVec.eq_of_toNat_eq (by simp; omega)
  have z2 : (e3 <<< 8 ^^^ e2).toNat = 0 := by omega
  have c2 : e3 <<< 8 = e2 := by
    have : e3 <<< 8 ^^^ e2 = 0#32 := BitVec.eq_of_toNat_eq (by simpa using z2)
    rw [xor_move _ _ _ this, BitVec.zero_xor]
  have n2 := congrArg BitVec.toNat c2
  rw [t3] at n2
  exact ⟨r0, r1, BitVec.eq_of_toNat_eq (by simp; omega), BitVec.eq_of_toNat_eq (by simp; omega)⟩

theorem crc_four (c : BitVec 32) (p q : List Int) (x0 x1 x2 x3 y0 y1 y2 y3 : Int)
    (e0 e1 e2 e3 : BitVec 32) (h0 : B y0 = B x0 ^^^ e0) (h1 : B y1 = B x1 ^^^ e1) (h2 : B y2 = B x2 ^^^ e2) (h3 : B y3 = B x3 ^^^ e3)
    (l0 : e0.toNat < 256) (l1 : e1.toNat < 256) (l2 : e2.toNat < 256) (l3 : e3.toNat < 256)
    (h : crc c (p ++ [x0, x1, x2, x3] ++ q) = crc c (p ++ [y0, y1, y2, y3] ++ q)) : e0 = 0#32 ∧ e1 = 0#32 ∧ e2 = 0#32 ∧ e3 = 0#32 := by
  rw [crc_append, crc_append, crc_append, crc_append] at h
  have h' := crc_inj q h
  generalize crc c p = d at h'
  have key : ∀ x y e : BitVec 32, y = x ^^^ e → e = x ^^^ y := by
    intro x y e hh
    rw [hh, ← BitVec.xor_assoc, BitVec.xor_self, BitVec.zero_xor]
  have lin := crc_linear d d [x0, x1, x2, x3] [y0, y1, y2, y3] [U e0, U e1, U e2, U e3] rfl rfl (by
    intro i hi
    match i, hi with
    | 0, _ => exact (B_U e0).trans (key _ _ _ h0)
    | 1, _ => exact (B_U e1).trans (key _ _ _ h1)
    | 2, _ => exact (B_U e2).trans (key _ _ _ h2)
    | 3, _ => exact (B_U e3).trans (key _ _ _ h3)
    | n + 4, hi => simp at hi; omega)
  rw [h', BitVec.xor_self, BitVec.xor_self] at lin
  simp only [crc_cons, crc_nil, B_U, BitVec.zero_xor] at lin
  exact four_zero e0 e1 e2 e3 l0 l1 l2 l3 lin.symm

/-- The exclusive or of two bytes. -/
theorem xor_byte (x y : Int) (x0 : 0 ≤ x) (x1 : x ≤ 255) (y0 : 0 ≤ y) (y1 : y ≤ 255) :
    B (bits .xor .u8 x y) = B x ^^^ B y ∧ 0 ≤ bits .xor .u8 x y ∧ bits .xor .u8 x y ≤ 255 := by
  obtain ⟨n, rfl⟩ := Int.eq_ofNat_of_zero_le x0
  obtain ⟨m, rfl⟩ := Int.eq_ofNat_of_zero_le y0
  have hl : n ^^^ m < 2 ^ 8 := Nat.xor_lt_two_pow (by omega) (by omega)
  rw [u8_xor_nat n m (by omega) (by omega)]
  refine ⟨?_, by omega, by omega⟩
  apply BitVec.eq_of_toNat_eq
  unfold B
  rw [BitVec.toNat_xor, BitVec.ofInt_natCast, BitVec.ofInt_natCast, BitVec.ofInt_natCast, BitVec.toNat_ofNat, BitVec.toNat_ofNat, BitVec.toNat_ofNat, Nat.mod_eq_of_lt (by omega), Nat.mod_eq_of_lt (by omega), Nat.mod_eq_of_lt (by omega)]
theorem B_byte_lt (x : Int) (x0 : 0 ≤ x) (x1 : x ≤ 255) : (B x).toNat < 256 := by
  unfold B; rw [BitVec.toNat_ofInt]; omega
theorem B_byte_zero (x : Int) (x0 : 0 ≤ x) (x1 : x ≤ 255) (h : B x = 0#32) : x = 0 := by
  exact B_byte_inj x0 x1 (by omega) (by omega) (h.trans (by decide))

end Go.Proofs.Ytgfmonnjpphihaa.Math
