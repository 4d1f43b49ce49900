/- Records by themselves: a number's bytes, an item's record, what bytes are read as; no program is named here. -/
import Derived.Test.YtbccnfbombgdmaaMath
set_option linter.unusedVariables false
set_option linter.unusedSimpArgs false
namespace Go.Proofs.Ytbccnfbombgdmaa
open Math

def ints (l : List UInt8) : List Int := l.map fun x => (x.toNat : Int)
theorem ints_length (l : List UInt8) : (ints l).length = l.length := by simp [ints]
theorem ints_append (a b : List UInt8) : ints (a ++ b) = ints a ++ ints b := by simp [ints]
def crcN (l : List UInt8) : Nat := (more 0#32 (ints l)).toNat
theorem crcN_lt (l : List UInt8) : crcN l < 4294967296 := (more 0#32 (ints l)).isLt
theorem crcN_U (l : List UInt8) : U (more 0#32 (ints l)) = (crcN l : Int) := rfl
theorem crcN_more (a b : List UInt8) : U (more (B (crcN a : Int)) (ints b)) = (crcN (a ++ b) : Int) := by
  rw [← crcN_U a, B_U, ← crcN_U, ints_append, more_append]

/-- A number's lowest n bytes; the number of bytes. -/
def low : Nat → Nat → List UInt8
  | _, 0 => []
  | v, n + 1 => UInt8.ofNat (v % 256) :: low (v / 256) n
def up : List UInt8 → Nat
  | [] => 0
  | x :: r => x.toNat + 256 * up r

theorem low_length : ∀ (n v : Nat), (low v n).length = n
  | 0, _ => rfl
  | n + 1, v => by simp [low, low_length n]
theorem up_low : ∀ (n v : Nat), v < 256 ^ n → up (low v n) = v
  | 0, v, h => by simp [up, low] at *; omega
  | n + 1, v, h => by
    have ih := up_low n (v / 256) (by rw [Nat.pow_succ] at h; exact Nat.div_lt_of_lt_mul (by rw [Nat.mul_comm]; exact h))
    simp only [low, up, ih, UInt8.toNat_ofNat']
    omega
theorem low_up : ∀ l : List UInt8, low (up l) l.length = l
  | [] => rfl
  | x :: r => by
    have hx := x.toNat_lt
    have e1 : (x.toNat + 256 * up r) % 256 = x.toNat := by omega
    have e2 : (x.toNat + 256 * up r) / 256 = up r := by omega
    simp only [up, List.length_cons, low, e1, e2, low_up r]
    simp
theorem up_lt : ∀ l : List UInt8, up l < 256 ^ l.length
  | [] => by simp [up]
  | x :: r => by
    have hx := x.toNat_lt
    have := up_lt r
    simp only [up, List.length_cons, Nat.pow_succ]
    omega
theorem up_snoc : ∀ (l : List UInt8) (x : UInt8), up (l ++ [x]) = up l + 256 ^ l.length * x.toNat
  | [], x => by simp [up]
  | y :: r, x => by
    simp only [List.cons_append, up, up_snoc r x, List.length_cons, Nat.pow_succ]
    rw [Nat.mul_add, ← Nat.mul_assoc, Nat.mul_comm 256 (256 ^ r.length)]
    omega
theorem low_snoc : ∀ (n v : Nat), low v (n + 1) = low v n ++ [UInt8.ofNat (v / 256 ^ n % 256)]
  | 0, v => by simp [low]
  | n + 1, v => by
    have ih := low_snoc n (v / 256)
    rw [low, ih, low]
    simp only [List.cons_append]
    rw [Nat.div_div_eq_div_mul, show 256 * 256 ^ n = 256 ^ (n + 1) by rw [Nat.pow_succ, Nat.mul_comm]]

/-- An item. -/
structure It where
  key : List UInt8
  value : List UInt8
  flags : Nat
  exp : Int
  ver : Nat
structure It.fits (x : It) : Prop where
  flags : x.flags < 4294967296
  exp0 : -9223372036854775808 ≤ x.exp
  exp1 : x.exp ≤ 9223372036854775807
  ver : x.ver < 18446744073709551616
def It.zero : It := ⟨[], [], 0, 0, 0⟩
def It.good (x : It) : Bool := decide (1 ≤ x.key.length) && decide (x.key.length ≤ 250) && decide (x.value.length ≤ 1024) && decide (0 < x.ver)
theorem It.good_iff (x : It) : x.good = true ↔ 1 ≤ x.key.length ∧ x.key.length ≤ 250 ∧ x.value.length ≤ 1024 ∧ 0 < x.ver := by
  simp [It.good, and_assoc]
def It.size (x : It) : Nat := 32 + x.key.length + x.value.length

def u64 (e : Int) : Nat := (e % 18446744073709551616).toNat
def i64 (n : Nat) : Int := if n < 9223372036854775808 then (n : Int) else (n : Int) - 18446744073709551616
theorem i64_u64 (e : Int) (h0 : -9223372036854775808 ≤ e) (h1 : e ≤ 9223372036854775807) : i64 (u64 e) = e := by unfold i64 u64; split <;> omega
theorem u64_i64 (n : Nat) (h : n < 18446744073709551616) : u64 (i64 n) = n := by unfold i64 u64; split <;> omega
theorem u64_lt (e : Int) : u64 e < 18446744073709551616 := by unfold u64; omega
theorem i64_range (n : Nat) (h : n < 18446744073709551616) : -9223372036854775808 ≤ i64 n ∧ i64 n ≤ 9223372036854775807 := by unfold i64; split <;> omega

def It.head (x : It) : List UInt8 := low x.key.length 1 ++ (low x.value.length 2 ++ ([82] ++ (low x.flags 4 ++ (low (u64 x.exp) 8 ++ low x.ver 8))))
theorem It.head_length (x : It) : x.head.length = 24 := by simp [It.head, low_length]
def It.enc (x : It) : List UInt8 := x.head ++ (low (crcN x.head) 4 ++ (low (crcN (x.key ++ x.value)) 4 ++ (x.key ++ x.value)))
theorem It.enc_length (x : It) : x.enc.length = x.size := by simp [It.enc, It.head_length, low_length, It.size]; omega

/-- The bytes from i to j. -/
def sl (b : List UInt8) (i j : Nat) : List UInt8 := (b.take j).drop i
theorem sl_length (b : List UInt8) (i j : Nat) (h : j ≤ b.length) : (sl b i j).length = j - i := by simp [sl]; omega
theorem sl_mid (A B C : List UInt8) (i j : Nat) (hi : i = A.length) (hj : j = i + B.length) : sl (A ++ (B ++ C)) i j = B := by
  subst hi hj
  unfold sl
  rw [List.take_append, List.take_of_length_le (by omega), Nat.add_sub_cancel_left, List.take_left', List.drop_left']
  · rfl
  · rfl
theorem sl_first (B C : List UInt8) (j : Nat) (hj : j = B.length) : sl (B ++ C) 0 j = B := by
  subst hj
  simp [sl]
theorem sl_join (b : List UInt8) (i j k : Nat) (h1 : i ≤ j) (h2 : j ≤ k) : sl b i j ++ sl b j k = sl b i k := by
  unfold sl
  have e : (b.take k).take j = b.take j := by rw [List.take_take]; congr 1; omega
  rw [← e]
  have : (b.take k).drop i = ((b.take k).drop i).take (j - i) ++ ((b.take k).drop i).drop (j - i) := (List.take_append_drop _ _).symm
  rw [this, List.drop_drop, show i + (j - i) = j by omega, List.take_drop, show i + (j - i) = j by omega]
theorem sl_zero (b : List UInt8) (j : Nat) : sl b 0 j = b.take j := rfl

/-- What bytes are read as. -/
structure Tk where
  v : Option (Option (It × Nat))
abbrev Tk.none : Tk := ⟨Option.none⟩
abbrev Tk.bad : Tk := ⟨some Option.none⟩
abbrev Tk.ok (x : It) (n : Nat) : Tk := ⟨some (some (x, n))⟩
theorem Tk.elim3 {motive : Tk → Prop} (p : Tk) (none : motive .none) (bad : motive .bad) (ok : ∀ x n, motive (.ok x n)) : motive p := by
  rcases p with ⟨_ | _ | ⟨x, n⟩⟩
  · exact none
  · exact bad
  · exact ok x n

def ended (b : List UInt8) : Bool := decide (b.length = 0) || decide (b.getD 0 0 = 0)
/-- The first look: the head, by its own sum. -/
def form1 (b : List UInt8) : Bool := decide (32 ≤ b.length) && decide (b.getD 3 0 = 82) && decide (up (sl b 24 28) = crcN (sl b 0 24))
def tkKey (b : List UInt8) : Nat := (b.getD 0 0).toNat
def tkVal (b : List UInt8) : Nat := up (sl b 1 3)
def tkVer (b : List UInt8) : Nat := up (sl b 16 24)
def tkLen (b : List UInt8) : Nat := 32 + tkKey b + tkVal b
def mayBe (k v ver : Nat) : Bool := decide (1 ≤ k) && decide (k ≤ 250) && decide (v ≤ 1024) && decide (0 < ver)
def form2 (b : List UInt8) : Bool := mayBe (tkKey b) (tkVal b) (tkVer b) && decide (tkLen b ≤ b.length) && decide (up (sl b 28 32) = crcN (sl b 32 (tkLen b)))
def tkItem (b : List UInt8) : It := ⟨sl b 32 (32 + tkKey b), sl b (32 + tkKey b) (tkLen b), up (sl b 4 8), i64 (up (sl b 8 16)), tkVer b⟩
def take (b : List UInt8) : Tk := if ended b then .none else if form1 b = false then .bad else if form2 b = false then .bad else .ok (tkItem b) (tkLen b)

def Tk.item : Tk → It
  | ⟨some (some (x, _))⟩ => x
  | _ => .zero
def Tk.len : Tk → Nat
  | ⟨some (some (_, n))⟩ => n
  | _ => 0
def Tk.err : Tk → Int
  | ⟨Option.none⟩ => 5
  | ⟨some Option.none⟩ => 3
  | ⟨some (some _)⟩ => 0

theorem getD_sl (b : List UInt8) (i : Nat) (h : i < b.length) : sl b i (i + 1) = [b.getD i 0] := by
  unfold sl
  rw [List.take_succ_eq_append_getElem h, List.drop_append, List.drop_eq_nil_of_le (by simp; omega)]
  have e : i - (b.take i).length = 0 := by simp; omega
  rw [e]
  simp [List.getD_eq_getElem?_getD, List.getElem?_eq_getElem h]

/-- A record is read as its item. -/
theorem take_rec (x : It) (hf : x.fits) (hg : x.good = true) (more : List UInt8) : take (x.enc ++ more) = .ok x x.size := by
  obtain ⟨g1, g2, g3, g4⟩ := x.good_iff.1 hg
  obtain ⟨b, hb⟩ : ∃ b, b = x.enc ++ more := ⟨_, rfl⟩
  have hlen : b.length = x.size + more.length := by rw [hb, List.length_append, x.enc_length]
  have hsz : x.size = 32 + x.key.length + x.value.length := rfl
  have eb : b = low x.key.length 1 ++ (low x.value.length 2 ++ ([82] ++ (low x.flags 4 ++ (low (u64 x.exp) 8 ++ (low x.ver 8 ++ (low (crcN x.head) 4 ++ (low (crcN (x.key ++ x.value)) 4 ++ (x.key ++ (x.value ++ more))))))))) := by
    rw [hb]; simp [It.enc, It.head]
  have L := low_length
  have s0 : sl b 0 1 = low x.key.length 1 := by rw [eb]; exact sl_first _ _ _ (by simp [L])
  have s1 : sl b 1 3 = low x.value.length 2 := by rw [eb]; exact sl_mid (low x.key.length 1) _ _ _ _ (by simp [L]) (by simp [L])
  have s3 : sl b 3 4 = [82] := by
    rw [eb, ← List.append_assoc]; exact sl_mid (low x.key.length 1 ++ low x.value.length 2) _ _ _ _ (by simp [L]) (by simp)
  have s4 : sl b 4 8 = low x.flags 4 := by
    rw [eb, ← List.append_assoc, ← List.append_assoc]; exact sl_mid _ _ _ _ _ (by simp [L]) (by simp [L])
  have s8 : sl b 8 16 = low (u64 x.exp) 8 := by
    rw [eb, ← List.append_assoc, ← List.append_assoc, ← List.append_assoc]; exact sl_mid _ _ _ _ _ (by simp [L]) (by simp [L])
  have s16 : sl b 16 24 = low x.ver 8 := by
    rw [eb, ← List.append_assoc, ← List.append_assoc, ← List.append_assoc, ← List.append_assoc]; exact sl_mid _ _ _ _ _ (by simp [L]) (by simp [L])
  have eh : b = x.head ++ (low (crcN x.head) 4 ++ (low (crcN (x.key ++ x.value)) 4 ++ (x.key ++ (x.value ++ more)))) := by rw [hb]; simp [It.enc]
  have hl := x.head_length
  have s24a : sl b 0 24 = x.head := by rw [eh]; exact sl_first _ _ _ hl.symm
  have s24 : sl b 24 28 = low (crcN x.head) 4 := by rw [eh]; exact sl_mid _ _ _ _ _ hl.symm (by simp [L])
  have s28 : sl b 28 32 = low (crcN (x.key ++ x.value)) 4 := by rw [eh, ← List.append_assoc]; exact sl_mid _ _ _ _ _ (by simp [L, hl]) (by simp [L])
  have sk : sl b 32 (32 + x.key.length) = x.key := by rw [eh, ← List.append_assoc, ← List.append_assoc]; exact sl_mid _ _ _ _ _ (by simp [L, hl]) rfl
  have sv : sl b (32 + x.key.length) x.size = x.value := by rw [eh, ← List.append_assoc, ← List.append_assoc, ← List.append_assoc]; exact sl_mid _ _ _ _ _ (by simp [L, hl]; omega) hsz
  have d0 : b.getD 0 0 = UInt8.ofNat (x.key.length % 256) := by
    have := getD_sl b 0 (by omega)
    rw [s0] at this
    simpa [low] using this.symm
  have d3 : b.getD 3 0 = 82 := by
    have := getD_sl b 3 (by omega)
    rw [s3] at this
    simpa using this.symm
  have k1 : tkKey b = x.key.length := by unfold tkKey; rw [d0, UInt8.toNat_ofNat']; omega
  have v1 : tkVal b = x.value.length := by unfold tkVal; rw [s1]; exact up_low 2 _ (by omega)
  have w1 : tkVer b = x.ver := by unfold tkVer; rw [s16]; exact up_low 8 _ hf.ver
  have n1 : tkLen b = x.size := by unfold tkLen; rw [k1, v1]; rfl
  have E : ended b = false := by
    have h1 : ¬ b.length = 0 := by omega
    have h2 : ¬ b.getD 0 0 = 0 := fun h => by
      have : tkKey b = 0 := by unfold tkKey; rw [h]; rfl
      omega
    simp only [ended, decide_eq_false h1, decide_eq_false h2, Bool.or_self]
  have F1 : form1 b = true := by
    have h1 : 32 ≤ b.length := by omega
    have h2 : up (sl b 24 28) = crcN (sl b 0 24) := by rw [s24, s24a]; exact up_low 4 _ (crcN_lt _)
    simp only [form1, decide_eq_true h1, decide_eq_true d3, decide_eq_true h2, Bool.and_self]
  have F2 : form2 b = true := by
    have h1 : mayBe x.key.length x.value.length x.ver = true := by simp [mayBe, g1, g2, g3, g4]
    have h2 : x.size ≤ b.length := by omega
    have h3 : up (sl b 28 32) = crcN (sl b 32 x.size) := by
      rw [s28, ← sl_join b 32 (32 + x.key.length) x.size (by omega) (by omega), sk, sv]
      exact up_low 4 _ (crcN_lt _)
    simp only [form2, k1, v1, w1, n1, h1, decide_eq_true h2, decide_eq_true h3, Bool.and_self]
  have I : tkItem b = x := by
    unfold tkItem
    rw [k1, n1, sk, sv, s4, s8, w1, up_low 4 _ hf.flags, up_low 8 _ (u64_lt _), i64_u64 _ hf.exp0 hf.exp1]
  rw [← hb]
  unfold take
  rw [E, F1, F2, I, n1]
  simp

/-- What is read as an item begins with its record. -/
theorem take_ok {b : List UInt8} {x : It} {n : Nat} (h : take b = .ok x n) : x.fits ∧ x.good = true ∧ n = x.size ∧ n ≤ b.length ∧ b.take n = x.enc := by
  unfold take at h
  split at h
  · cases h
  split at h
  · cases h
  split at h
  · cases h
  rename_i E F1 F2
  simp only [Tk.mk.injEq, Option.some.injEq, Prod.mk.injEq] at h
  obtain ⟨rfl, rfl⟩ := h
  simp only [Bool.not_eq_true, Bool.not_eq_false] at E F1 F2
  simp only [form1, Bool.and_eq_true, decide_eq_true_eq] at F1
  simp only [form2, mayBe, Bool.and_eq_true, decide_eq_true_eq] at F2
  obtain ⟨⟨f1, f2⟩, f3⟩ := F1
  obtain ⟨⟨⟨⟨⟨g1, g2⟩, g3⟩, g4⟩, g5⟩, g6⟩ := F2
  have hk : (tkItem b).key.length = tkKey b := by
    show (sl b 32 (32 + tkKey b)).length = _
    rw [sl_length _ _ _ (by unfold tkLen at g5; omega)]; omega
  have hv : (tkItem b).value.length = tkVal b := by
    show (sl b (32 + tkKey b) (tkLen b)).length = _
    rw [sl_length _ _ _ g5]; unfold tkLen; omega
  have e0 : sl b 0 1 = low (tkKey b) 1 := by
    rw [getD_sl b 0 (by omega)]
    have := (b.getD 0 0).toNat_lt
    simp [low, tkKey]
  have lowsl : ∀ i j, j ≤ b.length → i ≤ j → low (up (sl b i j)) (j - i) = sl b i j := fun i j h1 h2 => by
    have := low_up (sl b i j)
    rw [sl_length _ _ _ h1] at this
    exact this
  have e1 := lowsl 1 3 (by omega) (by omega)
  have e4 := lowsl 4 8 (by omega) (by omega)
  have e8 := lowsl 8 16 (by omega) (by omega)
  have e16 := lowsl 16 24 (by omega) (by omega)
  have e24 := lowsl 24 28 (by omega) (by omega)
  have e28 := lowsl 28 32 (by omega) (by omega)
  have u8 : up (sl b 8 16) < 18446744073709551616 := by have := up_lt (sl b 8 16); rw [sl_length _ _ _ (by omega)] at this; exact this
  have hhead : (tkItem b).head = sl b 0 24 := by
    unfold It.head
    rw [hk, hv]
    show low (tkKey b) 1 ++ (low (up (sl b 1 3)) 2 ++ ([82] ++ (low (up (sl b 4 8)) 4 ++ (low (u64 (i64 (up (sl b 8 16)))) 8 ++ low (up (sl b 16 24)) 8)))) = _
    rw [u64_i64 _ u8, ← e0, e1, e4, e8, e16, ← f2, ← getD_sl b 3 (by omega), sl_join _ _ _ _ (by omega) (by omega), sl_join _ _ _ _ (by omega) (by omega), sl_join _ _ _ _ (by omega) (by omega), sl_join _ _ _ _ (by omega) (by omega), sl_join _ _ _ _ (by omega) (by omega)]
  have hsz : tkLen b = (tkItem b).size := by unfold It.size; rw [hk, hv]; rfl
  have hkv : (tkItem b).key ++ (tkItem b).value = sl b 32 (tkLen b) := sl_join _ _ _ _ (by omega) (by unfold tkLen; omega)
  refine ⟨⟨?_, (i64_range _ u8).1, (i64_range _ u8).2, ?_⟩, ?_, hsz, g5, ?_⟩
  · have := up_lt (sl b 4 8); rw [sl_length _ _ _ (by omega)] at this; exact this
  · have := up_lt (sl b 16 24); rw [sl_length _ _ _ (by omega)] at this; exact this
  · exact (It.good_iff _).2 ⟨by rw [hk]; exact g1, by rw [hk]; exact g2, by rw [hv]; exact g3, g4⟩
  · unfold It.enc
    rw [hhead, hkv, ← f3, ← g6, e24, e28, sl_join _ _ _ _ (by omega) (by unfold tkLen; omega), sl_join _ _ _ _ (by omega) (by unfold tkLen; omega), sl_join _ _ _ _ (by omega) (by unfold tkLen; omega)]
    rfl
end Go.Proofs.Ytbccnfbombgdmaa
