/- Joined texts. -/
import Derived.Laws.BitsAllLaws
import Derived.Test.YtcdghalnneilpaaGreatChecked
import Derived.WalkKit
import Derived.WalkSpells
import Derived.WalkLawsBesides
import Derived.Below
import Derived.Deep.Heap
import Derived.Laws.IdiomCopy
import Derived.Deep.AppendSrc
import Derived.IntWalk
import Derived.WalkSmall
import Derived.Deep.QuietTactic
import Derived.BigQuiet
import Derived.Lib.AppendZeros
import Derived.Deep.LoopGhost
import Derived.ChangeSlices
import Derived.Deep.Slices
import Derived.SizedLaws
import Derived.Laws.AppendOwn
set_option linter.unusedVariables false
set_option linter.unusedSimpArgs false
set_option maxRecDepth 8000
set_option maxHeartbeats 8000000
namespace Go.Proofs.YtcdghalnneilpaaGreat.Math
def B (n : Int) : BitVec 32 := BitVec.ofInt 32 n
def U (b : BitVec 32) : Int := (b.toNat : Int)
theorem B_U (b : BitVec 32) : B (U b) = b := by
 unfold B U; simp
theorem U_inj {a b : BitVec 32} (h : U a = U b) : a = b := by
 have := congrArg B h; rwa [B_U, B_U] at this
theorem U_beq (a b : BitVec 32) : (U a == U b) = (a == b) := by
 rw [Bool.eq_iff_iff, beq_iff_eq, beq_iff_eq]
 exact ⟨U_inj, congrArg U⟩
theorem xor_U (a b : Int) : bits .xor .u32 a b = U (B a ^^^ B b) := by
 show IntKind.u32.wrap ((BitVec.ofInt 32 a ^^^ BitVec.ofInt 32 b).toNat : Int) = _
 rw [IntKind.wrap_u32']
 have := (BitVec.ofInt 32 a ^^^ BitVec.ofInt 32 b).isLt
 unfold U B; omega
theorem and_U (a b : Int) : bits .and .u32 a b = U (B a &&& B b) := by
 show IntKind.u32.wrap ((BitVec.ofInt 32 a &&& BitVec.ofInt 32 b).toNat : Int) = _
 rw [IntKind.wrap_u32']
 have := (BitVec.ofInt 32 a &&& BitVec.ofInt 32 b).isLt
 unfold U B; omega
def poly : BitVec 32 := 2197175160#32
def sh1 (c : BitVec 32) : BitVec 32 := if c.getLsbD 0 then (c >>> 1) ^^^ poly else c >>> 1
def sh8 (c : BitVec 32) : BitVec 32 := sh1 (sh1 (sh1 (sh1 (sh1 (sh1 (sh1 (sh1 c)))))))
def shn : Nat -> BitVec 32 -> BitVec 32
 | 0, c => c
 | n + 1, c => sh1 (shn n c)
theorem shn_8 (c : BitVec 32) : shn 8 c = sh8 c := rfl
def crc (c : BitVec 32) (l : List Int) : BitVec 32 := l.foldl (fun c x => sh8 (c ^^^ B x)) c
def more (c : BitVec 32) (l : List Int) : BitVec 32 := ~~~ (crc (~~~ c) l)
theorem crc_append (c : BitVec 32) (l m : List Int) : crc c (l ++ m) = crc (crc c l) m := by
 unfold crc; rw [List.foldl_append]
theorem crc_snoc (c : BitVec 32) (l : List Int) (x : Int) : crc c (l ++ [x]) = sh8 (crc c l ^^^ B x) := by
 rw [crc_append]; rfl
theorem more_append (c : BitVec 32) (l m : List Int) : more c (l ++ m) = more (more c l) m := by
 unfold more; rw [crc_append, BitVec.not_not]
theorem not_U (n : Int) : bits .xor .u32 4294967295 n = U (~~~ B n) := by
 rw [xor_U]
 congr 1
theorem not_max (n : Int) : bits .xor .u32 IntKind.u32.max n = U (~~~ B n) := by
 have e : IntKind.u32.max = 4294967295 := by simp [IntKind.max, IntKind.bits, IntKind.signed]
 rw [e]; exact not_U n
theorem low_U (b : BitVec 32) : (bits .and .u32 (U b) 1 == 1) = b.getLsbD 0 := by
 rw [and_U, B_U]
 have e : (1 : Int) = U 1#32 := by decide
 rw [e, B_U, U_beq, Bool.eq_iff_iff, beq_iff_eq]
 constructor
 ·intro h
  have := congrArg (fun v : BitVec 32 => v.getLsbD 0) h
  simpa using this
 ·intro h
  apply BitVec.eq_of_getLsbD_eq
  intro i hi
  cases i with
  | zero => simpa using h
  | succ j => simp
theorem half_U (b : BitVec 32) : U b / (2 : Int) = U (b >>> 1) := by
 unfold U; rw [BitVec.toNat_ushiftRight, Nat.shiftRight_eq_div_pow]; omega
theorem step_odd (b : BitVec 32) (h : b.getLsbD 0 = true) : bits .xor .u32 (U b / 2) 2197175160 = U (sh1 b) := by
 rw [half_U, xor_U, B_U]; unfold sh1; rw [if_pos h]; rfl
theorem step_even (b : BitVec 32) (h : b.getLsbD 0 = false) : U b / 2 = U (sh1 b) := by
 rw [half_U]; unfold sh1; rw [h]; rfl
def bytesOf (s : ByteArray) : List Int := s.data.toList.map fun b => (b.toNat : Int)
theorem bytesOf_length (s : ByteArray) : (bytesOf s).length = s.size := by unfold bytesOf; rw [List.length_map, Array.length_toList]; rfl
theorem bytesOf_range (s : ByteArray) (i : Nat) : 0 <= (bytesOf s).getD i 0 /\ (bytesOf s).getD i 0 <= 255 := by
 unfold bytesOf
 rw [List.getD_eq_getElem?_getD, List.getElem?_map]
 cases s.data.toList[i]? with
 | none => simp
 | some b => have := b.toNat_lt; simp; omega
end Go.Proofs.YtcdghalnneilpaaGreat.Math
namespace Go.Proofs.YtcdghalnneilpaaGreat
open Go.RowKit Go.Deep Math
def ints (l : List UInt8) : List Int := l.map fun x => (x.toNat : Int)
theorem ints_length (l : List UInt8) : (ints l).length = l.length := by simp [ints]
theorem ints_append (a b : List UInt8) : ints (a ++ b) = ints a ++ ints b := by simp [ints]
def crcN (l : List UInt8) : Nat := (more 0#32 (ints l)).toNat
theorem crcN_lt (l : List UInt8) : crcN l < 4294967296 := (more 0#32 (ints l)).isLt
theorem crcN_U (l : List UInt8) : U (more 0#32 (ints l)) = (crcN l : Int) := rfl
theorem crcN_more (a b : List UInt8) : U (more (B (crcN a : Int)) (ints b)) = (crcN (a ++ b) : Int) := by
 rw [<- crcN_U a, B_U, <- crcN_U, ints_append, more_append]
def low : Nat -> Nat -> List UInt8
 | _, 0 => []
 | v, n + 1 => UInt8.ofNat (v % 256) :: low (v / 256) n
def up : List UInt8 -> Nat
 | [] => 0
 | x :: r => x.toNat + 256 * up r
theorem low_length : ∀ (n v : Nat), (low v n).length = n
 | 0, _ => rfl
 | n + 1, v => by simp [low, low_length n]
theorem up_low : ∀ (n v : Nat), v < 256 ^ n -> up (low v n) = v
 | 0, v, h => by simp [up, low] at *; omega
 | n + 1, v, h => by
  have ih := up_low n (v / 256) (by rw [Nat.pow_succ] at h; exact Nat.div_lt_of_lt_mul (by rw [Nat.mul_comm]; exact h))
  simp only [low, up, ih, UInt8.toNat_ofNat']
  omega
theorem low_up : ∀ l : List UInt8, low (up l) l.length = l
 | [] => rfl
 | x :: r => by
  have hx := x.toNat_lt
  have e1 : (x.toNat + 256 * up r) % 256 = x.toNat := by omega
  have e2 : (x.toNat + 256 * up r) / 256 = up r := by omega
  simp only [up, List.length_cons, low, e1, e2, low_up r]
  simp
theorem up_lt : ∀ l : List UInt8, up l < 256 ^ l.length
 | [] => by simp [up]
 | x :: r => by
  have hx := x.toNat_lt
  have := up_lt r
  simp only [up, List.length_cons, Nat.pow_succ]
  omega
theorem up_snoc : ∀ (l : List UInt8) (x : UInt8), up (l ++ [x]) = up l + 256 ^ l.length * x.toNat
 | [], x => by simp [up]
 | y :: r, x => by
  simp only [List.cons_append, up, up_snoc r x, List.length_cons, Nat.pow_succ]
  rw [Nat.mul_add, <- Nat.mul_assoc, Nat.mul_comm 256 (256 ^ r.length)]
  omega
theorem low_snoc : ∀ (n v : Nat), low v (n + 1) = low v n ++ [UInt8.ofNat (v / 256 ^ n % 256)]
 | 0, v => by simp [low]
 | n + 1, v => by
  have ih := low_snoc n (v / 256)
  rw [low, ih, low]
  simp only [List.cons_append]
  rw [Nat.div_div_eq_div_mul, show 256 * 256 ^ n = 256 ^ (n + 1) by rw [Nat.pow_succ, Nat.mul_comm]]
structure It where
 key : List UInt8
 value : List UInt8
 flags : Nat
 exp : Int
 ver : Nat
structure It.fits (x : It) : Prop where
 flags : x.flags < 4294967296
 exp0 : -9223372036854775808 <= x.exp
 exp1 : x.exp <= 9223372036854775807
 ver : x.ver < 18446744073709551616
def It.zero : It := ⟨[], [], 0, 0, 0⟩
def It.good (x : It) : Bool := decide (1 <= x.key.length) && decide (x.key.length <= 250) && decide (x.value.length <= 1024) && decide (0 < x.ver)
theorem It.good_iff (x : It) : x.good = true ↔ 1 <= x.key.length /\ x.key.length <= 250 /\ x.value.length <= 1024 /\ 0 < x.ver := by
 simp [It.good, and_assoc]
def It.size (x : It) : Nat := 32 + x.key.length + x.value.length
def u64 (e : Int) : Nat := (e % 18446744073709551616).toNat
def i64 (n : Nat) : Int := if n < 9223372036854775808 then (n : Int) else (n : Int) - 18446744073709551616
theorem i64_u64 (e : Int) (h0 : -9223372036854775808 <= e) (h1 : e <= 9223372036854775807) : i64 (u64 e) = e := by unfold i64 u64; split <;> omega
theorem u64_i64 (n : Nat) (h : n < 18446744073709551616) : u64 (i64 n) = n := by unfold i64 u64; split <;> omega
theorem u64_lt (e : Int) : u64 e < 18446744073709551616 := by unfold u64; omega
theorem i64_range (n : Nat) (h : n < 18446744073709551616) : -9223372036854775808 <= i64 n /\ i64 n <= 9223372036854775807 := by unfold i64; split <;> omega
def It.head (x : It) : List UInt8 := low x.key.length 1 ++ (low x.value.length 2 ++ ([82] ++ (low x.flags 4 ++ (low (u64 x.exp) 8 ++ low x.ver 8))))
theorem It.head_length (x : It) : x.head.length = 24 := by simp [It.head, low_length]
def It.enc (x : It) : List UInt8 := x.head ++ (low (crcN x.head) 4 ++ (low (crcN (x.key ++ x.value)) 4 ++ (x.key ++ x.value)))
theorem It.enc_length (x : It) : x.enc.length = x.size := by simp [It.enc, It.head_length, low_length, It.size]; omega
def sl (b : List UInt8) (i j : Nat) : List UInt8 := (b.take j).drop i
theorem sl_length (b : List UInt8) (i j : Nat) (h : j <= b.length) : (sl b i j).length = j - i := by simp [sl]; omega
theorem sl_mid (A B C : List UInt8) (i j : Nat) (hi : i = A.length) (hj : j = i + B.length) : sl (A ++ (B ++ C)) i j = B := by
 subst hi hj
 unfold sl
 rw [List.take_append, List.take_of_length_le (by omega), Nat.add_sub_cancel_left, List.take_left', List.drop_left']
 ·rfl
 ·rfl
theorem sl_first (B C : List UInt8) (j : Nat) (hj : j = B.length) : sl (B ++ C) 0 j = B := by
 subst hj
 simp [sl]
theorem sl_join (b : List UInt8) (i j k : Nat) (h1 : i <= j) (h2 : j <= k) : sl b i j ++ sl b j k = sl b i k := by
 unfold sl
 have e : (b.take k).take j = b.take j := by rw [List.take_take]; congr 1; omega
 rw [<- e]
 have : (b.take k).drop i = ((b.take k).drop i).take (j - i) ++ ((b.take k).drop i).drop (j - i) := (List.take_append_drop _ _).symm
 rw [this, List.drop_drop, show i + (j - i) = j by omega, List.take_drop, show i + (j - i) = j by omega]
structure Tk where
 v : Option (Option (It × Nat))
abbrev Tk.none : Tk := ⟨Option.none⟩
abbrev Tk.bad : Tk := ⟨some Option.none⟩
abbrev Tk.ok (x : It) (n : Nat) : Tk := ⟨some (some (x, n))⟩
def ended (b : List UInt8) : Bool := decide (b.length = 0) || decide (b.getD 0 0 = 0)
def form1 (b : List UInt8) : Bool := decide (32 <= b.length) && decide (b.getD 3 0 = 82) && decide (up (sl b 24 28) = crcN (sl b 0 24))
def tkKey (b : List UInt8) : Nat := (b.getD 0 0).toNat
def tkVal (b : List UInt8) : Nat := up (sl b 1 3)
def tkVer (b : List UInt8) : Nat := up (sl b 16 24)
def tkLen (b : List UInt8) : Nat := 32 + tkKey b + tkVal b
def mayBe (k v ver : Nat) : Bool := decide (1 <= k) && decide (k <= 250) && decide (v <= 1024) && decide (0 < ver)
def form2 (b : List UInt8) : Bool := mayBe (tkKey b) (tkVal b) (tkVer b) && decide (tkLen b <= b.length) && decide (up (sl b 28 32) = crcN (sl b 32 (tkLen b)))
def tkItem (b : List UInt8) : It := ⟨sl b 32 (32 + tkKey b), sl b (32 + tkKey b) (tkLen b), up (sl b 4 8), i64 (up (sl b 8 16)), tkVer b⟩
def take (b : List UInt8) : Tk := if ended b then .none else if form1 b = false then .bad else if form2 b = false then .bad else .ok (tkItem b) (tkLen b)
def Tk.item : Tk -> It
 | ⟨some (some (x, _))⟩ => x
 | _ => .zero
def Tk.len : Tk -> Nat
 | ⟨some (some (_, n))⟩ => n
 | _ => 0
def Tk.err : Tk -> Int
 | ⟨Option.none⟩ => 5
 | ⟨some Option.none⟩ => 3
 | ⟨some (some _)⟩ => 0
theorem getD_sl (b : List UInt8) (i : Nat) (h : i < b.length) : sl b i (i + 1) = [b.getD i 0] := by
 unfold sl
 rw [List.take_succ_eq_append_getElem h, List.drop_append, List.drop_eq_nil_of_le (by simp; omega)]
 have e : i - (b.take i).length = 0 := by simp; omega
 rw [e]
 simp [List.getD_eq_getElem?_getD, List.getElem?_eq_getElem h]
theorem take_rec (x : It) (hf : x.fits) (hg : x.good = true) (more : List UInt8) : take (x.enc ++ more) = .ok x x.size := by
 obtain ⟨g1, g2, g3, g4⟩ := x.good_iff.1 hg
 obtain ⟨b, hb⟩ : ∃ b, b = x.enc ++ more := ⟨_, rfl⟩
 have hlen : b.length = x.size + more.length := by rw [hb, List.length_append, x.enc_length]
 have hsz : x.size = 32 + x.key.length + x.value.length := rfl
 have eb : b = low x.key.length 1 ++ (low x.value.length 2 ++ ([82] ++ (low x.flags 4 ++ (low (u64 x.exp) 8 ++ (low x.ver 8 ++ (low (crcN x.head) 4 ++ (low (crcN (x.key ++ x.value)) 4 ++ (x.key ++ (x.value ++ more))))))))) := by
  rw [hb]; simp [It.enc, It.head]
 have L := low_length
 have s0 : sl b 0 1 = low x.key.length 1 := by rw [eb]; exact sl_first _ _ _ (by simp [L])
 have s1 : sl b 1 3 = low x.value.length 2 := by rw [eb]; exact sl_mid (low x.key.length 1) _ _ _ _ (by simp [L]) (by simp [L])
 have s3 : sl b 3 4 = [82] := by
  rw [eb, <- List.append_assoc]; exact sl_mid (low x.key.length 1 ++ low x.value.length 2) _ _ _ _ (by simp [L]) (by simp)
 have s4 : sl b 4 8 = low x.flags 4 := by
  rw [eb, <- List.append_assoc, <- List.append_assoc]; exact sl_mid _ _ _ _ _ (by simp [L]) (by simp [L])
 have s8 : sl b 8 16 = low (u64 x.exp) 8 := by
  rw [eb, <- List.append_assoc, <- List.append_assoc, <- List.append_assoc]; exact sl_mid _ _ _ _ _ (by simp [L]) (by simp [L])
 have s16 : sl b 16 24 = low x.ver 8 := by
  rw [eb, <- List.append_assoc, <- List.append_assoc, <- List.append_assoc, <- List.append_assoc]; exact sl_mid _ _ _ _ _ (by simp [L]) (by simp [L])
 have eh : b = x.head ++ (low (crcN x.head) 4 ++ (low (crcN (x.key ++ x.value)) 4 ++ (x.key ++ (x.value ++ more)))) := by rw [hb]; simp [It.enc]
 have hl := x.head_length
 have s24a : sl b 0 24 = x.head := by rw [eh]; exact sl_first _ _ _ hl.symm
 have s24 : sl b 24 28 = low (crcN x.head) 4 := by rw [eh]; exact sl_mid _ _ _ _ _ hl.symm (by simp [L])
 have s28 : sl b 28 32 = low (crcN (x.key ++ x.value)) 4 := by rw [eh, <- List.append_assoc]; exact sl_mid _ _ _ _ _ (by simp [L, hl]) (by simp [L])
 have sk : sl b 32 (32 + x.key.length) = x.key := by rw [eh, <- List.append_assoc, <- List.append_assoc]; exact sl_mid _ _ _ _ _ (by simp [L, hl]) rfl
 have sv : sl b (32 + x.key.length) x.size = x.value := by rw [eh, <- List.append_assoc, <- List.append_assoc, <- List.append_assoc]; exact sl_mid _ _ _ _ _ (by simp [L, hl]; omega) hsz
 have d0 : b.getD 0 0 = UInt8.ofNat (x.key.length % 256) := by
  have := getD_sl b 0 (by omega)
  rw [s0] at this
  simpa [low] using this.symm
 have d3 : b.getD 3 0 = 82 := by
  have := getD_sl b 3 (by omega)
  rw [s3] at this
  simpa using this.symm
 have k1 : tkKey b = x.key.length := by unfold tkKey; rw [d0, UInt8.toNat_ofNat']; omega
 have v1 : tkVal b = x.value.length := by unfold tkVal; rw [s1]; exact up_low 2 _ (by omega)
 have w1 : tkVer b = x.ver := by unfold tkVer; rw [s16]; exact up_low 8 _ hf.ver
 have n1 : tkLen b = x.size := by unfold tkLen; rw [k1, v1]; rfl
 have E : ended b = false := by
  have h1 : ¬ b.length = 0 := by omega
  have h2 : ¬ b.getD 0 0 = 0 := fun h => by
   have : tkKey b = 0 := by unfold tkKey; rw [h]; rfl
   omega
  simp only [ended, decide_eq_false h1, decide_eq_false h2, Bool.or_self]
 have F1 : form1 b = true := by
  have h1 : 32 <= b.length := by omega
  have h2 : up (sl b 24 28) = crcN (sl b 0 24) := by rw [s24, s24a]; exact up_low 4 _ (crcN_lt _)
  simp only [form1, decide_eq_true h1, decide_eq_true d3, decide_eq_true h2, Bool.and_self]
 have F2 : form2 b = true := by
  have h1 : mayBe x.key.length x.value.length x.ver = true := by simp [mayBe, g1, g2, g3, g4]
  have h2 : x.size <= b.length := by omega
  have h3 : up (sl b 28 32) = crcN (sl b 32 x.size) := by
   rw [s28, <- sl_join b 32 (32 + x.key.length) x.size (by omega) (by omega), sk, sv]
   exact up_low 4 _ (crcN_lt _)
  simp only [form2, k1, v1, w1, n1, h1, decide_eq_true h2, decide_eq_true h3, Bool.and_self]
 have I : tkItem b = x := by
  unfold tkItem
  rw [k1, n1, sk, sv, s4, s8, w1, up_low 4 _ hf.flags, up_low 8 _ (u64_lt _), i64_u64 _ hf.exp0 hf.exp1]
 rw [<- hb]
 unfold take
 rw [E, F1, F2, I, n1]
 simp
theorem take_ok {b : List UInt8} {x : It} {n : Nat} (h : take b = .ok x n) : x.fits /\ x.good = true /\ n = x.size /\ n <= b.length /\ b.take n = x.enc := by
 unfold take at h
 split at h
 ·cases h
 split at h
 ·cases h
 split at h
 ·cases h
 rename_i E F1 F2
 simp only [Tk.mk.injEq, Option.some.injEq, Prod.mk.injEq] at h
 obtain ⟨rfl, rfl⟩ := h
 simp only [Bool.not_eq_true, Bool.not_eq_false] at E F1 F2
 simp only [form1, Bool.and_eq_true, decide_eq_true_eq] at F1
 simp only [form2, mayBe, Bool.and_eq_true, decide_eq_true_eq] at F2
 obtain ⟨⟨f1, f2⟩, f3⟩ := F1
 obtain ⟨⟨⟨⟨⟨g1, g2⟩, g3⟩, g4⟩, g5⟩, g6⟩ := F2
 have hk : (tkItem b).key.length = tkKey b := by
  show (sl b 32 (32 + tkKey b)).length = _
  rw [sl_length _ _ _ (by unfold tkLen at g5; omega)]; omega
 have hv : (tkItem b).value.length = tkVal b := by
  show (sl b (32 + tkKey b) (tkLen b)).length = _
  rw [sl_length _ _ _ g5]; unfold tkLen; omega
 have e0 : sl b 0 1 = low (tkKey b) 1 := by
  rw [getD_sl b 0 (by omega)]
  have := (b.getD 0 0).toNat_lt
  simp [low, tkKey]
 have lowsl : ∀ i j, j <= b.length -> i <= j -> low (up (sl b i j)) (j - i) = sl b i j := fun i j h1 h2 => by
  have := low_up (sl b i j)
  rw [sl_length _ _ _ h1] at this
  exact this
 have e1 := lowsl 1 3 (by omega) (by omega)
 have e4 := lowsl 4 8 (by omega) (by omega)
 have e8 := lowsl 8 16 (by omega) (by omega)
 have e16 := lowsl 16 24 (by omega) (by omega)
 have e24 := lowsl 24 28 (by omega) (by omega)
 have e28 := lowsl 28 32 (by omega) (by omega)
 have u8 : up (sl b 8 16) < 18446744073709551616 := by have := up_lt (sl b 8 16); rw [sl_length _ _ _ (by omega)] at this; exact this
 have hhead : (tkItem b).head = sl b 0 24 := by
  unfold It.head
  rw [hk, hv]
  show low (tkKey b) 1 ++ (low (up (sl b 1 3)) 2 ++ ([82] ++ (low (up (sl b 4 8)) 4 ++ (low (u64 (i64 (up (sl b 8 16)))) 8 ++ low (up (sl b 16 24)) 8)))) = _
  rw [u64_i64 _ u8, <- e0, e1, e4, e8, e16, <- f2, <- getD_sl b 3 (by omega), sl_join _ _ _ _ (by omega) (by omega), sl_join _ _ _ _ (by omega) (by omega), sl_join _ _ _ _ (by omega) (by omega), sl_join _ _ _ _ (by omega) (by omega), sl_join _ _ _ _ (by omega) (by omega)]
 have hsz : tkLen b = (tkItem b).size := by unfold It.size; rw [hk, hv]; rfl
 have hkv : (tkItem b).key ++ (tkItem b).value = sl b 32 (tkLen b) := sl_join _ _ _ _ (by omega) (by unfold tkLen; omega)
 refine ⟨⟨?_, (i64_range _ u8).1, (i64_range _ u8).2, ?_⟩, ?_, hsz, g5, ?_⟩
 ·have := up_lt (sl b 4 8); rw [sl_length _ _ _ (by omega)] at this; exact this
 ·have := up_lt (sl b 16 24); rw [sl_length _ _ _ (by omega)] at this; exact this
 ·exact (It.good_iff _).2 ⟨by rw [hk]; exact g1, by rw [hk]; exact g2, by rw [hv]; exact g3, g4⟩
 ·unfold It.enc
  rw [hhead, hkv, <- f3, <- g6, e24, e28, sl_join _ _ _ _ (by omega) (by unfold tkLen; omega), sl_join _ _ _ _ (by omega) (by unfold tkLen; omega), sl_join _ _ _ _ (by omega) (by unfold tkLen; omega)]
  rfl
theorem ret_int {k : IntKind} {a b : Int} (h : a = b) : Ending.returned (.int k a) = .returned (.int k b) := by rw [h]
theorem take_snoc (s : ByteArray) (k : Nat) (h : k < s.size) : s.data.toList.take (k + 1) = s.data.toList.take k ++ [s[k]] := by
 rw [List.take_succ_eq_append_getElem (by simpa using h)]; rfl
theorem shift_any (c : BitVec 32) (w : World) :
  Calls Tryz.prog 214 #[.int .u32 (U c)] w fun e w' => e = .returned (.int .u32 (U (sh8 c))) /\ w' = w := by
 go_enter Tryz.func214, Tryz.ntmps214
 go_wp2
 go_loop [0, 3] (fun t i => ∃ k : Nat, k <= 8 /\ i = .int .i64 k /\ t = .int .u32 (U (shn k c))) (fun _ i => 8 - (intOf i).toNat)
 case atStart => exact ⟨0, Nat.zero_le _, rfl, rfl⟩
 case round =>
  obtain ⟨k, hk, rfl, rfl⟩ := hrel
  by_cases hlt : k < 8
  ·by_cases ho : (shn k c).getLsbD 0 = true
   ·have hl : (bits .and .u32 (U (shn k c)) 1 == 1) = true := by rw [low_U, ho]
    have H1 := step_odd _ ho
    clear ho
    go_wp2
    go_round
    case rel => exact ⟨k + 1, by omega, by go_num, rfl⟩
    case measure => simp [intOf]; omega
   ·have ho' : (shn k c).getLsbD 0 = false := by simpa using ho
    have hl : (bits .and .u32 (U (shn k c)) 1 == 1) = false := by rw [low_U, ho']
    have H1 := step_even _ ho'
    clear ho ho'
    go_wp2
    go_round
    case rel => exact ⟨k + 1, by omega, by go_num, rfl⟩
    case measure => simp [intOf]; omega
  ·have hk8 : Hid (k = 8) := by unfold Hid; omega
   go_wp2
   go_ret
   exact ⟨ret_int (by rw [hk8.out, shn_8]), rfl⟩
def Reads (w : World) (a : Option Addr) (l : List Int) : Prop :=
 (∀ i, i < l.length -> ∃ b off, a = some ⟨b, off, none⟩ /\ w.cell? ⟨b, off + i, none⟩ = some (.int .u8 (l.getD i 0))) /\ ∀ i, 0 <= l.getD i 0 /\ l.getD i 0 <= 255
theorem Reads.nil (w : World) (a : Option Addr) : Reads w a [] := ⟨fun i h => absurd h (by simp), fun i => by simp⟩
theorem Reads.later {w wx : World} {a : Option Addr} {l : List Int} (h : Reads w a l) (hb : Below w.heap.size w wx) : Reads wx a l :=
 ⟨fun i hi => by obtain ⟨b, off, e, hc⟩ := h.1 i hi; exact ⟨b, off, e, cell_later hb hc⟩, h.2⟩
theorem take_succ_getD (l : List Int) (k : Nat) (h : k < l.length) : l.take (k + 1) = l.take k ++ [l.getD k 0] := by
 rw [List.take_succ_eq_append_getElem h, List.getD_eq_getElem?_getD, List.getElem?_eq_getElem h]; rfl
theorem more_any (c : Int) (a : Option Addr) (cap : Nat) (l : List Int) (w : World) (hm : l.length <= maxLen) (hr : Reads w a l) :
  Calls Tryz.prog 199 #[.int .u32 c, .slice a l.length cap] w fun e w' => e = .returned (.int .u32 (U (more (B c) l))) /\ w' = w := by
 unfold maxLen at hm
 have hs : IntKind.u32.signed = false := rfl
 have hnot : ∀ n, bits .xor .u32 IntKind.u32.max n = U (~~~ B n) := not_max
 have HR : Hid (Reads w a l) := hr
 clear hr
 go_enter Tryz.func199, Tryz.ntmps199
 go_wp2
 go_loop [5, 12] (fun t i => ∃ k : Nat, k <= l.length /\ i = .int .i64 k /\ t = .int .u32 (U (crc (~~~ B c) (l.take k)))) (fun _ i => l.length - (intOf i).toNat)
 case atStart => exact ⟨0, Nat.zero_le _, rfl, rfl⟩
 case round =>
  obtain ⟨k, hk, rfl, rfl⟩ := hrel
  by_cases hlt : k < l.length
  ·obtain ⟨b, off, rfl, hc⟩ := HR.out.1 k hlt
   obtain ⟨hx0, hx1⟩ := HR.out.2 k
   have HT : Hid (l.take (k + 1) = l.take k ++ [l.getD k 0]) := take_succ_getD l k hlt
   generalize l.getD k 0 = x at hc hx0 hx1 HT
   clear HR
   go_wp2_with fail
   rw [xor_U, B_U]
   refine (shift_any _ _).mono ?_
   rintro e w' ⟨rfl, rfl⟩
   go_wp2
   go_round
   case rel => exact ⟨k + 1, by omega, by go_num, by rw [HT.out, crc_snoc]⟩
   case measure => simp [intOf]; omega
  ·have hk8 : Hid (k = l.length) := by unfold Hid; omega
   go_wp2
   go_ret
   exact ⟨ret_int (by rw [hk8.out, List.take_length, B_U]; rfl), rfl⟩
theorem crc_any (a : Option Addr) (cap : Nat) (l : List Int) (w : World) (hm : l.length <= maxLen) (hr : Reads w a l) :
  Calls Tryz.prog 179 #[.slice a l.length cap] w fun e w' => e = .returned (.int .u32 (U (more 0#32 l))) /\ w' = w := by
 go_enter Tryz.func179, Tryz.ntmps179
 go_wp2_with (go_at_call 199; refine (more_any _ _ _ _ _ hm hr).mono ?_; rintro e w' ⟨rfl, rfl⟩)
 go_ret
 exact ⟨rfl, rfl⟩
theorem more_at (c : Int) (a : Option Addr) (n cap : Nat) (l : List Int) (w : World) (hn : l.length = n) (hm : n <= maxLen) (hr : Reads w a l) :
  Calls Tryz.prog 199 #[.int .u32 c, .slice a n cap] w fun e w' => e = .returned (.int .u32 (U (more (B c) l))) /\ w' = w := by
 subst hn; exact more_any c a cap l w hm hr
theorem crc_at (a : Option Addr) (n cap : Nat) (l : List Int) (w : World) (hn : l.length = n) (hm : n <= maxLen) (hr : Reads w a l) :
  Calls Tryz.prog 179 #[.slice a n cap] w fun e w' => e = .returned (.int .u32 (U (more 0#32 l))) /\ w' = w := by
 subst hn; exact crc_any a cap l w hm hr
structure Pg where
 v : Option (Option ByteArray)
abbrev Pg.blank : Pg := ⟨none⟩
abbrev Pg.torn : Pg := ⟨some none⟩
abbrev Pg.whole (b : ByteArray) : Pg := ⟨some (some b)⟩
def Pg.kind : Pg -> Nat
 | ⟨none⟩ => 0
 | ⟨some (some _)⟩ => 1
 | ⟨some none⟩ => 2
def Pg.text : Pg -> ByteArray
 | ⟨some (some b)⟩ => b
 | _ => ⟨#[]⟩
def zeros (n : Nat) : ByteArray := ⟨(List.replicate n (0 : UInt8)).toArray⟩
def full (b : ByteArray) : ByteArray := b ++ zeros (384 - b.size)
def Pg.read : Pg -> ByteArray
 | ⟨some (some b)⟩ => full b
 | _ => ⟨#[]⟩
def Pg.err : Pg -> Int
 | ⟨none⟩ => 5
 | ⟨some none⟩ => 6
 | ⟨some (some _)⟩ => 0
structure Cl where
 now : Pg
 last : Option Pg
structure Dv where
 cs : List Cl
 armed : Nat
 off : Bool
 losses : Int
 wr : Int
 fl : Int
 rd : Int
 cr : Int
def wl : Nat -> List Cl -> List (Nat × Pg)
 | _, [] => []
 | i, c :: r => match c.last with
  | none => wl (i + 1) r
  | some l => (i, l) :: wl (i + 1) r
def Dv.fresh (n : Nat) : Dv := ⟨List.replicate n ⟨.blank, none⟩, 0, false, 0, 0, 0, 0, 0⟩
def Dv.gone (S : Dv) : Bool := S.off || decide (S.armed = 1)
def Dv.used (S : Dv) : Dv :=
 if S.off = true \/ S.armed = 0 then S
 else if S.armed = 1 then { S with armed := 0, off := true, losses := wrap64 (S.losses + 1) }
 else { S with armed := S.armed - 1 }
def Cl.put (c : Cl) (p : Pg) : Cl := ⟨p, some (c.last.getD c.now)⟩
def Cl.flush (c : Cl) : Cl := ⟨c.now, none⟩
def putAt : List Cl -> Nat -> Pg -> List Cl
 | [], _, _ => []
 | c :: r, 0, p => c.put p :: r
 | c :: r, i + 1, p => c :: putAt r i p
def Dv.has (S : Dv) (at0 : Int) : Bool := decide (0 <= at0) && decide (at0 < (S.cs.length : Int))
def Dv.putErr (S : Dv) (at0 : Int) : Int := if S.has at0 = false then 1 else if S.gone = true then 4 else 0
def Dv.putDo (S : Dv) (at0 : Int) (p : Pg) : Dv :=
 if S.has at0 = false then S else if S.gone = true then S.used else { S.used with cs := putAt S.cs at0.toNat p, wr := wrap64 (S.wr + 1) }
def Dv.writeErr (S : Dv) (at0 : Int) (b : ByteArray) : Int := if 384 < b.size then 1 else S.putErr at0
def Dv.writeDo (S : Dv) (at0 : Int) (b : ByteArray) : Dv := if 384 < b.size then S else S.putDo at0 (.whole b)
def Dv.flushErr (S : Dv) : Int := if S.gone = true then 4 else 0
def Dv.flushDo (S : Dv) : Dv := if S.gone = true then S.used else { S.used with cs := S.cs.map Cl.flush, fl := wrap64 (S.fl + 1) }
def Pg.fits (p : Pg) : Prop := p.text.size <= 384
def Cl.fits (c : Cl) : Prop := c.now.fits /\ ∀ l, c.last = some l -> l.fits
structure Dv.good (S : Dv) : Prop where
 many : S.cs.length <= 4096
 armed : S.armed <= 9223372036854775807
 fits : ∀ c ∈ S.cs, c.fits
theorem Dv.used_cs (S : Dv) : S.used.cs = S.cs := by unfold Dv.used; split <;> (try split) <;> rfl
theorem Dv.used_good {S : Dv} (h : S.good) : S.used.good := by
 refine ⟨by rw [S.used_cs]; exact h.many, ?_, by rw [S.used_cs]; exact h.fits⟩
 have := h.armed
 unfold Dv.used; split
 ·exact this
 ·split
  ·exact Nat.zero_le _
  ·show S.armed - 1 <= _; omega
theorem putAt_length : ∀ (cs : List Cl) (i : Nat) (p : Pg), (putAt cs i p).length = cs.length
 | [], _, _ => rfl
 | _ :: _, 0, _ => rfl
 | c :: r, i + 1, p => by simp [putAt, putAt_length r i p]
theorem Cl.put_fits {c : Cl} {p : Pg} (hc : c.fits) (hp : p.fits) : (c.put p).fits := by
 refine ⟨hp, fun l hl => ?_⟩
 have e : l = c.last.getD c.now := by simpa [Cl.put] using hl.symm
 rw [e]
 cases h : c.last with
 | none => exact hc.1
 | some q => exact hc.2 q h
theorem putAt_fits {p : Pg} (hp : p.fits) : ∀ (cs : List Cl) (i : Nat), (∀ c ∈ cs, c.fits) -> ∀ c ∈ putAt cs i p, c.fits
 | [], _, _ => by simp [putAt]
 | c :: r, 0, h => by
  intro x hx
  rcases List.mem_cons.1 hx with rfl | hx
  ·exact Cl.put_fits (h c (by simp)) hp
  ·exact h x (by simp [hx])
 | c :: r, i + 1, h => by
  intro x hx
  rcases List.mem_cons.1 hx with rfl | hx
  ·exact h x (by simp)
  ·exact putAt_fits hp r i (fun y hy => h y (by simp [hy])) x hx
theorem Cl.flush_fits {c : Cl} (h : c.fits) : c.flush.fits := ⟨h.1, fun l hl => by cases hl⟩
theorem Dv.flushDo_good {S : Dv} (h : S.good) : S.flushDo.good := by
 unfold Dv.flushDo
 split
 ·exact Dv.used_good h
 ·exact ⟨by show (List.map _ _).length <= _; rw [List.length_map]; exact h.many, (Dv.used_good h).armed, fun c hc => by
   obtain ⟨x, hx, rfl⟩ := List.mem_map.1 hc
   exact Cl.flush_fits (h.fits x hx)⟩
theorem Dv.fresh_good (n : Nat) (h : n <= 4096) : (Dv.fresh n).good :=
 ⟨by simpa [Dv.fresh] using h, Nat.zero_le _, fun c hc => by
  have := List.eq_of_mem_replicate hc
  subst this
  exact ⟨Nat.zero_le _, fun _ e => by cases e⟩⟩
theorem part_at {α : Type} (l : List α) (i : Nat) (h : i < l.length) : ∃ A c B, l = A ++ c :: B /\ A.length = i :=
 ⟨l.take i, l[i], l.drop (i + 1), by rw [List.getElem_cons_drop, List.take_append_drop], by simp; omega⟩
theorem putAt_part : ∀ (A : List Cl) (c : Cl) (B : List Cl) (p : Pg), putAt (A ++ c :: B) A.length p = A ++ c.put p :: B
 | [], _, _, _ => rfl
 | a :: r, c, B, p => by simp [putAt, putAt_part r c B p]
theorem wl_append : ∀ (A B : List Cl) (i : Nat), wl i (A ++ B) = wl i A ++ wl (i + A.length) B
 | [], _, _ => by simp [wl]
 | a :: r, B, i => by
  have ih := wl_append r B (i + 1)
  rw [show i + 1 + r.length = i + (a :: r).length by simp; omega] at ih
  simp only [List.cons_append, wl]
  split <;> simp [ih]
theorem wl_lt : ∀ (A : List Cl) (i : Nat), ∀ x ∈ wl i A, i <= x.1 /\ x.1 < i + A.length
 | [], _ => by simp [wl]
 | a :: r, i => by
  intro x hx
  unfold wl at hx
  split at hx
  ·have := wl_lt r (i + 1) x hx; simp; omega
  ·rcases List.mem_cons.1 hx with rfl | hx
   ·simp
   ·have := wl_lt r (i + 1) x hx; simp; omega
theorem wl_length : ∀ (A : List Cl) (i : Nat), (wl i A).length <= A.length
 | [], _ => by simp [wl]
 | a :: r, i => by
  have := wl_length r (i + 1)
  unfold wl; split <;> simp <;> omega
theorem wl_flush : ∀ (A : List Cl) (i : Nat), wl i (A.map Cl.flush) = []
 | [], _ => rfl
 | a :: r, i => by simp [wl, Cl.flush, wl_flush r]
theorem wl_fresh : ∀ (n i : Nat), wl i (List.replicate n (⟨.blank, none⟩ : Cl)) = []
 | 0, _ => rfl
 | n + 1, i => by simp [List.replicate_succ, wl, wl_fresh n]
def Blk (w : World) (b : Nat) (L : List Value) (t : TypeId) : Prop := w.heap[b]? = some (.cells L.toArray t (0, 0))
section
variable {w w' : World} {b : Nat} {L : List Value} {t : TypeId}
theorem Blk.lt (h : Blk w b L t) : b < w.heap.size := (Array.getElem?_eq_some_iff.1 h).1
theorem Blk.cell (h : Blk w b L t) {i : Nat} {v : Value} (hv : L[i]? = some v) : w.cell? ⟨b, i, none⟩ = some v := by
 unfold Blk at h
 simp [World.cell?, h, hv]
theorem Blk.frozen (h : Blk w b L t) (i : Nat) : w.frozen? ⟨b, i, none⟩ = false := by
 unfold Blk at h
 simp [World.frozen?, h]
theorem Blk.same (h : Blk w b L t) (e : w'.heap[b]? = w.heap[b]?) : Blk w' b L t := e.trans h
theorem Blk.set (h : Blk w b L t) (i : Nat) (v : Value) : Blk (w.setCell ⟨b, i, none⟩ v) b (L.set i v) t := by
 unfold Blk at *
 simp [World.setCell, Array.getElem?_modify, h]
theorem Blk.new (w : World) (L : List Value) (t : TypeId) : Blk (w.alloc (.cells L.toArray t)) w.heap.size L t := blk_alloc_new _ _
theorem Blk.other (h : Blk w b L t) {a : Addr} (ha : b ≠ a.block) (v : Value) : Blk (w.setCell a v) b L t := h.same (blk_setCell_other _ _ _ _ ha)
theorem Blk.alloc (h : Blk w b L t) (o : Obj) : Blk (w.alloc o) b L t := h.same (blk_alloc_lt _ _ _ h.lt)
end
theorem set_append_len (A : List Value) (v x : Value) (B : List Value) (i : Nat) (h : i = A.length) : (A ++ v :: B).set i x = A ++ x :: B := by
 subst h; simp
theorem heap_setCells_other (b : Nat) : ∀ (vs : List Value) (o : Nat) (w : World) (k : Nat), k ≠ b -> (w.setCells b o vs).heap[k]? = w.heap[k]?
 | [], _, _, _, _ => rfl
 | v :: r, o, w, k, h => by rw [World.setCells, heap_setCells_other b r _ _ k h]; exact blk_setCell_other _ _ _ _ h
theorem Blk.sets {b : Nat} {t : TypeId} : ∀ (vs A M B : List Value) (w : World), M.length = vs.length -> Blk w b (A ++ M ++ B) t -> Blk (w.setCells b A.length vs) b (A ++ vs ++ B) t
 | [], A, [], B, w, _, h => h
 | v :: r, A, m :: M, B, w, hl, h => by
  have h1 := h.set A.length v
  rw [show A ++ m :: M ++ B = A ++ m :: (M ++ B) by simp, set_append_len A m v (M ++ B) _ rfl] at h1
  have ih := Blk.sets r (A ++ [v]) M B (w.setCell ⟨b, A.length, none⟩ v) (by simpa using hl) (by simpa using h1)
  rw [World.setCells]
  simpa using ih
structure Keep (F : List Nat) (w w' : World) : Prop where
 os : w'.os = w.os
 tape : w'.tape = w.tape
 output : w'.output = w.output
 size : w.heap.size <= w'.heap.size
 block : ∀ k, k < w.heap.size -> k ∉ F -> w'.heap[k]? = w.heap[k]?
theorem Keep.refl (F : List Nat) (w : World) : Keep F w w := ⟨rfl, rfl, rfl, Nat.le_refl _, fun _ _ _ => rfl⟩
theorem Keep.trans {F G : List Nat} {a b c : World} (h : Keep F a b) (k : Keep G b c) (hG : ∀ x ∈ G, x ∈ F \/ a.heap.size <= x) : Keep F a c :=
 ⟨k.os.trans h.os, k.tape.trans h.tape, k.output.trans h.output, Nat.le_trans h.size k.size, fun i hi hn =>
  (k.block i (Nat.lt_of_lt_of_le hi h.size) (fun hg => by rcases hG i hg with h1 | h1; exact hn h1; omega)).trans (h.block i hi hn)⟩
theorem Keep.drew {F : List Nat} {a w : World} (h : Keep F a w) : Keep F a w.drew := ⟨h.os, h.tape, h.output, h.size, h.block⟩
theorem Keep.alloc {F : List Nat} {a w : World} (h : Keep F a w) (o : Obj) : Keep F a (w.alloc o) :=
 h.trans (G := []) ⟨rfl, rfl, rfl, by rw [nblk_alloc]; omega, fun k hk _ => blk_alloc_lt _ _ _ hk⟩ (fun x hx => by cases hx)
theorem Keep.setCell {F : List Nat} {a w : World} (h : Keep F a w) {p : Addr} (hp : p.block ∈ F \/ a.heap.size <= p.block) (v : Value) : Keep F a (w.setCell p v) :=
 h.trans (G := [p.block]) ⟨rfl, rfl, rfl, by rw [nblk_setCell]; exact Nat.le_refl _, fun k hk hn => blk_setCell_other _ _ _ _ (fun e => hn (by simp [e]))⟩ (fun x hx => by simp at hx; subst hx; exact hp)
theorem Keep.setCells {F : List Nat} {a w : World} (h : Keep F a w) {b : Nat} (hp : b ∈ F \/ a.heap.size <= b) (o : Nat) (vs : List Value) : Keep F a (w.setCells b o vs) := by
 induction vs generalizing w o with
 | nil => exact h
 | cons v r ih => rw [World.setCells]; exact ih (h.setCell hp v) _
theorem Keep.below {F : List Nat} {w w' : World} (h : Keep F w w') {B : Nat} (hF : ∀ k ∈ F, B <= k) (hB : B <= w.heap.size) : Below B w w' :=
 ⟨h.os, h.tape, h.output, h.size, fun k hk => h.block k (by omega) (fun hf => by have := hF k hf; omega)⟩
theorem Keep.of_below {F : List Nat} {w w' : World} (h : Below w.heap.size w w') : Keep F w w' := ⟨h.os, h.tape, h.output, h.size, fun k hk _ => h.block k hk⟩
theorem Keep.grown {F : List Nat} {a w w' : World} {row : Option Nat} (h : Keep F a w) (hg : w.grownBy w' row) (hr : ∀ k, row = some k -> k ∈ F \/ a.heap.size <= k) : Keep F a w' :=
 h.trans (G := row.toList) ⟨hg.os, hg.tape, hg.output, hg.size, fun k hk hn => hg.block k hk (fun e => hn (by simp [<- e]))⟩ (fun x hx => hr x (by simpa using hx))
theorem Keep.mono {F G : List Nat} {w w' : World} (h : Keep F w w') (hs : ∀ k ∈ F, k ∈ G \/ w.heap.size <= k) : Keep G w w' :=
 ⟨h.os, h.tape, h.output, h.size, fun k hk hn => h.block k hk (fun hf => by rcases hs k hf with h1 | h1; exact hn h1; omega)⟩
structure Moves (F F' : List Nat) (w w' : World) : Prop where
 keep : Keep F w w'
 foot : ∀ k ∈ F', k ∈ F \/ w.heap.size <= k
theorem Moves.refl (F : List Nat) (w : World) : Moves F F w w := ⟨Keep.refl _ _, fun _ h => .inl h⟩
theorem Moves.trans {F G H : List Nat} {a b c : World} (h : Moves F G a b) (k : Moves G H b c) : Moves F H a c :=
 ⟨h.keep.trans k.keep h.foot, fun x hx => by
  rcases k.foot x hx with h1 | h1
  ·exact h.foot x h1
  ·exact .inr (Nat.le_trans h.keep.size h1)⟩
theorem Moves.of_keep {F : List Nat} {w w' : World} (h : Keep F w w') : Moves F F w w' := ⟨h, fun _ h => .inl h⟩
theorem flat_length {α : Type} (enc : α -> List Value) (k : Nat) (hk : ∀ x, (enc x).length = k) : ∀ l : List α, (l.flatMap enc).length = l.length * k
 | [] => by simp
 | a :: r => by simp [flat_length enc k hk r, hk, Nat.add_mul]; omega
theorem flat_get {α : Type} (enc : α -> List Value) (k : Nat) (hk : ∀ x, (enc x).length = k) (A : List α) (x : α) (B : List α) (j : Nat) (hj : j < k) :
  ((A ++ x :: B).flatMap enc)[A.length * k + j]? = (enc x)[j]? := by
 rw [List.flatMap_append, List.getElem?_append_right (by rw [flat_length enc k hk]; omega), flat_length enc k hk, List.flatMap_cons, show A.length * k + j - A.length * k = j by omega,
  List.getElem?_append_left (by rw [hk]; exact hj)]
theorem flat_getP {α : Type} (enc : α -> List Value) (k : Nat) (hk : ∀ x, (enc x).length = k) (A : List α) (x : α) (B : List α) (pd : List Value) (j : Nat) (hj : j < k) :
  ((A ++ x :: B).flatMap enc ++ pd)[A.length * k + j]? = (enc x)[j]? := by
 have h := flat_get enc k hk A x B j hj
 rw [List.getElem?_append_left ?_]
 ·exact h
 ·rw [flat_length enc k hk]
  simp only [List.length_append, List.length_cons]
  rw [Nat.add_mul, Nat.add_mul]
  omega
def pgCells (p : Pg) : List Value := [.int .u8 p.kind, .string p.text]
def pgRow (cs : List Cl) : List Value := cs.flatMap fun c => pgCells c.now
def wtCells (x : Nat × Pg) : List Value := [.int .i64 x.1, .int .u8 x.2.kind, .string x.2.text]
def wtRow (l : List (Nat × Pg)) : List Value := l.flatMap wtCells
end Go.Proofs.YtcdghalnneilpaaGreat
namespace Go.Proofs.YtcdghalnneilpaaGreat
open Go.RowKit Go.Deep Go.ChangeShapes Go.WideShapes Math
theorem hide {p : Prop} (h : p) : Hid p := h
def bCells (l : List UInt8) : List Value := l.map fun x => Value.int .u8 (x.toNat : Int)
theorem bCells_length (l : List UInt8) : (bCells l).length = l.length := by simp [bCells]
theorem bCells_append (a b : List UInt8) : bCells (a ++ b) = bCells a ++ bCells b := by simp [bCells]
def zc (r : Nat) : List Value := List.replicate r (.int .u8 0)
def Buf (w : World) (g : Nat) (l : List UInt8) (r : Nat) : Prop := Blk w g (bCells l ++ zc r) 5
theorem info5 : (Tryz.prog.info? 5).map (fun i => (i.zero, i.size, i.bytes)) = some (some (.int .u8 0), 1, 1) := by kernel_rfl
theorem bCells_one (l : List UInt8) : ∀ u ∈ bCells l, u.oneCell' = true := by
 intro u hu
 obtain ⟨_, _, rfl⟩ := List.mem_map.1 hu
 rfl
theorem buf_append {V : World} {g r n nl cp : Nat} {l N : List UInt8} {tx : TypeId} {x : Value} (h : Buf V g l r) (hs : Src Tryz.prog 1 tx x n (bCells N) V) (hr : n <= r) (hnl : nl = l.length) (hcp : cp = l.length + r) (ty : TypeId) :
  (Builtin.append_ #[40, tx] ty #[.slice (some ⟨g, 0, none⟩) nl cp, x]).run Tryz.prog V = .ok (.slice (some ⟨g, 0, none⟩) (nl + n) cp) (V.setCells g nl (bCells N)) /\ Buf (V.setCells g nl (bCells N)) g (l ++ N) (r - n) := by
 subst hnl hcp
 have hN : N.length = n := by have := hs.newsLen; rw [bCells_length, Nat.mul_one] at this; exact this
 obtain ⟨i0, hi0, hp0⟩ := Option.map_eq_some_iff.1 info5
 simp only [Prod.mk.injEq] at hp0
 obtain ⟨hz0, hz1, hz2⟩ := hp0
 have hcell : ∀ j, j < (bCells N).length -> (V.cell? ⟨g, 0 + l.length * i0.size + j, none⟩).isSome = true := fun j hj => by
  rw [bCells_length] at hj
  have : 0 + l.length * i0.size + j < (bCells l ++ zc r).length := by rw [hz1, List.length_append, bCells_length]; simp [zc]; omega
  unfold Buf at h
  rw [h.cell (List.getElem?_eq_getElem this)]
  rfl
 have hr1 := run_append_room_src (P := Tryz.prog) V 40 tx ty 5 i0 Tryz.underlying40 hi0 g 0 l.length (l.length + r) x n (bCells N) (by rw [hz1]; exact hs) (by omega) hcell (fun j hj => by unfold Buf at h; exact h.frozen _)
 rw [hz1, Nat.mul_one, Nat.zero_add] at hr1
 refine ⟨hr1, ?_⟩
 have hz : zc r = zc n ++ zc (r - n) := by unfold zc; rw [List.replicate_append_replicate, Nat.add_sub_of_le hr]
 unfold Buf at h ⊢
 rw [hz, <- List.append_assoc] at h
 have := Blk.sets (bCells N) (bCells l) (zc n) (zc (r - n)) V (by rw [bCells_length]; simp [zc, hN]) h
 rw [bCells_length] at this
 rw [bCells_append]
 exact this
theorem Buf.reads {w : World} {g r : Nat} {l : List UInt8} (h : Buf w g l r) (i : Nat) : Reads w (some ⟨g, i, none⟩) (ints (l.drop i)) := by
 refine ⟨fun j hj => ⟨g, i, rfl, ?_⟩, fun j => ?_⟩
 ·rw [ints_length, List.length_drop] at hj
  unfold Buf at h
  refine h.cell ?_
  rw [List.getElem?_append_left (by rw [bCells_length]; omega)]
  have hi : i + j < l.length := by omega
  simp [bCells, ints, List.getElem?_drop, hi, List.getD_eq_getElem?_getD]
 ·rw [List.getD_eq_getElem?_getD, ints, List.getElem?_map]
  cases (l.drop i)[j]? with
  | none => simp
  | some b => have := b.toNat_lt; simp; omega
end Go.Proofs.YtcdghalnneilpaaGreat
namespace Go.Proofs.YtcdghalnneilpaaGreat
open Go.RowKit Go.Deep Math
theorem mayBe_any (k v ver : Nat) (w : World) : Calls Tryz.prog 107 #[.int .i64 k, .int .i64 v, .int .u64 ver] w fun e w' => e = .returned (.bool (mayBe k v ver)) /\ w' = w := by
 by_cases h1 : 1 <= k
 ·have i1 : ((1 : Int) <= (k : Int)) = True := eq_true (by omega)
  by_cases h2 : k <= 250
  ·have i2 : ((k : Int) <= 250) = True := eq_true (by omega)
   by_cases h3 : v <= 1024
   ·have i3 : ((v : Int) <= 1024) = True := eq_true (by omega)
    by_cases h4 : 0 < ver
    ·have i4 : (0 < ver) = True := eq_true h4
     have E : Hid (mayBe k v ver = true) := by simp [Hid, mayBe, h1, h2, h3, h4]
     clear h1 h2 h3 h4
     go_enter Tryz.func107, Tryz.ntmps107
     go_wp2
     go_ret
     exact ⟨by rw [E.out]; rfl, rfl⟩
    ·have i4 : (0 < ver) = False := eq_false h4
     have E : Hid (mayBe k v ver = false) := by simp [Hid, mayBe, h4]
     clear h1 h2 h3 h4
     go_enter Tryz.func107, Tryz.ntmps107
     go_wp2
     go_ret
     exact ⟨by rw [E.out]; rfl, rfl⟩
   ·have i3 : ((v : Int) <= 1024) = False := eq_false (by omega)
    have E : Hid (mayBe k v ver = false) := by simp [Hid, mayBe, h3]
    clear h1 h2 h3
    go_enter Tryz.func107, Tryz.ntmps107
    go_wp2
    go_ret
    exact ⟨by rw [E.out]; rfl, rfl⟩
  ·have i2 : ((k : Int) <= 250) = False := eq_false (by omega)
   have E : Hid (mayBe k v ver = false) := by simp [Hid, mayBe, h2]
   clear h1 h2
   go_enter Tryz.func107, Tryz.ntmps107
   go_wp2
   go_ret
   exact ⟨by rw [E.out]; rfl, rfl⟩
 ·have i1 : ((1 : Int) <= (k : Int)) = False := eq_false (by omega)
  have E : Hid (mayBe k v ver = false) := by simp [Hid, mayBe, h1]
  clear h1
  go_enter Tryz.func107, Tryz.ntmps107
  go_wp2
  go_ret
  exact ⟨by rw [E.out]; rfl, rfl⟩
def itV (kb vb : ByteArray) (f e v : Int) : Value := .agg #[.string kb, .string vb, .int .u32 f, .int .i64 e, .int .u64 v]
theorem good_any (kb vb : ByteArray) (f e : Int) (v : Nat) (w : World) : Calls Tryz.prog 50 #[itV kb vb f e v] w fun r w' => r = .returned (.bool (mayBe kb.size vb.size v)) /\ Below w.heap.size w w' := by
 unfold itV
 have c := hide (mayBe_any kb.size vb.size v)
 generalize mayBe kb.size vb.size v = m at c
 go_enter Tryz.func50, Tryz.ntmps50
 go_wp2_with fail
 refine (c.out _).mono ?_
 rintro e w' ⟨rfl, rfl⟩
 go_wp2
 go_ret
 exact ⟨rfl, (Below.refl _ _).alloc (Nat.le_refl _) _⟩
theorem size_any (kb vb : ByteArray) (f e v : Int) (hk : kb.size <= 140737488351232) (hv : vb.size <= 140737488351232) (w : World) : Calls Tryz.prog 51 #[itV kb vb f e v] w fun r w' => r = .returned (.int .i64 (32 + kb.size + vb.size : Nat)) /\ Below w.heap.size w w' := by
 unfold itV
 go_enter Tryz.func51, Tryz.ntmps51
 go_wp2
 go_ret
 exact ⟨rfl, (Below.refl _ _).alloc (Nat.le_refl _) _⟩
theorem buf_one {wr : World} {g r nl cp : Nat} {l : List UInt8} (h : Buf wr g l r) (m : Nat) (x : Int) (hx : x = ((m % 256 : Nat) : Int)) (hr : 1 <= r) (hnl : nl = l.length) (hcp : cp = l.length + r) :
  ∃ W, (Builtin.append_ #[40, 40] 40 #[.slice (some ⟨g, 0, none⟩) nl cp, .slice (some ⟨wr.heap.size, 0, none⟩) 1 1]).run Tryz.prog (wr.alloc (.cells #[.int .u8 x] 5)) = .ok (.slice (some ⟨g, 0, none⟩) (nl + 1) cp) W /\ Buf W g (l ++ [UInt8.ofNat (m % 256)]) (r - 1) /\ Keep [g] wr W := by
 have hb : bCells [UInt8.ofNat (m % 256)] = [.int .u8 x] := by
  simp only [bCells, List.map_cons, List.map_nil, UInt8.toNat_ofNat', hx]
  have : m % 256 % 2 ^ 8 = m % 256 := by omega
  rw [this]
 have hs : Src Tryz.prog 1 40 (.slice (some ⟨wr.heap.size, 0, none⟩) 1 1) 1 (bCells [UInt8.ofNat (m % 256)]) (wr.alloc (.cells #[.int .u8 x] 5)) := by
  refine Src.ofSlice _ Tryz.underlying40 _ _ _ _ (by rw [bCells_length]; rfl) (fun j u hj => ?_) (bCells_one _)
  rw [hb] at hj
  rw [Addr.add_lit, Nat.zero_add]
  exact (Blk.new wr [.int .u8 x] 5).cell hj
 have h1 : Buf (wr.alloc (.cells #[.int .u8 x] 5)) g l r := by unfold Buf at *; exact h.alloc _
 obtain ⟨r1, r2⟩ := buf_append h1 hs hr hnl hcp 40
 exact ⟨_, r1, r2, ((Keep.refl _ _).alloc _).setCells (.inl (by simp)) _ _⟩
theorem addNumber_any (g r k nl cp : Nat) (l : List UInt8) (n : Nat) (hn : n < 18446744073709551616) (hk : k <= r) (hk8 : k <= 8) (hnl : nl = l.length) (hcp : cp = l.length + r) (hc63 : cp <= 9223372036854775807) (w : World) (h : Buf w g l r) :
  Calls Tryz.prog 209 #[.slice (some ⟨g, 0, none⟩) nl cp, .int .u64 n, .int .i64 k] w fun e w' => e = .returned (.slice (some ⟨g, 0, none⟩) (nl + k) cp) /\ Buf w' g (l ++ low n k) (r - k) /\ Keep [g] w w' := by
 have HB := hide h
 have HNL := hide hnl
 have HCP := hide hcp
 have HK := hide hk
 have HN := hide hn
 clear h hnl hcp hk hn hc63
 go_enter Tryz.func209, Tryz.ntmps209
 go_wp2_with fail
 go_loopg [0, 1, 8] k (fun kx s0 s1 s8 wr => ∃ i m : Nat, s8 = .int .i64 i /\ s0 = .slice (some ⟨g, 0, none⟩) (nl + i) cp /\ s1 = .int .u64 m /\ i <= k /\ k - i <= kx /\ Hid (m = n / 256 ^ i /\ Buf wr g (l ++ low n i) (r - i) /\ Keep [g] w wr))
 case atStart => exact ⟨0, n, rfl, rfl, rfl, Nat.zero_le _, by omega, by simp, by simpa [low] using HB.out, Keep.refl _ _⟩
 case round =>
  obtain ⟨i, m, rfl, rfl, rfl, hik, hg, I⟩ := hrel
  by_cases hlt : i < k
  ·have hlt2 : (i : Int) < (k : Int) := by omega
   obtain ⟨W, hr, hb, hkp⟩ := buf_one (nl := nl + i) (cp := cp) I.out.2.1 m ((m : Int) % 256) (by omega) (by have := HK.out; omega) (by rw [List.length_append, low_length, HNL.out]) (by rw [List.length_append, low_length, HCP.out]; have := HK.out; omega)
   have HR := hide hr
   have HW := hide hb
   have HKP := hide hkp
   clear hr hb hkp
   go_wp2_with (at_builtin; refine Lib.wpList_append_run _ rfl _ _ _ _ rfl _ _ rfl rfl _ _ HR.out ?_)
   go_roundg (k - (i + 1))
   case measure => omega
   case rel =>
    refine ⟨i + 1, m / 256, rfl, rfl, rfl, by omega, by omega, ?_, ?_, I.out.2.2.trans HKP.out (fun x hx => .inl hx)⟩
    ·rw [I.out.1, Nat.div_div_eq_div_mul, Nat.pow_succ]
    ·rw [low_snoc, <- I.out.1, <- List.append_assoc, show r - (i + 1) = r - i - 1 by omega]
     exact HW.out
  ·obtain rfl : i = k := by omega
   have hlt2 : ¬ (i : Int) < (i : Int) := by omega
   go_wp2
   go_ret
   exact ⟨rfl, I.out.2.1, I.out.2.2⟩
end Go.Proofs.YtcdghalnneilpaaGreat
