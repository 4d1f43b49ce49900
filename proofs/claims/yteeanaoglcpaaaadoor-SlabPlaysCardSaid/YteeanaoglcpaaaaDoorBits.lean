/- Trailing zeros, ones, a page's least place. -/
import Derived.Test.YteeanaoglcpaaaaDoorChecked
import Derived.Test.YteeanaoglcpaaaaDoorMath
import Derived.Test.YteeanaoglcpaaaaDoorMem
import Derived.Laws.Bits64b
import Derived.Lib.LaidTab
import Derived.Lib.AppendIntMem
import Derived.WalkSpells
import Derived.WalkLawsBesides
set_option linter.unusedVariables false
set_option linter.unusedSimpArgs false
namespace Go.Proofs.YteeanaoglcpaaaaDoor
open Go.RowKit Go.Deep Math

/-- The table that the library's initialiser lays stands in its variable. -/
def Tab (w : World) : Prop := ∀ i, i < 64 → w.cell? ⟨0, i, none⟩ = some (.int .u8 ((Lib.deBruijn64tab.getD i 0 : Nat) : Int))
theorem Tab.of {w : World} (h : Lib.TabIs Tryd.prog w "math/bits.deBruijn64tab" .u8 (Lib.deBruijn64tab.map Int.ofNat)) : Tab w := fun i hi => by
  have := Lib.TabIs.cell h (g := 0) (by kernel_rfl) i (by simpa [Lib.deBruijn64tab] using hi)
  rw [this]
  congr 2
  rw [List.getD_eq_getElem?_getD, List.getElem?_map, List.getD_eq_getElem?_getD]
  rw [List.getElem?_eq_getElem (by simpa [Lib.deBruijn64tab] using hi)]
  rfl
theorem Tab.pos {w : World} (h : Tab w) : 0 < w.heap.size := block_lt_of_cell (h 0 (by omega))
theorem Tab.same {w w' : World} (h : Tab w) (e : w'.heap[0]? = w.heap[0]?) : Tab w' := fun i hi => (World.cell?_of_block e).trans (h i hi)
theorem Tab.later {w w' : World} (h : Tab w) (hb : Below w.heap.size w w') : Tab w' := h.same (hb.block 0 h.pos)
theorem Tab.keep {w w' : World} (h : Tab w) {F : List Nat} (k : Keep F w w') (hF : 0 ∉ F) : Tab w' := h.same (k.block 0 h.pos hF)
theorem Tab.ne {w : World} (h : Tab w) {s : Nat} {c : Int} (hc : w.cell? ⟨s, 0, none⟩ = some (.int .i64 c)) : s ≠ 0 := fun e => by
  subst e
  rw [h 0 (by omega)] at hc
  simp at hc

theorem tz_key (x a : Nat) (hx : x < 18446744073709551616) (hx0 : x ≠ 0) (hlow : x &&& (18446744073709551616 - x) = a) :
    IntKind.u64.wrap (bits BinOp.and IntKind.u64 (x : Int) (IntKind.u64.wrap (-(x : Int))) * 285870213051353865) / 288230376151711744 = ((a * 285870213051353865 % 18446744073709551616 / 288230376151711744 : Nat) : Int) := by
  have e1 : IntKind.u64.wrap (-(x : Int)) = ((18446744073709551616 - x : Nat) : Int) := by rw [IntKind.wrap_u64]; omega
  rw [e1, bits_and_u64_nat x _ hx (by omega), hlow, IntKind.wrap_u64]
  omega
set_option maxHeartbeats 1000000 in
theorem tz_core (x k idx : Nat) (w : World) (hx0 : ((x : Int) == 0) = false)
    (key : IntKind.u64.wrap (bits BinOp.and IntKind.u64 (x : Int) (IntKind.u64.wrap (-(x : Int))) * 285870213051353865) / 288230376151711744 = (idx : Int))
    (hi : idx < 64) (hk : k < 64) (hcell : w.cell? ⟨0, idx, none⟩ = some (.int .u8 k)) :
    Calls Tryd.prog 34 #[.int .u64 x] w fun e w' => e = .returned (.int .i64 k) ∧ w' = w := by
  go_enter Tryd.func34, Tryd.ntmps34
  go_wp2_with (simp only [key])
  go_ret
  exact ⟨rfl, rfl⟩
theorem tz_zero (w : World) : Calls Tryd.prog 34 #[.int .u64 0] w fun e w' => e = .returned (.int .i64 64) ∧ w' = w := by
  go_enter Tryd.func34, Tryd.ntmps34
  go_wp2
  go_ret
  exact ⟨rfl, rfl⟩
theorem tz_any (x : Nat) (hx : x < 18446744073709551616) (w : World) (hT : Tab w) :
    Calls Tryd.prog 34 #[.int .u64 x] w fun e w' => e = .returned (.int .i64 (Lib.ctz 64 x)) ∧ w' = w := by
  by_cases hx0 : x = 0
  · subst hx0
    exact tz_zero w
  · obtain ⟨hlow, hk⟩ := Lib.lowest_bit 64 x hx0 hx
    obtain ⟨hi, htab⟩ := Lib.deBruijn64_at _ hk
    have hcell := hT _ hi
    rw [htab] at hcell
    exact tz_core x _ _ w (by simp; omega) (tz_key x _ hx hx0 hlow) hi hk hcell

set_option maxHeartbeats 1000000 in
theorem least_any (c : Int) (t : Nat) (ht : t < 18446744073709551616) (w : World) (hT : Tab w) :
    Calls Tryd.prog 26 #[.agg #[.int .i64 c, .int .u64 t]] w fun e w' => e = .returned (.int .i64 (lz 64 t)) ∧ Below w.heap.size w w' := by
  have c0 : Hid (∀ W, Below w.heap.size w W → Calls Tryd.prog 34 #[.int .u64 ((18446744073709551615 - t : Nat) : Int)] W fun e w' => e = .returned (.int .i64 (lz 64 t)) ∧ w' = W) := fun W b => by
    have := tz_any (18446744073709551615 - t) (by omega) W (hT.later b)
    rw [show 18446744073709551615 - t = 2 ^ 64 - 1 - t from rfl, ctz_lz 64 t ht] at this
    exact this
  have hs : IntKind.u64.signed = false := rfl
  have hb : bits BinOp.xor IntKind.u64 IntKind.u64.max (t : Int) = ((18446744073709551615 - t : Nat) : Int) := by
    have := bits_xor_u64_nat 18446744073709551615 t (by omega) ht
    rw [show IntKind.u64.max = ((18446744073709551615 : Nat) : Int) by rfl, this]
    congr 1
    exact xor_all 64 t ht
  clear hT
  go_enter Tryd.func26, Tryd.ntmps26
  go_wp2_with fail
  refine (c0.out _ ((Below.refl _ _).alloc (Nat.le_refl _) _)).mono ?_
  rintro e w2 ⟨rfl, h2⟩
  obtain rfl : _ = w2 := h2.symm
  clear h2 c0 hb
  go_wp2
  go_ret
  exact ⟨rfl, (Below.refl _ _).alloc (Nat.le_refl _) _⟩

theorem wrap_nat (n : Nat) (h : n < 18446744073709551616) : IntKind.u64.wrap (n : Int) = (n : Int) := by rw [IntKind.wrap_u64]; omega
theorem half_add (a k : Nat) (m : Nat) (ha : a < 18446744073709551616) (hm : m < 18446744073709551616) (hs : (a / k &&& m) + (a &&& m) < 18446744073709551616) :
    IntKind.u64.wrap (bits BinOp.and IntKind.u64 ((a : Int) / (k : Int)) (m : Int) + bits BinOp.and IntKind.u64 (a : Int) (m : Int)) = (((a / k &&& m) + (a &&& m) : Nat) : Int) := by
  rw [← Int.natCast_ediv, bits_and_u64_nat (a / k) m (Nat.lt_of_le_of_lt (Nat.div_le_self _ _) ha) hm, bits_and_u64_nat a m ha hm, ← Int.natCast_add, wrap_nat _ hs]
theorem and127 (u : Nat) (hu : u < 9223372036854775808) : bits BinOp.and IntKind.i64 (u : Int) 127 = ((u % 128 : Nat) : Int) := by
  have h1 : (BitVec.ofInt 64 (u : Int)).toNat = u := by rw [BitVec.ofInt_natCast, BitVec.toNat_ofNat]; exact Nat.mod_eq_of_lt (by omega)
  show IntKind.i64.wrap ((BitVec.ofInt 64 (u : Int) &&& BitVec.ofInt 64 127).toNat : Int) = _
  rw [BitVec.toNat_and, h1, show (BitVec.ofInt 64 127).toNat = 127 by rfl, show u &&& 127 = u % 128 from Nat.and_two_pow_sub_one_eq_mod u 7]
  simp [IntKind.wrap, IntKind.bits, IntKind.signed]
  omega
set_option maxHeartbeats 1000000 in
theorem ones_core (x x1 x2 x3 y z u v : Nat) (w : World)
    (k1 : IntKind.u64.wrap (bits BinOp.and IntKind.u64 ((x : Int) / 2) 6148914691236517205 + bits BinOp.and IntKind.u64 (x : Int) 6148914691236517205) = (x1 : Int))
    (k2 : IntKind.u64.wrap (bits BinOp.and IntKind.u64 ((x1 : Int) / 4) 3689348814741910323 + bits BinOp.and IntKind.u64 (x1 : Int) 3689348814741910323) = (x2 : Int))
    (k3 : bits BinOp.and IntKind.u64 (IntKind.u64.wrap ((x2 : Int) / 16 + (x2 : Int))) 1085102592571150095 = (x3 : Int))
    (k4 : IntKind.u64.wrap ((x3 : Int) + (x3 : Int) / 256) = (y : Int))
    (k5 : IntKind.u64.wrap ((y : Int) + (y : Int) / 65536) = (z : Int))
    (k6 : IntKind.u64.wrap ((z : Int) + (z : Int) / 4294967296) = (u : Int))
    (k8 : wrap64 (u : Int) = (u : Int)) (k7 : bits BinOp.and IntKind.i64 (u : Int) 127 = (v : Int)) :
    Calls Tryd.prog 29 #[.int .u64 x] w fun e w' => e = .returned (.int .i64 v) ∧ w' = w := by
  go_enter Tryd.func29, Tryd.ntmps29
  go_wp2
  go_ret
  exact ⟨rfl, rfl⟩
theorem ones_any (x : Nat) (hx : x < 18446744073709551616) (w : World) :
    Calls Tryd.prog 29 #[.int .u64 x] w fun e w' => e = .returned (.int .i64 (pop 64 x)) ∧ w' = w := by
  have h' : x < 256 ^ 8 := by simpa using hx
  obtain ⟨x1, e1⟩ : ∃ x1, x1 = st 85 2 8 x := ⟨_, rfl⟩
  obtain ⟨x2, e2⟩ : ∃ x2, x2 = st 51 4 8 x1 := ⟨_, rfl⟩
  obtain ⟨x3, e3⟩ : ∃ x3, x3 = (x2 / 16 + x2) &&& rep 15 8 := ⟨_, rfl⟩
  obtain ⟨y, e4⟩ : ∃ y, y = x3 + x3 / 256 := ⟨_, rfl⟩
  obtain ⟨z, e5⟩ : ∃ z, z = y + y / 65536 := ⟨_, rfl⟩
  obtain ⟨u, e6⟩ : ∃ u, u = z + z / 4294967296 := ⟨_, rfl⟩
  have b1 : x1 < 18446744073709551616 := by rw [e1, st1_by 8 x h']; have := by_lt (f := s1) (fun r hr => s1_lt ⟨r, hr⟩) 8 x; simpa using this
  have f2 : x2 = by_ (fun r => s2 (s1 r)) 8 x := by rw [e2, e1, st1_by 8 x h', st2_by 8 x h']
  have b2 : x2 < 18446744073709551616 := by rw [f2]; have := by_lt (f := fun r => s2 (s1 r)) (fun r hr => (s2_lt ⟨r, hr⟩).1) 8 x; simpa using this
  have b3 : x2 / 16 + x2 < 18446744073709551616 := by
    have := by_small 8 x
    rw [← f2] at this
    simp only [Nat.reducePow, Nat.reduceMul] at this
    omega
  have b5 := sums x h' x3 y z u (by rw [← f2]; exact e3) e4 e5 e6
  refine (ones_core x x1 x2 x3 y z u (pop 64 x) w ?_ ?_ ?_ ?_ ?_ ?_ ?_ ?_)
  · have := half_add x 2 6148914691236517205 hx (by omega) (by have := b1; rw [e1, st, rep85] at this; exact this)
    rw [e1, st, rep85]; exact this
  · have := half_add x1 4 3689348814741910323 b1 (by omega) (by have := b2; rw [e2, st, rep51] at this; exact this)
    rw [e2, st, rep51]; exact this
  · have e : ((x2 : Int) / 16 + (x2 : Int)) = ((x2 / 16 + x2 : Nat) : Int) := by omega
    rw [e, wrap_nat _ b3, e3, rep15]
    exact bits_and_u64_nat (x2 / 16 + x2) 1085102592571150095 b3 (by omega)
  · rw [show (x3 : Int) + (x3 : Int) / 256 = ((x3 + x3 / 256 : Nat) : Int) by omega, ← e4, wrap_nat _ b5.2.2]
  · rw [show (y : Int) + (y : Int) / 65536 = ((y + y / 65536 : Nat) : Int) by omega, ← e5, wrap_nat _ b5.2.1]
  · rw [show (z : Int) + (z : Int) / 4294967296 = ((z + z / 4294967296 : Nat) : Int) by omega, ← e6, wrap_nat _ (by have := b5.1; omega)]
  · have := b5.1
    unfold wrap64
    omega
  · rw [and127 u b5.1]
    rw [word_is x x1 x2 x3 y z u hx e1 e2 e3 e4 e5 e6]
set_option maxHeartbeats 1000000 in
theorem is_any (c : Int) (w : World) : Calls Tryd.prog 24 #[.int .i64 c] w fun e w' => e = .returned (.bool (decide (0 ≤ c ∧ c < 6))) ∧ w' = w := by
  by_cases h0 : 0 ≤ c
  · by_cases h1 : c < 6
    · rw [decide_eq_true ⟨h0, h1⟩]
      go_enter Tryd.func24, Tryd.ntmps24
      go_wp2
      go_ret
      exact ⟨rfl, rfl⟩
    · rw [decide_eq_false (by omega)]
      go_enter Tryd.func24, Tryd.ntmps24
      go_wp2
      go_ret
      exact ⟨rfl, rfl⟩
  · rw [decide_eq_false (by omega)]
    go_enter Tryd.func24, Tryd.ntmps24
    go_wp2
    go_ret
    exact ⟨rfl, rfl⟩
end Go.Proofs.YteeanaoglcpaaaaDoor
