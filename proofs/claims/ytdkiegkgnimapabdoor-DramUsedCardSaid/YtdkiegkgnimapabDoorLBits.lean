/- Trailing zeros, ones, a page's least place. -/
import Derived.Test.YtdkiegkgnimapabDoorChecked
import Derived.Test.YtdkiegkgnimapabDoorLMath
import Derived.Test.YtdkiegkgnimapabDoorMem
import Derived.Laws.Bits64b
import Derived.Lib.LaidTab
import Derived.Lib.AppendIntMem
import Derived.WalkSpells
import Derived.WalkLawsBesides
set_option linter.unusedVariables false
set_option linter.unusedSimpArgs false
namespace Go.Proofs.YtdkiegkgnimapabDoor.Slb
open Go.RowKit Go.Deep Math

/-- The table that the library's initialiser lays stands in its variable. -/
def Tab (w : World) : Prop := ∀ i, i < 64 → w.cell? ⟨0, i, none⟩ = some (.int .u8 ((Lib.deBruijn64tab.getD i 0 : Nat) : Int))
theorem Tab.of {w : World} (h : Lib.TabIs Tryd.prog w "math/bits.deBruijn64tab" .u8 (Lib.deBruijn64tab.map Int.ofNat)) : Tab w := fun i hi => by
  have := Lib.TabIs.cell h (g := 0) (by kernel_rfl) i (by simpa [Lib.deBruijn64tab] using hi)
  rw [this]
  congr 2
  rw [List.getD_eq_getElem?_getD, List.getElem?_map, List.getD_eq_getElem?_getD]
  rw [List.getElem?_eq_getElem (by simpa [Lib.deBruijn64tab] using hi)]
  rfl
theorem Tab.pos {w : World} (h : Tab w) : 0 < w.heap.size := block_lt_of_cell (h 0 (by omega))
theorem Tab.same {w w' : World} (h : Tab w) (e : w'.heap[0]? = w.heap[0]?) : Tab w' := fun i hi => (World.cell?_of_block e).trans (h i hi)
theorem Tab.later {w w' : World} (h : Tab w) (hb : Below w.heap.size w w') : Tab w' := h.same (hb.block 0 h.pos)
theorem Tab.keep {w w' : World} (h : Tab w) {F : List Nat} (k : Keep F w w') (hF : 0 ∉ F) : Tab w' := h.same (k.block 0 h.pos hF)
theorem Tab.ne {w : World} (h : Tab w) {s : Nat} {c : Int} (hc : w.cell? ⟨s, 0, none⟩ = some (.int .i64 c)) : s ≠ 0 := fun e => by
  subst e
  rw [h 0 (by omega)] at hc
  simp at hc

theorem tz_key (x a : Nat) (hx : x < 18446744073709551616) (hx0 : x ≠ 0) (hlow : x &&& (18446744073709551616 - x) = a) :
    IntKind.u64.wrap (bits BinOp.and IntKind.u64 (x : Int) (IntKind.u64.wrap (-(x : Int))) * 285870213051353865) / 288230376151711744 = ((a * 285870213051353865 % 18446744073709551616 / 288230376151711744 : Nat) : Int) := by
  have e1 : IntKind.u64.wrap (-(x : Int)) = ((18446744073709551616 - x : Nat) : Int) := by rw [IntKind.wrap_u64]; omega
  rw [e1, bits_and_u64_nat x _ hx (by omega), hlow, IntKind.wrap_u64]
  omega
set_option maxHeartbeats 1000000 in
theorem tz_core (x k idx : Nat) (w : World) (hx0 : ((x : Int) == 0) = false)
    (key : IntKind.u64.wrap (bits BinOp.and IntKind.u64 (x : Int) (IntKind.u64.wrap (-(x : Int))) * 285870213051353865) / 288230376151711744 = (idx : Int))
    (hi : idx < 64) (hk : k < 64) (hcell : w.cell? ⟨0, idx, none⟩ = some (.int .u8 k)) :
    Calls Tryd.prog 78 #[.int .u64 x] w fun e w' => e = .returned (.int .i64 k) ∧ w' = w := by
  go_enter Tryd.func78, Tryd.ntmps78
  go_wp2_with (simp only [key])
  go_ret
  exact ⟨rfl, rfl⟩
theorem tz_zero (w : World) : Calls Tryd.prog 78 #[.int .u64 0] w fun e w' => e = .returned (.int .i64 64) ∧ w' = w := by
  go_enter Tryd.func78, Tryd.ntmps78
  go_wp2
  go_ret
  exact ⟨rfl, rfl⟩
theorem tz_any (x : Nat) (hx : x < 18446744073709551616) (w : World) (hT : Tab w) :
    Calls Tryd.prog 78 #[.int .u64 x] w fun e w' => e = .returned (.int .i64 (Lib.ctz 64 x)) ∧ w' = w := by
  by_cases hx0 : x = 0
  · subst hx0
    exact tz_zero w
  · obtain ⟨hlow, hk⟩ := Lib.lowest_bit 64 x hx0 hx
    obtain ⟨hi, htab⟩ := Lib.deBruijn64_at _ hk
    have hcell := hT _ hi
    rw [htab] at hcell
    exact tz_core x _ _ w (by simp; omega) (tz_key x _ hx hx0 hlow) hi hk hcell

set_option maxHeartbeats 1000000 in
theorem least_any (c : Int) (t : Nat) (ht : t < 18446744073709551616) (w : World) (hT : Tab w) :
    Calls Tryd.prog 58 #[.agg #[.int .i64 c, .int .u64 t]] w fun e w' => e = .returned (.int .i64 (lz 64 t)) ∧ Below w.heap.size w w' := by
  have c0 : Hid (∀ W, Below w.heap.size w W → Calls Tryd.prog 78 #[.int .u64 ((18446744073709551615 - t : Nat) : Int)] W fun e w' => e = .returned (.int .i64 (lz 64 t)) ∧ w' = W) := fun W b => by
    have := tz_any (18446744073709551615 - t) (by omega) W (hT.later b)
    rw [show 18446744073709551615 - t = 2 ^ 64 - 1 - t from rfl, ctz_lz 64 t ht] at this
    exact this
  have hs : IntKind.u64.signed = false := rfl
  have hb : bits BinOp.xor IntKind.u64 IntKind.u64.max (t : Int) = ((18446744073709551615 - t : Nat) : Int) := by
    have := bits_xor_u64_nat 18446744073709551615 t (by omega) ht
    rw [show IntKind.u64.max = ((18446744073709551615 : Nat) : Int) by rfl, this]
    congr 1
    exact xor_all 64 t ht
  clear hT
  go_enter Tryd.func58, Tryd.ntmps58
  go_wp2_with fail
  refine (c0.out _ ((Below.refl _ _).alloc (Nat.le_refl _) _)).mono ?_
  rintro e w2 ⟨rfl, h2⟩
  obtain rfl : _ = w2 := h2.symm
  clear h2 c0 hb
  go_wp2
  go_ret
  exact ⟨rfl, (Below.refl _ _).alloc (Nat.le_refl _) _⟩

theorem wrap_nat (n : Nat) (h : n < 18446744073709551616) : IntKind.u64.wrap (n : Int) = (n : Int) := by rw [IntKind.wrap_u64]; omega
theorem half_add (a k : Nat) (m : Nat) (ha : a < 18446744073709551616) (hm : m < 18446744073709551616) (hs : (a / k &&& m) + (a &&& m) < 18446744073709551616) :
    IntKind.u64.wrap (bits BinOp.and IntKind.u64 ((a : Int) / (k : Int)) (m : Int) + bits BinOp.and IntKind.u64 (a : Int) (m : Int)) = (((a / k &&& m) + (a &&& m) : Nat) : Int) := by
  rw [← Int.natCast_ediv, bits_and_u64_nat (a / k) m (Nat.lt_of_le_of_lt (Nat.div_le_self _ _) ha) hm, bits_and_u64_nat a m ha hm, ← Int.natCast_add, wrap_nat _ hs]
theorem and127 (u : Nat) (hu : u < 9223372036854775808) : bits BinOp.and IntKind.i64 (u : Int) 127 = ((u % 128 : Nat) : Int) := by
  have h1 : (BitVec.ofInt 64 (u : Int)).toNat = u := by rw [BitVec.ofInt_natCast, BitVec.toNat_ofNat]; exact Nat.mod_eq_of_lt (by omega)
  show IntKind.i64.wrap ((BitVec.ofInt 64 (u : Int) &&& BitVec.ofInt 64 127).toNat : Int) = _
  rw [BitVec.toNat_and, h1, show (BitVec.ofInt 64 127).toNat = 127 by rfl, show u &&& 127 = u % 128 from Nat.and_two_pow_sub_one_eq_mod u 7]
  simp [IntKind.wrap, IntKind.bits, IntKind.signed]
  omega
set_option maxHeartbeats 1000000 in
theorem is_any (c : Int) (w : World) : Calls Tryd.prog 34 #[.int .i64 c] w fun e w' => e = .returned (.bool (decide (0 ≤ c ∧ c < 6))) ∧ w' = w := by
  by_cases h0 : 0 ≤ c
  · by_cases h1 : c < 6
    · rw [decide_eq_true ⟨h0, h1⟩]
      go_enter Tryd.func34, Tryd.ntmps34
      go_wp2
      go_ret
      exact ⟨rfl, rfl⟩
    · rw [decide_eq_false (by omega)]
      go_enter Tryd.func34, Tryd.ntmps34
      go_wp2
      go_ret
      exact ⟨rfl, rfl⟩
  · rw [decide_eq_false (by omega)]
    go_enter Tryd.func34, Tryd.ntmps34
    go_wp2
    go_ret
    exact ⟨rfl, rfl⟩
end Go.Proofs.YtdkiegkgnimapabDoor.Slb
