/-
  Slices of bytes: parts of one, a byte of one's own copy changed.
-/
import Derived.Test.YtgfmonnjpphihaaBytes
import Derived.Test.YtgfmonnjpphihaaLin
import Derived.WalkSmall
namespace Go.Proofs.Ytgfmonnjpphihaa
open Go.RowKit Math

theorem Reads.drewN {w : World} {a : Option Addr} {l : List Int} (h : Reads w a l) (n : Nat) : Reads (w.drewN n) a l := h

/-- A slice's first n bytes. -/
theorem Reads.take {w : World} {a : Option Addr} {l : List Int} (h : Reads w a l) (n : Nat) : Reads w a (l.take n) := by
  refine ⟨fun i hi => ?_, fun i => ?_⟩
  · rw [List.length_take] at hi
    obtain ⟨b, off, e, hc⟩ := h.1 i (by omega)
    refine ⟨b, off, e, ?_⟩
    rw [hc, List.getD_eq_getElem?_getD, List.getD_eq_getElem?_getD, List.getElem?_take, if_pos (by omega)]
  · have := h.2 i
    rw [List.getD_eq_getElem?_getD] at this ⊢
    rw [List.getElem?_take]
    split
    · exact this
    · simp

/-- Where 'b[n:]' begins. -/
def tailAt (a : Option Addr) (n cap : Nat) : Option Addr := if cap = n then a else a.map (·.add n)
theorem Reads.drop {w : World} {a : Option Addr} {l : List Int} (h : Reads w a l) (n cap : Nat) (hc : l.length ≤ cap) : Reads w (tailAt a n cap) (l.drop n) := by
  refine ⟨fun i hi => ?_, fun i => ?_⟩
  · rw [List.length_drop] at hi
    obtain ⟨b, off, e, hcell⟩ := h.1 (n + i) (by omega)
    refine ⟨b, off + n, ?_, ?_⟩
    · unfold tailAt
      rw [if_neg (by omega), e]
      by_cases hn : n = 0
      · subst hn; simp [Addr.add]
      · simp [Addr.add, hn]
    · rw [Nat.add_assoc, hcell, List.getD_eq_getElem?_getD, List.getD_eq_getElem?_getD, List.getElem?_drop]
  · have := h.2 (n + i)
    rw [List.getD_eq_getElem?_getD] at this ⊢
    rw [List.getElem?_drop]
    exact this

/-- 'sum.Crc' of the first n bytes of a slice. -/
theorem crc_pre (a : Option Addr) (n cap : Nat) (l : List Int) (w : World) (hn : n ≤ l.length) (hm : n ≤ maxLen) (hr : Reads w a l) :
    Calls Try.prog 10 #[.slice a n cap] w fun e w' => e = .returned (.int .u32 (U (more 0#32 (l.take n)))) ∧ w' = w :=
  crc_at a n cap (l.take n) w (by rw [List.length_take]; omega) hm (hr.take n)

theorem run_slice_to (a : Option Addr) (len cap k : Nat) (hk : k ≤ cap) (w : World) :
    (Instr.slice 28 (.slice a len cap) none (some (.int .i64 (k : Int))) none).run Try.prog w = .ok (.slice a k cap) w := by
  obtain ⟨i, hi, hi2⟩ := Option.map_eq_some_iff.1 info5
  simp only [Prod.mk.injEq] at hi2
  have hE : Try.prog.elem 28 = 5 := by kernel_rfl
  rw [run_slice_h (P := Try.prog) (w := w) 28 a len cap (by rw [hE]; exact Try.underlying28) .i64 (k : Int) (by omega) (by omega)]
  simp [sizeOf, typeInfo, hE, hi, sliced, Addr.add, Result.andThen]
theorem run_slice_from (a : Option Addr) (len cap k : Nat) (hk : k ≤ len) (w : World) :
    (Instr.slice 28 (.slice a len cap) (some (.int .i64 (k : Int))) none none).run Try.prog w = .ok (.slice (tailAt a k cap) (len - k) (cap - k)) w := by
  obtain ⟨i, hi, hi2⟩ := Option.map_eq_some_iff.1 info5
  simp only [Prod.mk.injEq] at hi2
  have hE : Try.prog.elem 28 = 5 := by kernel_rfl
  rw [run_slice_l (P := Try.prog) (w := w) 28 a len cap (by rw [hE]; exact Try.underlying28) .i64 (k : Int) (by omega) (by omega)]
  simp [sizeOf, typeInfo, hE, hi, hi2.2.1, sliced, tailAt, Result.andThen]

/-- One byte of one's own row. -/
theorem own_byte {w : World} {base : Nat} {a : Option Addr} {n c : Nat} {l : List Int} (h : w.ownsRow base 5 1 (.slice a n c) n (l.map (Value.int .u8))) (p : Nat) (hp : p < l.length) :
    ∃ g, a = some ⟨g, 0, none⟩ ∧ base ≤ g ∧ w.cell? ⟨g, p, none⟩ = some (.int .u8 (l.getD p 0)) ∧ w.frozen? ⟨g, p, none⟩ = false ∧
      ∀ z, (w.setCell ⟨g, p, none⟩ (.int .u8 z)).ownsRow base 5 1 (.slice a n c) n ((l.set p z).map (Value.int .u8)) := by
  obtain ⟨h0, h⟩ := h
  have hn : l.length = n := by simpa using h0
  rcases h with ⟨e, rfl⟩ | ⟨g, cap, cur, e, hb, hg, h1, h2, h3, h4⟩
  · omega
  injection e with e1 e2 e3
  subst e1; subst e3
  simp only [Nat.mul_one] at h3 h4
  have h5 : cur.toList[p]? = some (Value.int .u8 (l.getD p 0)) := by
    have : (cur.toList.take n)[p]? = some (Value.int .u8 (l.getD p 0)) := by
      rw [h4, List.getElem?_map, List.getElem?_eq_getElem hp]
      simp [List.getD_eq_getElem?_getD, List.getElem?_eq_getElem hp]
    rw [List.getElem?_take] at this
    split at this
    · exact this
    · cases this
  refine ⟨g, rfl, hb, ?_, ?_, fun z => ⟨by simpa using hn, .inr ⟨g, c, cur.setIfInBounds p (.int .u8 z), rfl, hb, ?_, h1, h2, by simpa using h3, ?_⟩⟩⟩
  · simp [World.cell?, hg]
    rw [← Array.getElem?_toList]; exact h5
  · simp [World.frozen?, hg]
  · simp [World.setCell, Array.getElem?_modify, hg]
  · rw [Nat.mul_one, Array.toList_setIfInBounds, List.take_set, h4, List.map_set]

theorem byte_range {x : Int} (h : (Lit.int .u8 x).wf = true) : 0 ≤ x ∧ x ≤ 255 := by
  simp [Lit.wf] at h
  revert h
  simp [IntKind.min, IntKind.max, IntKind.bits, IntKind.signed]
theorem int_range {x : Int} (h : (Lit.int .i64 x).wf = true) : -9223372036854775808 ≤ x ∧ x ≤ 9223372036854775807 := by
  simp [Lit.wf] at h
  revert h
  simp [IntKind.min, IntKind.bits, IntKind.signed]

theorem set_range {l : List Int} (hl : ∀ i, 0 ≤ l.getD i 0 ∧ l.getD i 0 ≤ 255) (p : Nat) (z : Int) (h0 : 0 ≤ z) (h1 : z ≤ 255) : ∀ i, 0 ≤ (l.set p z).getD i 0 ∧ (l.set p z).getD i 0 ≤ 255 := by
  intro i
  have := hl i
  rw [List.getD_eq_getElem?_getD] at this ⊢
  rw [List.getElem?_set]
  split
  · split
    · exact ⟨h0, h1⟩
    · simp
  · exact this

/-- A byte changed changes the sum. -/
theorem more_set_ne (l : List Int) (p : Nat) (hp : p < l.length) (hl : ∀ i, 0 ≤ l.getD i 0 ∧ l.getD i 0 ≤ 255) (z : Int) (h0 : 0 ≤ z) (h1 : z ≤ 255) (hne : z ≠ l.getD p 0) :
    (U (more 0#32 (l.set p z)) != U (more 0#32 l)) = true := by
  rw [bne_iff_ne]
  intro e
  have e2 := more_inj_crc (U_inj e)
  have hs : l = l.take p ++ l.getD p 0 :: l.drop (p + 1) := by
    rw [List.getD_eq_getElem?_getD, List.getElem?_eq_getElem hp]; simp
  have hs2 : l.set p z = l.take p ++ z :: l.drop (p + 1) := List.set_eq_take_append_cons_drop ▸ by rw [if_pos hp]
  rw [hs2] at e2
  conv at e2 => rhs; rw [hs]
  exact hne (B_byte_inj h0 h1 (hl p).1 (hl p).2 (crc_one _ _ _ _ _ e2))

/-- One bit of a byte turned. -/
theorem bit_range (q : Nat) (hq : q < 8) : 0 < (2 : Int) ^ q % 256 ∧ (2 : Int) ^ q % 256 ≤ 255 := by
  have : q = 0 ∨ q = 1 ∨ q = 2 ∨ q = 3 ∨ q = 4 ∨ q = 5 ∨ q = 6 ∨ q = 7 := by omega
  rcases this with rfl | rfl | rfl | rfl | rfl | rfl | rfl | rfl <;> decide
theorem flip_byte (x y : Int) (x0 : 0 ≤ x) (x1 : x ≤ 255) (y0 : 0 < y) (y1 : y ≤ 255) : 0 ≤ bits .xor .u8 x y ∧ bits .xor .u8 x y ≤ 255 ∧ bits .xor .u8 x y ≠ x := by
  obtain ⟨hB, h0, h1⟩ := xor_byte x y x0 x1 (by omega) y1
  refine ⟨h0, h1, fun e => ?_⟩
  rw [e] at hB
  have hz : B y = 0#32 := by
    have := congrArg (fun v => B x ^^^ v) hB
    simp only [← BitVec.xor_assoc, BitVec.xor_self, BitVec.zero_xor] at this
    exact this.symm
  have := B_byte_zero y (by omega) y1 hz
  omega

end Go.Proofs.Ytgfmonnjpphihaa
