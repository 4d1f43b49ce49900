/- 'addNumber', 'number'. -/
import Derived.Test.YtghdkicijdfpcaaRMem
import Derived.Laws.BitsAllLaws
set_option linter.unusedVariables false
set_option linter.unusedSimpArgs false
namespace Go.Proofs.Ytghdkicijdfpcaa
open Go.RowKit Go.Deep Go.ChangeShapes Go.WideShapes Math

/-- One byte more. -/
theorem buf_one {wr : World} {g r nl cp : Nat} {l : List UInt8} (h : Buf wr g l r) (m : Nat) (x : Int) (hx : x = ((m % 256 : Nat) : Int)) (hr : 1 ≤ r) (hnl : nl = l.length) (hcp : cp = l.length + r) :
    ∃ W, (Builtin.append_ #[41, 41] 41 #[.slice (some ⟨g, 0, none⟩) nl cp, .slice (some ⟨wr.heap.size, 0, none⟩) 1 1]).run Try.prog (wr.alloc (.cells #[.int .u8 x] 5)) = .ok (.slice (some ⟨g, 0, none⟩) (nl + 1) cp) W ∧ Buf W g (l ++ [UInt8.ofNat (m % 256)]) (r - 1) ∧ Keep [g] wr W := by
  have hb : bCells [UInt8.ofNat (m % 256)] = [.int .u8 x] := by
    simp only [bCells, List.map_cons, List.map_nil, UInt8.toNat_ofNat', hx]
    have : m % 256 % 2 ^ 8 = m % 256 := by omega
    rw [this]
  have hs : Src Try.prog 1 41 (.slice (some ⟨wr.heap.size, 0, none⟩) 1 1) 1 (bCells [UInt8.ofNat (m % 256)]) (wr.alloc (.cells #[.int .u8 x] 5)) := by
    refine Src.ofSlice _ Try.underlying41 _ _ _ _ (by rw [bCells_length]; rfl) (fun j u hj => ?_) (bCells_one _)
    rw [hb] at hj
    rw [Addr.add_lit, Nat.zero_add]
    exact (Blk.new wr [.int .u8 x] 5).cell hj
  have h1 : Buf (wr.alloc (.cells #[.int .u8 x] 5)) g l r := by unfold Buf at *; exact h.alloc _
  obtain ⟨r1, r2⟩ := buf_append h1 hs hr hnl hcp 41
  exact ⟨_, r1, r2, ((Keep.refl _ _).alloc _).setCells (.inl (by simp)) _ _⟩
set_option maxHeartbeats 400000 in
/-- 'addNumber' into a row with room. -/
theorem addNumber_any (g r k nl cp : Nat) (l : List UInt8) (n : Nat) (hn : n < 18446744073709551616) (hk : k ≤ r) (hk8 : k ≤ 8) (hnl : nl = l.length) (hcp : cp = l.length + r) (hc63 : cp ≤ 9223372036854775807) (w : World) (h : Buf w g l r) :
    Calls Try.prog 51 #[.slice (some ⟨g, 0, none⟩) nl cp, .int .u64 n, .int .i64 k] w fun e w' => e = .returned (.slice (some ⟨g, 0, none⟩) (nl + k) cp) ∧ Buf w' g (l ++ low n k) (r - k) ∧ Keep [g] w w' := by
  have HB := hide h
  have HNL := hide hnl
  have HCP := hide hcp
  have HK := hide hk
  have HN := hide hn
  clear h hnl hcp hk hn hc63
  go_enter Try.func51, Try.ntmps51
  go_wp2_with fail
  go_loopg [0, 1, 8] k (fun kx s0 s1 s8 wr => ∃ i m : Nat, s8 = .int .i64 i ∧ s0 = .slice (some ⟨g, 0, none⟩) (nl + i) cp ∧ s1 = .int .u64 m ∧ i ≤ k ∧ k - i ≤ kx ∧ Hid (m = n / 256 ^ i ∧ Buf wr g (l ++ low n i) (r - i) ∧ Keep [g] w wr))
  case atStart => exact ⟨0, n, rfl, rfl, rfl, Nat.zero_le _, by omega, by simp, by simpa [low] using HB.out, Keep.refl _ _⟩
  case round =>
    obtain ⟨i, m, rfl, rfl, rfl, hik, hg, I⟩ := hrel
    by_cases hlt : i < k
    · have hlt2 : (i : Int) < (k : Int) := by omega
      obtain ⟨W, hr, hb, hkp⟩ := buf_one (nl := nl + i) (cp := cp) I.out.2.1 m ((m : Int) % 256) (by omega) (by have := HK.out; omega) (by rw [List.length_append, low_length, HNL.out]) (by rw [List.length_append, low_length, HCP.out]; have := HK.out; omega)
      have HR := hide hr
      have HW := hide hb
      have HKP := hide hkp
      clear hr hb hkp
      go_wp2_with (at_builtin; refine Lib.wpList_append_run _ rfl _ _ _ _ rfl _ _ rfl rfl _ _ HR.out ?_)
      go_roundg (k - (i + 1))
      case measure => omega
      case rel =>
        refine ⟨i + 1, m / 256, rfl, rfl, rfl, by omega, by omega, ?_, ?_, I.out.2.2.trans HKP.out (fun x hx => .inl hx)⟩
        · rw [I.out.1, Nat.div_div_eq_div_mul, Nat.pow_succ]
        · rw [low_snoc, ← I.out.1, ← List.append_assoc, show r - (i + 1) = r - i - 1 by omega]
          exact HW.out
    · obtain rfl : i = k := by omega
      have hlt2 : ¬ (i : Int) < (i : Int) := by omega
      go_wp2
      go_ret
      exact ⟨rfl, I.out.2.1, I.out.2.2⟩
theorem make_cap (n : Nat) (hn : n ≤ 1048576) (W : World) : (Instr.makeSlice 41 (.int .i64 0) (.int .i64 n)).run Try.prog W = .ok (.slice (some ⟨W.heap.size, 0, none⟩) 0 n) (W.alloc (.cells (zc n).toArray 5)) := by
  obtain ⟨i0, hi0, hp0⟩ := Option.map_eq_some_iff.1 info5
  simp only [Prod.mk.injEq] at hp0
  obtain ⟨hz0, hz1, hz2⟩ := hp0
  have h := run_make (P := Try.prog) W 41 5 i0 _ Try.underlying41 hi0 hz0 .i64 .i64 (0 : Int) (n : Int) (by omega) (by omega) (by rw [hz2]; omega) (by omega)
  rw [h]
  simp only [Int.toNat_natCast, Int.toNat_zero]
  refine congrArg (fun Z => Result.ok (Value.slice (some ⟨W.heap.size, 0, none⟩) 0 n) (W.alloc (Obj.cells Z 5))) ?_
  apply Array.ext'
  rw [hz1, Nat.mul_one, show (Value.int IntKind.u8 0).cells = #[Value.int IntKind.u8 0] from rfl, toList_madeCells_one]
  rfl
/-- From the world a on, n blocks stand. -/
structure Aft (n : Nat) (a b : World) : Prop where
  below : Below n a b
  size : n ≤ b.heap.size
theorem Aft.then {n : Nat} {a b c : World} (h : Aft n a b) (k : Below b.heap.size b c) : Aft n a c := ⟨h.below.trans (k.mono h.size), Nat.le_trans h.size k.size⟩
theorem Aft.drew {n : Nat} {a b : World} (h : Aft n a b) : Aft n a b.drew := ⟨h.below.drew, h.size⟩
theorem Aft.alloc {n : Nat} {a b : World} (h : Aft n a b) (o : Obj) : Aft n a (b.alloc o) := h.then ((Below.refl _ _).alloc (Nat.le_refl _) o)
theorem Aft.keep {n : Nat} {a b c : World} {F : List Nat} (h : Aft n a b) (k : Keep F b c) (hF : ∀ g ∈ F, n ≤ g) : Aft n a c := ⟨h.below.trans (k.below hF h.size), Nat.le_trans h.size k.size⟩
theorem Aft.new (w : World) (o : Obj) : Aft (w.heap.size + 1) (w.alloc o) (w.alloc o) := ⟨Below.refl _ _, by rw [nblk_alloc]; exact Nat.le_refl _⟩
theorem Aft.old {w W : World} {o : Obj} (h : Aft (w.heap.size + 1) (w.alloc o) W) : Below w.heap.size w W := ((Below.refl _ _).alloc (Nat.le_refl _) o).trans (h.below.mono (by omega))
/-- One more byte: the bits lie apart. -/
theorem or_byte (l : List UInt8) (x : UInt8) (hk8 : l.length < 8) (y : Int) (hy : y = ((256 ^ l.length * x.toNat : Nat) : Int)) : bits .or .u64 (up l : Int) y = (up (l ++ [x]) : Int) := by
  have h1 := up_lt l
  have h2 := up_lt (l ++ [x])
  have hx := x.toNat_lt
  rw [up_snoc] at h2 ⊢
  have hp : 256 ^ (l ++ [x]).length ≤ 18446744073709551616 := by
    have : (256 : Nat) ^ (l ++ [x]).length ≤ 256 ^ 8 := Nat.pow_le_pow_right (by decide) (by simp; omega)
    exact this
  have e256 : 256 ^ l.length = 2 ^ (8 * l.length) := by rw [Nat.pow_mul]
  rw [hy, u64_or_nat _ _ (by omega) (by omega)]
  congr 1
  rw [e256] at h1 ⊢
  have h3 := Nat.shiftLeft_add_eq_or_of_lt h1 x.toNat
  rw [Nat.shiftLeft_eq] at h3
  rw [Nat.mul_comm (2 ^ (8 * l.length)), Nat.or_comm, ← h3, Nat.add_comm]
theorem ints_getD (l : List UInt8) (k : Nat) : (ints l).getD k 0 = ((l.getD k 0).toNat : Int) := by
  simp only [ints, List.getD_eq_getElem?_getD, List.getElem?_map]
  cases l[k]? <;> rfl
theorem take_snoc_byte (l : List UInt8) (k : Nat) (h : k < l.length) : l.take (k + 1) = l.take k ++ [l.getD k 0] := by
  rw [List.take_succ_eq_append_getElem h, List.getD_eq_getElem?_getD, List.getElem?_eq_getElem h]; rfl
set_option maxHeartbeats 1000000 in
theorem number_any (a : Option Addr) (n cap : Nat) (l : List UInt8) (hn : n = l.length) (h8 : n ≤ 8) (w : World) (hr : Reads w a (ints l)) :
    Calls Try.prog 49 #[.slice a n cap] w fun e w' => e = .returned (.int .u64 (up l : Int)) ∧ w' = w := by
  have HR : Hid (Reads w a (ints l)) := hr
  have HN := hide hn
  clear hr hn
  go_enter Try.func49, Try.ntmps49
  go_wp2
  go_loop [3, 8] (fun t i => ∃ k m : Nat, k ≤ n ∧ i = .int .i64 k ∧ t = .int .u64 m ∧ Hid (m = up (l.take k))) (fun _ i => n - (intOf i).toNat)
  case atStart => exact ⟨0, 0, Nat.zero_le _, rfl, rfl, rfl⟩
  case round =>
    obtain ⟨k, m, hk, rfl, rfl, hm⟩ := hrel
    by_cases hlt : k < n
    · obtain ⟨b, off, rfl, hc⟩ := HR.out.1 k (by rw [ints_length, ← HN.out]; exact hlt)
      rw [ints_getD] at hc
      have HT := hide (take_snoc_byte l k (by rw [← HN.out]; exact hlt))
      have HL : Hid ((l.take k).length = k) := by show _ = _; rw [List.length_take, ← HN.out]; omega
      generalize l.getD k 0 = x at hc HT
      have hx1 : (x.toNat : Int) ≤ 255 := by have := x.toNat_lt; omega
      have OB : Hid (∀ y : Int, y = ((256 ^ k * x.toNat : Nat) : Int) → bits .or .u64 (m : Int) y = (up (l.take (k + 1)) : Int)) := fun y hy => by
        rw [hm.out, HT.out]
        exact or_byte (l.take k) x (by rw [HL.out]; omega) y (by rw [HL.out]; exact hy)
      clear HR
      rcases (show k = 0 ∨ k = 1 ∨ k = 2 ∨ k = 3 ∨ k = 4 ∨ k = 5 ∨ k = 6 ∨ k = 7 by omega) with rfl | rfl | rfl | rfl | rfl | rfl | rfl | rfl
      all_goals (
        try simp only [Nat.add_zero] at hc
        go_wp2
        go_round
        case rel => exact ⟨_, _, hlt, rfl, (by rw [OB.out _ (by first | omega | (rw [IntKind.wrap_u64]; omega))]), rfl⟩
        case measure => simp [intOf]; omega)
    · have hkn : Hid (k = n) := by unfold Hid; omega
      go_wp2
      go_ret
      exact ⟨ret_int (by rw [hm.out, hkn.out, HN.out, List.take_length]), rfl⟩
end Go.Proofs.Ytghdkicijdfpcaa
