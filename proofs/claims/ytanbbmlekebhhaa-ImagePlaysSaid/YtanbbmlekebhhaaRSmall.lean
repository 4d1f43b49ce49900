/- The small calls: mayBe, Good, Size, of the code and of the document's own. -/
import Derived.Test.YtanbbmlekebhhaaRMem
set_option linter.unusedVariables false
set_option linter.unusedSimpArgs false
namespace Go.Proofs.Ytanbbmlekebhhaa
open Go.RowKit Go.Deep Math

set_option maxHeartbeats 400000 in
theorem mayBe_any (k v ver : Nat) (w : World) : Calls Try.prog 65 #[.int .i64 k, .int .i64 v, .int .u64 ver] w fun e w' => e = .returned (.bool (mayBe k v ver)) ∧ w' = w := by
  by_cases h1 : 1 ≤ k
  · have i1 : ((1 : Int) ≤ (k : Int)) = True := eq_true (by omega)
    by_cases h2 : k ≤ 250
    · have i2 : ((k : Int) ≤ 250) = True := eq_true (by omega)
      by_cases h3 : v ≤ 1024
      · have i3 : ((v : Int) ≤ 1024) = True := eq_true (by omega)
        by_cases h4 : 0 < ver
        · have i4 : (0 < ver) = True := eq_true h4
          have E : Hid (mayBe k v ver = true) := by simp [Hid, mayBe, h1, h2, h3, h4]
          clear h1 h2 h3 h4
          go_enter Try.func65, Try.ntmps65
          go_wp2
          go_ret
          exact ⟨by rw [E.out]; rfl, rfl⟩
        · have i4 : (0 < ver) = False := eq_false h4
          have E : Hid (mayBe k v ver = false) := by simp [Hid, mayBe, h4]
          clear h1 h2 h3 h4
          go_enter Try.func65, Try.ntmps65
          go_wp2
          go_ret
          exact ⟨by rw [E.out]; rfl, rfl⟩
      · have i3 : ((v : Int) ≤ 1024) = False := eq_false (by omega)
        have E : Hid (mayBe k v ver = false) := by simp [Hid, mayBe, h3]
        clear h1 h2 h3
        go_enter Try.func65, Try.ntmps65
        go_wp2
        go_ret
        exact ⟨by rw [E.out]; rfl, rfl⟩
    · have i2 : ((k : Int) ≤ 250) = False := eq_false (by omega)
      have E : Hid (mayBe k v ver = false) := by simp [Hid, mayBe, h2]
      clear h1 h2
      go_enter Try.func65, Try.ntmps65
      go_wp2
      go_ret
      exact ⟨by rw [E.out]; rfl, rfl⟩
  · have i1 : ((1 : Int) ≤ (k : Int)) = False := eq_false (by omega)
    have E : Hid (mayBe k v ver = false) := by simp [Hid, mayBe, h1]
    clear h1
    go_enter Try.func65, Try.ntmps65
    go_wp2
    go_ret
    exact ⟨by rw [E.out]; rfl, rfl⟩

/-- An item's value. -/
def itV (kb vb : ByteArray) (f e v : Int) : Value := .agg #[.string kb, .string vb, .int .u32 f, .int .i64 e, .int .u64 v]

set_option maxHeartbeats 400000 in
theorem good_any (kb vb : ByteArray) (f e : Int) (v : Nat) (w : World) : Calls Try.prog 53 #[itV kb vb f e v] w fun r w' => r = .returned (.bool (mayBe kb.size vb.size v)) ∧ Below w.heap.size w w' := by
  unfold itV
  have c := hide (mayBe_any kb.size vb.size v)
  generalize mayBe kb.size vb.size v = m at c
  go_enter Try.func53, Try.ntmps53
  go_wp2_with fail
  refine (c.out _).mono ?_
  rintro e w' ⟨rfl, rfl⟩
  go_wp2
  go_ret
  exact ⟨rfl, (Below.refl _ _).alloc (Nat.le_refl _) _⟩
set_option maxHeartbeats 400000 in
theorem size_any (kb vb : ByteArray) (f e v : Int) (hk : kb.size ≤ 140737488351232) (hv : vb.size ≤ 140737488351232) (w : World) : Calls Try.prog 54 #[itV kb vb f e v] w fun r w' => r = .returned (.int .i64 (32 + kb.size + vb.size : Nat)) ∧ Below w.heap.size w w' := by
  unfold itV
  go_enter Try.func54, Try.ntmps54
  go_wp2
  go_ret
  exact ⟨rfl, (Below.refl _ _).alloc (Nat.le_refl _) _⟩
set_option maxHeartbeats 400000 in
theorem refSize_any (kb vb : ByteArray) (f e v : Int) (hk : kb.size ≤ 140737488351232) (hv : vb.size ≤ 140737488351232) (w : World) : Calls Try.prog 20 #[itV kb vb f e v] w fun r w' => r = .returned (.int .i64 (32 + kb.size + vb.size : Nat)) ∧ Below w.heap.size w w' := by
  unfold itV
  go_enter Try.func20, Try.ntmps20
  go_wp2
  go_ret
  exact ⟨rfl, (Below.refl _ _).alloc (Nat.le_refl _) _⟩
set_option maxHeartbeats 400000 in
theorem refGood_any (kb vb : ByteArray) (f e : Int) (v : Nat) (w : World) : Calls Try.prog 19 #[itV kb vb f e v] w fun r w' => r = .returned (.bool (mayBe kb.size vb.size v)) ∧ Below w.heap.size w w' := by
  unfold itV
  generalize hk : kb.size = k
  generalize hv : vb.size = l
  by_cases h1 : 1 ≤ k
  · have i1 : ((1 : Int) ≤ (k : Int)) = True := eq_true (by omega)
    by_cases h2 : k ≤ 250
    · have i2 : ((k : Int) ≤ 250) = True := eq_true (by omega)
      by_cases h3 : l ≤ 1024
      · have i3 : ((l : Int) ≤ 1024) = True := eq_true (by omega)
        by_cases h4 : 0 < v
        · have i4 : (0 < v) = True := eq_true h4
          have E : Hid (mayBe k l v = true) := by simp [Hid, mayBe, h1, h2, h3, h4]
          clear h1 h2 h3 h4
          go_enter Try.func19, Try.ntmps19
          go_wp2
          go_ret
          exact ⟨by rw [E.out]; rfl, (Below.refl _ _).alloc (Nat.le_refl _) _⟩
        · have i4 : (0 < v) = False := eq_false h4
          have E : Hid (mayBe k l v = false) := by simp [Hid, mayBe, h4]
          clear h1 h2 h3 h4
          go_enter Try.func19, Try.ntmps19
          go_wp2
          go_ret
          exact ⟨by rw [E.out]; rfl, (Below.refl _ _).alloc (Nat.le_refl _) _⟩
      · have i3 : ((l : Int) ≤ 1024) = False := eq_false (by omega)
        have E : Hid (mayBe k l v = false) := by simp [Hid, mayBe, h3]
        clear h1 h2 h3
        go_enter Try.func19, Try.ntmps19
        go_wp2
        go_ret
        exact ⟨by rw [E.out]; rfl, (Below.refl _ _).alloc (Nat.le_refl _) _⟩
    · have i2 : ((k : Int) ≤ 250) = False := eq_false (by omega)
      have E : Hid (mayBe k l v = false) := by simp [Hid, mayBe, h2]
      clear h1 h2
      go_enter Try.func19, Try.ntmps19
      go_wp2
      go_ret
      exact ⟨by rw [E.out]; rfl, (Below.refl _ _).alloc (Nat.le_refl _) _⟩
  · have i1 : ((1 : Int) ≤ (k : Int)) = False := eq_false (by omega)
    have E : Hid (mayBe k l v = false) := by simp [Hid, mayBe, h1]
    clear h1
    go_enter Try.func19, Try.ntmps19
    go_wp2
    go_ret
    exact ⟨by rw [E.out]; rfl, (Below.refl _ _).alloc (Nat.le_refl _) _⟩

/-- One byte more. -/
theorem buf_one {wr : World} {g r nl cp : Nat} {l : List UInt8} (h : Buf wr g l r) (m : Nat) (x : Int) (hx : x = ((m % 256 : Nat) : Int)) (hr : 1 ≤ r) (hnl : nl = l.length) (hcp : cp = l.length + r) :
    ∃ W, (Builtin.append_ #[39, 39] 39 #[.slice (some ⟨g, 0, none⟩) nl cp, .slice (some ⟨wr.heap.size, 0, none⟩) 1 1]).run Try.prog (wr.alloc (.cells #[.int .u8 x] 5)) = .ok (.slice (some ⟨g, 0, none⟩) (nl + 1) cp) W ∧ Buf W g (l ++ [UInt8.ofNat (m % 256)]) (r - 1) ∧ Keep [g] wr W := by
  have hb : bCells [UInt8.ofNat (m % 256)] = [.int .u8 x] := by
    simp only [bCells, List.map_cons, List.map_nil, UInt8.toNat_ofNat', hx]
    have : m % 256 % 2 ^ 8 = m % 256 := by omega
    rw [this]
  have hs : Src Try.prog 1 39 (.slice (some ⟨wr.heap.size, 0, none⟩) 1 1) 1 (bCells [UInt8.ofNat (m % 256)]) (wr.alloc (.cells #[.int .u8 x] 5)) := by
    refine Src.ofSlice _ Try.underlying39 _ _ _ _ (by rw [bCells_length]; rfl) (fun j u hj => ?_) (bCells_one _)
    rw [hb] at hj
    rw [Addr.add_lit, Nat.zero_add]
    exact (Blk.new wr [.int .u8 x] 5).cell hj
  have h1 : Buf (wr.alloc (.cells #[.int .u8 x] 5)) g l r := by unfold Buf at *; exact h.alloc _
  obtain ⟨r1, r2⟩ := buf_append h1 hs hr hnl hcp 39
  exact ⟨_, r1, r2, ((Keep.refl _ _).alloc _).setCells (.inl (by simp)) _ _⟩

set_option maxHeartbeats 400000 in
/-- 'addNumber' into a row with room. -/
theorem addNumber_any (g r k nl cp : Nat) (l : List UInt8) (n : Nat) (hn : n < 18446744073709551616) (hk : k ≤ r) (hk8 : k ≤ 8) (hnl : nl = l.length) (hcp : cp = l.length + r) (hc63 : cp ≤ 9223372036854775807) (w : World) (h : Buf w g l r) :
    Calls Try.prog 76 #[.slice (some ⟨g, 0, none⟩) nl cp, .int .u64 n, .int .i64 k] w fun e w' => e = .returned (.slice (some ⟨g, 0, none⟩) (nl + k) cp) ∧ Buf w' g (l ++ low n k) (r - k) ∧ Keep [g] w w' := by
  have HB := hide h
  have HNL := hide hnl
  have HCP := hide hcp
  have HK := hide hk
  have HN := hide hn
  clear h hnl hcp hk hn hc63
  go_enter Try.func76, Try.ntmps76
  go_wp2_with fail
  go_loopg [0, 1, 8] k (fun kx s0 s1 s8 wr => ∃ i m : Nat, s8 = .int .i64 i ∧ s0 = .slice (some ⟨g, 0, none⟩) (nl + i) cp ∧ s1 = .int .u64 m ∧ i ≤ k ∧ k - i ≤ kx ∧ Hid (m = n / 256 ^ i ∧ Buf wr g (l ++ low n i) (r - i) ∧ Keep [g] w wr))
  case atStart => exact ⟨0, n, rfl, rfl, rfl, Nat.zero_le _, by omega, by simp, by simpa [low] using HB.out, Keep.refl _ _⟩
  case round =>
    obtain ⟨i, m, rfl, rfl, rfl, hik, hg, I⟩ := hrel
    by_cases hlt : i < k
    · have hlt2 : (i : Int) < (k : Int) := by omega
      obtain ⟨W, hr, hb, hkp⟩ := buf_one (nl := nl + i) (cp := cp) I.out.2.1 m ((m : Int) % 256) (by omega) (by have := HK.out; omega) (by rw [List.length_append, low_length, HNL.out]) (by rw [List.length_append, low_length, HCP.out]; have := HK.out; omega)
      have HR := hide hr
      have HW := hide hb
      have HKP := hide hkp
      clear hr hb hkp
      go_wp2_with (at_builtin; refine Lib.wpList_append_run _ rfl _ _ _ _ rfl _ _ rfl rfl _ _ HR.out ?_)
      go_roundg (k - (i + 1))
      case measure => omega
      case rel =>
        refine ⟨i + 1, m / 256, rfl, rfl, rfl, by omega, by omega, ?_, ?_, I.out.2.2.trans HKP.out (fun x hx => .inl hx)⟩
        · rw [I.out.1, Nat.div_div_eq_div_mul, Nat.pow_succ]
        · rw [low_snoc, ← I.out.1, ← List.append_assoc, show r - (i + 1) = r - i - 1 by omega]
          exact HW.out
    · obtain rfl : i = k := by omega
      have hlt2 : ¬ (i : Int) < (i : Int) := by omega
      go_wp2
      go_ret
      exact ⟨rfl, I.out.2.1, I.out.2.2⟩
end Go.Proofs.Ytanbbmlekebhhaa
