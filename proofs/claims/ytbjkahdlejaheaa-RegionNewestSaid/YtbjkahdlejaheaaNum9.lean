/- 'number', 'addNumber' of package region; rec's Put; 'laid'. -/
import Derived.Test.YtbjkahdlejaheaaRTakeS
import Derived.Test.YtbjkahdlejaheaaDevA
set_option linter.unusedVariables false
set_option linter.unusedSimpArgs false
set_option maxRecDepth 8000
namespace Go.Proofs.Ytbjkahdlejaheaa
open Go.RowKit Go.Deep Math

set_option maxHeartbeats 1000000 in
theorem number9 (a : Option Addr) (n cap : Nat) (l : List UInt8) (hn : n = l.length) (h8 : n ≤ 8) (w : World) (hr : Reads w a (ints l)) :
    Calls Try.prog 54 #[.slice a n cap] w fun e w' => e = .returned (.int .u64 (up l : Int)) ∧ w' = w := by
  have HR : Hid (Reads w a (ints l)) := hr
  have HN := hide hn
  clear hr hn
  go_enter Try.func54, Try.ntmps54
  go_wp2
  go_loop [3, 8] (fun t i => ∃ k m : Nat, k ≤ n ∧ i = .int .i64 k ∧ t = .int .u64 m ∧ Hid (m = up (l.take k))) (fun _ i => n - (intOf i).toNat)
  case atStart => exact ⟨0, 0, Nat.zero_le _, rfl, rfl, rfl⟩
  case round =>
    obtain ⟨k, m, hk, rfl, rfl, hm⟩ := hrel
    by_cases hlt : k < n
    · obtain ⟨b, off, rfl, hc⟩ := HR.out.1 k (by rw [ints_length, ← HN.out]; exact hlt)
      rw [ints_getD] at hc
      have HT := hide (take_snoc_byte l k (by rw [← HN.out]; exact hlt))
      have HL : Hid ((l.take k).length = k) := by show _ = _; rw [List.length_take, ← HN.out]; omega
      generalize l.getD k 0 = x at hc HT
      have hx1 : (x.toNat : Int) ≤ 255 := by have := x.toNat_lt; omega
      have OB : Hid (∀ y : Int, y = ((256 ^ k * x.toNat : Nat) : Int) → bits .or .u64 (m : Int) y = (up (l.take (k + 1)) : Int)) := fun y hy => by
        rw [hm.out, HT.out]
        exact or_byte (l.take k) x (by rw [HL.out]; omega) y (by rw [HL.out]; exact hy)
      clear HR
      rcases (show k = 0 ∨ k = 1 ∨ k = 2 ∨ k = 3 ∨ k = 4 ∨ k = 5 ∨ k = 6 ∨ k = 7 by omega) with rfl | rfl | rfl | rfl | rfl | rfl | rfl | rfl
      all_goals (
        try simp only [Nat.add_zero] at hc
        go_wp2
        go_round
        case rel => exact ⟨_, _, hlt, rfl, (by rw [OB.out _ (by first | omega | (rw [IntKind.wrap_u64]; omega))]), rfl⟩
        case measure => simp [intOf]; omega)
    · have hkn : Hid (k = n) := by unfold Hid; omega
      go_wp2
      go_ret
      exact ⟨ret_int (by rw [hm.out, hkn.out, HN.out, List.take_length]), rfl⟩

set_option maxHeartbeats 400000 in
/-- 'addNumber' into a row with room. -/
theorem addNumber9 (g r k nl cp : Nat) (l : List UInt8) (n : Nat) (hn : n < 18446744073709551616) (hk : k ≤ r) (hk8 : k ≤ 8) (hnl : nl = l.length) (hcp : cp = l.length + r) (hc63 : cp ≤ 9223372036854775807) (w : World) (h : Buf w g l r) :
    Calls Try.prog 64 #[.slice (some ⟨g, 0, none⟩) nl cp, .int .u64 n, .int .i64 k] w fun e w' => e = .returned (.slice (some ⟨g, 0, none⟩) (nl + k) cp) ∧ Buf w' g (l ++ low n k) (r - k) ∧ Keep [g] w w' := by
  have HB := hide h
  have HNL := hide hnl
  have HCP := hide hcp
  have HK := hide hk
  have HN := hide hn
  clear h hnl hcp hk hn hc63
  go_enter Try.func64, Try.ntmps64
  go_wp2_with fail
  go_loopg [0, 1, 8] k (fun kx s0 s1 s8 wr => ∃ i m : Nat, s8 = .int .i64 i ∧ s0 = .slice (some ⟨g, 0, none⟩) (nl + i) cp ∧ s1 = .int .u64 m ∧ i ≤ k ∧ k - i ≤ kx ∧ Hid (m = n / 256 ^ i ∧ Buf wr g (l ++ low n i) (r - i) ∧ Keep [g] w wr))
  case atStart => exact ⟨0, n, rfl, rfl, rfl, Nat.zero_le _, by omega, by simp, by simpa [low] using HB.out, Keep.refl _ _⟩
  case round =>
    obtain ⟨i, m, rfl, rfl, rfl, hik, hg, I⟩ := hrel
    by_cases hlt : i < k
    · have hlt2 : (i : Int) < (k : Int) := by omega
      obtain ⟨W, hr, hb, hkp⟩ := buf_one (nl := nl + i) (cp := cp) I.out.2.1 m ((m : Int) % 256) (by omega) (by have := HK.out; omega) (by rw [List.length_append, low_length, HNL.out]) (by rw [List.length_append, low_length, HCP.out]; have := HK.out; omega)
      have HR := hide hr
      have HW := hide hb
      have HKP := hide hkp
      clear hr hb hkp
      go_wp2_with (at_builtin; refine Lib.wpList_append_run _ rfl _ _ _ _ rfl _ _ rfl rfl _ _ HR.out ?_)
      go_roundg (k - (i + 1))
      case measure => omega
      case rel =>
        refine ⟨i + 1, m / 256, rfl, rfl, rfl, by omega, by omega, ?_, ?_, I.out.2.2.trans HKP.out (fun x hx => .inl hx)⟩
        · rw [I.out.1, Nat.div_div_eq_div_mul, Nat.pow_succ]
        · rw [low_snoc, ← I.out.1, ← List.append_assoc, show r - (i + 1) = r - i - 1 by omega]
          exact HW.out
    · obtain rfl : i = k := by omega
      have hlt2 : ¬ (i : Int) < (i : Int) := by omega
      go_wp2
      go_ret
      exact ⟨rfl, I.out.2.1, I.out.2.2⟩

theorem rput_bad (kb vb : ByteArray) (f e : Int) (v : Nat) (hg : mayBe kb.size vb.size v = false) (w : World) :
    Calls Try.prog 32 #[itV kb vb f e v] w fun r w' => r = .returned (.tuple #[.slice none 0 0, .int .i64 1]) ∧ Below w.heap.size w w' := by
  have cg := hide (good_any kb vb f e v)
  rw [hg] at cg
  unfold itV at cg ⊢
  clear hg
  go_enter Try.func32, Try.ntmps32
  go_wp2_with (go_at_call 44; refine (cg.out _).mono ?_; rintro r w1 ⟨rfl, b1⟩; have B1 := hide b1; clear b1)
  go_ret2
  exact ⟨rfl, ((Below.refl _ _).alloc (Nat.le_refl _) _).trans (B1.out.mono (by rw [nblk_alloc]; omega))⟩


set_option maxHeartbeats 1000000 in
theorem rput_ok (x : It) (hf : x.fits) (hg : x.good = true) (w : World) :
    Calls Try.prog 32 #[x.val] w fun e w' => ∃ g, e = .returned (.tuple #[.slice (some ⟨g, 0, none⟩) x.size x.size, .int .i64 0]) ∧ w.heap.size ≤ g ∧ Buf w' g x.enc 0 ∧ Below w.heap.size w w' := by
  have hgood := hg
  rw [x.good_mayBe] at hgood
  obtain ⟨g1, g2, g3, g4⟩ := x.good_iff.1 hg
  have hsz : x.size = 32 + x.key.length + x.value.length := rfl
  have cg := hide (good_any (txt x.key) (txt x.value) x.flags x.exp x.ver)
  rw [hgood] at cg
  have cs := hide (size_any (txt x.key) (txt x.value) x.flags x.exp x.ver (by rw [txt_size]; omega) (by rw [txt_size]; omega))
  have es : 32 + (txt x.key).size + (txt x.value).size = x.size := by rw [txt_size, txt_size]; rfl
  rw [es] at cs
  have ca : Hid (∀ (W : World) (g : Nat), Buf W g [] x.size → Calls Try.prog 45 #[.slice (some ⟨g, 0, none⟩) 0 x.size, x.val] W fun e w' => e = .returned (.slice (some ⟨g, 0, none⟩) x.size x.size) ∧ Buf w' g x.enc 0 ∧ Keep [g] W w') := fun W g hb => by
    refine (add_any g x.size 0 x.size [] x hf hg (Nat.le_refl _) rfl (by simp) (by omega) W hb).mono ?_
    rintro e w' ⟨rfl, h1, h2⟩
    refine ⟨by rw [Nat.zero_add], ?_, h2⟩
    rw [Nat.sub_self, List.nil_append] at h1
    exact h1
  have hmk := make_cap x.size (by omega)
  have ev : x.val = .agg #[.string (txt x.key), .string (txt x.value), .int .u32 x.flags, .int .i64 x.exp, .int .u64 x.ver] := rfl
  have HMK := hide hmk
  have sl63 : x.size ≤ 1048576 := by omega
  unfold itV at cg cs
  rw [ev] at ca ⊢
  generalize txt x.key = kb at *
  generalize txt x.value = vb at *
  generalize x.size = n at *
  generalize hZ : (zc n).toArray = Z at hmk
  have HZ := hide hZ
  clear hf hg hgood g1 g2 g3 g4 hsz es ev hZ
  have f5 := hide (fun W h => five_new (w := w) (W := W) (kb := kb) (vb := vb) (f := x.flags) (e := x.exp) (v := x.ver) h)
  go_enter Try.func32, Try.ntmps32
  go_wp2_with (go_at_call 44; refine (cg.out _).mono ?_; rintro r w1 ⟨rfl, b1⟩; have B1 := hide b1; clear b1)
  have A1 := hide ((Aft.new w (.cells #[.string kb, .string vb, .int .u32 x.flags, .int .i64 x.exp, .int .u64 x.ver] 36)).then B1.out)
  obtain ⟨z1, z2, z3, z4, z5⟩ := f5.out _ A1.out
  clear B1
  go_region_held (fun W => W.cell? ⟨w.heap.size, 0, none⟩ = some (.string kb) ∧ W.cell? ⟨w.heap.size, 1, none⟩ = some (.string vb) ∧ W.cell? ⟨w.heap.size, 2, none⟩ = some (.int .u32 x.flags) ∧ W.cell? ⟨w.heap.size, 3, none⟩ = some (.int .i64 x.exp) ∧ W.cell? ⟨w.heap.size, 4, none⟩ = some (.int .u64 x.ver))
    (first | exact f5.out _ A1.out.drew | exact f5.out _ A2.out | exact f5.out _ (A2.out.alloc _) | exact f5.out _ A4.out | go_keep)
    (first
      | (go_at_call 46; refine (cs.out _).mono ?_; rintro r w2 ⟨rfl, b2⟩; have A2 := hide (A1.out.drew.then b2); clear b2)
      | (go_at_call 45; refine (ca.out _ w2.heap.size ?_).mono ?_; (unfold Buf; rw [show bCells [] ++ zc n = zc n from rfl]; unfold Blk; rw [HZ.out]; exact blk_alloc_new _ _); rintro r w3 ⟨rfl, hb3, k3⟩; have HB3 := hide hb3; have A4 := hide ((A2.out.alloc (.cells Z 5)).keep k3 (fun g hg => by simp at hg; subst hg; exact A2.out.size)); clear hb3 k3))
  all_goals go_wp2
  all_goals (
    go_ret2
    exact ⟨w2.heap.size, rfl, Nat.le_trans (Nat.le_succ _) A2.out.size, HB3.out, A4.out.old⟩)

/-- A page's head: its place, how many bytes, the number. -/
def headR (at0 n len : Nat) : List UInt8 := [82, 71] ++ [UInt8.ofNat at0, 0] ++ low len 4 ++ low n 8
def pageR (at0 n : Nat) (b : List UInt8) : List UInt8 := headR at0 n b.length ++ b
theorem headR_length (at0 n len : Nat) : (headR at0 n len).length = 16 := by simp [headR, low_length]
theorem pageR_length (at0 n : Nat) (b : List UInt8) : (pageR at0 n b).length = 16 + b.length := by rw [pageR, List.length_append, headR_length]

structure LS (w W : World) (g : Nat) (cur : List UInt8) (r N : Nat) : Prop where
  buf : Buf W g cur r
  below : Below w.heap.size w W
  ng : w.heap.size ≤ g
  len : cur.length + r = N
theorem LS.num {w W : World} {g r N : Nat} {cur : List UInt8} (h : LS w W g cur r N) (n k m : Nat) (hm : m = cur.length) (hk : k ≤ 8) (hkr : k ≤ r) (hn : n < 18446744073709551616) (hN : N ≤ 400) :
    Calls Try.prog 64 #[.slice (some ⟨g, 0, none⟩) m N, .int .u64 n, .int .i64 k] W fun e w' => e = .returned (.slice (some ⟨g, 0, none⟩) (m + k) N) ∧ LS w w' g (cur ++ low n k) (r - k) N ∧ Keep [g] W w' := by
  have hl := h.len
  refine (addNumber9 g r k m N cur n hn hkr hk hm (by omega) (by omega) W h.buf).mono ?_
  rintro e w' ⟨he, hb, hkp⟩
  have hng := h.ng
  exact ⟨he, ⟨hb, h.below.trans (hkp.below (by simp; omega) h.below.size), hng, by rw [List.length_append, low_length]; omega⟩, hkp⟩
theorem LS.alloc {w W : World} {g r N : Nat} {cur : List UInt8} (h : LS w W g cur r N) (o : Obj) : LS w (W.alloc o) g cur r N :=
  ⟨by have := h.buf; unfold Buf at *; exact this.alloc _, h.below.alloc h.below.size _, h.ng, h.len⟩
theorem LS.start (w : World) (N : Nat) (Z : Array Value) (hZ : (zc N).toArray = Z) : LS w (w.alloc (.cells Z 5)) w.heap.size [] N N := by
  refine ⟨?_, (Below.refl _ _).alloc (Nat.le_refl _) _, Nat.le_refl _, by simp⟩
  unfold Buf
  rw [show bCells [] ++ zc N = zc N from rfl]
  unfold Blk
  rw [hZ]
  exact blk_alloc_new _ _
/-- An append of a source into the row. -/
theorem LS.app {w W : World} {g r N nl k : Nat} {cur M : List UInt8} {tx : TypeId} {x : Value} (h : LS w W g cur r N) (hs : Src Try.prog 1 tx x k (bCells M) W) (hk : k ≤ r) (hM : M.length = k) (hnl : nl = cur.length) (ty : TypeId) :
    ∃ W', (Builtin.append_ #[41, tx] ty #[.slice (some ⟨g, 0, none⟩) nl N, x]).run Try.prog W = .ok (.slice (some ⟨g, 0, none⟩) (nl + k) N) W' ∧ LS w W' g (cur ++ M) (r - k) N ∧ W'.heap.size = W.heap.size := by
  have hl := h.len
  obtain ⟨h1, h2⟩ := buf_append (nl := nl) (cp := N) h.buf hs hk hnl hl.symm ty
  have hkp : Keep [g] W (W.setCells g nl (bCells M)) := (Keep.refl _ _).setCells (.inl (by simp)) _ _
  have hng := h.ng
  exact ⟨_, h1, ⟨h2, h.below.trans (hkp.below (by simp; omega) h.below.size), hng, by rw [List.length_append]; omega⟩, size_setCells _ _ _ _⟩
/-- Bytes as a source. -/
theorem BS.src {w : World} {a : Option Addr} {n cap : Nat} {l : List UInt8} (h : BS w a n cap l) : Src Try.prog 1 41 (.slice a n cap) n (bCells l) w := by
  cases a with
  | none =>
    have h0 : n = 0 := by
      rcases Nat.eq_zero_or_pos n with h0 | h0
      · exact h0
      · obtain ⟨b, off, ha, _⟩ := h.cell 0 h0
        cases ha
    have hl := h.len
    rw [h0] at hl
    have : l = [] := List.eq_nil_of_length_eq_zero hl.symm
    subst this h0
    exact Src.ofNil w Try.underlying41 cap
  | some x =>
    refine Src.ofSlice w Try.underlying41 x n cap (bCells l) (by rw [bCells_length, h.len, Nat.mul_one]) ?_ (bCells_one l)
    intro j u hu
    have hj : j < n := by have := (List.getElem?_eq_some_iff.1 hu).1; rw [bCells_length, ← h.len] at this; exact this
    obtain ⟨b, off, ha, _, hc⟩ := h.cell j hj
    cases ha
    rw [Addr.add_lit, hc, ← hu]
    have hj2 : j < l.length := by rw [← h.len]; exact hj
    simp [bCells, List.getD_eq_getElem?_getD, List.getElem?_eq_getElem hj2]

set_option maxHeartbeats 1000000 in
theorem laid_any (at0 n : Nat) (hat : at0 < 4) (hn : n < 18446744073709551616) (a : Option Addr) (len cap : Nat) (l : List UInt8) (hlen : len ≤ 368) (w : World) (h : BS w a len cap l) :
    Calls Try.prog 51 #[.int .i64 at0, .int .u64 n, .slice a len cap] w fun e w' => e = .returned (.slice (some ⟨w.heap.size, 0, none⟩) (16 + len) (16 + len)) ∧ Buf w' w.heap.size (pageR at0 n l) 0 ∧ Below w.heap.size w w' := by
  obtain ⟨N, hN⟩ : ∃ N, N = 16 + len := ⟨_, rfl⟩
  have hN4 : N ≤ 400 := by omega
  have hmk := make_cap N (by omega) w
  rw [show (N : Int) = 16 + (len : Int) by omega] at hmk
  generalize hZ : (zc N).toArray = Z at hmk
  have hs1 : ∀ W, Src Try.prog 1 9 (.string ⟨#[82, 71]⟩) 2 (bCells [82, 71]) W := fun W => Src.ofString (P := Try.prog) W Try.underlying9 (txt [82, 71])
  obtain ⟨W1, hm, h1, hz1⟩ := (LS.start w N Z hZ).app (nl := 0) (hs1 _) (by omega) rfl rfl 41
  have hl := h.len
  have H := hide h
  have HR1 := hide hm
  have HN := hide hN
  have HN4 := hide hN4
  have HG := hide hn
  have HL := hide hl
  have H1 := hide h1
  have hat8 : IntKind.u8.wrap (at0 : Int) = (at0 : Int) := by rw [IntKind.wrap_u8]; omega
  have hwl : IntKind.u64.wrap (len : Int) = (len : Int) := by rw [IntKind.wrap_u64]; omega
  have h2 := h1.alloc (.cells #[.int .u8 (at0 : Int), .int .u8 0] 5)
  have hs2 : Src Try.prog 1 41 (.slice (some ⟨W1.heap.size, 0, none⟩) 2 2) 2 (bCells [UInt8.ofNat at0, 0]) (W1.alloc (.cells #[.int .u8 (at0 : Int), .int .u8 0] 5)) := by
    refine Src.ofSlice _ Try.underlying41 _ 2 2 _ rfl ?_ (bCells_one _)
    intro j u hu
    have hc := (Blk.new W1 [.int .u8 (at0 : Int), .int .u8 0] 5)
    rw [Addr.add_lit, Nat.zero_add]
    refine hc.cell ?_
    rw [← hu]
    have e : ((UInt8.ofNat at0).toNat : Int) = (at0 : Int) := by rw [UInt8.toNat_ofNat']; omega
    simp only [bCells, List.map_cons, List.map_nil, e]
    rfl
  obtain ⟨W2, hm2, h3, hz2⟩ := h2.app (nl := 2) hs2 (by omega) rfl rfl 41
  have HR2 := hide hm2
  have C1 := hide (h3.num len 4 4 rfl (by omega) (by omega) (by omega) hN4)
  rw [← hN]
  clear h h1 h2 h3 hs1 hs2 hl hN hN4 hn hZ hm hm2 hz1 hz2 H1
  go_enter Try.func51, Try.ntmps51
  go_wp2_with (first
    | (go_at_call 64; fail)
    | (at_builtin; first
      | refine Lib.wpList_append_run _ rfl _ _ _ _ rfl _ _ rfl rfl _ _ HR1.out ?_
      | refine Lib.wpList_append_run _ rfl _ _ _ _ rfl _ _ rfl rfl _ _ HR2.out ?_))
  refine C1.out.mono ?_
  rintro r W3 ⟨rfl, h4, _⟩
  have C2 := hide (h4.num n 8 8 (by simp [low_length]) (by omega) (by have := HN.out; omega) HG.out HN4.out)
  clear h4 C1 HR1 HR2
  go_wp2_with fail
  refine C2.out.mono ?_
  rintro r W4 ⟨rfl, h5, _⟩
  have hb := h5.below
  obtain ⟨W5, hm5, h6, hz6⟩ := h5.app (nl := 8 + 8) (H.out.later hb).src (by have := HN.out; omega) HL.out.symm (by simp [low_length]) 41
  have HR5 := hide hm5
  have H6 := hide h6
  clear h5 C2 hm5 h6 hz6 hb
  go_wp2_with (at_builtin; refine Lib.wpList_append_run _ rfl _ _ _ _ rfl _ _ rfl rfl _ _ HR5.out ?_)
  go_ret
  have hN := HN.out
  refine ⟨by rw [hN]; rfl, ?_, H6.out.below⟩
  have hb := H6.out.buf
  rw [show N - 2 - 2 - 4 - 8 - len = 0 by omega] at hb
  have e : ([] : List UInt8) ++ [82, 71] ++ [UInt8.ofNat at0, 0] ++ low len 4 ++ low n 8 ++ l = pageR at0 n l := by
    rw [HL.out]; simp [pageR, headR]
  rw [e] at hb
  exact hb
end Go.Proofs.Ytbjkahdlejaheaa
