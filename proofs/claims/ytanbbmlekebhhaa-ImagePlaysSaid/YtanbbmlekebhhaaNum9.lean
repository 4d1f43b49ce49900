/- 'number', 'addNumber' of package region; rec's Put; 'laid'. -/
import Derived.Test.YtanbbmlekebhhaaRTakeS
import Derived.Test.YtanbbmlekebhhaaDevA
set_option linter.unusedVariables false
set_option linter.unusedSimpArgs false
set_option maxRecDepth 8000
namespace Go.Proofs.Ytanbbmlekebhhaa
open Go.RowKit Go.Deep Math

theorem rput_bad (kb vb : ByteArray) (f e : Int) (v : Nat) (hg : mayBe kb.size vb.size v = false) (w : World) :
    Calls Try.prog 56 #[itV kb vb f e v] w fun r w' => r = .returned (.tuple #[.slice none 0 0, .int .i64 1]) ∧ Below w.heap.size w w' := by
  have cg := hide (good_any kb vb f e v)
  rw [hg] at cg
  unfold itV at cg ⊢
  clear hg
  go_enter Try.func56, Try.ntmps56
  go_wp2_with (go_at_call 53; refine (cg.out _).mono ?_; rintro r w1 ⟨rfl, b1⟩; have B1 := hide b1; clear b1)
  go_ret2
  exact ⟨rfl, ((Below.refl _ _).alloc (Nat.le_refl _) _).trans (B1.out.mono (by rw [nblk_alloc]; omega))⟩


set_option maxHeartbeats 1000000 in
theorem rput_ok (x : It) (hf : x.fits) (hg : x.good = true) (w : World) :
    Calls Try.prog 56 #[x.val] w fun e w' => ∃ g, e = .returned (.tuple #[.slice (some ⟨g, 0, none⟩) x.size x.size, .int .i64 0]) ∧ w.heap.size ≤ g ∧ Buf w' g x.enc 0 ∧ Below w.heap.size w w' := by
  have hgood := hg
  rw [x.good_mayBe] at hgood
  obtain ⟨g1, g2, g3, g4⟩ := x.good_iff.1 hg
  have hsz : x.size = 32 + x.key.length + x.value.length := rfl
  have cg := hide (good_any (txt x.key) (txt x.value) x.flags x.exp x.ver)
  rw [hgood] at cg
  have cs := hide (size_any (txt x.key) (txt x.value) x.flags x.exp x.ver (by rw [txt_size]; omega) (by rw [txt_size]; omega))
  have es : 32 + (txt x.key).size + (txt x.value).size = x.size := by rw [txt_size, txt_size]; rfl
  rw [es] at cs
  have ca : Hid (∀ (W : World) (g : Nat), Buf W g [] x.size → Calls Try.prog 67 #[.slice (some ⟨g, 0, none⟩) 0 x.size, x.val] W fun e w' => e = .returned (.slice (some ⟨g, 0, none⟩) x.size x.size) ∧ Buf w' g x.enc 0 ∧ Keep [g] W w') := fun W g hb => by
    refine (add_any g x.size 0 x.size [] x hf hg (Nat.le_refl _) rfl (by simp) (by omega) W hb).mono ?_
    rintro e w' ⟨rfl, h1, h2⟩
    refine ⟨by rw [Nat.zero_add], ?_, h2⟩
    rw [Nat.sub_self, List.nil_append] at h1
    exact h1
  have hmk := make_cap x.size (by omega)
  have ev : x.val = .agg #[.string (txt x.key), .string (txt x.value), .int .u32 x.flags, .int .i64 x.exp, .int .u64 x.ver] := rfl
  have HMK := hide hmk
  have sl63 : x.size ≤ 1048576 := by omega
  unfold itV at cg cs
  rw [ev] at ca ⊢
  generalize txt x.key = kb at *
  generalize txt x.value = vb at *
  generalize x.size = n at *
  generalize hZ : (zc n).toArray = Z at hmk
  have HZ := hide hZ
  clear hf hg hgood g1 g2 g3 g4 hsz es ev hZ
  have f5 := hide (fun W h => five_new (w := w) (W := W) (kb := kb) (vb := vb) (f := x.flags) (e := x.exp) (v := x.ver) h)
  go_enter Try.func56, Try.ntmps56
  go_wp2_with (go_at_call 53; refine (cg.out _).mono ?_; rintro r w1 ⟨rfl, b1⟩; have B1 := hide b1; clear b1)
  have A1 := hide ((Aft.new w (.cells #[.string kb, .string vb, .int .u32 x.flags, .int .i64 x.exp, .int .u64 x.ver] 32)).then B1.out)
  obtain ⟨z1, z2, z3, z4, z5⟩ := f5.out _ A1.out
  clear B1
  go_region_held (fun W => W.cell? ⟨w.heap.size, 0, none⟩ = some (.string kb) ∧ W.cell? ⟨w.heap.size, 1, none⟩ = some (.string vb) ∧ W.cell? ⟨w.heap.size, 2, none⟩ = some (.int .u32 x.flags) ∧ W.cell? ⟨w.heap.size, 3, none⟩ = some (.int .i64 x.exp) ∧ W.cell? ⟨w.heap.size, 4, none⟩ = some (.int .u64 x.ver))
    (first | exact f5.out _ A1.out.drew | exact f5.out _ A2.out | exact f5.out _ (A2.out.alloc _) | exact f5.out _ A4.out | go_keep)
    (first
      | (go_at_call 54; refine (cs.out _).mono ?_; rintro r w2 ⟨rfl, b2⟩; have A2 := hide (A1.out.drew.then b2); clear b2)
      | (go_at_call 67; refine (ca.out _ w2.heap.size ?_).mono ?_; (unfold Buf; rw [show bCells [] ++ zc n = zc n from rfl]; unfold Blk; rw [HZ.out]; exact blk_alloc_new _ _); rintro r w3 ⟨rfl, hb3, k3⟩; have HB3 := hide hb3; have A4 := hide ((A2.out.alloc (.cells Z 5)).keep k3 (fun g hg => by simp at hg; subst hg; exact A2.out.size)); clear hb3 k3))
  all_goals go_wp2
  all_goals (
    go_ret2
    exact ⟨w2.heap.size, rfl, Nat.le_trans (Nat.le_succ _) A2.out.size, HB3.out, A4.out.old⟩)

/-- A page's head: its place, how many bytes, the number. -/
def headR (at0 n len : Nat) : List UInt8 := [82, 71] ++ [UInt8.ofNat at0, 0] ++ low len 4 ++ low n 8
def pageR (at0 n : Nat) (b : List UInt8) : List UInt8 := headR at0 n b.length ++ b
theorem headR_length (at0 n len : Nat) : (headR at0 n len).length = 16 := by simp [headR, low_length]
theorem pageR_length (at0 n : Nat) (b : List UInt8) : (pageR at0 n b).length = 16 + b.length := by rw [pageR, List.length_append, headR_length]

structure LS (w W : World) (g : Nat) (cur : List UInt8) (r N : Nat) : Prop where
  buf : Buf W g cur r
  below : Below w.heap.size w W
  ng : w.heap.size ≤ g
  len : cur.length + r = N
theorem LS.alloc {w W : World} {g r N : Nat} {cur : List UInt8} (h : LS w W g cur r N) (o : Obj) : LS w (W.alloc o) g cur r N :=
  ⟨by have := h.buf; unfold Buf at *; exact this.alloc _, h.below.alloc h.below.size _, h.ng, h.len⟩
theorem LS.start (w : World) (N : Nat) (Z : Array Value) (hZ : (zc N).toArray = Z) : LS w (w.alloc (.cells Z 5)) w.heap.size [] N N := by
  refine ⟨?_, (Below.refl _ _).alloc (Nat.le_refl _) _, Nat.le_refl _, by simp⟩
  unfold Buf
  rw [show bCells [] ++ zc N = zc N from rfl]
  unfold Blk
  rw [hZ]
  exact blk_alloc_new _ _
/-- An append of a source into the row. -/
theorem LS.app {w W : World} {g r N nl k : Nat} {cur M : List UInt8} {tx : TypeId} {x : Value} (h : LS w W g cur r N) (hs : Src Try.prog 1 tx x k (bCells M) W) (hk : k ≤ r) (hM : M.length = k) (hnl : nl = cur.length) (ty : TypeId) :
    ∃ W', (Builtin.append_ #[39, tx] ty #[.slice (some ⟨g, 0, none⟩) nl N, x]).run Try.prog W = .ok (.slice (some ⟨g, 0, none⟩) (nl + k) N) W' ∧ LS w W' g (cur ++ M) (r - k) N ∧ W'.heap.size = W.heap.size := by
  have hl := h.len
  obtain ⟨h1, h2⟩ := buf_append (nl := nl) (cp := N) h.buf hs hk hnl hl.symm ty
  have hkp : Keep [g] W (W.setCells g nl (bCells M)) := (Keep.refl _ _).setCells (.inl (by simp)) _ _
  have hng := h.ng
  exact ⟨_, h1, ⟨h2, h.below.trans (hkp.below (by simp; omega) h.below.size), hng, by rw [List.length_append]; omega⟩, size_setCells _ _ _ _⟩
/-- Bytes as a source. -/
theorem BS.src {w : World} {a : Option Addr} {n cap : Nat} {l : List UInt8} (h : BS w a n cap l) : Src Try.prog 1 39 (.slice a n cap) n (bCells l) w := by
  cases a with
  | none =>
    have h0 : n = 0 := by
      rcases Nat.eq_zero_or_pos n with h0 | h0
      · exact h0
      · obtain ⟨b, off, ha, _⟩ := h.cell 0 h0
        cases ha
    have hl := h.len
    rw [h0] at hl
    have : l = [] := List.eq_nil_of_length_eq_zero hl.symm
    subst this h0
    exact Src.ofNil w Try.underlying39 cap
  | some x =>
    refine Src.ofSlice w Try.underlying39 x n cap (bCells l) (by rw [bCells_length, h.len, Nat.mul_one]) ?_ (bCells_one l)
    intro j u hu
    have hj : j < n := by have := (List.getElem?_eq_some_iff.1 hu).1; rw [bCells_length, ← h.len] at this; exact this
    obtain ⟨b, off, ha, _, hc⟩ := h.cell j hj
    cases ha
    rw [Addr.add_lit, hc, ← hu]
    have hj2 : j < l.length := by rw [← h.len]; exact hj
    simp [bCells, List.getD_eq_getElem?_getD, List.getElem?_eq_getElem hj2]

end Go.Proofs.Ytanbbmlekebhhaa
