/- 'Put', 'number', 'ended'. -/
import Derived.Test.YtlmfdibncpbmjaaAdd
set_option linter.unusedVariables false
set_option linter.unusedSimpArgs false
namespace Go.Proofs.Ytlmfdibncpbmjaa
open Go.RowKit Go.Deep Math

theorem It.good_mayBe (x : It) : x.good = mayBe (txt x.key).size (txt x.value).size x.ver := by
  rw [txt_size, txt_size]; rfl

set_option maxHeartbeats 400000 in
theorem put_bad (kb vb : ByteArray) (f e : Int) (v : Nat) (hg : mayBe kb.size vb.size v = false) (w : World) :
    Calls Try.prog 10 #[itV kb vb f e v] w fun r w' => r = .returned (.tuple #[.slice none 0 0, .int .i64 1]) ∧ Below w.heap.size w w' := by
  have cg := hide (good_any kb vb f e v)
  rw [hg] at cg
  unfold itV at cg ⊢
  clear hg
  go_enter Try.func10, Try.ntmps10
  go_wp2_with (go_at_call 15; refine (cg.out _).mono ?_; rintro r w1 ⟨rfl, b1⟩; have B1 := hide b1; clear b1)
  go_ret2
  exact ⟨rfl, ((Below.refl _ _).alloc (Nat.le_refl _) _).trans (B1.out.mono (by rw [nblk_alloc]; omega))⟩

theorem make_cap (n : Nat) (hn : n ≤ 1048576) (W : World) : (Instr.makeSlice 23 (.int .i64 0) (.int .i64 n)).run Try.prog W = .ok (.slice (some ⟨W.heap.size, 0, none⟩) 0 n) (W.alloc (.cells (zc n).toArray 5)) := by
  obtain ⟨i0, hi0, hp0⟩ := Option.map_eq_some_iff.1 info5
  simp only [Prod.mk.injEq] at hp0
  obtain ⟨hz0, hz1, hz2⟩ := hp0
  have h := run_make (P := Try.prog) W 23 5 i0 _ Try.underlying23 hi0 hz0 .i64 .i64 (0 : Int) (n : Int) (by omega) (by omega) (by rw [hz2]; omega) (by omega)
  rw [h]
  simp only [Int.toNat_natCast, Int.toNat_zero]
  congr 3
  apply Array.ext'
  rw [hz1, Nat.mul_one, show (Value.int IntKind.u8 0).cells = #[Value.int IntKind.u8 0] from rfl, toList_madeCells_one]
  rfl

/-- The five cells of an item's box. -/
def Five (W : World) (N : Nat) (kb vb : ByteArray) (f e v : Int) : Prop := W.cell? ⟨N, 0, none⟩ = some (.string kb) ∧ W.cell? ⟨N, 1, none⟩ = some (.string vb) ∧ W.cell? ⟨N, 2, none⟩ = some (.int .u32 f) ∧ W.cell? ⟨N, 3, none⟩ = some (.int .i64 e) ∧ W.cell? ⟨N, 4, none⟩ = some (.int .u64 v)
/-- From the world a on, n blocks stand. -/
structure Aft (n : Nat) (a b : World) : Prop where
  below : Below n a b
  size : n ≤ b.heap.size
theorem Aft.then {n : Nat} {a b c : World} (h : Aft n a b) (k : Below b.heap.size b c) : Aft n a c := ⟨h.below.trans (k.mono h.size), Nat.le_trans h.size k.size⟩
theorem Aft.drew {n : Nat} {a b : World} (h : Aft n a b) : Aft n a b.drew := ⟨h.below.drew, h.size⟩
theorem Aft.alloc {n : Nat} {a b : World} (h : Aft n a b) (o : Obj) : Aft n a (b.alloc o) := h.then ((Below.refl _ _).alloc (Nat.le_refl _) o)
theorem Aft.keep {n : Nat} {a b c : World} {F : List Nat} (h : Aft n a b) (k : Keep F b c) (hF : ∀ g ∈ F, n ≤ g) : Aft n a c := ⟨h.below.trans (k.below hF h.size), Nat.le_trans h.size k.size⟩
theorem Aft.new (w : World) (o : Obj) : Aft (w.heap.size + 1) (w.alloc o) (w.alloc o) := ⟨Below.refl _ _, by rw [nblk_alloc]; exact Nat.le_refl _⟩
theorem Aft.old {w W : World} {o : Obj} (h : Aft (w.heap.size + 1) (w.alloc o) W) : Below w.heap.size w W := ((Below.refl _ _).alloc (Nat.le_refl _) o).trans (h.below.mono (by omega))
theorem five_new {w W : World} {kb vb : ByteArray} {f e v : Int} (h : Aft (w.heap.size + 1) (w.alloc (.cells #[.string kb, .string vb, .int .u32 f, .int .i64 e, .int .u64 v] 30)) W) : Five W w.heap.size kb vb f e v := by
  have b := (Blk.new w [.string kb, .string vb, .int .u32 f, .int .i64 e, .int .u64 v] 30).same (h.below.block w.heap.size (Nat.lt_succ_self _))
  exact ⟨b.cell rfl, b.cell rfl, b.cell rfl, b.cell rfl, b.cell rfl⟩

set_option maxHeartbeats 1000000 in
theorem put_ok (x : It) (hf : x.fits) (hg : x.good = true) (w : World) :
    Calls Try.prog 10 #[x.val] w fun e w' => ∃ g, e = .returned (.tuple #[.slice (some ⟨g, 0, none⟩) x.size x.size, .int .i64 0]) ∧ w.heap.size ≤ g ∧ Buf w' g x.enc 0 ∧ Below w.heap.size w w' := by
  have hgood := hg
  rw [x.good_mayBe] at hgood
  obtain ⟨g1, g2, g3, g4⟩ := x.good_iff.1 hg
  have hsz : x.size = 32 + x.key.length + x.value.length := rfl
  have cg := hide (good_any (txt x.key) (txt x.value) x.flags x.exp x.ver)
  rw [hgood] at cg
  have cs := hide (size_any (txt x.key) (txt x.value) x.flags x.exp x.ver (by rw [txt_size]; omega) (by rw [txt_size]; omega))
  have es : 32 + (txt x.key).size + (txt x.value).size = x.size := by rw [txt_size, txt_size]; rfl
  rw [es] at cs
  have ca : Hid (∀ (W : World) (g : Nat), Buf W g [] x.size → Calls Try.prog 24 #[.slice (some ⟨g, 0, none⟩) 0 x.size, x.val] W fun e w' => e = .returned (.slice (some ⟨g, 0, none⟩) x.size x.size) ∧ Buf w' g x.enc 0 ∧ Keep [g] W w') := fun W g hb => by
    refine (add_any g x.size 0 x.size [] x hf hg (Nat.le_refl _) rfl (by simp) (by omega) W hb).mono ?_
    rintro e w' ⟨rfl, h1, h2⟩
    refine ⟨by rw [Nat.zero_add], ?_, h2⟩
    rw [Nat.sub_self, List.nil_append] at h1
    exact h1
  have hmk := make_cap x.size (by omega)
  have ev : x.val = .agg #[.string (txt x.key), .string (txt x.value), .int .u32 x.flags, .int .i64 x.exp, .int .u64 x.ver] := rfl
  have HMK := hide hmk
  have sl63 : x.size ≤ 1048576 := by omega
  unfold itV at cg cs
  rw [ev] at ca ⊢
  generalize txt x.key = kb at *
  generalize txt x.value = vb at *
  generalize x.size = n at *
  generalize hZ : (zc n).toArray = Z at hmk
  have HZ := hide hZ
  clear hf hg hgood g1 g2 g3 g4 hsz es ev hZ
  have f5 := hide (fun W h => five_new (w := w) (W := W) (kb := kb) (vb := vb) (f := x.flags) (e := x.exp) (v := x.ver) h)
  go_enter Try.func10, Try.ntmps10
  go_wp2_with (go_at_call 15; refine (cg.out _).mono ?_; rintro r w1 ⟨rfl, b1⟩; have B1 := hide b1; clear b1)
  have A1 := hide ((Aft.new w (.cells #[.string kb, .string vb, .int .u32 x.flags, .int .i64 x.exp, .int .u64 x.ver] 30)).then B1.out)
  obtain ⟨z1, z2, z3, z4, z5⟩ := f5.out _ A1.out
  clear B1
  go_region_held (fun W => W.cell? ⟨w.heap.size, 0, none⟩ = some (.string kb) ∧ W.cell? ⟨w.heap.size, 1, none⟩ = some (.string vb) ∧ W.cell? ⟨w.heap.size, 2, none⟩ = some (.int .u32 x.flags) ∧ W.cell? ⟨w.heap.size, 3, none⟩ = some (.int .i64 x.exp) ∧ W.cell? ⟨w.heap.size, 4, none⟩ = some (.int .u64 x.ver))
    (first | exact f5.out _ A1.out.drew | exact f5.out _ A2.out | exact f5.out _ (A2.out.alloc _) | exact f5.out _ A4.out | go_keep)
    (first
      | (go_at_call 17; refine (cs.out _).mono ?_; rintro r w2 ⟨rfl, b2⟩; have A2 := hide (A1.out.drew.then b2); clear b2)
      | (go_at_call 24; refine (ca.out _ w2.heap.size ?_).mono ?_; (unfold Buf; rw [show bCells [] ++ zc n = zc n from rfl]; unfold Blk; rw [HZ.out]; exact blk_alloc_new _ _); rintro r w3 ⟨rfl, hb3, k3⟩; have HB3 := hide hb3; have A4 := hide ((A2.out.alloc (.cells Z 5)).keep k3 (fun g hg => by simp at hg; subst hg; exact A2.out.size)); clear hb3 k3))
  all_goals go_wp2
  all_goals (
    go_ret2
    exact ⟨w2.heap.size, rfl, Nat.le_trans (Nat.le_succ _) A2.out.size, HB3.out, A4.out.old⟩)
end Go.Proofs.Ytlmfdibncpbmjaa
