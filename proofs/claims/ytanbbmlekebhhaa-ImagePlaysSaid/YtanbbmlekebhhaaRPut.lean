/- 'Put', 'number', 'ended'. -/
import Derived.Test.YtanbbmlekebhhaaRAdd
set_option linter.unusedVariables false
set_option linter.unusedSimpArgs false
namespace Go.Proofs.Ytanbbmlekebhhaa
open Go.RowKit Go.Deep Math

theorem It.good_mayBe (x : It) : x.good = mayBe (txt x.key).size (txt x.value).size x.ver := by
  rw [txt_size, txt_size]; rfl

theorem make_cap (n : Nat) (hn : n ≤ 1048576) (W : World) : (Instr.makeSlice 39 (.int .i64 0) (.int .i64 n)).run Try.prog W = .ok (.slice (some ⟨W.heap.size, 0, none⟩) 0 n) (W.alloc (.cells (zc n).toArray 5)) := by
  obtain ⟨i0, hi0, hp0⟩ := Option.map_eq_some_iff.1 info5
  simp only [Prod.mk.injEq] at hp0
  obtain ⟨hz0, hz1, hz2⟩ := hp0
  have h := run_make (P := Try.prog) W 39 5 i0 _ Try.underlying39 hi0 hz0 .i64 .i64 (0 : Int) (n : Int) (by omega) (by omega) (by rw [hz2]; omega) (by omega)
  rw [h]
  simp only [Int.toNat_natCast, Int.toNat_zero]
  refine congrArg (fun Z => Result.ok (Value.slice (some ⟨W.heap.size, 0, none⟩) 0 n) (W.alloc (Obj.cells Z 5))) ?_
  apply Array.ext'
  rw [hz1, Nat.mul_one, show (Value.int IntKind.u8 0).cells = #[Value.int IntKind.u8 0] from rfl, toList_madeCells_one]
  rfl

/-- The five cells of an item's box. -/
def Five (W : World) (N : Nat) (kb vb : ByteArray) (f e v : Int) : Prop := W.cell? ⟨N, 0, none⟩ = some (.string kb) ∧ W.cell? ⟨N, 1, none⟩ = some (.string vb) ∧ W.cell? ⟨N, 2, none⟩ = some (.int .u32 f) ∧ W.cell? ⟨N, 3, none⟩ = some (.int .i64 e) ∧ W.cell? ⟨N, 4, none⟩ = some (.int .u64 v)
/-- From the world a on, n blocks stand. -/
structure Aft (n : Nat) (a b : World) : Prop where
  below : Below n a b
  size : n ≤ b.heap.size
theorem Aft.then {n : Nat} {a b c : World} (h : Aft n a b) (k : Below b.heap.size b c) : Aft n a c := ⟨h.below.trans (k.mono h.size), Nat.le_trans h.size k.size⟩
theorem Aft.drew {n : Nat} {a b : World} (h : Aft n a b) : Aft n a b.drew := ⟨h.below.drew, h.size⟩
theorem Aft.alloc {n : Nat} {a b : World} (h : Aft n a b) (o : Obj) : Aft n a (b.alloc o) := h.then ((Below.refl _ _).alloc (Nat.le_refl _) o)
theorem Aft.keep {n : Nat} {a b c : World} {F : List Nat} (h : Aft n a b) (k : Keep F b c) (hF : ∀ g ∈ F, n ≤ g) : Aft n a c := ⟨h.below.trans (k.below hF h.size), Nat.le_trans h.size k.size⟩
theorem Aft.new (w : World) (o : Obj) : Aft (w.heap.size + 1) (w.alloc o) (w.alloc o) := ⟨Below.refl _ _, by rw [nblk_alloc]; exact Nat.le_refl _⟩
theorem Aft.old {w W : World} {o : Obj} (h : Aft (w.heap.size + 1) (w.alloc o) W) : Below w.heap.size w W := ((Below.refl _ _).alloc (Nat.le_refl _) o).trans (h.below.mono (by omega))
theorem five_new {w W : World} {kb vb : ByteArray} {f e v : Int} (h : Aft (w.heap.size + 1) (w.alloc (.cells #[.string kb, .string vb, .int .u32 f, .int .i64 e, .int .u64 v] 32)) W) : Five W w.heap.size kb vb f e v := by
  have b := (Blk.new w [.string kb, .string vb, .int .u32 f, .int .i64 e, .int .u64 v] 32).same (h.below.block w.heap.size (Nat.lt_succ_self _))
  exact ⟨b.cell rfl, b.cell rfl, b.cell rfl, b.cell rfl, b.cell rfl⟩

end Go.Proofs.Ytanbbmlekebhhaa
