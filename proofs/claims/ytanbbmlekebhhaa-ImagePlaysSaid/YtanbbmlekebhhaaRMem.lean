/- Rows of bytes that are filled from the front. -/
import Derived.Test.YtanbbmlekebhhaaChecked
import Derived.Test.YtanbbmlekebhhaaRIdeal
import Derived.Test.YtanbbmlekebhhaaCrc
import Derived.Test.YtanbbmlekebhhaaIdeal
import Derived.WalkKit
import Derived.Deep.Heap
import Derived.Laws.IdiomCopy
import Derived.Deep.AppendSrc
import Derived.Below
import Derived.IntWalk
import Derived.WalkSmall
import Derived.Deep.QuietTactic
import Derived.BigQuiet
import Derived.Lib.AppendZeros
import Derived.Deep.LoopGhost
import Derived.ChangeSlices
import Derived.Deep.Slices
import Derived.SizedLaws
import Derived.Laws.AppendOwn
set_option linter.unusedVariables false
set_option linter.unusedSimpArgs false
namespace Go.Proofs.Ytanbbmlekebhhaa
open Go.RowKit Go.Deep Go.ChangeShapes Go.WideShapes Math

theorem hide {p : Prop} (h : p) : Hid p := h

/-! ### Memory -/
def bCells (l : List UInt8) : List Value := l.map fun x => Value.int .u8 (x.toNat : Int)
theorem bCells_length (l : List UInt8) : (bCells l).length = l.length := by simp [bCells]
theorem bCells_append (a b : List UInt8) : bCells (a ++ b) = bCells a ++ bCells b := by simp [bCells]
def zc (r : Nat) : List Value := List.replicate r (.int .u8 0)
/-- Block g: the bytes l, and room for r more. -/
def Buf (w : World) (g : Nat) (l : List UInt8) (r : Nat) : Prop := Blk w g (bCells l ++ zc r) 5
theorem info5 : (Try.prog.info? 5).map (fun i => (i.zero, i.size, i.bytes)) = some (some (.int .u8 0), 1, 1) := by kernel_rfl
theorem bCells_one (l : List UInt8) : ∀ u ∈ bCells l, u.oneCell' = true := by
  intro u hu
  obtain ⟨_, _, rfl⟩ := List.mem_map.1 hu
  rfl
/-- An append that finds room. -/
theorem buf_append {V : World} {g r n nl cp : Nat} {l N : List UInt8} {tx : TypeId} {x : Value} (h : Buf V g l r) (hs : Src Try.prog 1 tx x n (bCells N) V) (hr : n ≤ r) (hnl : nl = l.length) (hcp : cp = l.length + r) (ty : TypeId) :
    (Builtin.append_ #[39, tx] ty #[.slice (some ⟨g, 0, none⟩) nl cp, x]).run Try.prog V = .ok (.slice (some ⟨g, 0, none⟩) (nl + n) cp) (V.setCells g nl (bCells N)) ∧ Buf (V.setCells g nl (bCells N)) g (l ++ N) (r - n) := by
  subst hnl hcp
  have hN : N.length = n := by have := hs.newsLen; rw [bCells_length, Nat.mul_one] at this; exact this
  obtain ⟨i0, hi0, hp0⟩ := Option.map_eq_some_iff.1 info5
  simp only [Prod.mk.injEq] at hp0
  obtain ⟨hz0, hz1, hz2⟩ := hp0
  have hcell : ∀ j, j < (bCells N).length → (V.cell? ⟨g, 0 + l.length * i0.size + j, none⟩).isSome = true := fun j hj => by
    rw [bCells_length] at hj
    have : 0 + l.length * i0.size + j < (bCells l ++ zc r).length := by rw [hz1, List.length_append, bCells_length]; simp [zc]; omega
    unfold Buf at h
    rw [h.cell (List.getElem?_eq_getElem this)]
    rfl
  have hr1 := run_append_room_src (P := Try.prog) V 39 tx ty 5 i0 Try.underlying39 hi0 g 0 l.length (l.length + r) x n (bCells N) (by rw [hz1]; exact hs) (by omega) hcell (fun j hj => by unfold Buf at h; exact h.frozen _)
  rw [hz1, Nat.mul_one, Nat.zero_add] at hr1
  refine ⟨hr1, ?_⟩
  have hz : zc r = zc n ++ zc (r - n) := by unfold zc; rw [List.replicate_append_replicate, Nat.add_sub_of_le hr]
  unfold Buf at h ⊢
  rw [hz, ← List.append_assoc] at h
  have := Blk.sets (bCells N) (bCells l) (zc n) (zc (r - n)) V (by rw [bCells_length]; simp [zc, hN]) h
  rw [bCells_length] at this
  rw [bCells_append]
  exact this
theorem Buf.reads {w : World} {g r : Nat} {l : List UInt8} (h : Buf w g l r) (i : Nat) : Reads w (some ⟨g, i, none⟩) (ints (l.drop i)) := by
  refine ⟨fun j hj => ⟨g, i, rfl, ?_⟩, fun j => ?_⟩
  · rw [ints_length, List.length_drop] at hj
    unfold Buf at h
    refine h.cell ?_
    rw [List.getElem?_append_left (by rw [bCells_length]; omega)]
    have hi : i + j < l.length := by omega
    simp [bCells, ints, List.getElem?_drop, hi, List.getD_eq_getElem?_getD]
  · rw [List.getD_eq_getElem?_getD, ints, List.getElem?_map]
    cases (l.drop i)[j]? with
    | none => simp
    | some b => have := b.toNat_lt; simp; omega
end Go.Proofs.Ytanbbmlekebhhaa
