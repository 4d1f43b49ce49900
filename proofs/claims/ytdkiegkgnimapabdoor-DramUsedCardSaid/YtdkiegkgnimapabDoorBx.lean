/- Items and outs in boxes of their own. -/
import Derived.Test.YtdkiegkgnimapabDoorDc1
set_option linter.unusedVariables false
set_option linter.unusedSimpArgs false
set_option maxRecDepth 8000
namespace Go.Proofs.YtdkiegkgnimapabDoor
open Go.RowKit Go.Deep Drm
open Tbl (txt)

def put5 (w : World) (g : Nat) (k v : ByteArray) (f e n : Int) : World := ((((w.setCell ⟨g, 0, none⟩ (.string k)).setCell ⟨g, 1, none⟩ (.string v)).setCell ⟨g, 2, none⟩ (.int .u32 f)).setCell ⟨g, 3, none⟩ (.int .i64 e)).setCell ⟨g, 4, none⟩ (.int .u64 n)
def put6 (w : World) (g : Nat) (k v : ByteArray) (f e n : Int) (c : Bool) : World := (put5 w g k v f e n).setCell ⟨g, 5, none⟩ (.bool c)
def L5 (k v : ByteArray) (f e n : Int) : List Value := [.string k, .string v, .int .u32 f, .int .i64 e, .int .u64 n]
def L6 (k v : ByteArray) (f e n : Int) (c : Bool) : List Value := [.string k, .string v, .int .u32 f, .int .i64 e, .int .u64 n, .bool c]
section
variable {w : World} {g : Nat} {k v k' v' : ByteArray} {f e n f' e' n' : Int} {c c' : Bool}
theorem put5_keep {F : List Nat} {a : World} (h : Keep F a w) (hg : g ∈ F ∨ a.heap.size ≤ g) : Keep F a (put5 w g k v f e n) :=
  ((((h.setCell hg _).setCell hg _).setCell hg _).setCell hg _).setCell hg _
theorem put6_keep {F : List Nat} {a : World} (h : Keep F a w) (hg : g ∈ F ∨ a.heap.size ≤ g) : Keep F a (put6 w g k v f e n c) := (put5_keep h hg).setCell hg _
theorem put5_blk (h : Blk w g (L5 k' v' f' e' n') 33) : Blk (put5 w g k v f e n) g (L5 k v f e n) 33 := ((((h.set 0 _).set 1 _).set 2 _).set 3 _).set 4 _
theorem put6_blk (h : Blk w g (L6 k' v' f' e' n' c') 40) : Blk (put6 w g k v f e n c) g (L6 k v f e n c) 40 := (((((h.set 0 _).set 1 _).set 2 _).set 3 _).set 4 _).set 5 _
theorem cells5 {t : TypeId} (h : Blk w g (L5 k v f e n) t) :
    w.cell? ⟨g, 0, none⟩ = some (.string k) ∧ w.cell? ⟨g, 1, none⟩ = some (.string v) ∧ w.cell? ⟨g, 2, none⟩ = some (.int .u32 f) ∧ w.cell? ⟨g, 3, none⟩ = some (.int .i64 e) ∧ w.cell? ⟨g, 4, none⟩ = some (.int .u64 n) ∧
    w.frozen? ⟨g, 0, none⟩ = false ∧ w.frozen? ⟨g, 1, none⟩ = false ∧ w.frozen? ⟨g, 2, none⟩ = false ∧ w.frozen? ⟨g, 3, none⟩ = false ∧ w.frozen? ⟨g, 4, none⟩ = false :=
  ⟨h.cell rfl, h.cell rfl, h.cell rfl, h.cell rfl, h.cell rfl, h.frozen 0, h.frozen 1, h.frozen 2, h.frozen 3, h.frozen 4⟩
theorem cells6 {t : TypeId} (h : Blk w g (L6 k v f e n c) t) :
    w.cell? ⟨g, 0, none⟩ = some (.string k) ∧ w.cell? ⟨g, 1, none⟩ = some (.string v) ∧ w.cell? ⟨g, 2, none⟩ = some (.int .u32 f) ∧ w.cell? ⟨g, 3, none⟩ = some (.int .i64 e) ∧ w.cell? ⟨g, 4, none⟩ = some (.int .u64 n) ∧ w.cell? ⟨g, 5, none⟩ = some (.bool c) ∧
    w.frozen? ⟨g, 0, none⟩ = false ∧ w.frozen? ⟨g, 1, none⟩ = false ∧ w.frozen? ⟨g, 2, none⟩ = false ∧ w.frozen? ⟨g, 3, none⟩ = false ∧ w.frozen? ⟨g, 4, none⟩ = false ∧ w.frozen? ⟨g, 5, none⟩ = false :=
  ⟨h.cell rfl, h.cell rfl, h.cell rfl, h.cell rfl, h.cell rfl, h.cell rfl, h.frozen 0, h.frozen 1, h.frozen 2, h.frozen 3, h.frozen 4, h.frozen 5⟩
end
section
variable {w0 W W' : World} {c : Nat} {a : Ad} {pg : List Slb.Pg} {sg : Nat → Sgm.St} {n : Nat} {M : Int → Option Ou} {d : Dm}
/-- A box of its own is turned beside a cache. -/
theorem ML.box (h : ML w0 c a pg sg n M W) {g : Nat} {L : List Value} {t : TypeId} (hb : Blk W g L t) (ht : ours t = false) (hg : w0.heap.size ≤ g) (k : Keep [g] W W') : ML w0 c a pg sg n M W' :=
  h.beside k (fun x hx => by simp at hx; subst hx; exact ⟨hg, _, _, hb, ht⟩)
theorem DL.box (h : DL w0 c d W) {g : Nat} {L : List Value} {t : TypeId} (hb : Blk W g L t) (ht : ours t = false) (hg : w0.heap.size ≤ g) (k : Keep [g] W W') : DL w0 c d W' :=
  h.beside k (fun x hx => by simp at hx; subst hx; exact ⟨hg, _, _, hb, ht⟩)
/-- What was there and is not of this box stays. -/
theorem OffD.box {W0 : World} (h : OffD W0 W) {g : Nat} (hg : W0.heap.size ≤ g) (k : Keep [g] W W') : OffD W0 W' := ⟨Nat.le_trans h.1 k.size, fun b q t hq ht => by
  have hb := (Array.getElem?_eq_some_iff.1 hq).1
  exact (k.block b (Nat.lt_of_lt_of_le hb h.1) (fun hm => by simp at hm; omega)).trans (h.2 b q t hq ht)⟩
end
end Go.Proofs.YtdkiegkgnimapabDoor
