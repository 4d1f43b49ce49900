/- How memory that is kept is told; no program is named here. -/
import Derived.WalkKit
import Derived.Deep.Heap
import Derived.Laws.IdiomCopy
import Derived.Below
import Derived.IntWalk
set_option linter.unusedVariables false
set_option linter.unusedSimpArgs false
namespace Go.Proofs.YtdkiegkgnimapabDoor
open Go.RowKit Go.Deep

theorem hide {p : Prop} (h : p) : Hid p := h

/-- Block b is a row of these cells, none frozen. -/
def Blk (w : World) (b : Nat) (L : List Value) (t : TypeId) : Prop := w.heap[b]? = some (.cells L.toArray t (0, 0))

section
variable {w w' : World} {b : Nat} {L : List Value} {t : TypeId}
theorem Blk.lt (h : Blk w b L t) : b < w.heap.size := (Array.getElem?_eq_some_iff.1 h).1
theorem Blk.cell (h : Blk w b L t) {i : Nat} {v : Value} (hv : L[i]? = some v) : w.cell? ⟨b, i, none⟩ = some v := by
  unfold Blk at h
  simp [World.cell?, h, hv]
theorem Blk.frozen (h : Blk w b L t) (i : Nat) : w.frozen? ⟨b, i, none⟩ = false := by
  unfold Blk at h
  simp [World.frozen?, h]
theorem Blk.same (h : Blk w b L t) (e : w'.heap[b]? = w.heap[b]?) : Blk w' b L t := e.trans h
theorem Blk.set (h : Blk w b L t) (i : Nat) (v : Value) : Blk (w.setCell ⟨b, i, none⟩ v) b (L.set i v) t := by
  unfold Blk at *
  simp [World.setCell, Array.getElem?_modify, h]
theorem Blk.new (w : World) (L : List Value) (t : TypeId) : Blk (w.alloc (.cells L.toArray t)) w.heap.size L t := blk_alloc_new _ _
theorem Blk.other (h : Blk w b L t) {a : Addr} (ha : b ≠ a.block) (v : Value) : Blk (w.setCell a v) b L t := h.same (blk_setCell_other _ _ _ _ ha)
theorem Blk.alloc (h : Blk w b L t) (o : Obj) : Blk (w.alloc o) b L t := h.same (blk_alloc_lt _ _ _ h.lt)
end

theorem set_append_len (A : List Value) (v x : Value) (B : List Value) (i : Nat) (h : i = A.length) : (A ++ v :: B).set i x = A ++ x :: B := by
  subst h; simp

theorem heap_setCells_other (b : Nat) : ∀ (vs : List Value) (o : Nat) (w : World) (k : Nat), k ≠ b → (w.setCells b o vs).heap[k]? = w.heap[k]?
  | [], _, _, _, _ => rfl
  | v :: r, o, w, k, h => by rw [World.setCells, heap_setCells_other b r _ _ k h]; exact blk_setCell_other _ _ _ _ h
theorem size_setCells (b : Nat) : ∀ (vs : List Value) (o : Nat) (w : World), (w.setCells b o vs).heap.size = w.heap.size
  | [], _, _ => rfl
  | v :: r, o, w => by rw [World.setCells, size_setCells b r]; exact nblk_setCell _ _ _

/-- A run of stores into a row: what stood ahead, the new cells, what stands behind. -/
theorem Blk.sets {b : Nat} {t : TypeId} : ∀ (vs A M B : List Value) (w : World), M.length = vs.length → Blk w b (A ++ M ++ B) t → Blk (w.setCells b A.length vs) b (A ++ vs ++ B) t
  | [], A, [], B, w, _, h => h
  | v :: r, A, m :: M, B, w, hl, h => by
    have h1 := h.set A.length v
    rw [show A ++ m :: M ++ B = A ++ m :: (M ++ B) by simp, set_append_len A m v (M ++ B) _ rfl] at h1
    have ih := Blk.sets r (A ++ [v]) M B (w.setCell ⟨b, A.length, none⟩ v) (by simpa using hl) (by simpa using h1)
    rw [World.setCells]
    simpa using ih

/-- Outside the blocks F all is as it was. -/
structure Keep (F : List Nat) (w w' : World) : Prop where
  os : w'.os = w.os
  tape : w'.tape = w.tape
  output : w'.output = w.output
  size : w.heap.size ≤ w'.heap.size
  block : ∀ k, k < w.heap.size → k ∉ F → w'.heap[k]? = w.heap[k]?

theorem Keep.refl (F : List Nat) (w : World) : Keep F w w := ⟨rfl, rfl, rfl, Nat.le_refl _, fun _ _ _ => rfl⟩
theorem Keep.trans {F G : List Nat} {a b c : World} (h : Keep F a b) (k : Keep G b c) (hG : ∀ x ∈ G, x ∈ F ∨ a.heap.size ≤ x) : Keep F a c :=
  ⟨k.os.trans h.os, k.tape.trans h.tape, k.output.trans h.output, Nat.le_trans h.size k.size, fun i hi hn =>
    (k.block i (Nat.lt_of_lt_of_le hi h.size) (fun hg => by rcases hG i hg with h1 | h1; exact hn h1; omega)).trans (h.block i hi hn)⟩
theorem Keep.drew {F : List Nat} {a w : World} (h : Keep F a w) : Keep F a w.drew := ⟨h.os, h.tape, h.output, h.size, h.block⟩
theorem Keep.alloc {F : List Nat} {a w : World} (h : Keep F a w) (o : Obj) : Keep F a (w.alloc o) :=
  h.trans (G := []) ⟨rfl, rfl, rfl, by rw [nblk_alloc]; omega, fun k hk _ => blk_alloc_lt _ _ _ hk⟩ (fun x hx => by cases hx)
theorem Keep.setCell {F : List Nat} {a w : World} (h : Keep F a w) {p : Addr} (hp : p.block ∈ F ∨ a.heap.size ≤ p.block) (v : Value) : Keep F a (w.setCell p v) :=
  h.trans (G := [p.block]) ⟨rfl, rfl, rfl, by rw [nblk_setCell]; exact Nat.le_refl _, fun k hk hn => blk_setCell_other _ _ _ _ (fun e => hn (by simp [e]))⟩ (fun x hx => by simp at hx; subst hx; exact hp)
theorem Keep.setCells {F : List Nat} {a w : World} (h : Keep F a w) {b : Nat} (hp : b ∈ F ∨ a.heap.size ≤ b) (o : Nat) (vs : List Value) : Keep F a (w.setCells b o vs) := by
  induction vs generalizing w o with
  | nil => exact h
  | cons v r ih => rw [World.setCells]; exact ih (h.setCell hp v) _
theorem Keep.below {F : List Nat} {w w' : World} (h : Keep F w w') {B : Nat} (hF : ∀ k ∈ F, B ≤ k) (hB : B ≤ w.heap.size) : Below B w w' :=
  ⟨h.os, h.tape, h.output, h.size, fun k hk => h.block k (by omega) (fun hf => by have := hF k hf; omega)⟩
theorem Keep.of_below {F : List Nat} {w w' : World} (h : Below w.heap.size w w') : Keep F w w' := ⟨h.os, h.tape, h.output, h.size, fun k hk _ => h.block k hk⟩
theorem Keep.grown {F : List Nat} {a w w' : World} {row : Option Nat} (h : Keep F a w) (hg : w.grownBy w' row) (hr : ∀ k, row = some k → k ∈ F ∨ a.heap.size ≤ k) : Keep F a w' :=
  h.trans (G := row.toList) ⟨hg.os, hg.tape, hg.output, hg.size, fun k hk hn => hg.block k hk (fun e => hn (by simp [← e]))⟩ (fun x hx => hr x (by simpa using hx))
theorem Keep.mono {F G : List Nat} {w w' : World} (h : Keep F w w') (hs : ∀ k ∈ F, k ∈ G ∨ w.heap.size ≤ k) : Keep G w w' :=
  ⟨h.os, h.tape, h.output, h.size, fun k hk hn => h.block k hk (fun hf => by rcases hs k hf with h1 | h1; exact hn h1; omega)⟩

/-- The blocks F are turned; what stands for them then, F', is of them or new. -/
structure Moves (F F' : List Nat) (w w' : World) : Prop where
  keep : Keep F w w'
  foot : ∀ k ∈ F', k ∈ F ∨ w.heap.size ≤ k

theorem Moves.refl (F : List Nat) (w : World) : Moves F F w w := ⟨Keep.refl _ _, fun _ h => .inl h⟩
theorem Moves.trans {F G H : List Nat} {a b c : World} (h : Moves F G a b) (k : Moves G H b c) : Moves F H a c :=
  ⟨h.keep.trans k.keep h.foot, fun x hx => by
    rcases k.foot x hx with h1 | h1
    · exact h.foot x h1
    · exact .inr (Nat.le_trans h.keep.size h1)⟩
theorem Moves.of_keep {F : List Nat} {w w' : World} (h : Keep F w w') : Moves F F w w' := ⟨h, fun _ h => .inl h⟩

end Go.Proofs.YtdkiegkgnimapabDoor
