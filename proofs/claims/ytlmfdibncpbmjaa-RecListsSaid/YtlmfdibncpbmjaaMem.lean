/- Memory told by whole blocks; a row of bytes that is filled from the front. -/
import Derived.Test.YtlmfdibncpbmjaaChecked
import Derived.Test.YtlmfdibncpbmjaaIdeal
import Derived.Test.YtlmfdibncpbmjaaCrc
import Derived.WalkKit
import Derived.Deep.Heap
import Derived.Laws.IdiomCopy
import Derived.Deep.AppendSrc
import Derived.Below
import Derived.IntWalk
import Derived.WalkSmall
import Derived.Deep.QuietTactic
import Derived.BigQuiet
import Derived.Lib.AppendZeros
import Derived.Deep.LoopGhost
set_option linter.unusedVariables false
set_option linter.unusedSimpArgs false
namespace Go.Proofs.Ytlmfdibncpbmjaa
open Go.RowKit Go.Deep Math

theorem hide {p : Prop} (h : p) : Hid p := h

/-! ### Memory -/

/-- Block b is a row of these cells, none frozen. -/
def Blk (w : World) (b : Nat) (L : List Value) (t : TypeId) : Prop := w.heap[b]? = some (.cells L.toArray t (0, 0))

section
variable {w w' : World} {b : Nat} {L : List Value} {t : TypeId}
theorem Blk.lt (h : Blk w b L t) : b < w.heap.size := (Array.getElem?_eq_some_iff.1 h).1
theorem Blk.cell (h : Blk w b L t) {i : Nat} {v : Value} (hv : L[i]? = some v) : w.cell? ⟨b, i, none⟩ = some v := by
  unfold Blk at h
  simp [World.cell?, h, hv]
theorem Blk.frozen (h : Blk w b L t) (i : Nat) : w.frozen? ⟨b, i, none⟩ = false := by
  unfold Blk at h
  simp [World.frozen?, h]
theorem Blk.same (h : Blk w b L t) (e : w'.heap[b]? = w.heap[b]?) : Blk w' b L t := e.trans h
theorem Blk.set (h : Blk w b L t) (i : Nat) (v : Value) : Blk (w.setCell ⟨b, i, none⟩ v) b (L.set i v) t := by
  unfold Blk at *
  simp [World.setCell, Array.getElem?_modify, h]
theorem Blk.new (w : World) (L : List Value) (t : TypeId) : Blk (w.alloc (.cells L.toArray t)) w.heap.size L t := blk_alloc_new _ _
theorem Blk.other (h : Blk w b L t) {a : Addr} (ha : b ≠ a.block) (v : Value) : Blk (w.setCell a v) b L t := h.same (blk_setCell_other _ _ _ _ ha)
theorem Blk.alloc (h : Blk w b L t) (o : Obj) : Blk (w.alloc o) b L t := h.same (blk_alloc_lt _ _ _ h.lt)
end

theorem set_append_len (A : List Value) (v x : Value) (B : List Value) (i : Nat) (h : i = A.length) : (A ++ v :: B).set i x = A ++ x :: B := by
  subst h; simp

theorem heap_setCells_other (b : Nat) : ∀ (vs : List Value) (o : Nat) (w : World) (k : Nat), k ≠ b → (w.setCells b o vs).heap[k]? = w.heap[k]?
  | [], _, _, _, _ => rfl
  | v :: r, o, w, k, h => by rw [World.setCells, heap_setCells_other b r _ _ k h]; exact blk_setCell_other _ _ _ _ h
theorem size_setCells (b : Nat) : ∀ (vs : List Value) (o : Nat) (w : World), (w.setCells b o vs).heap.size = w.heap.size
  | [], _, _ => rfl
  | v :: r, o, w => by rw [World.setCells, size_setCells b r]; exact nblk_setCell _ _ _

/-- A run of stores into a row: what stood ahead, the new cells, what stands behind. -/
theorem Blk.sets {b : Nat} {t : TypeId} : ∀ (vs A M B : List Value) (w : World), M.length = vs.length → Blk w b (A ++ M ++ B) t → Blk (w.setCells b A.length vs) b (A ++ vs ++ B) t
  | [], A, [], B, w, _, h => h
  | v :: r, A, m :: M, B, w, hl, h => by
    have h1 := h.set A.length v
    rw [show A ++ m :: M ++ B = A ++ m :: (M ++ B) by simp, set_append_len A m v (M ++ B) _ rfl] at h1
    have ih := Blk.sets r (A ++ [v]) M B (w.setCell ⟨b, A.length, none⟩ v) (by simpa using hl) (by simpa using h1)
    rw [World.setCells]
    simpa using ih

/-- Outside the blocks F all is as it was. -/
structure Keep (F : List Nat) (w w' : World) : Prop where
  os : w'.os = w.os
  tape : w'.tape = w.tape
  output : w'.output = w.output
  size : w.heap.size ≤ w'.heap.size
  block : ∀ k, k < w.heap.size → k ∉ F → w'.heap[k]? = w.heap[k]?

theorem Keep.refl (F : List Nat) (w : World) : Keep F w w := ⟨rfl, rfl, rfl, Nat.le_refl _, fun _ _ _ => rfl⟩
theorem Keep.trans {F G : List Nat} {a b c : World} (h : Keep F a b) (k : Keep G b c) (hG : ∀ x ∈ G, x ∈ F ∨ a.heap.size ≤ x) : Keep F a c :=
  ⟨k.os.trans h.os, k.tape.trans h.tape, k.output.trans h.output, Nat.le_trans h.size k.size, fun i hi hn =>
    (k.block i (Nat.lt_of_lt_of_le hi h.size) (fun hg => by rcases hG i hg with h1 | h1; exact hn h1; omega)).trans (h.block i hi hn)⟩
theorem Keep.drew {F : List Nat} {a w : World} (h : Keep F a w) : Keep F a w.drew := ⟨h.os, h.tape, h.output, h.size, h.block⟩
theorem Keep.alloc {F : List Nat} {a w : World} (h : Keep F a w) (o : Obj) : Keep F a (w.alloc o) :=
  h.trans (G := []) ⟨rfl, rfl, rfl, by rw [nblk_alloc]; omega, fun k hk _ => blk_alloc_lt _ _ _ hk⟩ (fun x hx => by cases hx)
theorem Keep.setCell {F : List Nat} {a w : World} (h : Keep F a w) {p : Addr} (hp : p.block ∈ F ∨ a.heap.size ≤ p.block) (v : Value) : Keep F a (w.setCell p v) :=
  h.trans (G := [p.block]) ⟨rfl, rfl, rfl, by rw [nblk_setCell]; exact Nat.le_refl _, fun k hk hn => blk_setCell_other _ _ _ _ (fun e => hn (by simp [e]))⟩ (fun x hx => by simp at hx; subst hx; exact hp)
theorem Keep.setCells {F : List Nat} {a w : World} (h : Keep F a w) {b : Nat} (hp : b ∈ F ∨ a.heap.size ≤ b) (o : Nat) (vs : List Value) : Keep F a (w.setCells b o vs) := by
  induction vs generalizing w o with
  | nil => exact h
  | cons v r ih => rw [World.setCells]; exact ih (h.setCell hp v) _
theorem Keep.below {F : List Nat} {w w' : World} (h : Keep F w w') {B : Nat} (hF : ∀ k ∈ F, B ≤ k) (hB : B ≤ w.heap.size) : Below B w w' :=
  ⟨h.os, h.tape, h.output, h.size, fun k hk => h.block k (by omega) (fun hf => by have := hF k hf; omega)⟩
theorem Keep.of_below {F : List Nat} {w w' : World} (h : Below w.heap.size w w') : Keep F w w' := ⟨h.os, h.tape, h.output, h.size, fun k hk _ => h.block k hk⟩
theorem Keep.grown {F : List Nat} {a w w' : World} {row : Option Nat} (h : Keep F a w) (hg : w.grownBy w' row) (hr : ∀ k, row = some k → k ∈ F ∨ a.heap.size ≤ k) : Keep F a w' :=
  h.trans (G := row.toList) ⟨hg.os, hg.tape, hg.output, hg.size, fun k hk hn => hg.block k hk (fun e => hn (by simp [← e]))⟩ (fun x hx => hr x (by simpa using hx))
theorem Keep.mono {F G : List Nat} {w w' : World} (h : Keep F w w') (hs : ∀ k ∈ F, k ∈ G ∨ w.heap.size ≤ k) : Keep G w w' :=
  ⟨h.os, h.tape, h.output, h.size, fun k hk hn => h.block k hk (fun hf => by rcases hs k hf with h1 | h1; exact hn h1; omega)⟩

/-- The blocks F are turned; what stands for them then, F', is of them or new. -/
structure Moves (F F' : List Nat) (w w' : World) : Prop where
  keep : Keep F w w'
  foot : ∀ k ∈ F', k ∈ F ∨ w.heap.size ≤ k

theorem Moves.refl (F : List Nat) (w : World) : Moves F F w w := ⟨Keep.refl _ _, fun _ h => .inl h⟩
theorem Moves.trans {F G H : List Nat} {a b c : World} (h : Moves F G a b) (k : Moves G H b c) : Moves F H a c :=
  ⟨h.keep.trans k.keep h.foot, fun x hx => by
    rcases k.foot x hx with h1 | h1
    · exact h.foot x h1
    · exact .inr (Nat.le_trans h.keep.size h1)⟩
theorem Moves.of_keep {F : List Nat} {w w' : World} (h : Keep F w w') : Moves F F w w' := ⟨h, fun _ h => .inl h⟩

/-! ### Rows of elements of k cells -/
theorem flat_length {α : Type} (enc : α → List Value) (k : Nat) (hk : ∀ x, (enc x).length = k) : ∀ l : List α, (l.flatMap enc).length = l.length * k
  | [] => by simp
  | a :: r => by simp [flat_length enc k hk r, hk, Nat.add_mul]; omega

theorem flat_get {α : Type} (enc : α → List Value) (k : Nat) (hk : ∀ x, (enc x).length = k) (A : List α) (x : α) (B : List α) (j : Nat) (hj : j < k) :
    ((A ++ x :: B).flatMap enc)[A.length * k + j]? = (enc x)[j]? := by
  rw [List.flatMap_append, List.getElem?_append_right (by rw [flat_length enc k hk]; omega), flat_length enc k hk, List.flatMap_cons, show A.length * k + j - A.length * k = j by omega,
    List.getElem?_append_left (by rw [hk]; exact hj)]

theorem flat_getP {α : Type} (enc : α → List Value) (k : Nat) (hk : ∀ x, (enc x).length = k) (A : List α) (x : α) (B : List α) (pd : List Value) (j : Nat) (hj : j < k) :
    ((A ++ x :: B).flatMap enc ++ pd)[A.length * k + j]? = (enc x)[j]? := by
  have h := flat_get enc k hk A x B j hj
  rw [List.getElem?_append_left ?_]
  · exact h
  · rw [flat_length enc k hk]
    simp only [List.length_append, List.length_cons]
    rw [Nat.add_mul, Nat.add_mul]
    omega


def bCells (l : List UInt8) : List Value := l.map fun x => Value.int .u8 (x.toNat : Int)
theorem bCells_length (l : List UInt8) : (bCells l).length = l.length := by simp [bCells]
theorem bCells_append (a b : List UInt8) : bCells (a ++ b) = bCells a ++ bCells b := by simp [bCells]
def zc (r : Nat) : List Value := List.replicate r (.int .u8 0)

/-- Block g: the bytes l, and room for r more. -/
def Buf (w : World) (g : Nat) (l : List UInt8) (r : Nat) : Prop := Blk w g (bCells l ++ zc r) 5

theorem info5 : (Try.prog.info? 5).map (fun i => (i.zero, i.size, i.bytes)) = some (some (.int .u8 0), 1, 1) := by kernel_rfl

theorem bCells_one (l : List UInt8) : ∀ u ∈ bCells l, u.oneCell' = true := by
  intro u hu
  obtain ⟨_, _, rfl⟩ := List.mem_map.1 hu
  rfl

/-- An append that finds room. -/
theorem buf_append {V : World} {g r n nl cp : Nat} {l N : List UInt8} {tx : TypeId} {x : Value} (h : Buf V g l r) (hs : Src Try.prog 1 tx x n (bCells N) V) (hr : n ≤ r) (hnl : nl = l.length) (hcp : cp = l.length + r) (ty : TypeId) :
    (Builtin.append_ #[23, tx] ty #[.slice (some ⟨g, 0, none⟩) nl cp, x]).run Try.prog V = .ok (.slice (some ⟨g, 0, none⟩) (nl + n) cp) (V.setCells g nl (bCells N)) ∧ Buf (V.setCells g nl (bCells N)) g (l ++ N) (r - n) := by
  subst hnl hcp
  have hN : N.length = n := by have := hs.newsLen; rw [bCells_length, Nat.mul_one] at this; exact this
  obtain ⟨i0, hi0, hp0⟩ := Option.map_eq_some_iff.1 info5
  simp only [Prod.mk.injEq] at hp0
  obtain ⟨hz0, hz1, hz2⟩ := hp0
  have hcell : ∀ j, j < (bCells N).length → (V.cell? ⟨g, 0 + l.length * i0.size + j, none⟩).isSome = true := fun j hj => by
    rw [bCells_length] at hj
    have : 0 + l.length * i0.size + j < (bCells l ++ zc r).length := by rw [hz1, List.length_append, bCells_length]; simp [zc]; omega
    unfold Buf at h
    rw [h.cell (List.getElem?_eq_getElem this)]
    rfl
  have hr1 := run_append_room_src (P := Try.prog) V 23 tx ty 5 i0 Try.underlying23 hi0 g 0 l.length (l.length + r) x n (bCells N) (by rw [hz1]; exact hs) (by omega) hcell (fun j hj => by unfold Buf at h; exact h.frozen _)
  rw [hz1, Nat.mul_one, Nat.zero_add] at hr1
  refine ⟨hr1, ?_⟩
  have hz : zc r = zc n ++ zc (r - n) := by unfold zc; rw [List.replicate_append_replicate]; congr 1; omega
  unfold Buf at h ⊢
  rw [hz, ← List.append_assoc] at h
  have := Blk.sets (bCells N) (bCells l) (zc n) (zc (r - n)) V (by rw [bCells_length]; simp [zc, hN]) h
  rw [bCells_length] at this
  rw [bCells_append]
  exact this

theorem Buf.reads {w : World} {g r : Nat} {l : List UInt8} (h : Buf w g l r) (i : Nat) : Reads w (some ⟨g, i, none⟩) (ints (l.drop i)) := by
  refine ⟨fun j hj => ⟨g, i, rfl, ?_⟩, fun j => ?_⟩
  · rw [ints_length, List.length_drop] at hj
    unfold Buf at h
    refine h.cell ?_
    rw [List.getElem?_append_left (by rw [bCells_length]; omega)]
    have hi : i + j < l.length := by omega
    simp [bCells, ints, List.getElem?_drop, hi, List.getD_eq_getElem?_getD]
  · rw [List.getD_eq_getElem?_getD, ints, List.getElem?_map]
    cases (l.drop i)[j]? with
    | none => simp
    | some b => have := b.toNat_lt; simp; omega
end Go.Proofs.Ytlmfdibncpbmjaa
