/- Texts joined. -/
import Derived.WalkKit
import Derived.Below
import Derived.Deep.Heap
import Derived.Laws.IdiomCopy
import Derived.IntWalk
import Derived.Test.YtmfjaehajdephabProg
import Derived.WalkSmall
import Derived.Lib.SmallJoins
import Derived.Laws.AppendOwn
import Derived.Handy
import Derived.Deep.QuietTactic
import Derived.BigQuiet
/-
  A command, without memory.
-/
namespace Go.Proofs.Ytmfjaehajdephab
open Go Go.RowKit

theorem hide {p : Prop} (h : p) : Hid p := h

structure Cm where
  what : ByteArray
  verb : ByteArray
  keys : List ByteArray
  data : ByteArray
  fl : Int
  ex : Int
  cs : Int
  y : Int
  wc : Bool
  wt : Bool
  dn : Bool
  q : Bool
abbrev cmV (c : Cm) (s : Value) : Value := .agg #[.string c.what, .string c.verb, s, .string c.data, .int .u32 c.fl, .int .i64 c.ex, .int .u64 c.cs, .int .u64 c.y, .bool c.wc, .bool c.wt, .bool c.dn, .bool c.q]
end Go.Proofs.Ytmfjaehajdephab

/- How memory that is kept is told; no program is named here. -/
set_option linter.unusedVariables false
set_option linter.unusedSimpArgs false
namespace Go.Proofs.Ytmfjaehajdephab
open Go.RowKit Go.Deep


/-- Block b is a row of these cells, none frozen. -/
def Blk (w : World) (b : Nat) (L : List Value) (t : TypeId) : Prop := w.heap[b]? = some (.cells L.toArray t (0, 0))

section
variable {w w' : World} {b : Nat} {L : List Value} {t : TypeId}
theorem Blk.lt (h : Blk w b L t) : b < w.heap.size := (Array.getElem?_eq_some_iff.1 h).1
theorem Blk.cell (h : Blk w b L t) {i : Nat} {v : Value} (hv : L[i]? = some v) : w.cell? ⟨b, i, none⟩ = some v := by
  unfold Blk at h
  simp [World.cell?, h, hv]
theorem Blk.frozen (h : Blk w b L t) (i : Nat) : w.frozen? ⟨b, i, none⟩ = false := by
  unfold Blk at h
  simp [World.frozen?, h]
theorem Blk.same (h : Blk w b L t) (e : w'.heap[b]? = w.heap[b]?) : Blk w' b L t := e.trans h
theorem Blk.set (h : Blk w b L t) (i : Nat) (v : Value) : Blk (w.setCell ⟨b, i, none⟩ v) b (L.set i v) t := by
  unfold Blk at *
  simp [World.setCell, Array.getElem?_modify, h]
theorem Blk.new (w : World) (L : List Value) (t : TypeId) : Blk (w.alloc (.cells L.toArray t)) w.heap.size L t := blk_alloc_new _ _
theorem Blk.other (h : Blk w b L t) {a : Addr} (ha : b ≠ a.block) (v : Value) : Blk (w.setCell a v) b L t := h.same (blk_setCell_other _ _ _ _ ha)
theorem Blk.alloc (h : Blk w b L t) (o : Obj) : Blk (w.alloc o) b L t := h.same (blk_alloc_lt _ _ _ h.lt)
end

theorem set_append_len (A : List Value) (v x : Value) (B : List Value) (i : Nat) (h : i = A.length) : (A ++ v :: B).set i x = A ++ x :: B := by
  subst h; simp

theorem heap_setCells_other (b : Nat) : ∀ (vs : List Value) (o : Nat) (w : World) (k : Nat), k ≠ b → (w.setCells b o vs).heap[k]? = w.heap[k]?
  | [], _, _, _, _ => rfl
  | v :: r, o, w, k, h => by rw [World.setCells, heap_setCells_other b r _ _ k h]; exact blk_setCell_other _ _ _ _ h
theorem size_setCells (b : Nat) : ∀ (vs : List Value) (o : Nat) (w : World), (w.setCells b o vs).heap.size = w.heap.size
  | [], _, _ => rfl
  | v :: r, o, w => by rw [World.setCells, size_setCells b r]; exact nblk_setCell _ _ _

/-- A run of stores into a row: what stood ahead, the new cells, what stands behind. -/
theorem Blk.sets {b : Nat} {t : TypeId} : ∀ (vs A M B : List Value) (w : World), M.length = vs.length → Blk w b (A ++ M ++ B) t → Blk (w.setCells b A.length vs) b (A ++ vs ++ B) t
  | [], A, [], B, w, _, h => h
  | v :: r, A, m :: M, B, w, hl, h => by
    have h1 := h.set A.length v
    rw [show A ++ m :: M ++ B = A ++ m :: (M ++ B) by simp, set_append_len A m v (M ++ B) _ rfl] at h1
    have ih := Blk.sets r (A ++ [v]) M B (w.setCell ⟨b, A.length, none⟩ v) (by simpa using hl) (by simpa using h1)
    rw [World.setCells]
    simpa using ih

/-- Outside the blocks F all is as it was. -/
structure Keep (F : List Nat) (w w' : World) : Prop where
  os : w'.os = w.os
  tape : w'.tape = w.tape
  output : w'.output = w.output
  size : w.heap.size ≤ w'.heap.size
  block : ∀ k, k < w.heap.size → k ∉ F → w'.heap[k]? = w.heap[k]?

theorem Keep.refl (F : List Nat) (w : World) : Keep F w w := ⟨rfl, rfl, rfl, Nat.le_refl _, fun _ _ _ => rfl⟩
theorem Keep.trans {F G : List Nat} {a b c : World} (h : Keep F a b) (k : Keep G b c) (hG : ∀ x ∈ G, x ∈ F ∨ a.heap.size ≤ x) : Keep F a c :=
  ⟨k.os.trans h.os, k.tape.trans h.tape, k.output.trans h.output, Nat.le_trans h.size k.size, fun i hi hn =>
    (k.block i (Nat.lt_of_lt_of_le hi h.size) (fun hg => by rcases hG i hg with h1 | h1; exact hn h1; omega)).trans (h.block i hi hn)⟩
theorem Keep.drew {F : List Nat} {a w : World} (h : Keep F a w) : Keep F a w.drew := ⟨h.os, h.tape, h.output, h.size, h.block⟩
theorem Keep.alloc {F : List Nat} {a w : World} (h : Keep F a w) (o : Obj) : Keep F a (w.alloc o) :=
  h.trans (G := []) ⟨rfl, rfl, rfl, by rw [nblk_alloc]; omega, fun k hk _ => blk_alloc_lt _ _ _ hk⟩ (fun x hx => by cases hx)
theorem Keep.setCell {F : List Nat} {a w : World} (h : Keep F a w) {p : Addr} (hp : p.block ∈ F ∨ a.heap.size ≤ p.block) (v : Value) : Keep F a (w.setCell p v) :=
  h.trans (G := [p.block]) ⟨rfl, rfl, rfl, by rw [nblk_setCell]; exact Nat.le_refl _, fun k hk hn => blk_setCell_other _ _ _ _ (fun e => hn (by simp [e]))⟩ (fun x hx => by simp at hx; subst hx; exact hp)
theorem Keep.setCells {F : List Nat} {a w : World} (h : Keep F a w) {b : Nat} (hp : b ∈ F ∨ a.heap.size ≤ b) (o : Nat) (vs : List Value) : Keep F a (w.setCells b o vs) := by
  induction vs generalizing w o with
  | nil => exact h
  | cons v r ih => rw [World.setCells]; exact ih (h.setCell hp v) _
theorem Keep.below {F : List Nat} {w w' : World} (h : Keep F w w') {B : Nat} (hF : ∀ k ∈ F, B ≤ k) (hB : B ≤ w.heap.size) : Below B w w' :=
  ⟨h.os, h.tape, h.output, h.size, fun k hk => h.block k (by omega) (fun hf => by have := hF k hf; omega)⟩
theorem Keep.of_below {F : List Nat} {w w' : World} (h : Below w.heap.size w w') : Keep F w w' := ⟨h.os, h.tape, h.output, h.size, fun k hk _ => h.block k hk⟩
theorem Keep.grown {F : List Nat} {a w w' : World} {row : Option Nat} (h : Keep F a w) (hg : w.grownBy w' row) (hr : ∀ k, row = some k → k ∈ F ∨ a.heap.size ≤ k) : Keep F a w' :=
  h.trans (G := row.toList) ⟨hg.os, hg.tape, hg.output, hg.size, fun k hk hn => hg.block k hk (fun e => hn (by simp [← e]))⟩ (fun x hx => hr x (by simpa using hx))
theorem Keep.mono {F G : List Nat} {w w' : World} (h : Keep F w w') (hs : ∀ k ∈ F, k ∈ G ∨ w.heap.size ≤ k) : Keep G w w' :=
  ⟨h.os, h.tape, h.output, h.size, fun k hk hn => h.block k hk (fun hf => by rcases hs k hf with h1 | h1; exact hn h1; omega)⟩

/-- The blocks F are turned; what stands for them then, F', is of them or new. -/
structure Moves (F F' : List Nat) (w w' : World) : Prop where
  keep : Keep F w w'
  foot : ∀ k ∈ F', k ∈ F ∨ w.heap.size ≤ k

theorem Moves.refl (F : List Nat) (w : World) : Moves F F w w := ⟨Keep.refl _ _, fun _ h => .inl h⟩
theorem Moves.trans {F G H : List Nat} {a b c : World} (h : Moves F G a b) (k : Moves G H b c) : Moves F H a c :=
  ⟨h.keep.trans k.keep h.foot, fun x hx => by
    rcases k.foot x hx with h1 | h1
    · exact h.foot x h1
    · exact .inr (Nat.le_trans h.keep.size h1)⟩
theorem Moves.of_keep {F : List Nat} {w w' : World} (h : Keep F w w') : Moves F F w w' := ⟨h, fun _ h => .inl h⟩

end Go.Proofs.Ytmfjaehajdephab

/-
  Slices of bytes, as they lie; parts of them; all of a queue.
-/
namespace Go.Proofs.Ytmfjaehajdephab
open Go.RowKit Go.Deep
set_option linter.unusedVariables false
set_option linter.unusedSimpArgs false
set_option maxRecDepth 1000000

def bC (l : List UInt8) : List Value := l.map fun x => .int .u8 (x.toNat : Int)
/-- A slice of bytes as it lies, with its list. -/
structure BS (w : World) (a : Option Addr) (n cap : Nat) (l : List UInt8) : Prop where
  len : n = l.length
  cap : n ≤ cap
  cell : ∀ i, i < n → ∃ b off, a = some ⟨b, off, none⟩ ∧ b < w.heap.size ∧ w.cell? ⟨b, off + i, none⟩ = some (.int .u8 ((l.getD i 0).toNat : Int))
theorem BS.nil {w : World} {a : Option Addr} {cap : Nat} : BS w a 0 cap [] := ⟨rfl, Nat.zero_le _, fun i hi => by omega⟩
theorem BS.keepF {w w' : World} {F : List Nat} {a : Option Addr} {n cap : Nat} {l : List UInt8} (h : BS w a n cap l) (hF : ∀ x, a = some x → x.block ∉ F) (k : Keep F w w') : BS w' a n cap l :=
  ⟨h.len, h.cap, fun i hi => by
    obtain ⟨b, off, ha, hb, hc⟩ := h.cell i hi
    exact ⟨b, off, ha, Nat.lt_of_lt_of_le hb k.size, (World.cell?_of_block (k.block b hb (hF _ ha))).trans hc⟩⟩
theorem BS.later {w w' : World} {a : Option Addr} {n cap : Nat} {l : List UInt8} (h : BS w a n cap l) (k : Below w.heap.size w w') : BS w' a n cap l :=
  ⟨h.len, h.cap, fun i hi => by
    obtain ⟨b, off, ha, hb, hc⟩ := h.cell i hi
    exact ⟨b, off, ha, Nat.lt_of_lt_of_le hb k.size, (World.cell?_of_block (k.block b hb)).trans hc⟩⟩
theorem BS.heap {w w' : World} {a : Option Addr} {n cap : Nat} {l : List UInt8} (h : BS w a n cap l) (e : w'.heap = w.heap) : BS w' a n cap l :=
  ⟨h.len, h.cap, fun i hi => by
    obtain ⟨b, off, ha, hb, hc⟩ := h.cell i hi
    exact ⟨b, off, ha, by rw [e]; exact hb, (World.cell?_of_block (by show w'.heap[b]? = w.heap[b]?; rw [e])).trans hc⟩⟩
/-- A part of it. -/
theorem BS.sub {w : World} {b off n cap : Nat} {l : List UInt8} (h : BS w (some ⟨b, off, none⟩) n cap l) (i j : Nat) (a : Option Addr) (c : Nat) (hij : i ≤ j) (hj : j ≤ n) (ha : i < j → a = some ⟨b, off + i, none⟩) (hc : j - i ≤ c) : BS w a (j - i) c ((l.take j).drop i) := by
  have hl := h.len
  refine ⟨by simp; omega, hc, fun k hk => ?_⟩
  obtain ⟨b', off', ha', hb, hcell⟩ := h.cell (i + k) (by omega)
  simp only [Option.some.injEq, Addr.mk.injEq, and_true] at ha'
  obtain ⟨rfl, rfl⟩ := ha'
  refine ⟨b, off + i, ha (by omega), hb, ?_⟩
  rw [Nat.add_assoc, hcell]
  congr 4
  simp only [List.getD_eq_getElem?_getD, List.getElem?_drop]
  rw [List.getElem?_take_of_lt (by omega)]
theorem own_bs {w : World} {base : Nat} {a : Option Addr} {n c : Nat} {l : List UInt8} (h : w.ownsRow base 5 1 (.slice a n c) n (bC l)) : BS w a n c l ∧ c ≤ 9223372036854775807 ∧ ((a = none ∧ c = 0) ∨ ∃ g, a = some ⟨g, 0, none⟩) := by
  have hl : n = l.length := by have := h.1; simp [bC] at this; omega
  rcases h.2 with ⟨hv, h0⟩ | ⟨g, cap, cur, hv, hb, hg, h1, h2, h3, h4⟩
  · simp only [Value.slice.injEq] at hv
    obtain ⟨rfl, rfl, rfl⟩ := hv
    exact ⟨⟨hl, Nat.le_refl _, fun i hi => by omega⟩, by omega, .inl ⟨rfl, rfl⟩⟩
  · simp only [Value.slice.injEq] at hv
    obtain ⟨rfl, _, rfl⟩ := hv
    refine ⟨⟨hl, h1, fun i hi => ⟨g, 0, rfl, (Array.getElem?_eq_some_iff.1 hg).1, ?_⟩⟩, h2, .inr ⟨g, rfl⟩⟩
    have e : (bC l)[i]? = some (.int .u8 ((l.getD i 0).toNat : Int)) := by simp [bC, List.getD_eq_getElem?_getD, List.getElem?_eq_getElem (show i < l.length by omega)]
    rw [← h4, List.getElem?_take_of_lt (by simp; omega), Array.getElem?_toList] at e
    rw [Nat.zero_add]
    simp [World.cell?, hg, e]
end Go.Proofs.Ytmfjaehajdephab

/-
  A queue: all that waits.
-/
namespace Go.Proofs.Ytmfjaehajdephab
open Go.RowKit Go.Deep
set_option linter.unusedVariables false
set_option linter.unusedSimpArgs false
set_option maxRecDepth 1000000

theorem run_tail (a : Option Addr) (n cap K : Nat) (ha : (a = none ∧ cap = 0) ∨ ∃ g, a = some ⟨g, 0, none⟩) (hk : K ≤ n) (hn : n ≤ cap) : ∃ (a' : Option Addr) (c' : Nat),
    (∀ X, (Instr.sliceAt 26 (.slice a n cap) (some (.int .i64 (K : Int))) none none).run Try.prog X = .ok (.slice a' (n - K) c') X) ∧ n - K ≤ c' ∧ (K < n → ∀ g, a = some ⟨g, 0, none⟩ → a' = some ⟨g, 0 + K, none⟩) ∧ (∀ x, a' = some x → ∃ y, a = some y ∧ x.block = y.block) ∧ (a' = none → a = none) ∧ (∀ x, a' = some x → x.spot = none) ∧ (a' = none → c' = 0) := by
  rcases ha with ⟨rfl, rfl⟩ | ⟨g, rfl⟩
  · obtain rfl : n = 0 := by omega
    obtain rfl : K = 0 := by omega
    exact ⟨none, 0, fun X => by simp [go_sem], by omega, fun h => by omega, fun x hx => (by cases hx), fun _ => rfl, fun x hx => (by cases hx), fun _ => rfl⟩
  · by_cases hc : cap = K
    · have hnn : n = K := by omega
      subst hnn
      subst hc
      exact ⟨some ⟨g, 0, none⟩, 0, fun X => by simp [go_sem], by omega, fun h => by omega, fun x hx => ⟨_, rfl, by cases hx; rfl⟩, fun hx => (by cases hx), fun x hx => (by cases hx; rfl), fun hx => (by cases hx)⟩
    · refine ⟨some ⟨g, 0 + K, none⟩, cap - K, fun X => ?_, by omega, fun _ g' hg => by cases hg; rfl, fun x hx => ⟨_, rfl, by cases hx; rfl⟩, fun hx => (by cases hx), fun x hx => (by cases hx; rfl), fun hx => (by cases hx)⟩
      simp [go_sem]
      rw [if_pos (by omega), if_neg hc]
theorem all_at (W : World) (p : Nat) (a : Option Addr) (n cap beg n' : Nat) (a' : Option Addr) (c' : Nat) (c0 : W.cell? ⟨p, 0, none⟩ = some (.slice a n cap)) (c1 : W.cell? ⟨p, 1, none⟩ = some (.int .i64 (beg : Int)))
    (hr : ∀ X, (Instr.sliceAt 26 (.slice a n cap) (some (.int .i64 (beg : Int))) none none).run Try.prog X = .ok (.slice a' n' c') X) :
    Calls Try.prog 33 #[.pointer (some ⟨p, 0, none⟩)] W fun e w' => e = .returned (.slice a' n' c') ∧ ∃ m, w' = W.drewN m := by
  go_enter Try.func33, Try.ntmps33
  go_wp2
  go_quiet (fail)
  go_wp2
  go_ret
  exact ⟨rfl, _, rfl⟩
theorem all_any (w : World) (p : Nat) (base : Nat) (a : Option Addr) (n cap beg : Nat) (L : List UInt8) (ho : w.ownsRow base 5 1 (.slice a n cap) n (bC L)) (hb : beg ≤ n) :
    ∃ a' c', BS w a' (n - beg) c' (L.drop beg) ∧ (∀ x, a' = some x → ∃ y, a = some y ∧ x.block = y.block) ∧ (a' = none → a = none) ∧ (∀ x, a' = some x → x.spot = none) ∧ (a' = none → c' = 0) ∧
      ∀ W : World, W.cell? ⟨p, 0, none⟩ = some (.slice a n cap) → W.cell? ⟨p, 1, none⟩ = some (.int .i64 (beg : Int)) →
        Calls Try.prog 33 #[.pointer (some ⟨p, 0, none⟩)] W fun e w' => e = .returned (.slice a' (n - beg) c') ∧ ∃ m, w' = W.drewN m := by
  obtain ⟨hB, hc9, hf⟩ := own_bs ho
  obtain ⟨a', c', hr, h1, h2, h3, h4, h5, h6⟩ := run_tail a n cap beg hf hb hB.cap
  refine ⟨a', c', ?_, h3, h4, h5, h6, fun W c0 c1 => all_at W p a n cap beg _ a' c' c0 c1 hr⟩
  rcases hf with ⟨rfl, rfl⟩ | ⟨g, rfl⟩
  · have h0 : n - beg = 0 := by have := hB.cap; omega
    refine ⟨by rw [List.length_drop, ← hB.len], h1, fun i hi => by omega⟩
  · have := hB.sub beg n a' c' hb (Nat.le_refl _) (fun h => by rw [h2 h g rfl]) h1
    rwa [List.take_of_length_le (by rw [hB.len]; exact Nat.le_refl _)] at this
end Go.Proofs.Ytmfjaehajdephab
