/- Texts joined. -/
import Derived.Test.YtmfjaehajdephabNamed
import Derived.Lib.AppendZeros
import Derived.Handy
import Derived.Test.YtmfjaehajdephabJR
import Derived.Deep.AppendSrc
/-
  The document's own commands: the key of one, and the program's command for it.
-/
namespace Go.Proofs.Ytmfjaehajdephab
open Go.Shelf Go.RowKit Go.Deep
set_option linter.unusedVariables false
set_option linter.unusedSimpArgs false
set_option maxRecDepth 1000000

/-- A struct that lies in a block. -/
def Bx (w : World) (b : Nat) (cs : Array Value) (t : TypeId) : Prop := b < w.heap.size ∧ w.heap[b]? = some (.cells cs t)
theorem Bx.new (w : World) (cs : Array Value) (t : TypeId) : Bx (w.alloc (.cells cs t)) w.heap.size cs t := by
  refine ⟨?_, ?_⟩
  · show _ < (w.heap.push _).size
    rw [Array.size_push]
    omega
  · show (w.heap.push _)[w.heap.size]? = _
    simp
theorem Bx.later {w W : World} {b : Nat} {cs : Array Value} {t : TypeId} (h : Bx w b cs t) (k : Below w.heap.size w W) : Bx W b cs t :=
  ⟨Nat.lt_of_lt_of_le h.1 k.size, (k.block b h.1).trans h.2⟩
theorem Bx.cell {w : World} {b : Nat} {cs : Array Value} {t : TypeId} (h : Bx w b cs t) (i : Nat) (v : Value) (hv : cs[i]? = some v) : w.cell? ⟨b, i, none⟩ = some v := by
  simp only [World.cell?, h.2]
  exact hv


theorem one_at2 (W : World) (q : Nat) (k : ByteArray) (hq : q = W.heap.size) (hk : k.size ≤ 140737488351232) : StrsAt (W.alloc (.cells #[.string k] 9)) (some ⟨q, 0, none⟩) 1 [k] := by
  subst hq
  exact one_strs W k hk
theorem one_at2d (W : World) (q : Nat) (k : ByteArray) (hq : q = W.heap.size) (hk : k.size ≤ 140737488351232) : StrsAt (W.alloc (.cells #[.string k] 9)).drew (some ⟨q, 0, none⟩) 1 [k] := by
  subst hq
  exact (one_strs W k hk).later (Below.refl _ _).drew
/-- What 'append([]string{}, texts...)' makes of texts. -/
def rowR (W : World) (n : Nat) (xs : List ByteArray) : Array Value := (strC xs).toArray ++ Builtin.zeroCells (Value.string ⟨#[]⟩).cells (grownCap W n 0 9 - n)
theorem append_lit (W : World) (q : Nat) (a : Option Addr) (n cap : Nat) (xs : List ByteArray) (h : StrsAt W a n xs) (h0 : 0 < n) (hn : n ≤ 5000) :
    (Builtin.append_ #[28, 28] 28 #[.slice (some ⟨q, 0, none⟩) 0 0, .slice a n cap]).run Try.prog W = .ok (.slice (some ⟨W.heap.size, 0, none⟩) n (grownCap W n 0 9)) (W.drew.alloc (.cells (rowR W n xs) 9)) := by
  obtain ⟨i0, hi0, hz0, hz1, hz2⟩ := infoStr
  obtain ⟨b, o, x, rfl, _⟩ := h.key 0 h0
  have hsrc : Src Try.prog i0.size 28 (.slice (some ⟨b, o, none⟩) n cap) n (strC xs) W := Src.ofSlice W Try.underlying28 ⟨b, o, none⟩ n cap (strC xs) (by rw [hz1]; simp [strC, h.len]) (fun j u hj => by
    have hjl : j < xs.length := by have := (List.getElem?_eq_some_iff.1 hj).1; simpa [strC] using this
    obtain ⟨b', off, ha, _, hc⟩ := h.cell j _ (List.getElem?_eq_getElem hjl)
    cases ha
    rw [Addr.add_lit, hc]
    have e : (strC xs)[j]? = some (.string xs[j]) := by simp [strC, hjl]
    rw [e] at hj
    exact hj) (fun u hu => by obtain ⟨_, _, rfl⟩ := List.mem_map.1 hu; rfl)
  have hr := run_append_grow_src (P := Try.prog) (w := W) 28 28 28 9 i0 (.string ⟨#[]⟩) Try.underlying28 hi0 hz0 (some ⟨q, 0, none⟩) 0 0 [] (by simp [Builtin.firstCells, loadCells, loadCellsFrom]) (.slice (some ⟨b, o, none⟩) n cap) n (strC xs) hsrc (by omega) (by omega) (by
    rw [Nat.zero_add, nextslicecap_zero h0, hz2]; omega)
  rw [Nat.zero_add, List.nil_append] at hr
  exact hr
theorem append_none (W : World) (q : Nat) (a : Option Addr) (cap : Nat) (hq : ∃ cs, W.heap[q]? = some (.cells cs 9)) : (Builtin.append_ #[28, 28] 28 #[.slice (some ⟨q, 0, none⟩) 0 0, .slice a 0 cap]).run Try.prog W = .ok (.slice (some ⟨q, 0, none⟩) 0 0) W := by
  obtain ⟨i0, hi0, hz0, hz1, hz2⟩ := infoStr
  cases a with
  | none => exact run_append_room_src (P := Try.prog) W 28 28 28 9 i0 Try.underlying28 hi0 q 0 0 0 (.slice none 0 cap) 0 [] (Src.ofNil _ Try.underlying28 cap) (by omega) (fun j hj => by simp at hj) (fun j hj => by simp at hj)
  | some x => exact run_append_room_src (P := Try.prog) W 28 28 28 9 i0 Try.underlying28 hi0 q 0 0 0 (.slice (some x) 0 cap) 0 [] (Src.ofSlice W Try.underlying28 x 0 cap [] (by simp) (fun j u hj => by simp at hj) (fun u hu => by simp at hu)) (by omega) (fun j hj => by simp at hj) (fun j hj => by simp at hj)
theorem row_at {W : World} {q n : Nat} {xs : List ByteArray} {V : World} (hq : W.heap[q]? = some (.cells (rowR V n xs) 9)) (hl : n = xs.length) (hf : ∀ x ∈ xs, x.size ≤ 140737488351232) : StrsAt W (some ⟨q, 0, none⟩) n xs := by
  refine ⟨hl, hf, fun i x hx => ⟨q, 0, rfl, (Array.getElem?_eq_some_iff.1 hq).1, ?_⟩⟩
  have hi := (List.getElem?_eq_some_iff.1 hx).1
  rw [Nat.zero_add]
  simp only [World.cell?, hq]
  unfold rowR
  rw [Array.getElem?_append_left (by simpa [strC] using hi)]
  simp [strC, hx]
theorem heap_new (W : World) (o : Obj) (q : Nat) (hq : q = W.heap.size) : (W.alloc o).heap[q]? = some o := by
  subst hq
  show (W.heap.push _)[W.heap.size]? = _
  simp
theorem heap_newd (W : World) (o : Obj) (q : Nat) (hq : q = W.heap.size) : (W.alloc o).drew.heap[q]? = some o := heap_new W o q hq
theorem heap_newdd (W : World) (o : Obj) (q : Nat) (hq : q = W.heap.size) : (W.alloc o).drew.drew.heap[q]? = some o := heap_new W o q hq
theorem heap_old (W : World) (o : Obj) (q : Nat) (hq : q < W.heap.size) : (W.alloc o).heap[q]? = W.heap[q]? := by
  show (W.heap.push _)[q]? = _
  rw [Array.getElem?_push, if_neg (by omega)]

end Go.Proofs.Ytmfjaehajdephab

/-
  The document's command for one of the program's.
-/
namespace Go.Proofs.Ytmfjaehajdephab
open Go.Shelf Go.RowKit Go.Deep
set_option linter.unusedVariables false
set_option linter.unusedSimpArgs false
set_option maxRecDepth 1000000
theorem append_ex (W : World) (q : Nat) (a : Option Addr) (n cap : Nat) (xs : List ByteArray) (h : StrsAt W a n xs) (h0 : 0 < n) (hn : n ≤ 5000) :
    ∃ (R : Array Value) (c0 g0 : Nat), g0 = W.heap.size ∧ (∀ (W' : World) (q' : Nat), W'.heap[q']? = some (.cells R 9) → StrsAt W' (some ⟨q', 0, none⟩) n xs) ∧
      (Builtin.append_ #[28, 28] 28 #[.slice (some ⟨q, 0, none⟩) 0 0, .slice a n cap]).run Try.prog W = .ok (.slice (some ⟨g0, 0, none⟩) n c0) (W.drew.alloc (.cells R 9)) :=
  ⟨rowR W n xs, grownCap W n 0 9, _, rfl, fun W' q' hq => row_at hq h.len h.fits, append_lit W q a n cap xs h h0 hn⟩
theorem heap_old2 {W : World} {o : Obj} {q : Nat} {x : Obj} (h : W.heap[q]? = some x) : (W.alloc o).heap[q]? = some x := by
  rw [heap_old W o q (Array.getElem?_eq_some_iff.1 h).1]
  exact h

theorem limbs {w W : World} {a : Option Addr} {n cap : Nat} {c : Cm} (hB : Below (w.heap.size + 1) (w.alloc (.cells #[.string c.what, .string c.verb, .slice a n cap, .string c.data, .int .u32 c.fl, .int .i64 c.ex, .int .u64 c.cs, .int .u64 c.y, .bool c.wc, .bool c.wt, .bool c.dn, .bool c.q] 33)) W) : W.cell? ⟨w.heap.size, 0, none⟩ = some (.string c.what) ∧ W.cell? ⟨w.heap.size, 1, none⟩ = some (.string c.verb) ∧ W.cell? ⟨w.heap.size, 2, none⟩ = some (.slice a n cap) ∧ W.cell? ⟨w.heap.size, 3, none⟩ = some (.string c.data) ∧ W.cell? ⟨w.heap.size, 4, none⟩ = some (.int .u32 c.fl) ∧ W.cell? ⟨w.heap.size, 5, none⟩ = some (.int .i64 c.ex) ∧ W.cell? ⟨w.heap.size, 6, none⟩ = some (.int .u64 c.cs) ∧ W.cell? ⟨w.heap.size, 7, none⟩ = some (.int .u64 c.y) ∧ W.cell? ⟨w.heap.size, 8, none⟩ = some (.bool c.wc) ∧ W.cell? ⟨w.heap.size, 9, none⟩ = some (.bool c.wt) ∧ W.cell? ⟨w.heap.size, 10, none⟩ = some (.bool c.dn) ∧ W.cell? ⟨w.heap.size, 11, none⟩ = some (.bool c.q) := by
  have hq : W.heap[w.heap.size]? = some (.cells #[.string c.what, .string c.verb, .slice a n cap, .string c.data, .int .u32 c.fl, .int .i64 c.ex, .int .u64 c.cs, .int .u64 c.y, .bool c.wc, .bool c.wt, .bool c.dn, .bool c.q] 33) := (hB.block w.heap.size (by omega)).trans (heap_new w _ _ rfl)
  refine ⟨?_, ?_, ?_, ?_, ?_, ?_, ?_, ?_, ?_, ?_, ?_, ?_⟩ <;> (simp only [World.cell?, hq]; rfl)
end Go.Proofs.Ytmfjaehajdephab
