/-
  The document's command for one of the program's.
-/
import Derived.Test.YtofjadgnkpcaeaaRefB
namespace Go.Proofs.Ytofjadgnkpcaeaa
open Go.Shelf Go.RowKit Go.Deep
set_option linter.unusedVariables false
set_option linter.unusedSimpArgs false
set_option maxRecDepth 1000000
theorem append_ex (W : World) (q : Nat) (a : Option Addr) (n cap : Nat) (xs : List ByteArray) (h : StrsAt W a n xs) (h0 : 0 < n) (hn : n ≤ 1000) :
    ∃ (R : Array Value) (c0 g0 : Nat), g0 = W.heap.size ∧ (∀ (W' : World) (q' : Nat), W'.heap[q']? = some (.cells R 9) → StrsAt W' (some ⟨q', 0, none⟩) n xs) ∧
      (Builtin.append_ #[24, 24] 24 #[.slice (some ⟨q, 0, none⟩) 0 0, .slice a n cap]).run Try.prog W = .ok (.slice (some ⟨g0, 0, none⟩) n c0) (W.drew.alloc (.cells R 9)) :=
  ⟨rowR W n xs, grownCap W n 0 9, _, rfl, fun W' q' hq => row_at hq h.len h.fits, append_lit W q a n cap xs h h0 hn⟩
theorem heap_old2 {W : World} {o : Obj} {q : Nat} {x : Obj} (h : W.heap[q]? = some x) : (W.alloc o).heap[q]? = some x := by
  rw [heap_old W o q (Array.getElem?_eq_some_iff.1 h).1]
  exact h

theorem limbs {w W : World} {a : Option Addr} {n cap : Nat} {c : Cm} (hB : Below (w.heap.size + 1) (w.alloc (.cells #[.string c.what, .string c.verb, .slice a n cap, .string c.data, .int .u32 c.fl, .int .i64 c.ex, .int .u64 c.cs, .int .u64 c.y, .bool c.wc, .bool c.wt, .bool c.dn, .bool c.q] 28)) W) : W.cell? ⟨w.heap.size, 0, none⟩ = some (.string c.what) ∧ W.cell? ⟨w.heap.size, 1, none⟩ = some (.string c.verb) ∧ W.cell? ⟨w.heap.size, 2, none⟩ = some (.slice a n cap) ∧ W.cell? ⟨w.heap.size, 3, none⟩ = some (.string c.data) ∧ W.cell? ⟨w.heap.size, 4, none⟩ = some (.int .u32 c.fl) ∧ W.cell? ⟨w.heap.size, 5, none⟩ = some (.int .i64 c.ex) ∧ W.cell? ⟨w.heap.size, 6, none⟩ = some (.int .u64 c.cs) ∧ W.cell? ⟨w.heap.size, 7, none⟩ = some (.int .u64 c.y) ∧ W.cell? ⟨w.heap.size, 8, none⟩ = some (.bool c.wc) ∧ W.cell? ⟨w.heap.size, 9, none⟩ = some (.bool c.wt) ∧ W.cell? ⟨w.heap.size, 10, none⟩ = some (.bool c.dn) ∧ W.cell? ⟨w.heap.size, 11, none⟩ = some (.bool c.q) := by
  have hq : W.heap[w.heap.size]? = some (.cells #[.string c.what, .string c.verb, .slice a n cap, .string c.data, .int .u32 c.fl, .int .i64 c.ex, .int .u64 c.cs, .int .u64 c.y, .bool c.wc, .bool c.wt, .bool c.dn, .bool c.q] 28) := (hB.block w.heap.size (by omega)).trans (heap_new w _ _ rfl)
  refine ⟨?_, ?_, ?_, ?_, ?_, ?_, ?_, ?_, ?_, ?_, ?_, ?_⟩ <;> (simp only [World.cell?, hq]; rfl)
end Go.Proofs.Ytofjadgnkpcaeaa
