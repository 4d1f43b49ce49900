/-
  Typed of a command of each kind.
-/
import Derived.Test.YtmfjaehajdephabKind
import Derived.Test.YtmfjaehajdephabRow17
import Derived.Test.YtmfjaehajdephabJA
import Derived.Deep.RegionHeld3
namespace Go.Proofs.Ytmfjaehajdephab
open Go.Shelf Go.RowKit Go.Deep
set_option linter.unusedVariables false
set_option linter.unusedSimpArgs false
set_option maxRecDepth 1000000

theorem cell_new (w : World) (xs : Array Value) (t i : Nat) (v : Value) (h : xs[i]? = some v) : ((w.alloc (.cells xs t)).drew).cell? ⟨w.heap.size, i, none⟩ = some v := by
  have hg : (w.alloc (.cells xs t)).drew.heap[w.heap.size]? = some (.cells xs t) := by
    show (w.heap.push _)[w.heap.size]? = _
    simp
  simp only [World.cell?, hg]
  exact h
theorem cloneRowAt (a : Option Addr) (n cap : Nat) (xs : List ByteArray) (w w0 : World) (b : Nat) (u2 u8 u9 u5 : Value) (h : StrsAt w a n xs) (hn : n ≤ 5000) (k : Below w0.heap.size w0 w)
    (hb : b < w.heap.size) (c2 : w.cell? ⟨b, 2, none⟩ = some u2) (c8 : w.cell? ⟨b, 8, none⟩ = some u8) (c9 : w.cell? ⟨b, 9, none⟩ = some u9) (c5 : w.cell? ⟨b, 5, none⟩ = some u5) :
    Calls Try.prog 83 #[.slice a n cap] w fun e w' => ∃ a' c', e = .returned (.slice a' n c') ∧ w'.ownsRow w0.heap.size 9 1 (.slice a' n c') n (strC xs) ∧ Below w0.heap.size w0 w' ∧
      w'.cell? ⟨b, 2, none⟩ = some u2 ∧ w'.cell? ⟨b, 8, none⟩ = some u8 ∧ w'.cell? ⟨b, 9, none⟩ = some u9 ∧ w'.cell? ⟨b, 5, none⟩ = some u5 := by
  refine (cloneRow a n cap xs w h hn).mono ?_
  rintro e w' ⟨a', c', rfl, ho, kb⟩
  exact ⟨a', c', rfl, Joins.ownsRow_le ho k.size, k.trans (kb.mono k.size), (World.cell?_of_block (kb.block b hb)).trans c2, (World.cell?_of_block (kb.block b hb)).trans c8, (World.cell?_of_block (kb.block b hb)).trans c9, (World.cell?_of_block (kb.block b hb)).trans c5⟩

theorem typed_get (w : World) (a : Option Addr) (n cap : Nat) (c : Cm) (h : StrsAt w a n c.keys) (hn : n ≤ 5000) (hw : (c.what.toList == [103, 101, 116]) = true) :
    Calls Try.prog 69 #[cmV c (.slice a n cap)] w fun e w' => ∃ a' c', e = .returned (.iface 94 (.agg #[.slice a' n c', .bool c.wc, .bool c.wt, .int .i64 c.ex])) ∧ w'.ownsRow w.heap.size 9 1 (.slice a' n c') n (strC c.keys) ∧ Below w.heap.size w w' := by
  have m := mk44
  have B := ((Below.refl w.heap.size w).alloc (Nat.le_refl _) (.cells #[.string c.what, .string c.verb, .slice a n cap, .string c.data, .int .u32 c.fl, .int .i64 c.ex, .int .u64 c.cs, .int .u64 c.y, .bool c.wc, .bool c.wt, .bool c.dn, .bool c.q] 33)).drew
  have H := h.later B
  have hm : w.heap.size < ((w.alloc (.cells #[.string c.what, .string c.verb, .slice a n cap, .string c.data, .int .u32 c.fl, .int .i64 c.ex, .int .u64 c.cs, .int .u64 c.y, .bool c.wc, .bool c.wt, .bool c.dn, .bool c.q] 33)).drew).heap.size := by
    show _ < (w.heap.push _).size
    rw [Array.size_push]
    omega
  go_enter Try.func69, Try.ntmps69
  go_wp2
  go_region_held3 (fun W => W.cell? ⟨w.heap.size, 2, none⟩ = some (.slice a n cap) ∧ W.cell? ⟨w.heap.size, 8, none⟩ = some (.bool c.wc) ∧ W.cell? ⟨w.heap.size, 9, none⟩ = some (.bool c.wt) ∧ W.cell? ⟨w.heap.size, 5, none⟩ = some (.int .i64 c.ex))
    (go_keep)
    (first | (go_at_call 83; refine (cloneRowAt _ _ _ _ _ w w.heap.size (.slice a n cap) (.bool c.wc) (.bool c.wt) (.int .i64 c.ex) H hn B hm (cell_new w _ 33 2 _ rfl) (cell_new w _ 33 8 _ rfl) (cell_new w _ 33 9 _ rfl) (cell_new w _ 33 5 _ rfl)).mono ?_; rintro e w' ⟨a', c', rfl, ho, hb, h2, h8, h9, h5⟩))
  all_goals go_wp2
  all_goals go_ret
  all_goals exact ⟨_, _, rfl, ho, hb⟩
theorem typed_store (w : World) (a : Option Addr) (n cap : Nat) (c : Cm) (h : StrsAt w a n c.keys) (hn : n ≤ 5000) (h0 : (c.what.toList == [103, 101, 116]) = false) (hw : (c.what.toList == [115, 116, 111, 114, 101]) = true) :
    Calls Try.prog 69 #[cmV c (.slice a n cap)] w fun e w' => e = .returned (.iface 97 (.agg #[.string c.verb, .string (hd c.keys), .string c.data, .int .u32 c.fl, .int .i64 c.ex, .int .u64 c.cs, .bool c.q])) ∧ Below w.heap.size w w' := by
  have m := mk47
  have B := ((Below.refl w.heap.size w).alloc (Nat.le_refl _) (.cells #[.string c.what, .string c.verb, .slice a n cap, .string c.data, .int .u32 c.fl, .int .i64 c.ex, .int .u64 c.cs, .int .u64 c.y, .bool c.wc, .bool c.wt, .bool c.dn, .bool c.q] 33)).drew
  have H := h.later B
  go_enter Try.func69, Try.ntmps69
  go_wp2
  go_region_held3 (fun W => W.cell? ⟨w.heap.size, 1, none⟩ = some (.string c.verb) ∧ W.cell? ⟨w.heap.size, 2, none⟩ = some (.slice a n cap) ∧ W.cell? ⟨w.heap.size, 3, none⟩ = some (.string c.data) ∧ W.cell? ⟨w.heap.size, 4, none⟩ = some (.int .u32 c.fl) ∧ W.cell? ⟨w.heap.size, 5, none⟩ = some (.int .i64 c.ex) ∧ W.cell? ⟨w.heap.size, 6, none⟩ = some (.int .u64 c.cs) ∧ W.cell? ⟨w.heap.size, 11, none⟩ = some (.bool c.q))
    (go_keep)
    (first | (go_at_call 84; refine (first_any _ _ _ _ _ H hn).mono ?_; rintro e w' ⟨rfl, rfl⟩))
  all_goals go_wp2
  all_goals go_ret
  all_goals exact ⟨rfl, B⟩
theorem typed_arith (w : World) (a : Option Addr) (n cap : Nat) (c : Cm) (h : StrsAt w a n c.keys) (hn : n ≤ 5000) (h0 : (c.what.toList == [103, 101, 116]) = false) (h1 : (c.what.toList == [115, 116, 111, 114, 101]) = false) (hw : (c.what.toList == [97, 114, 105, 116, 104]) = true) :
    Calls Try.prog 69 #[cmV c (.slice a n cap)] w fun e w' => e = .returned (.iface 99 (.agg #[.string (hd c.keys), .int .u64 c.y, .bool c.dn, .bool c.q])) ∧ Below w.heap.size w w' := by
  have m := mk50
  have B := ((Below.refl w.heap.size w).alloc (Nat.le_refl _) (.cells #[.string c.what, .string c.verb, .slice a n cap, .string c.data, .int .u32 c.fl, .int .i64 c.ex, .int .u64 c.cs, .int .u64 c.y, .bool c.wc, .bool c.wt, .bool c.dn, .bool c.q] 33)).drew
  have H := h.later B
  go_enter Try.func69, Try.ntmps69
  go_wp2
  go_region_held3 (fun W => W.cell? ⟨w.heap.size, 2, none⟩ = some (.slice a n cap) ∧ W.cell? ⟨w.heap.size, 7, none⟩ = some (.int .u64 c.y) ∧ W.cell? ⟨w.heap.size, 10, none⟩ = some (.bool c.dn) ∧ W.cell? ⟨w.heap.size, 11, none⟩ = some (.bool c.q))
    (go_keep)
    (first | (go_at_call 84; refine (first_any _ _ _ _ _ H hn).mono ?_; rintro e w' ⟨rfl, rfl⟩))
  all_goals go_wp2
  all_goals go_ret
  all_goals exact ⟨rfl, B⟩
theorem typed_touch (w : World) (a : Option Addr) (n cap : Nat) (c : Cm) (h : StrsAt w a n c.keys) (hn : n ≤ 5000) (h0 : (c.what.toList == [103, 101, 116]) = false) (h1 : (c.what.toList == [115, 116, 111, 114, 101]) = false) (h2 : (c.what.toList == [97, 114, 105, 116, 104]) = false) (hw : (c.what.toList == [116, 111, 117, 99, 104]) = true) :
    Calls Try.prog 69 #[cmV c (.slice a n cap)] w fun e w' => e = .returned (.iface 101 (.agg #[.string (hd c.keys), .int .i64 c.ex, .bool c.q])) ∧ Below w.heap.size w w' := by
  have m := mk52
  have B := ((Below.refl w.heap.size w).alloc (Nat.le_refl _) (.cells #[.string c.what, .string c.verb, .slice a n cap, .string c.data, .int .u32 c.fl, .int .i64 c.ex, .int .u64 c.cs, .int .u64 c.y, .bool c.wc, .bool c.wt, .bool c.dn, .bool c.q] 33)).drew
  have H := h.later B
  go_enter Try.func69, Try.ntmps69
  go_wp2
  go_region_held3 (fun W => W.cell? ⟨w.heap.size, 2, none⟩ = some (.slice a n cap) ∧ W.cell? ⟨w.heap.size, 5, none⟩ = some (.int .i64 c.ex) ∧ W.cell? ⟨w.heap.size, 11, none⟩ = some (.bool c.q))
    (go_keep)
    (first | (go_at_call 84; refine (first_any _ _ _ _ _ H hn).mono ?_; rintro e w' ⟨rfl, rfl⟩))
  all_goals go_wp2
  all_goals go_ret
  all_goals exact ⟨rfl, B⟩
theorem typed_delete (w : World) (a : Option Addr) (n cap : Nat) (c : Cm) (h : StrsAt w a n c.keys) (hn : n ≤ 5000) (h0 : (c.what.toList == [103, 101, 116]) = false) (h1 : (c.what.toList == [115, 116, 111, 114, 101]) = false) (h2 : (c.what.toList == [97, 114, 105, 116, 104]) = false) (h3 : (c.what.toList == [116, 111, 117, 99, 104]) = false) (hw : (c.what.toList == [100, 101, 108, 101, 116, 101]) = true) :
    Calls Try.prog 69 #[cmV c (.slice a n cap)] w fun e w' => e = .returned (.iface 103 (.agg #[.string (hd c.keys), .bool c.q])) ∧ Below w.heap.size w w' := by
  have m := mk54
  have B := ((Below.refl w.heap.size w).alloc (Nat.le_refl _) (.cells #[.string c.what, .string c.verb, .slice a n cap, .string c.data, .int .u32 c.fl, .int .i64 c.ex, .int .u64 c.cs, .int .u64 c.y, .bool c.wc, .bool c.wt, .bool c.dn, .bool c.q] 33)).drew
  have H := h.later B
  go_enter Try.func69, Try.ntmps69
  go_wp2
  go_region_held3 (fun W => W.cell? ⟨w.heap.size, 2, none⟩ = some (.slice a n cap) ∧ W.cell? ⟨w.heap.size, 11, none⟩ = some (.bool c.q))
    (go_keep)
    (first | (go_at_call 84; refine (first_any _ _ _ _ _ H hn).mono ?_; rintro e w' ⟨rfl, rfl⟩))
  all_goals go_wp2
  all_goals go_ret
  all_goals exact ⟨rfl, B⟩
theorem typed_flush (w : World) (a : Option Addr) (n cap : Nat) (c : Cm) (h : StrsAt w a n c.keys) (hn : n ≤ 5000) (h0 : (c.what.toList == [103, 101, 116]) = false) (h1 : (c.what.toList == [115, 116, 111, 114, 101]) = false) (h2 : (c.what.toList == [97, 114, 105, 116, 104]) = false) (h3 : (c.what.toList == [116, 111, 117, 99, 104]) = false) (h4 : (c.what.toList == [100, 101, 108, 101, 116, 101]) = false) (hw : (c.what.toList == [102, 108, 117, 115, 104]) = true) :
    Calls Try.prog 69 #[cmV c (.slice a n cap)] w fun e w' => e = .returned (.iface 107 (.agg #[.bool c.q])) ∧ Below w.heap.size w w' := by
  have m := mk56
  have B := ((Below.refl w.heap.size w).alloc (Nat.le_refl _) (.cells #[.string c.what, .string c.verb, .slice a n cap, .string c.data, .int .u32 c.fl, .int .i64 c.ex, .int .u64 c.cs, .int .u64 c.y, .bool c.wc, .bool c.wt, .bool c.dn, .bool c.q] 33)).drew
  have H := h.later B
  go_enter Try.func69, Try.ntmps69
  go_wp2
  go_ret
  exact ⟨rfl, (Below.refl w.heap.size w).alloc (Nat.le_refl _) _⟩
theorem typed_bad (w : World) (a : Option Addr) (n cap : Nat) (c : Cm) (h : StrsAt w a n c.keys) (hn : n ≤ 5000) (h0 : (c.what.toList == [103, 101, 116]) = false) (h1 : (c.what.toList == [115, 116, 111, 114, 101]) = false) (h2 : (c.what.toList == [97, 114, 105, 116, 104]) = false) (h3 : (c.what.toList == [116, 111, 117, 99, 104]) = false) (h4 : (c.what.toList == [100, 101, 108, 101, 116, 101]) = false) (h5 : (c.what.toList == [102, 108, 117, 115, 104]) = false) (hw : (c.what.toList == [98, 97, 100]) = true) :
    Calls Try.prog 69 #[cmV c (.slice a n cap)] w fun e w' => e = .returned (.iface 112 (.agg #[.string c.verb])) ∧ Below w.heap.size w w' := by
  have m := mk58
  have B := ((Below.refl w.heap.size w).alloc (Nat.le_refl _) (.cells #[.string c.what, .string c.verb, .slice a n cap, .string c.data, .int .u32 c.fl, .int .i64 c.ex, .int .u64 c.cs, .int .u64 c.y, .bool c.wc, .bool c.wt, .bool c.dn, .bool c.q] 33)).drew
  have H := h.later B
  go_enter Try.func69, Try.ntmps69
  go_wp2
  go_ret
  exact ⟨rfl, (Below.refl w.heap.size w).alloc (Nat.le_refl _) _⟩
theorem typed_word (w : World) (a : Option Addr) (n cap : Nat) (c : Cm) (h : StrsAt w a n c.keys) (hn : n ≤ 5000) (h0 : (c.what.toList == [103, 101, 116]) = false) (h1 : (c.what.toList == [115, 116, 111, 114, 101]) = false) (h2 : (c.what.toList == [97, 114, 105, 116, 104]) = false) (h3 : (c.what.toList == [116, 111, 117, 99, 104]) = false) (h4 : (c.what.toList == [100, 101, 108, 101, 116, 101]) = false) (h5 : (c.what.toList == [102, 108, 117, 115, 104]) = false) (h6 : (c.what.toList == [98, 97, 100]) = false) (hw : (c.what.toList == [119, 111, 114, 100]) = true) :
    Calls Try.prog 69 #[cmV c (.slice a n cap)] w fun e w' => e = .returned (.iface 105 (.agg #[.string c.verb])) ∧ Below w.heap.size w w' := by
  have m := mk60
  have B := ((Below.refl w.heap.size w).alloc (Nat.le_refl _) (.cells #[.string c.what, .string c.verb, .slice a n cap, .string c.data, .int .u32 c.fl, .int .i64 c.ex, .int .u64 c.cs, .int .u64 c.y, .bool c.wc, .bool c.wt, .bool c.dn, .bool c.q] 33)).drew
  have H := h.later B
  go_enter Try.func69, Try.ntmps69
  go_wp2
  go_ret
  exact ⟨rfl, (Below.refl w.heap.size w).alloc (Nat.le_refl _) _⟩
theorem typed_none (w : World) (a : Option Addr) (n cap : Nat) (c : Cm) (h : StrsAt w a n c.keys) (hn : n ≤ 5000) (h0 : (c.what.toList == [103, 101, 116]) = false) (h1 : (c.what.toList == [115, 116, 111, 114, 101]) = false) (h2 : (c.what.toList == [97, 114, 105, 116, 104]) = false) (h3 : (c.what.toList == [116, 111, 117, 99, 104]) = false) (h4 : (c.what.toList == [100, 101, 108, 101, 116, 101]) = false) (h5 : (c.what.toList == [102, 108, 117, 115, 104]) = false) (h6 : (c.what.toList == [98, 97, 100]) = false) (h7 : (c.what.toList == [119, 111, 114, 100]) = false) :
    Calls Try.prog 69 #[cmV c (.slice a n cap)] w fun e w' => e = .returned .nilIface ∧ Below w.heap.size w w' := by
  go_enter Try.func69, Try.ntmps69
  go_wp2
  go_ret
  exact ⟨rfl, (Below.refl w.heap.size w).alloc (Nat.le_refl _) _⟩
end Go.Proofs.Ytmfjaehajdephab