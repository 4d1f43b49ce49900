/-
  Back of a command of other kinds.
-/
import Derived.Test.YtofjadgnkpcaeaaRefB
namespace Go.Proofs.Ytofjadgnkpcaeaa
open Go.Shelf Go.RowKit Go.Deep
set_option linter.unusedVariables false
set_option linter.unusedSimpArgs false
set_option maxRecDepth 1000000

set_option maxHeartbeats 4000000 in
theorem back_arith (w : World) (a : Option Addr) (n cap : Nat) (c : Cm) (h : StrsAt w a n c.keys) (hn : n ≤ 1000) (h0 : (c.what.toList == [103, 101, 116]) = false) (h1 : (c.what.toList == [115, 116, 111, 114, 101]) = false) (hw : (c.what.toList == [97, 114, 105, 116, 104]) = true) :
    Calls Try.prog 13 #[cmV c (.slice a n cap)] w fun e w' => ∃ a' n' c', e = .returned (cmV ⟨⟨#[97, 114, 105, 116, 104]⟩, ⟨#[]⟩, [hd c.keys], ⟨#[]⟩, 0, 0, 0, c.y, false, false, c.dn, c.q⟩ (.slice a' n' c')) ∧ StrsAt w' a' n' (Cm.keys ⟨⟨#[97, 114, 105, 116, 104]⟩, ⟨#[]⟩, [hd c.keys], ⟨#[]⟩, 0, 0, 0, c.y, false, false, c.dn, c.q⟩) ∧ n' ≤ 1000 ∧ Below w.heap.size w w' := by
  have B := (Below.refl w.heap.size w).alloc (Nat.le_refl _) (.cells #[.string c.what, .string c.verb, .slice a n cap, .string c.data, .int .u32 c.fl, .int .i64 c.ex, .int .u64 c.cs, .int .u64 c.y, .bool c.wc, .bool c.wt, .bool c.dn, .bool c.q] 31)
  have B2 := (B.alloc B.size (.cells #[.string ⟨#[]⟩, .string ⟨#[]⟩, .slice none 0 0, .string ⟨#[]⟩, .int .u32 0, .int .i64 0, .int .u64 0, .int .u64 0, .bool false, .bool false, .bool false, .bool false] 28)).drew
  have H := h.later B2
  have ck := key35 a n cap c _ H hn
  have hks := hd_size h
  go_enter Try.func13, Try.ntmps13
  go_wp2
  go_region_held3 (fun W => W.cell? ⟨w.heap.size, 0, none⟩ = some (.string c.what) ∧ W.cell? ⟨w.heap.size, 1, none⟩ = some (.string c.verb) ∧ W.cell? ⟨w.heap.size, 2, none⟩ = some (.slice a n cap) ∧ W.cell? ⟨w.heap.size, 3, none⟩ = some (.string c.data) ∧ W.cell? ⟨w.heap.size, 4, none⟩ = some (.int .u32 c.fl) ∧ W.cell? ⟨w.heap.size, 5, none⟩ = some (.int .i64 c.ex) ∧ W.cell? ⟨w.heap.size, 6, none⟩ = some (.int .u64 c.cs) ∧ W.cell? ⟨w.heap.size, 7, none⟩ = some (.int .u64 c.y) ∧ W.cell? ⟨w.heap.size, 8, none⟩ = some (.bool c.wc) ∧ W.cell? ⟨w.heap.size, 9, none⟩ = some (.bool c.wt) ∧ W.cell? ⟨w.heap.size, 10, none⟩ = some (.bool c.dn) ∧ W.cell? ⟨w.heap.size, 11, none⟩ = some (.bool c.q))
    (go_keep)
    (first | (go_at_call 35; refine ck.mono ?_; rintro e w' ⟨rfl, rfl⟩))
  all_goals go_wp2
  all_goals go_returns
  all_goals exact ⟨_, _, _, rfl, one_at2d _ _ _ (by simp only [World.size_alloc, World.size_drew]) hks, by omega, by go_grown⟩
set_option maxHeartbeats 4000000 in
theorem back_flush (w : World) (a : Option Addr) (n cap : Nat) (c : Cm) (h : StrsAt w a n c.keys) (hn : n ≤ 1000) (h0 : (c.what.toList == [103, 101, 116]) = false) (h1 : (c.what.toList == [115, 116, 111, 114, 101]) = false) (h2 : (c.what.toList == [97, 114, 105, 116, 104]) = false) (h3 : (c.what.toList == [116, 111, 117, 99, 104]) = false) (h4 : (c.what.toList == [100, 101, 108, 101, 116, 101]) = false) (hw : (c.what.toList == [102, 108, 117, 115, 104]) = true) :
    Calls Try.prog 13 #[cmV c (.slice a n cap)] w fun e w' => ∃ a' n' c', e = .returned (cmV ⟨⟨#[102, 108, 117, 115, 104]⟩, ⟨#[]⟩, [], ⟨#[]⟩, 0, 0, 0, 0, false, false, false, c.q⟩ (.slice a' n' c')) ∧ StrsAt w' a' n' (Cm.keys ⟨⟨#[102, 108, 117, 115, 104]⟩, ⟨#[]⟩, [], ⟨#[]⟩, 0, 0, 0, 0, false, false, false, c.q⟩) ∧ n' ≤ 1000 ∧ Below w.heap.size w w' := by
  have B := (Below.refl w.heap.size w).alloc (Nat.le_refl _) (.cells #[.string c.what, .string c.verb, .slice a n cap, .string c.data, .int .u32 c.fl, .int .i64 c.ex, .int .u64 c.cs, .int .u64 c.y, .bool c.wc, .bool c.wt, .bool c.dn, .bool c.q] 31)
  have B2 := (B.alloc B.size (.cells #[.string ⟨#[]⟩, .string ⟨#[]⟩, .slice none 0 0, .string ⟨#[]⟩, .int .u32 0, .int .i64 0, .int .u64 0, .int .u64 0, .bool false, .bool false, .bool false, .bool false] 28)).drew
  have H := h.later B2
  go_enter Try.func13, Try.ntmps13
  go_wp2
  go_returns
  exact ⟨_, _, _, rfl, StrsAt.nil, by omega, by go_grown⟩
set_option maxHeartbeats 4000000 in
theorem back_bad (w : World) (a : Option Addr) (n cap : Nat) (c : Cm) (h : StrsAt w a n c.keys) (hn : n ≤ 1000) (h0 : (c.what.toList == [103, 101, 116]) = false) (h1 : (c.what.toList == [115, 116, 111, 114, 101]) = false) (h2 : (c.what.toList == [97, 114, 105, 116, 104]) = false) (h3 : (c.what.toList == [116, 111, 117, 99, 104]) = false) (h4 : (c.what.toList == [100, 101, 108, 101, 116, 101]) = false) (h5 : (c.what.toList == [102, 108, 117, 115, 104]) = false) (hw : (c.what.toList == [98, 97, 100]) = true) :
    Calls Try.prog 13 #[cmV c (.slice a n cap)] w fun e w' => ∃ a' n' c', e = .returned (cmV ⟨c.what, c.verb, [], ⟨#[]⟩, 0, 0, 0, 0, false, false, false, false⟩ (.slice a' n' c')) ∧ StrsAt w' a' n' (Cm.keys ⟨c.what, c.verb, [], ⟨#[]⟩, 0, 0, 0, 0, false, false, false, false⟩) ∧ n' ≤ 1000 ∧ Below w.heap.size w w' := by
  have B := (Below.refl w.heap.size w).alloc (Nat.le_refl _) (.cells #[.string c.what, .string c.verb, .slice a n cap, .string c.data, .int .u32 c.fl, .int .i64 c.ex, .int .u64 c.cs, .int .u64 c.y, .bool c.wc, .bool c.wt, .bool c.dn, .bool c.q] 31)
  have B2 := (B.alloc B.size (.cells #[.string ⟨#[]⟩, .string ⟨#[]⟩, .slice none 0 0, .string ⟨#[]⟩, .int .u32 0, .int .i64 0, .int .u64 0, .int .u64 0, .bool false, .bool false, .bool false, .bool false] 28)).drew
  have H := h.later B2
  go_enter Try.func13, Try.ntmps13
  go_wp2
  go_returns
  exact ⟨_, _, _, rfl, StrsAt.nil, by omega, by go_grown⟩
end Go.Proofs.Ytofjadgnkpcaeaa