/-
  Quiet of a command.
-/
import Derived.Test.YtofjadgnkpcaeaaNamed
namespace Go.Proofs.Ytofjadgnkpcaeaa
open Go.Shelf Go.RowKit Go.Deep
set_option linter.unusedVariables false
set_option linter.unusedSimpArgs false
set_option maxRecDepth 1000000

def quietP (c : Cm) : Bool :=
  if (c.what.toList == [103, 101, 116]) = true then false else
  if (c.what.toList == [115, 116, 111, 114, 101]) = true then c.q else
  if (c.what.toList == [97, 114, 105, 116, 104]) = true then c.q else
  if (c.what.toList == [116, 111, 117, 99, 104]) = true then c.q else
  if (c.what.toList == [100, 101, 108, 101, 116, 101]) = true then c.q else
  if (c.what.toList == [102, 108, 117, 115, 104]) = true then c.q else
  if (c.what.toList == [98, 97, 100]) = true then false else
  if (c.what.toList == [119, 111, 114, 100]) = true then false else
  false
theorem quiet_get (w : World) (a : Option Addr) (n cap : Nat) (c : Cm) (h : StrsAt w a n c.keys) (hn : n ≤ 1000) (hw : (c.what.toList == [103, 101, 116]) = true) : Calls Try.prog 12 #[cmV c (.slice a n cap)] w fun e w' => e = .returned (.bool false) ∧ Below w.heap.size w w' := by
  have B := (Below.refl w.heap.size w).alloc (Nat.le_refl _) (.cells #[.string c.what, .string c.verb, .slice a n cap, .string c.data, .int .u32 c.fl, .int .i64 c.ex, .int .u64 c.cs, .int .u64 c.y, .bool c.wc, .bool c.wt, .bool c.dn, .bool c.q] 28)
  have H := h.later B
  go_enter Try.func12, Try.ntmps12
  go_wp2_with fail
  refine (typed_get _ a n cap c H hn  hw).mono ?_
  rintro e wj ⟨a', c', rfl, ho, hj⟩
  clear ho
  replace B := B.trans (hj.mono B.size)
  clear hj
  go_wp2_with fail
  refine (is47_no 44 _ (by decide) _).mono ?_
  rintro e wj ⟨rfl, hj⟩
  replace B := B.trans (hj.mono B.size)
  clear hj
  go_wp2_with fail
  refine (is50_no 44 _ (by decide) _).mono ?_
  rintro e wj ⟨rfl, hj⟩
  replace B := B.trans (hj.mono B.size)
  clear hj
  go_wp2_with fail
  refine (is52_no 44 _ (by decide) _).mono ?_
  rintro e wj ⟨rfl, hj⟩
  replace B := B.trans (hj.mono B.size)
  clear hj
  go_wp2_with fail
  refine (is54_no 44 _ (by decide) _).mono ?_
  rintro e wj ⟨rfl, hj⟩
  replace B := B.trans (hj.mono B.size)
  clear hj
  go_wp2_with fail
  refine (is56_no 44 _ (by decide) _).mono ?_
  rintro e wj ⟨rfl, hj⟩
  replace B := B.trans (hj.mono B.size)
  clear hj
  go_wp2
  go_ret
  exact ⟨rfl, B⟩
theorem quiet_store (w : World) (a : Option Addr) (n cap : Nat) (c : Cm) (h : StrsAt w a n c.keys) (hn : n ≤ 1000) (h0 : (c.what.toList == [103, 101, 116]) = false) (hw : (c.what.toList == [115, 116, 111, 114, 101]) = true) : Calls Try.prog 12 #[cmV c (.slice a n cap)] w fun e w' => e = .returned (.bool c.q) ∧ Below w.heap.size w w' := by
  have B := (Below.refl w.heap.size w).alloc (Nat.le_refl _) (.cells #[.string c.what, .string c.verb, .slice a n cap, .string c.data, .int .u32 c.fl, .int .i64 c.ex, .int .u64 c.cs, .int .u64 c.y, .bool c.wc, .bool c.wt, .bool c.dn, .bool c.q] 28)
  have H := h.later B
  have m := as47 (.agg #[.string c.verb, .string (hd c.keys), .string c.data, .int .u32 c.fl, .int .i64 c.ex, .int .u64 c.cs, .bool c.q])
  have ff := fld47_6 c.verb (hd c.keys) c.data c.fl c.ex c.cs c.q
  go_enter Try.func12, Try.ntmps12
  go_wp2_with fail
  refine (typed_store _ a n cap c H hn h0 hw).mono ?_
  rintro e wj ⟨rfl, hj⟩
  replace B := B.trans (hj.mono B.size)
  clear hj
  go_wp2_with fail
  refine (is47_yes c.verb (hd c.keys) c.data c.fl c.ex c.cs c.q _).mono ?_
  rintro e wj ⟨rfl, hj⟩
  replace B := B.trans (hj.mono B.size)
  clear hj
  go_wp2
  go_ret
  exact ⟨rfl, B⟩
theorem quiet_arith (w : World) (a : Option Addr) (n cap : Nat) (c : Cm) (h : StrsAt w a n c.keys) (hn : n ≤ 1000) (h0 : (c.what.toList == [103, 101, 116]) = false) (h1 : (c.what.toList == [115, 116, 111, 114, 101]) = false) (hw : (c.what.toList == [97, 114, 105, 116, 104]) = true) : Calls Try.prog 12 #[cmV c (.slice a n cap)] w fun e w' => e = .returned (.bool c.q) ∧ Below w.heap.size w w' := by
  have B := (Below.refl w.heap.size w).alloc (Nat.le_refl _) (.cells #[.string c.what, .string c.verb, .slice a n cap, .string c.data, .int .u32 c.fl, .int .i64 c.ex, .int .u64 c.cs, .int .u64 c.y, .bool c.wc, .bool c.wt, .bool c.dn, .bool c.q] 28)
  have H := h.later B
  have m := as50 (.agg #[.string (hd c.keys), .int .u64 c.y, .bool c.dn, .bool c.q])
  have ff := fld50_3 (hd c.keys) c.y c.dn c.q
  go_enter Try.func12, Try.ntmps12
  go_wp2_with fail
  refine (typed_arith _ a n cap c H hn h0 h1 hw).mono ?_
  rintro e wj ⟨rfl, hj⟩
  replace B := B.trans (hj.mono B.size)
  clear hj
  go_wp2_with fail
  refine (is47_no 50 _ (by decide) _).mono ?_
  rintro e wj ⟨rfl, hj⟩
  replace B := B.trans (hj.mono B.size)
  clear hj
  go_wp2_with fail
  refine (is50_yes (hd c.keys) c.y c.dn c.q _).mono ?_
  rintro e wj ⟨rfl, hj⟩
  replace B := B.trans (hj.mono B.size)
  clear hj
  go_wp2
  go_ret
  exact ⟨rfl, B⟩
theorem quiet_touch (w : World) (a : Option Addr) (n cap : Nat) (c : Cm) (h : StrsAt w a n c.keys) (hn : n ≤ 1000) (h0 : (c.what.toList == [103, 101, 116]) = false) (h1 : (c.what.toList == [115, 116, 111, 114, 101]) = false) (h2 : (c.what.toList == [97, 114, 105, 116, 104]) = false) (hw : (c.what.toList == [116, 111, 117, 99, 104]) = true) : Calls Try.prog 12 #[cmV c (.slice a n cap)] w fun e w' => e = .returned (.bool c.q) ∧ Below w.heap.size w w' := by
  have B := (Below.refl w.heap.size w).alloc (Nat.le_refl _) (.cells #[.string c.what, .string c.verb, .slice a n cap, .string c.data, .int .u32 c.fl, .int .i64 c.ex, .int .u64 c.cs, .int .u64 c.y, .bool c.wc, .bool c.wt, .bool c.dn, .bool c.q] 28)
  have H := h.later B
  have m := as52 (.agg #[.string (hd c.keys), .int .i64 c.ex, .bool c.q])
  have ff := fld52_2 (hd c.keys) c.ex c.q
  go_enter Try.func12, Try.ntmps12
  go_wp2_with fail
  refine (typed_touch _ a n cap c H hn h0 h1 h2 hw).mono ?_
  rintro e wj ⟨rfl, hj⟩
  replace B := B.trans (hj.mono B.size)
  clear hj
  go_wp2_with fail
  refine (is47_no 52 _ (by decide) _).mono ?_
  rintro e wj ⟨rfl, hj⟩
  replace B := B.trans (hj.mono B.size)
  clear hj
  go_wp2_with fail
  refine (is50_no 52 _ (by decide) _).mono ?_
  rintro e wj ⟨rfl, hj⟩
  replace B := B.trans (hj.mono B.size)
  clear hj
  go_wp2_with fail
  refine (is52_yes (hd c.keys) c.ex c.q _).mono ?_
  rintro e wj ⟨rfl, hj⟩
  replace B := B.trans (hj.mono B.size)
  clear hj
  go_wp2
  go_ret
  exact ⟨rfl, B⟩
theorem quiet_delete (w : World) (a : Option Addr) (n cap : Nat) (c : Cm) (h : StrsAt w a n c.keys) (hn : n ≤ 1000) (h0 : (c.what.toList == [103, 101, 116]) = false) (h1 : (c.what.toList == [115, 116, 111, 114, 101]) = false) (h2 : (c.what.toList == [97, 114, 105, 116, 104]) = false) (h3 : (c.what.toList == [116, 111, 117, 99, 104]) = false) (hw : (c.what.toList == [100, 101, 108, 101, 116, 101]) = true) : Calls Try.prog 12 #[cmV c (.slice a n cap)] w fun e w' => e = .returned (.bool c.q) ∧ Below w.heap.size w w' := by
  have B := (Below.refl w.heap.size w).alloc (Nat.le_refl _) (.cells #[.string c.what, .string c.verb, .slice a n cap, .string c.data, .int .u32 c.fl, .int .i64 c.ex, .int .u64 c.cs, .int .u64 c.y, .bool c.wc, .bool c.wt, .bool c.dn, .bool c.q] 28)
  have H := h.later B
  have m := as54 (.agg #[.string (hd c.keys), .bool c.q])
  have ff := fld54_1 (hd c.keys) c.q
  go_enter Try.func12, Try.ntmps12
  go_wp2_with fail
  refine (typed_delete _ a n cap c H hn h0 h1 h2 h3 hw).mono ?_
  rintro e wj ⟨rfl, hj⟩
  replace B := B.trans (hj.mono B.size)
  clear hj
  go_wp2_with fail
  refine (is47_no 54 _ (by decide) _).mono ?_
  rintro e wj ⟨rfl, hj⟩
  replace B := B.trans (hj.mono B.size)
  clear hj
  go_wp2_with fail
  refine (is50_no 54 _ (by decide) _).mono ?_
  rintro e wj ⟨rfl, hj⟩
  replace B := B.trans (hj.mono B.size)
  clear hj
  go_wp2_with fail
  refine (is52_no 54 _ (by decide) _).mono ?_
  rintro e wj ⟨rfl, hj⟩
  replace B := B.trans (hj.mono B.size)
  clear hj
  go_wp2_with fail
  refine (is54_yes (hd c.keys) c.q _).mono ?_
  rintro e wj ⟨rfl, hj⟩
  replace B := B.trans (hj.mono B.size)
  clear hj
  go_wp2
  go_ret
  exact ⟨rfl, B⟩
theorem quiet_flush (w : World) (a : Option Addr) (n cap : Nat) (c : Cm) (h : StrsAt w a n c.keys) (hn : n ≤ 1000) (h0 : (c.what.toList == [103, 101, 116]) = false) (h1 : (c.what.toList == [115, 116, 111, 114, 101]) = false) (h2 : (c.what.toList == [97, 114, 105, 116, 104]) = false) (h3 : (c.what.toList == [116, 111, 117, 99, 104]) = false) (h4 : (c.what.toList == [100, 101, 108, 101, 116, 101]) = false) (hw : (c.what.toList == [102, 108, 117, 115, 104]) = true) : Calls Try.prog 12 #[cmV c (.slice a n cap)] w fun e w' => e = .returned (.bool c.q) ∧ Below w.heap.size w w' := by
  have B := (Below.refl w.heap.size w).alloc (Nat.le_refl _) (.cells #[.string c.what, .string c.verb, .slice a n cap, .string c.data, .int .u32 c.fl, .int .i64 c.ex, .int .u64 c.cs, .int .u64 c.y, .bool c.wc, .bool c.wt, .bool c.dn, .bool c.q] 28)
  have H := h.later B
  have m := as56 (.agg #[.bool c.q])
  have ff := fld56_0 c.q
  go_enter Try.func12, Try.ntmps12
  go_wp2_with fail
  refine (typed_flush _ a n cap c H hn h0 h1 h2 h3 h4 hw).mono ?_
  rintro e wj ⟨rfl, hj⟩
  replace B := B.trans (hj.mono B.size)
  clear hj
  go_wp2_with fail
  refine (is47_no 56 _ (by decide) _).mono ?_
  rintro e wj ⟨rfl, hj⟩
  replace B := B.trans (hj.mono B.size)
  clear hj
  go_wp2_with fail
  refine (is50_no 56 _ (by decide) _).mono ?_
  rintro e wj ⟨rfl, hj⟩
  replace B := B.trans (hj.mono B.size)
  clear hj
  go_wp2_with fail
  refine (is52_no 56 _ (by decide) _).mono ?_
  rintro e wj ⟨rfl, hj⟩
  replace B := B.trans (hj.mono B.size)
  clear hj
  go_wp2_with fail
  refine (is54_no 56 _ (by decide) _).mono ?_
  rintro e wj ⟨rfl, hj⟩
  replace B := B.trans (hj.mono B.size)
  clear hj
  go_wp2_with fail
  refine (is56_yes c.q _).mono ?_
  rintro e wj ⟨rfl, hj⟩
  replace B := B.trans (hj.mono B.size)
  clear hj
  go_wp2
  go_ret
  exact ⟨rfl, B⟩
theorem quiet_bad (w : World) (a : Option Addr) (n cap : Nat) (c : Cm) (h : StrsAt w a n c.keys) (hn : n ≤ 1000) (h0 : (c.what.toList == [103, 101, 116]) = false) (h1 : (c.what.toList == [115, 116, 111, 114, 101]) = false) (h2 : (c.what.toList == [97, 114, 105, 116, 104]) = false) (h3 : (c.what.toList == [116, 111, 117, 99, 104]) = false) (h4 : (c.what.toList == [100, 101, 108, 101, 116, 101]) = false) (h5 : (c.what.toList == [102, 108, 117, 115, 104]) = false) (hw : (c.what.toList == [98, 97, 100]) = true) : Calls Try.prog 12 #[cmV c (.slice a n cap)] w fun e w' => e = .returned (.bool false) ∧ Below w.heap.size w w' := by
  have B := (Below.refl w.heap.size w).alloc (Nat.le_refl _) (.cells #[.string c.what, .string c.verb, .slice a n cap, .string c.data, .int .u32 c.fl, .int .i64 c.ex, .int .u64 c.cs, .int .u64 c.y, .bool c.wc, .bool c.wt, .bool c.dn, .bool c.q] 28)
  have H := h.later B
  go_enter Try.func12, Try.ntmps12
  go_wp2_with fail
  refine (typed_bad _ a n cap c H hn h0 h1 h2 h3 h4 h5 hw).mono ?_
  rintro e wj ⟨rfl, hj⟩
  replace B := B.trans (hj.mono B.size)
  clear hj
  go_wp2_with fail
  refine (is47_no 58 _ (by decide) _).mono ?_
  rintro e wj ⟨rfl, hj⟩
  replace B := B.trans (hj.mono B.size)
  clear hj
  go_wp2_with fail
  refine (is50_no 58 _ (by decide) _).mono ?_
  rintro e wj ⟨rfl, hj⟩
  replace B := B.trans (hj.mono B.size)
  clear hj
  go_wp2_with fail
  refine (is52_no 58 _ (by decide) _).mono ?_
  rintro e wj ⟨rfl, hj⟩
  replace B := B.trans (hj.mono B.size)
  clear hj
  go_wp2_with fail
  refine (is54_no 58 _ (by decide) _).mono ?_
  rintro e wj ⟨rfl, hj⟩
  replace B := B.trans (hj.mono B.size)
  clear hj
  go_wp2_with fail
  refine (is56_no 58 _ (by decide) _).mono ?_
  rintro e wj ⟨rfl, hj⟩
  replace B := B.trans (hj.mono B.size)
  clear hj
  go_wp2
  go_ret
  exact ⟨rfl, B⟩
theorem quiet_word (w : World) (a : Option Addr) (n cap : Nat) (c : Cm) (h : StrsAt w a n c.keys) (hn : n ≤ 1000) (h0 : (c.what.toList == [103, 101, 116]) = false) (h1 : (c.what.toList == [115, 116, 111, 114, 101]) = false) (h2 : (c.what.toList == [97, 114, 105, 116, 104]) = false) (h3 : (c.what.toList == [116, 111, 117, 99, 104]) = false) (h4 : (c.what.toList == [100, 101, 108, 101, 116, 101]) = false) (h5 : (c.what.toList == [102, 108, 117, 115, 104]) = false) (h6 : (c.what.toList == [98, 97, 100]) = false) (hw : (c.what.toList == [119, 111, 114, 100]) = true) : Calls Try.prog 12 #[cmV c (.slice a n cap)] w fun e w' => e = .returned (.bool false) ∧ Below w.heap.size w w' := by
  have B := (Below.refl w.heap.size w).alloc (Nat.le_refl _) (.cells #[.string c.what, .string c.verb, .slice a n cap, .string c.data, .int .u32 c.fl, .int .i64 c.ex, .int .u64 c.cs, .int .u64 c.y, .bool c.wc, .bool c.wt, .bool c.dn, .bool c.q] 28)
  have H := h.later B
  go_enter Try.func12, Try.ntmps12
  go_wp2_with fail
  refine (typed_word _ a n cap c H hn h0 h1 h2 h3 h4 h5 h6 hw).mono ?_
  rintro e wj ⟨rfl, hj⟩
  replace B := B.trans (hj.mono B.size)
  clear hj
  go_wp2_with fail
  refine (is47_no 60 _ (by decide) _).mono ?_
  rintro e wj ⟨rfl, hj⟩
  replace B := B.trans (hj.mono B.size)
  clear hj
  go_wp2_with fail
  refine (is50_no 60 _ (by decide) _).mono ?_
  rintro e wj ⟨rfl, hj⟩
  replace B := B.trans (hj.mono B.size)
  clear hj
  go_wp2_with fail
  refine (is52_no 60 _ (by decide) _).mono ?_
  rintro e wj ⟨rfl, hj⟩
  replace B := B.trans (hj.mono B.size)
  clear hj
  go_wp2_with fail
  refine (is54_no 60 _ (by decide) _).mono ?_
  rintro e wj ⟨rfl, hj⟩
  replace B := B.trans (hj.mono B.size)
  clear hj
  go_wp2_with fail
  refine (is56_no 60 _ (by decide) _).mono ?_
  rintro e wj ⟨rfl, hj⟩
  replace B := B.trans (hj.mono B.size)
  clear hj
  go_wp2
  go_ret
  exact ⟨rfl, B⟩
theorem quiet_none (w : World) (a : Option Addr) (n cap : Nat) (c : Cm) (h : StrsAt w a n c.keys) (hn : n ≤ 1000) (h0 : (c.what.toList == [103, 101, 116]) = false) (h1 : (c.what.toList == [115, 116, 111, 114, 101]) = false) (h2 : (c.what.toList == [97, 114, 105, 116, 104]) = false) (h3 : (c.what.toList == [116, 111, 117, 99, 104]) = false) (h4 : (c.what.toList == [100, 101, 108, 101, 116, 101]) = false) (h5 : (c.what.toList == [102, 108, 117, 115, 104]) = false) (h6 : (c.what.toList == [98, 97, 100]) = false) (h7 : (c.what.toList == [119, 111, 114, 100]) = false) : Calls Try.prog 12 #[cmV c (.slice a n cap)] w fun e w' => e = .returned (.bool false) ∧ Below w.heap.size w w' := by
  have B := (Below.refl w.heap.size w).alloc (Nat.le_refl _) (.cells #[.string c.what, .string c.verb, .slice a n cap, .string c.data, .int .u32 c.fl, .int .i64 c.ex, .int .u64 c.cs, .int .u64 c.y, .bool c.wc, .bool c.wt, .bool c.dn, .bool c.q] 28)
  have H := h.later B
  go_enter Try.func12, Try.ntmps12
  go_wp2_with fail
  refine (typed_none _ a n cap c H hn h0 h1 h2 h3 h4 h5 h6 h7).mono ?_
  rintro e wj ⟨rfl, hj⟩
  replace B := B.trans (hj.mono B.size)
  clear hj
  go_wp2_with fail
  refine (is47_nil _).mono ?_
  rintro e wj ⟨rfl, hj⟩
  replace B := B.trans (hj.mono B.size)
  clear hj
  go_wp2_with fail
  refine (is50_nil _).mono ?_
  rintro e wj ⟨rfl, hj⟩
  replace B := B.trans (hj.mono B.size)
  clear hj
  go_wp2_with fail
  refine (is52_nil _).mono ?_
  rintro e wj ⟨rfl, hj⟩
  replace B := B.trans (hj.mono B.size)
  clear hj
  go_wp2_with fail
  refine (is54_nil _).mono ?_
  rintro e wj ⟨rfl, hj⟩
  replace B := B.trans (hj.mono B.size)
  clear hj
  go_wp2_with fail
  refine (is56_nil _).mono ?_
  rintro e wj ⟨rfl, hj⟩
  replace B := B.trans (hj.mono B.size)
  clear hj
  go_wp2
  go_ret
  exact ⟨rfl, B⟩
theorem quiet_any (w : World) (a : Option Addr) (n cap : Nat) (c : Cm) (h : StrsAt w a n c.keys) (hn : n ≤ 1000) : Calls Try.prog 12 #[cmV c (.slice a n cap)] w fun e w' => e = .returned (.bool (quietP c)) ∧ Below w.heap.size w w' := by
  cases h0 : c.what.toList == [103, 101, 116] with
  | true =>
    refine (quiet_get w a n cap c h hn h0).mono ?_
    rintro e w' hp
    simpa only [quietP, h0, if_true, if_false, Bool.false_eq_true] using hp
  | false =>
    cases h1 : c.what.toList == [115, 116, 111, 114, 101] with
    | true =>
      refine (quiet_store w a n cap c h hn h0 h1).mono ?_
      rintro e w' hp
      simpa only [quietP, h0, h1, if_true, if_false, Bool.false_eq_true] using hp
    | false =>
      cases h2 : c.what.toList == [97, 114, 105, 116, 104] with
      | true =>
        refine (quiet_arith w a n cap c h hn h0 h1 h2).mono ?_
        rintro e w' hp
        simpa only [quietP, h0, h1, h2, if_true, if_false, Bool.false_eq_true] using hp
      | false =>
        cases h3 : c.what.toList == [116, 111, 117, 99, 104] with
        | true =>
          refine (quiet_touch w a n cap c h hn h0 h1 h2 h3).mono ?_
          rintro e w' hp
          simpa only [quietP, h0, h1, h2, h3, if_true, if_false, Bool.false_eq_true] using hp
        | false =>
          cases h4 : c.what.toList == [100, 101, 108, 101, 116, 101] with
          | true =>
            refine (quiet_delete w a n cap c h hn h0 h1 h2 h3 h4).mono ?_
            rintro e w' hp
            simpa only [quietP, h0, h1, h2, h3, h4, if_true, if_false, Bool.false_eq_true] using hp
          | false =>
            cases h5 : c.what.toList == [102, 108, 117, 115, 104] with
            | true =>
              refine (quiet_flush w a n cap c h hn h0 h1 h2 h3 h4 h5).mono ?_
              rintro e w' hp
              simpa only [quietP, h0, h1, h2, h3, h4, h5, if_true, if_false, Bool.false_eq_true] using hp
            | false =>
              cases h6 : c.what.toList == [98, 97, 100] with
              | true =>
                refine (quiet_bad w a n cap c h hn h0 h1 h2 h3 h4 h5 h6).mono ?_
                rintro e w' hp
                simpa only [quietP, h0, h1, h2, h3, h4, h5, h6, if_true, if_false, Bool.false_eq_true] using hp
              | false =>
                cases h7 : c.what.toList == [119, 111, 114, 100] with
                | true =>
                  refine (quiet_word w a n cap c h hn h0 h1 h2 h3 h4 h5 h6 h7).mono ?_
                  rintro e w' hp
                  simpa only [quietP, h0, h1, h2, h3, h4, h5, h6, h7, if_true, if_false, Bool.false_eq_true] using hp
                | false =>
                  refine (quiet_none w a n cap c h hn h0 h1 h2 h3 h4 h5 h6 h7).mono ?_
                  rintro e w' hp
                  simpa only [quietP, h0, h1, h2, h3, h4, h5, h6, h7, if_true, if_false, Bool.false_eq_true] using hp
end Go.Proofs.Ytofjadgnkpcaeaa