/-
  The document's command for one of the program's.
-/
import Derived.Test.YtofjadgnkpcaeaaCmd0
import Derived.Test.YtofjadgnkpcaeaaCmd1
namespace Go.Proofs.Ytofjadgnkpcaeaa
open Go.Shelf Go.RowKit Go.Deep
set_option linter.unusedVariables false
set_option linter.unusedSimpArgs false
set_option maxRecDepth 1000000
theorem cmd_any (w : World) (a : Option Addr) (n cap : Nat) (c : Cm) (h : StrsAt w a n c.keys) (hn : n ≤ 1000) :
    Calls Try.prog 14 #[cmV c (.slice a n cap)] w fun e w' => ∃ a' c', e = .returned (cmV c (.slice a' n c')) ∧ StrsAt w' a' n c.keys ∧ Below w.heap.size w w' := by
  rcases Nat.eq_zero_or_pos n with h0 | h0
  · exact cmd_none w a n cap c h hn h0
  · exact cmd_some w a n cap c h hn h0
end Go.Proofs.Ytofjadgnkpcaeaa
