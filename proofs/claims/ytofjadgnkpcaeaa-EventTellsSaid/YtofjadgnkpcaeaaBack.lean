/-
  Back of a command of any kind.
-/
import Derived.Test.YtofjadgnkpcaeaaRefB2
import Derived.Test.YtofjadgnkpcaeaaRefB3
import Derived.Test.YtofjadgnkpcaeaaRefB4
import Derived.Test.YtofjadgnkpcaeaaRefB5
namespace Go.Proofs.Ytofjadgnkpcaeaa
open Go.Shelf Go.RowKit Go.Deep
set_option linter.unusedVariables false
set_option linter.unusedSimpArgs false
set_option maxRecDepth 1000000

/-- The program's command for one of the document's. -/
def backC (c : Cm) : Cm :=
  if (c.what.toList == [103, 101, 116]) = true then ⟨⟨#[103, 101, 116]⟩, ⟨#[]⟩, c.keys, ⟨#[]⟩, 0, c.ex, 0, 0, c.wc, c.wt, false, false⟩ else
  if (c.what.toList == [115, 116, 111, 114, 101]) = true then ⟨⟨#[115, 116, 111, 114, 101]⟩, c.verb, [hd c.keys], c.data, c.fl, c.ex, c.cs, 0, false, false, false, c.q⟩ else
  if (c.what.toList == [97, 114, 105, 116, 104]) = true then ⟨⟨#[97, 114, 105, 116, 104]⟩, ⟨#[]⟩, [hd c.keys], ⟨#[]⟩, 0, 0, 0, c.y, false, false, c.dn, c.q⟩ else
  if (c.what.toList == [116, 111, 117, 99, 104]) = true then ⟨⟨#[116, 111, 117, 99, 104]⟩, ⟨#[]⟩, [hd c.keys], ⟨#[]⟩, 0, c.ex, 0, 0, false, false, false, c.q⟩ else
  if (c.what.toList == [100, 101, 108, 101, 116, 101]) = true then ⟨⟨#[100, 101, 108, 101, 116, 101]⟩, ⟨#[]⟩, [hd c.keys], ⟨#[]⟩, 0, 0, 0, 0, false, false, false, c.q⟩ else
  if (c.what.toList == [102, 108, 117, 115, 104]) = true then ⟨⟨#[102, 108, 117, 115, 104]⟩, ⟨#[]⟩, [], ⟨#[]⟩, 0, 0, 0, 0, false, false, false, c.q⟩ else
  if (c.what.toList == [98, 97, 100]) = true then ⟨c.what, c.verb, [], ⟨#[]⟩, 0, 0, 0, 0, false, false, false, false⟩ else
  if (c.what.toList == [119, 111, 114, 100]) = true then ⟨c.what, c.verb, [], ⟨#[]⟩, 0, 0, 0, 0, false, false, false, false⟩ else
  ⟨⟨#[]⟩, ⟨#[]⟩, [], ⟨#[]⟩, 0, 0, 0, 0, false, false, false, false⟩
theorem back_any (w : World) (a : Option Addr) (n cap : Nat) (c : Cm) (h : StrsAt w a n c.keys) (hn : n ≤ 1000) : Calls Try.prog 13 #[cmV c (.slice a n cap)] w fun e w' => ∃ a' n' c', e = .returned (cmV (backC c) (.slice a' n' c')) ∧ StrsAt w' a' n' (Cm.keys (backC c)) ∧ n' ≤ 1000 ∧ Below w.heap.size w w' := by
  cases h0 : c.what.toList == [103, 101, 116] with
  | true =>
    have e : backC c = ⟨⟨#[103, 101, 116]⟩, ⟨#[]⟩, c.keys, ⟨#[]⟩, 0, c.ex, 0, 0, c.wc, c.wt, false, false⟩ := by simp only [backC, h0, if_true, if_false, Bool.false_eq_true]
    rw [e]
    exact back_get w a n cap c h hn h0
  | false =>
    cases h1 : c.what.toList == [115, 116, 111, 114, 101] with
    | true =>
      have e : backC c = ⟨⟨#[115, 116, 111, 114, 101]⟩, c.verb, [hd c.keys], c.data, c.fl, c.ex, c.cs, 0, false, false, false, c.q⟩ := by simp only [backC, h0, h1, if_true, if_false, Bool.false_eq_true]
      rw [e]
      exact back_store w a n cap c h hn h0 h1
    | false =>
      cases h2 : c.what.toList == [97, 114, 105, 116, 104] with
      | true =>
        have e : backC c = ⟨⟨#[97, 114, 105, 116, 104]⟩, ⟨#[]⟩, [hd c.keys], ⟨#[]⟩, 0, 0, 0, c.y, false, false, c.dn, c.q⟩ := by simp only [backC, h0, h1, h2, if_true, if_false, Bool.false_eq_true]
        rw [e]
        exact back_arith w a n cap c h hn h0 h1 h2
      | false =>
        cases h3 : c.what.toList == [116, 111, 117, 99, 104] with
        | true =>
          have e : backC c = ⟨⟨#[116, 111, 117, 99, 104]⟩, ⟨#[]⟩, [hd c.keys], ⟨#[]⟩, 0, c.ex, 0, 0, false, false, false, c.q⟩ := by simp only [backC, h0, h1, h2, h3, if_true, if_false, Bool.false_eq_true]
          rw [e]
          exact back_touch w a n cap c h hn h0 h1 h2 h3
        | false =>
          cases h4 : c.what.toList == [100, 101, 108, 101, 116, 101] with
          | true =>
            have e : backC c = ⟨⟨#[100, 101, 108, 101, 116, 101]⟩, ⟨#[]⟩, [hd c.keys], ⟨#[]⟩, 0, 0, 0, 0, false, false, false, c.q⟩ := by simp only [backC, h0, h1, h2, h3, h4, if_true, if_false, Bool.false_eq_true]
            rw [e]
            exact back_delete w a n cap c h hn h0 h1 h2 h3 h4
          | false =>
            cases h5 : c.what.toList == [102, 108, 117, 115, 104] with
            | true =>
              have e : backC c = ⟨⟨#[102, 108, 117, 115, 104]⟩, ⟨#[]⟩, [], ⟨#[]⟩, 0, 0, 0, 0, false, false, false, c.q⟩ := by simp only [backC, h0, h1, h2, h3, h4, h5, if_true, if_false, Bool.false_eq_true]
              rw [e]
              exact back_flush w a n cap c h hn h0 h1 h2 h3 h4 h5
            | false =>
              cases h6 : c.what.toList == [98, 97, 100] with
              | true =>
                have e : backC c = ⟨c.what, c.verb, [], ⟨#[]⟩, 0, 0, 0, 0, false, false, false, false⟩ := by simp only [backC, h0, h1, h2, h3, h4, h5, h6, if_true, if_false, Bool.false_eq_true]
                rw [e]
                exact back_bad w a n cap c h hn h0 h1 h2 h3 h4 h5 h6
              | false =>
                cases h7 : c.what.toList == [119, 111, 114, 100] with
                | true =>
                  have e : backC c = ⟨c.what, c.verb, [], ⟨#[]⟩, 0, 0, 0, 0, false, false, false, false⟩ := by simp only [backC, h0, h1, h2, h3, h4, h5, h6, h7, if_true, if_false, Bool.false_eq_true]
                  rw [e]
                  exact back_word w a n cap c h hn h0 h1 h2 h3 h4 h5 h6 h7
                | false =>
                  have e : backC c = ⟨⟨#[]⟩, ⟨#[]⟩, [], ⟨#[]⟩, 0, 0, 0, 0, false, false, false, false⟩ := by simp only [backC, h0, h1, h2, h3, h4, h5, h6, h7, if_true, if_false, Bool.false_eq_true]
                  rw [e]
                  exact back_none w a n cap c h hn h0 h1 h2 h3 h4 h5 h6 h7
end Go.Proofs.Ytofjadgnkpcaeaa