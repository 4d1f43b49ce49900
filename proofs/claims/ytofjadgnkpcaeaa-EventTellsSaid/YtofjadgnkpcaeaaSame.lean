/-
  The program's command for one of the document's: both sides say the same of it.
-/
import Derived.Test.YtofjadgnkpcaeaaBack
import Derived.Test.YtofjadgnkpcaeaaRefG
namespace Go.Proofs.Ytofjadgnkpcaeaa
open Go.Shelf Go.RowKit Go.Deep
set_option linter.unusedVariables false
set_option linter.unusedSimpArgs false
set_option maxRecDepth 1000000
theorem hd_one (k : ByteArray) : hd [k] = k := rfl
theorem bytes_eq {b : ByteArray} {l : List UInt8} (h : (b.toList == l) = true) : b = ⟨l.toArray⟩ := by
  have e : b.toList = l := eq_of_beq h
  rw [ByteArray.toList_eq] at e
  cases b with
  | mk d => simp only at e; rw [← e]
theorem back_good_eq (c : Cm) : goodP (backC c) = rgoodP (backC c) := by
  cases h0 : c.what.toList == [103, 101, 116] with
  | true =>
    have e : backC c = ⟨⟨#[103, 101, 116]⟩, ⟨#[]⟩, c.keys, ⟨#[]⟩, 0, c.ex, 0, 0, c.wc, c.wt, false, false⟩ := by simp only [backC, h0, if_true, if_false, Bool.false_eq_true]
    have h1 : goodP ⟨⟨#[103, 101, 116]⟩, ⟨#[]⟩, c.keys, ⟨#[]⟩, 0, c.ex, 0, 0, c.wc, c.wt, false, false⟩ = (cntB c.keys.length && c.keys.all keyB) := by kernel_rfl
    have h2 : rgoodP ⟨⟨#[103, 101, 116]⟩, ⟨#[]⟩, c.keys, ⟨#[]⟩, 0, c.ex, 0, 0, c.wc, c.wt, false, false⟩ = (c.keys.all keyB && cntB c.keys.length) := by kernel_rfl
    rw [e, h1, h2, Bool.and_comm]
  | false =>
    cases h1 : c.what.toList == [115, 116, 111, 114, 101] with
    | true =>
      have e : backC c = ⟨⟨#[115, 116, 111, 114, 101]⟩, c.verb, [hd c.keys], c.data, c.fl, c.ex, c.cs, 0, false, false, false, c.q⟩ := by simp only [backC, h0, h1, if_true, if_false, Bool.false_eq_true]
      have h1 : goodP ⟨⟨#[115, 116, 111, 114, 101]⟩, c.verb, [hd c.keys], c.data, c.fl, c.ex, c.cs, 0, false, false, false, c.q⟩ = (storesB c.verb c.data && keyB (hd c.keys)) := by kernel_rfl
      have h2 : rgoodP ⟨⟨#[115, 116, 111, 114, 101]⟩, c.verb, [hd c.keys], c.data, c.fl, c.ex, c.cs, 0, false, false, false, c.q⟩ = ([hd c.keys].all keyB && storesB c.verb c.data) := by kernel_rfl
      rw [e, h1, h2]
      simp [Bool.and_comm]
    | false =>
      cases h2 : c.what.toList == [97, 114, 105, 116, 104] with
      | true =>
        have e : backC c = ⟨⟨#[97, 114, 105, 116, 104]⟩, ⟨#[]⟩, [hd c.keys], ⟨#[]⟩, 0, 0, 0, c.y, false, false, c.dn, c.q⟩ := by simp only [backC, h0, h1, h2, if_true, if_false, Bool.false_eq_true]
        have h1 : goodP ⟨⟨#[97, 114, 105, 116, 104]⟩, ⟨#[]⟩, [hd c.keys], ⟨#[]⟩, 0, 0, 0, c.y, false, false, c.dn, c.q⟩ = keyB (hd c.keys) := by kernel_rfl
        have h2 : rgoodP ⟨⟨#[97, 114, 105, 116, 104]⟩, ⟨#[]⟩, [hd c.keys], ⟨#[]⟩, 0, 0, 0, c.y, false, false, c.dn, c.q⟩ = ([hd c.keys].all keyB && true) := by kernel_rfl
        rw [e, h1, h2]
        simp
      | false =>
        cases h3 : c.what.toList == [116, 111, 117, 99, 104] with
        | true =>
          have e : backC c = ⟨⟨#[116, 111, 117, 99, 104]⟩, ⟨#[]⟩, [hd c.keys], ⟨#[]⟩, 0, c.ex, 0, 0, false, false, false, c.q⟩ := by simp only [backC, h0, h1, h2, h3, if_true, if_false, Bool.false_eq_true]
          have h1 : goodP ⟨⟨#[116, 111, 117, 99, 104]⟩, ⟨#[]⟩, [hd c.keys], ⟨#[]⟩, 0, c.ex, 0, 0, false, false, false, c.q⟩ = keyB (hd c.keys) := by kernel_rfl
          have h2 : rgoodP ⟨⟨#[116, 111, 117, 99, 104]⟩, ⟨#[]⟩, [hd c.keys], ⟨#[]⟩, 0, c.ex, 0, 0, false, false, false, c.q⟩ = ([hd c.keys].all keyB && true) := by kernel_rfl
          rw [e, h1, h2]
          simp
        | false =>
          cases h4 : c.what.toList == [100, 101, 108, 101, 116, 101] with
          | true =>
            have e : backC c = ⟨⟨#[100, 101, 108, 101, 116, 101]⟩, ⟨#[]⟩, [hd c.keys], ⟨#[]⟩, 0, 0, 0, 0, false, false, false, c.q⟩ := by simp only [backC, h0, h1, h2, h3, h4, if_true, if_false, Bool.false_eq_true]
            have h1 : goodP ⟨⟨#[100, 101, 108, 101, 116, 101]⟩, ⟨#[]⟩, [hd c.keys], ⟨#[]⟩, 0, 0, 0, 0, false, false, false, c.q⟩ = keyB (hd c.keys) := by kernel_rfl
            have h2 : rgoodP ⟨⟨#[100, 101, 108, 101, 116, 101]⟩, ⟨#[]⟩, [hd c.keys], ⟨#[]⟩, 0, 0, 0, 0, false, false, false, c.q⟩ = ([hd c.keys].all keyB && true) := by kernel_rfl
            rw [e, h1, h2]
            simp
          | false =>
            cases h5 : c.what.toList == [102, 108, 117, 115, 104] with
            | true =>
              have e : backC c = ⟨⟨#[102, 108, 117, 115, 104]⟩, ⟨#[]⟩, [], ⟨#[]⟩, 0, 0, 0, 0, false, false, false, c.q⟩ := by simp only [backC, h0, h1, h2, h3, h4, h5, if_true, if_false, Bool.false_eq_true]
              have z : goodP ⟨⟨#[102, 108, 117, 115, 104]⟩, ⟨#[]⟩, [], ⟨#[]⟩, 0, 0, 0, 0, false, false, false, c.q⟩ = rgoodP ⟨⟨#[102, 108, 117, 115, 104]⟩, ⟨#[]⟩, [], ⟨#[]⟩, 0, 0, 0, 0, false, false, false, c.q⟩ := by kernel_rfl
              rw [e]
              exact z
            | false =>
              cases h6 : c.what.toList == [98, 97, 100] with
              | true =>
                have e : backC c = ⟨c.what, c.verb, [], ⟨#[]⟩, 0, 0, 0, 0, false, false, false, false⟩ := by simp only [backC, h0, h1, h2, h3, h4, h5, h6, if_true, if_false, Bool.false_eq_true]
                rw [bytes_eq h6] at e
                have z : goodP ⟨⟨#[98, 97, 100]⟩, c.verb, [], ⟨#[]⟩, 0, 0, 0, 0, false, false, false, false⟩ = rgoodP ⟨⟨#[98, 97, 100]⟩, c.verb, [], ⟨#[]⟩, 0, 0, 0, 0, false, false, false, false⟩ := by kernel_rfl
                rw [e]
                exact z
              | false =>
                cases h7 : c.what.toList == [119, 111, 114, 100] with
                | true =>
                  have e : backC c = ⟨c.what, c.verb, [], ⟨#[]⟩, 0, 0, 0, 0, false, false, false, false⟩ := by simp only [backC, h0, h1, h2, h3, h4, h5, h6, h7, if_true, if_false, Bool.false_eq_true]
                  rw [bytes_eq h7] at e
                  have z : goodP ⟨⟨#[119, 111, 114, 100]⟩, c.verb, [], ⟨#[]⟩, 0, 0, 0, 0, false, false, false, false⟩ = rgoodP ⟨⟨#[119, 111, 114, 100]⟩, c.verb, [], ⟨#[]⟩, 0, 0, 0, 0, false, false, false, false⟩ := by kernel_rfl
                  rw [e]
                  exact z
                | false =>
                  have e : backC c = ⟨⟨#[]⟩, ⟨#[]⟩, [], ⟨#[]⟩, 0, 0, 0, 0, false, false, false, false⟩ := by simp only [backC, h0, h1, h2, h3, h4, h5, h6, h7, if_true, if_false, Bool.false_eq_true]
                  have z : goodP ⟨⟨#[]⟩, ⟨#[]⟩, [], ⟨#[]⟩, 0, 0, 0, 0, false, false, false, false⟩ = rgoodP ⟨⟨#[]⟩, ⟨#[]⟩, [], ⟨#[]⟩, 0, 0, 0, 0, false, false, false, false⟩ := by kernel_rfl
                  rw [e]
                  exact z
theorem back_quiet_eq (c : Cm) : quietP (backC c) = Cm.q (backC c) := by
  cases h0 : c.what.toList == [103, 101, 116] with
  | true =>
    have e : backC c = ⟨⟨#[103, 101, 116]⟩, ⟨#[]⟩, c.keys, ⟨#[]⟩, 0, c.ex, 0, 0, c.wc, c.wt, false, false⟩ := by simp only [backC, h0, if_true, if_false, Bool.false_eq_true]
    have z : quietP ⟨⟨#[103, 101, 116]⟩, ⟨#[]⟩, c.keys, ⟨#[]⟩, 0, c.ex, 0, 0, c.wc, c.wt, false, false⟩ = Cm.q ⟨⟨#[103, 101, 116]⟩, ⟨#[]⟩, c.keys, ⟨#[]⟩, 0, c.ex, 0, 0, c.wc, c.wt, false, false⟩ := by kernel_rfl
    rw [e]
    exact z
  | false =>
    cases h1 : c.what.toList == [115, 116, 111, 114, 101] with
    | true =>
      have e : backC c = ⟨⟨#[115, 116, 111, 114, 101]⟩, c.verb, [hd c.keys], c.data, c.fl, c.ex, c.cs, 0, false, false, false, c.q⟩ := by simp only [backC, h0, h1, if_true, if_false, Bool.false_eq_true]
      have z : quietP ⟨⟨#[115, 116, 111, 114, 101]⟩, c.verb, [hd c.keys], c.data, c.fl, c.ex, c.cs, 0, false, false, false, c.q⟩ = Cm.q ⟨⟨#[115, 116, 111, 114, 101]⟩, c.verb, [hd c.keys], c.data, c.fl, c.ex, c.cs, 0, false, false, false, c.q⟩ := by kernel_rfl
      rw [e]
      exact z
    | false =>
      cases h2 : c.what.toList == [97, 114, 105, 116, 104] with
      | true =>
        have e : backC c = ⟨⟨#[97, 114, 105, 116, 104]⟩, ⟨#[]⟩, [hd c.keys], ⟨#[]⟩, 0, 0, 0, c.y, false, false, c.dn, c.q⟩ := by simp only [backC, h0, h1, h2, if_true, if_false, Bool.false_eq_true]
        have z : quietP ⟨⟨#[97, 114, 105, 116, 104]⟩, ⟨#[]⟩, [hd c.keys], ⟨#[]⟩, 0, 0, 0, c.y, false, false, c.dn, c.q⟩ = Cm.q ⟨⟨#[97, 114, 105, 116, 104]⟩, ⟨#[]⟩, [hd c.keys], ⟨#[]⟩, 0, 0, 0, c.y, false, false, c.dn, c.q⟩ := by kernel_rfl
        rw [e]
        exact z
      | false =>
        cases h3 : c.what.toList == [116, 111, 117, 99, 104] with
        | true =>
          have e : backC c = ⟨⟨#[116, 111, 117, 99, 104]⟩, ⟨#[]⟩, [hd c.keys], ⟨#[]⟩, 0, c.ex, 0, 0, false, false, false, c.q⟩ := by simp only [backC, h0, h1, h2, h3, if_true, if_false, Bool.false_eq_true]
          have z : quietP ⟨⟨#[116, 111, 117, 99, 104]⟩, ⟨#[]⟩, [hd c.keys], ⟨#[]⟩, 0, c.ex, 0, 0, false, false, false, c.q⟩ = Cm.q ⟨⟨#[116, 111, 117, 99, 104]⟩, ⟨#[]⟩, [hd c.keys], ⟨#[]⟩, 0, c.ex, 0, 0, false, false, false, c.q⟩ := by kernel_rfl
          rw [e]
          exact z
        | false =>
          cases h4 : c.what.toList == [100, 101, 108, 101, 116, 101] with
          | true =>
            have e : backC c = ⟨⟨#[100, 101, 108, 101, 116, 101]⟩, ⟨#[]⟩, [hd c.keys], ⟨#[]⟩, 0, 0, 0, 0, false, false, false, c.q⟩ := by simp only [backC, h0, h1, h2, h3, h4, if_true, if_false, Bool.false_eq_true]
            have z : quietP ⟨⟨#[100, 101, 108, 101, 116, 101]⟩, ⟨#[]⟩, [hd c.keys], ⟨#[]⟩, 0, 0, 0, 0, false, false, false, c.q⟩ = Cm.q ⟨⟨#[100, 101, 108, 101, 116, 101]⟩, ⟨#[]⟩, [hd c.keys], ⟨#[]⟩, 0, 0, 0, 0, false, false, false, c.q⟩ := by kernel_rfl
            rw [e]
            exact z
          | false =>
            cases h5 : c.what.toList == [102, 108, 117, 115, 104] with
            | true =>
              have e : backC c = ⟨⟨#[102, 108, 117, 115, 104]⟩, ⟨#[]⟩, [], ⟨#[]⟩, 0, 0, 0, 0, false, false, false, c.q⟩ := by simp only [backC, h0, h1, h2, h3, h4, h5, if_true, if_false, Bool.false_eq_true]
              have z : quietP ⟨⟨#[102, 108, 117, 115, 104]⟩, ⟨#[]⟩, [], ⟨#[]⟩, 0, 0, 0, 0, false, false, false, c.q⟩ = Cm.q ⟨⟨#[102, 108, 117, 115, 104]⟩, ⟨#[]⟩, [], ⟨#[]⟩, 0, 0, 0, 0, false, false, false, c.q⟩ := by kernel_rfl
              rw [e]
              exact z
            | false =>
              cases h6 : c.what.toList == [98, 97, 100] with
              | true =>
                have e : backC c = ⟨c.what, c.verb, [], ⟨#[]⟩, 0, 0, 0, 0, false, false, false, false⟩ := by simp only [backC, h0, h1, h2, h3, h4, h5, h6, if_true, if_false, Bool.false_eq_true]
                rw [bytes_eq h6] at e
                have z : quietP ⟨⟨#[98, 97, 100]⟩, c.verb, [], ⟨#[]⟩, 0, 0, 0, 0, false, false, false, false⟩ = Cm.q ⟨⟨#[98, 97, 100]⟩, c.verb, [], ⟨#[]⟩, 0, 0, 0, 0, false, false, false, false⟩ := by kernel_rfl
                rw [e]
                exact z
              | false =>
                cases h7 : c.what.toList == [119, 111, 114, 100] with
                | true =>
                  have e : backC c = ⟨c.what, c.verb, [], ⟨#[]⟩, 0, 0, 0, 0, false, false, false, false⟩ := by simp only [backC, h0, h1, h2, h3, h4, h5, h6, h7, if_true, if_false, Bool.false_eq_true]
                  rw [bytes_eq h7] at e
                  have z : quietP ⟨⟨#[119, 111, 114, 100]⟩, c.verb, [], ⟨#[]⟩, 0, 0, 0, 0, false, false, false, false⟩ = Cm.q ⟨⟨#[119, 111, 114, 100]⟩, c.verb, [], ⟨#[]⟩, 0, 0, 0, 0, false, false, false, false⟩ := by kernel_rfl
                  rw [e]
                  exact z
                | false =>
                  have e : backC c = ⟨⟨#[]⟩, ⟨#[]⟩, [], ⟨#[]⟩, 0, 0, 0, 0, false, false, false, false⟩ := by simp only [backC, h0, h1, h2, h3, h4, h5, h6, h7, if_true, if_false, Bool.false_eq_true]
                  have z : quietP ⟨⟨#[]⟩, ⟨#[]⟩, [], ⟨#[]⟩, 0, 0, 0, 0, false, false, false, false⟩ = Cm.q ⟨⟨#[]⟩, ⟨#[]⟩, [], ⟨#[]⟩, 0, 0, 0, 0, false, false, false, false⟩ := by kernel_rfl
                  rw [e]
                  exact z
theorem back_name_eq (c : Cm) : nameP (backC c) = rnameP (backC c) := by
  cases h0 : c.what.toList == [103, 101, 116] with
  | true =>
    have e : backC c = ⟨⟨#[103, 101, 116]⟩, ⟨#[]⟩, c.keys, ⟨#[]⟩, 0, c.ex, 0, 0, c.wc, c.wt, false, false⟩ := by simp only [backC, h0, if_true, if_false, Bool.false_eq_true]
    have z : nameP ⟨⟨#[103, 101, 116]⟩, ⟨#[]⟩, c.keys, ⟨#[]⟩, 0, c.ex, 0, 0, c.wc, c.wt, false, false⟩ = rnameP ⟨⟨#[103, 101, 116]⟩, ⟨#[]⟩, c.keys, ⟨#[]⟩, 0, c.ex, 0, 0, c.wc, c.wt, false, false⟩ := by kernel_rfl
    rw [e]
    exact z
  | false =>
    cases h1 : c.what.toList == [115, 116, 111, 114, 101] with
    | true =>
      have e : backC c = ⟨⟨#[115, 116, 111, 114, 101]⟩, c.verb, [hd c.keys], c.data, c.fl, c.ex, c.cs, 0, false, false, false, c.q⟩ := by simp only [backC, h0, h1, if_true, if_false, Bool.false_eq_true]
      have z : nameP ⟨⟨#[115, 116, 111, 114, 101]⟩, c.verb, [hd c.keys], c.data, c.fl, c.ex, c.cs, 0, false, false, false, c.q⟩ = rnameP ⟨⟨#[115, 116, 111, 114, 101]⟩, c.verb, [hd c.keys], c.data, c.fl, c.ex, c.cs, 0, false, false, false, c.q⟩ := by kernel_rfl
      rw [e]
      exact z
    | false =>
      cases h2 : c.what.toList == [97, 114, 105, 116, 104] with
      | true =>
        have e : backC c = ⟨⟨#[97, 114, 105, 116, 104]⟩, ⟨#[]⟩, [hd c.keys], ⟨#[]⟩, 0, 0, 0, c.y, false, false, c.dn, c.q⟩ := by simp only [backC, h0, h1, h2, if_true, if_false, Bool.false_eq_true]
        have z : nameP ⟨⟨#[97, 114, 105, 116, 104]⟩, ⟨#[]⟩, [hd c.keys], ⟨#[]⟩, 0, 0, 0, c.y, false, false, c.dn, c.q⟩ = rnameP ⟨⟨#[97, 114, 105, 116, 104]⟩, ⟨#[]⟩, [hd c.keys], ⟨#[]⟩, 0, 0, 0, c.y, false, false, c.dn, c.q⟩ := by kernel_rfl
        rw [e]
        exact z
      | false =>
        cases h3 : c.what.toList == [116, 111, 117, 99, 104] with
        | true =>
          have e : backC c = ⟨⟨#[116, 111, 117, 99, 104]⟩, ⟨#[]⟩, [hd c.keys], ⟨#[]⟩, 0, c.ex, 0, 0, false, false, false, c.q⟩ := by simp only [backC, h0, h1, h2, h3, if_true, if_false, Bool.false_eq_true]
          have z : nameP ⟨⟨#[116, 111, 117, 99, 104]⟩, ⟨#[]⟩, [hd c.keys], ⟨#[]⟩, 0, c.ex, 0, 0, false, false, false, c.q⟩ = rnameP ⟨⟨#[116, 111, 117, 99, 104]⟩, ⟨#[]⟩, [hd c.keys], ⟨#[]⟩, 0, c.ex, 0, 0, false, false, false, c.q⟩ := by kernel_rfl
          rw [e]
          exact z
        | false =>
          cases h4 : c.what.toList == [100, 101, 108, 101, 116, 101] with
          | true =>
            have e : backC c = ⟨⟨#[100, 101, 108, 101, 116, 101]⟩, ⟨#[]⟩, [hd c.keys], ⟨#[]⟩, 0, 0, 0, 0, false, false, false, c.q⟩ := by simp only [backC, h0, h1, h2, h3, h4, if_true, if_false, Bool.false_eq_true]
            have z : nameP ⟨⟨#[100, 101, 108, 101, 116, 101]⟩, ⟨#[]⟩, [hd c.keys], ⟨#[]⟩, 0, 0, 0, 0, false, false, false, c.q⟩ = rnameP ⟨⟨#[100, 101, 108, 101, 116, 101]⟩, ⟨#[]⟩, [hd c.keys], ⟨#[]⟩, 0, 0, 0, 0, false, false, false, c.q⟩ := by kernel_rfl
            rw [e]
            exact z
          | false =>
            cases h5 : c.what.toList == [102, 108, 117, 115, 104] with
            | true =>
              have e : backC c = ⟨⟨#[102, 108, 117, 115, 104]⟩, ⟨#[]⟩, [], ⟨#[]⟩, 0, 0, 0, 0, false, false, false, c.q⟩ := by simp only [backC, h0, h1, h2, h3, h4, h5, if_true, if_false, Bool.false_eq_true]
              have z : nameP ⟨⟨#[102, 108, 117, 115, 104]⟩, ⟨#[]⟩, [], ⟨#[]⟩, 0, 0, 0, 0, false, false, false, c.q⟩ = rnameP ⟨⟨#[102, 108, 117, 115, 104]⟩, ⟨#[]⟩, [], ⟨#[]⟩, 0, 0, 0, 0, false, false, false, c.q⟩ := by kernel_rfl
              rw [e]
              exact z
            | false =>
              cases h6 : c.what.toList == [98, 97, 100] with
              | true =>
                have e : backC c = ⟨c.what, c.verb, [], ⟨#[]⟩, 0, 0, 0, 0, false, false, false, false⟩ := by simp only [backC, h0, h1, h2, h3, h4, h5, h6, if_true, if_false, Bool.false_eq_true]
                rw [bytes_eq h6] at e
                have z : nameP ⟨⟨#[98, 97, 100]⟩, c.verb, [], ⟨#[]⟩, 0, 0, 0, 0, false, false, false, false⟩ = rnameP ⟨⟨#[98, 97, 100]⟩, c.verb, [], ⟨#[]⟩, 0, 0, 0, 0, false, false, false, false⟩ := by kernel_rfl
                rw [e]
                exact z
              | false =>
                cases h7 : c.what.toList == [119, 111, 114, 100] with
                | true =>
                  have e : backC c = ⟨c.what, c.verb, [], ⟨#[]⟩, 0, 0, 0, 0, false, false, false, false⟩ := by simp only [backC, h0, h1, h2, h3, h4, h5, h6, h7, if_true, if_false, Bool.false_eq_true]
                  rw [bytes_eq h7] at e
                  have z : nameP ⟨⟨#[119, 111, 114, 100]⟩, c.verb, [], ⟨#[]⟩, 0, 0, 0, 0, false, false, false, false⟩ = rnameP ⟨⟨#[119, 111, 114, 100]⟩, c.verb, [], ⟨#[]⟩, 0, 0, 0, 0, false, false, false, false⟩ := by kernel_rfl
                  rw [e]
                  exact z
                | false =>
                  have e : backC c = ⟨⟨#[]⟩, ⟨#[]⟩, [], ⟨#[]⟩, 0, 0, 0, 0, false, false, false, false⟩ := by simp only [backC, h0, h1, h2, h3, h4, h5, h6, h7, if_true, if_false, Bool.false_eq_true]
                  have z : nameP ⟨⟨#[]⟩, ⟨#[]⟩, [], ⟨#[]⟩, 0, 0, 0, 0, false, false, false, false⟩ = rnameP ⟨⟨#[]⟩, ⟨#[]⟩, [], ⟨#[]⟩, 0, 0, 0, 0, false, false, false, false⟩ := by kernel_rfl
                  rw [e]
                  exact z
theorem back_keys_eq (c : Cm) : keysP (backC c) = Cm.keys (backC c) := by
  cases h0 : c.what.toList == [103, 101, 116] with
  | true =>
    have e : backC c = ⟨⟨#[103, 101, 116]⟩, ⟨#[]⟩, c.keys, ⟨#[]⟩, 0, c.ex, 0, 0, c.wc, c.wt, false, false⟩ := by simp only [backC, h0, if_true, if_false, Bool.false_eq_true]
    have z : keysP ⟨⟨#[103, 101, 116]⟩, ⟨#[]⟩, c.keys, ⟨#[]⟩, 0, c.ex, 0, 0, c.wc, c.wt, false, false⟩ = Cm.keys ⟨⟨#[103, 101, 116]⟩, ⟨#[]⟩, c.keys, ⟨#[]⟩, 0, c.ex, 0, 0, c.wc, c.wt, false, false⟩ := by kernel_rfl
    rw [e]
    exact z
  | false =>
    cases h1 : c.what.toList == [115, 116, 111, 114, 101] with
    | true =>
      have e : backC c = ⟨⟨#[115, 116, 111, 114, 101]⟩, c.verb, [hd c.keys], c.data, c.fl, c.ex, c.cs, 0, false, false, false, c.q⟩ := by simp only [backC, h0, h1, if_true, if_false, Bool.false_eq_true]
      have z : keysP ⟨⟨#[115, 116, 111, 114, 101]⟩, c.verb, [hd c.keys], c.data, c.fl, c.ex, c.cs, 0, false, false, false, c.q⟩ = Cm.keys ⟨⟨#[115, 116, 111, 114, 101]⟩, c.verb, [hd c.keys], c.data, c.fl, c.ex, c.cs, 0, false, false, false, c.q⟩ := by kernel_rfl
      rw [e]
      exact z
    | false =>
      cases h2 : c.what.toList == [97, 114, 105, 116, 104] with
      | true =>
        have e : backC c = ⟨⟨#[97, 114, 105, 116, 104]⟩, ⟨#[]⟩, [hd c.keys], ⟨#[]⟩, 0, 0, 0, c.y, false, false, c.dn, c.q⟩ := by simp only [backC, h0, h1, h2, if_true, if_false, Bool.false_eq_true]
        have z : keysP ⟨⟨#[97, 114, 105, 116, 104]⟩, ⟨#[]⟩, [hd c.keys], ⟨#[]⟩, 0, 0, 0, c.y, false, false, c.dn, c.q⟩ = Cm.keys ⟨⟨#[97, 114, 105, 116, 104]⟩, ⟨#[]⟩, [hd c.keys], ⟨#[]⟩, 0, 0, 0, c.y, false, false, c.dn, c.q⟩ := by kernel_rfl
        rw [e]
        exact z
      | false =>
        cases h3 : c.what.toList == [116, 111, 117, 99, 104] with
        | true =>
          have e : backC c = ⟨⟨#[116, 111, 117, 99, 104]⟩, ⟨#[]⟩, [hd c.keys], ⟨#[]⟩, 0, c.ex, 0, 0, false, false, false, c.q⟩ := by simp only [backC, h0, h1, h2, h3, if_true, if_false, Bool.false_eq_true]
          have z : keysP ⟨⟨#[116, 111, 117, 99, 104]⟩, ⟨#[]⟩, [hd c.keys], ⟨#[]⟩, 0, c.ex, 0, 0, false, false, false, c.q⟩ = Cm.keys ⟨⟨#[116, 111, 117, 99, 104]⟩, ⟨#[]⟩, [hd c.keys], ⟨#[]⟩, 0, c.ex, 0, 0, false, false, false, c.q⟩ := by kernel_rfl
          rw [e]
          exact z
        | false =>
          cases h4 : c.what.toList == [100, 101, 108, 101, 116, 101] with
          | true =>
            have e : backC c = ⟨⟨#[100, 101, 108, 101, 116, 101]⟩, ⟨#[]⟩, [hd c.keys], ⟨#[]⟩, 0, 0, 0, 0, false, false, false, c.q⟩ := by simp only [backC, h0, h1, h2, h3, h4, if_true, if_false, Bool.false_eq_true]
            have z : keysP ⟨⟨#[100, 101, 108, 101, 116, 101]⟩, ⟨#[]⟩, [hd c.keys], ⟨#[]⟩, 0, 0, 0, 0, false, false, false, c.q⟩ = Cm.keys ⟨⟨#[100, 101, 108, 101, 116, 101]⟩, ⟨#[]⟩, [hd c.keys], ⟨#[]⟩, 0, 0, 0, 0, false, false, false, c.q⟩ := by kernel_rfl
            rw [e]
            exact z
          | false =>
            cases h5 : c.what.toList == [102, 108, 117, 115, 104] with
            | true =>
              have e : backC c = ⟨⟨#[102, 108, 117, 115, 104]⟩, ⟨#[]⟩, [], ⟨#[]⟩, 0, 0, 0, 0, false, false, false, c.q⟩ := by simp only [backC, h0, h1, h2, h3, h4, h5, if_true, if_false, Bool.false_eq_true]
              have z : keysP ⟨⟨#[102, 108, 117, 115, 104]⟩, ⟨#[]⟩, [], ⟨#[]⟩, 0, 0, 0, 0, false, false, false, c.q⟩ = Cm.keys ⟨⟨#[102, 108, 117, 115, 104]⟩, ⟨#[]⟩, [], ⟨#[]⟩, 0, 0, 0, 0, false, false, false, c.q⟩ := by kernel_rfl
              rw [e]
              exact z
            | false =>
              cases h6 : c.what.toList == [98, 97, 100] with
              | true =>
                have e : backC c = ⟨c.what, c.verb, [], ⟨#[]⟩, 0, 0, 0, 0, false, false, false, false⟩ := by simp only [backC, h0, h1, h2, h3, h4, h5, h6, if_true, if_false, Bool.false_eq_true]
                rw [bytes_eq h6] at e
                have z : keysP ⟨⟨#[98, 97, 100]⟩, c.verb, [], ⟨#[]⟩, 0, 0, 0, 0, false, false, false, false⟩ = Cm.keys ⟨⟨#[98, 97, 100]⟩, c.verb, [], ⟨#[]⟩, 0, 0, 0, 0, false, false, false, false⟩ := by kernel_rfl
                rw [e]
                exact z
              | false =>
                cases h7 : c.what.toList == [119, 111, 114, 100] with
                | true =>
                  have e : backC c = ⟨c.what, c.verb, [], ⟨#[]⟩, 0, 0, 0, 0, false, false, false, false⟩ := by simp only [backC, h0, h1, h2, h3, h4, h5, h6, h7, if_true, if_false, Bool.false_eq_true]
                  rw [bytes_eq h7] at e
                  have z : keysP ⟨⟨#[119, 111, 114, 100]⟩, c.verb, [], ⟨#[]⟩, 0, 0, 0, 0, false, false, false, false⟩ = Cm.keys ⟨⟨#[119, 111, 114, 100]⟩, c.verb, [], ⟨#[]⟩, 0, 0, 0, 0, false, false, false, false⟩ := by kernel_rfl
                  rw [e]
                  exact z
                | false =>
                  have e : backC c = ⟨⟨#[]⟩, ⟨#[]⟩, [], ⟨#[]⟩, 0, 0, 0, 0, false, false, false, false⟩ := by simp only [backC, h0, h1, h2, h3, h4, h5, h6, h7, if_true, if_false, Bool.false_eq_true]
                  have z : keysP ⟨⟨#[]⟩, ⟨#[]⟩, [], ⟨#[]⟩, 0, 0, 0, 0, false, false, false, false⟩ = Cm.keys ⟨⟨#[]⟩, ⟨#[]⟩, [], ⟨#[]⟩, 0, 0, 0, 0, false, false, false, false⟩ := by kernel_rfl
                  rw [e]
                  exact z
theorem back_sizes (c : Cm) (h1 : c.verb.size ≤ 140737488351232) (h2 : c.data.size ≤ 140737488351232) : (backC c).verb.size ≤ 140737488351232 ∧ (backC c).data.size ≤ 140737488351232 := by
  unfold backC
  repeat' split
  all_goals exact ⟨by first | exact h1 | exact Nat.zero_le _, by first | exact h2 | exact Nat.zero_le _⟩
theorem Bx.store {w : World} {b : Nat} {cs : Array Value} {t : TypeId} (h : Bx w b cs t) (i : Nat) (v : Value) : Bx (w.setCell ⟨b, i, none⟩ v) b (cs.setIfInBounds i v) t :=
  ⟨by rw [World.size_setCell]; exact h.1, heap_setCell_same w b i cs t v h.2⟩
theorem Bx.frozen {w : World} {b : Nat} {cs : Array Value} {t : TypeId} (h : Bx w b cs t) (i : Nat) : w.frozen? ⟨b, i, none⟩ = false := frozen_of_row w b i cs t h.2
theorem lim2 {W : World} {m3 m4 : Nat} {x : Cm} {ax ay : Option Addr} {nx cx cy : Nat} (X : Bx W m3 #[.string x.what, .string x.verb, .slice ax nx cx, .string x.data, .int .u32 x.fl, .int .i64 x.ex, .int .u64 x.cs, .int .u64 x.y, .bool x.wc, .bool x.wt, .bool x.dn, .bool x.q] 28) (Y : Bx W m4 #[.string x.what, .string x.verb, .slice ay nx cy, .string x.data, .int .u32 x.fl, .int .i64 x.ex, .int .u64 x.cs, .int .u64 x.y, .bool x.wc, .bool x.wt, .bool x.dn, .bool x.q] 31) : W.cell? ⟨m3, 0, none⟩ = some (.string x.what) ∧ W.cell? ⟨m3, 1, none⟩ = some (.string x.verb) ∧ W.cell? ⟨m3, 2, none⟩ = some (.slice ax nx cx) ∧ W.cell? ⟨m3, 3, none⟩ = some (.string x.data) ∧ W.cell? ⟨m3, 4, none⟩ = some (.int .u32 x.fl) ∧ W.cell? ⟨m3, 5, none⟩ = some (.int .i64 x.ex) ∧ W.cell? ⟨m3, 6, none⟩ = some (.int .u64 x.cs) ∧ W.cell? ⟨m3, 7, none⟩ = some (.int .u64 x.y) ∧ W.cell? ⟨m3, 8, none⟩ = some (.bool x.wc) ∧ W.cell? ⟨m3, 9, none⟩ = some (.bool x.wt) ∧ W.cell? ⟨m3, 10, none⟩ = some (.bool x.dn) ∧ W.cell? ⟨m3, 11, none⟩ = some (.bool x.q) ∧ W.cell? ⟨m4, 0, none⟩ = some (.string x.what) ∧ W.cell? ⟨m4, 1, none⟩ = some (.string x.verb) ∧ W.cell? ⟨m4, 2, none⟩ = some (.slice ay nx cy) ∧ W.cell? ⟨m4, 3, none⟩ = some (.string x.data) ∧ W.cell? ⟨m4, 4, none⟩ = some (.int .u32 x.fl) ∧ W.cell? ⟨m4, 5, none⟩ = some (.int .i64 x.ex) ∧ W.cell? ⟨m4, 6, none⟩ = some (.int .u64 x.cs) ∧ W.cell? ⟨m4, 7, none⟩ = some (.int .u64 x.y) ∧ W.cell? ⟨m4, 8, none⟩ = some (.bool x.wc) ∧ W.cell? ⟨m4, 9, none⟩ = some (.bool x.wt) ∧ W.cell? ⟨m4, 10, none⟩ = some (.bool x.dn) ∧ W.cell? ⟨m4, 11, none⟩ = some (.bool x.q) := by
  refine ⟨X.cell 0 _ rfl, X.cell 1 _ rfl, X.cell 2 _ rfl, X.cell 3 _ rfl, X.cell 4 _ rfl, X.cell 5 _ rfl, X.cell 6 _ rfl, X.cell 7 _ rfl, X.cell 8 _ rfl, X.cell 9 _ rfl, X.cell 10 _ rfl, X.cell 11 _ rfl, Y.cell 0 _ rfl, Y.cell 1 _ rfl, Y.cell 2 _ rfl, Y.cell 3 _ rfl, Y.cell 4 _ rfl, Y.cell 5 _ rfl, Y.cell 6 _ rfl, Y.cell 7 _ rfl, Y.cell 8 _ rfl, Y.cell 9 _ rfl, Y.cell 10 _ rfl, Y.cell 11 _ rfl⟩
end Go.Proofs.Ytofjadgnkpcaeaa
