/- How many of the first ones have room, reckoned as the law does. -/
import Derived.Test.YtanbbmlekebhhaaLr
set_option linter.unusedVariables false
set_option linter.unusedSimpArgs false
namespace Go.Proofs.Ytanbbmlekebhhaa
open Go.RowKit Go.Deep Math

theorem fit_all : ∀ (xs : List It) (m : Nat), total xs ≤ m → fitN xs m = xs.length
  | [], _, _ => rfl
  | x :: r, m, h => by
    simp only [total] at h
    rw [fitN, if_pos (by omega), fit_all r (m - x.size) (by omega)]
    rfl
theorem fit_snoc : ∀ (xs : List It) (x : It) (m : Nat), m < total (xs ++ [x]) → fitN (xs ++ [x]) m = fitN xs m
  | [], x, m, h => by
    simp only [List.nil_append, total] at h
    show (if x.size ≤ m then fitN [] (m - x.size) + 1 else 0) = 0
    rw [if_neg (by omega)]
  | y :: r, x, m, h => by
    simp only [List.cons_append, total] at h
    rw [List.cons_append, fitN, fitN]
    by_cases hy : y.size ≤ m
    · rw [if_pos hy, if_pos hy, fit_snoc r x (m - y.size) (by omega)]
    · rw [if_neg hy, if_neg hy]
theorem take_one (xs : List It) (i : Nat) (x : It) (h : xs[i]? = some x) : xs.take (i + 1) = xs.take i ++ [x] := by
  rw [List.take_add_one, h]; rfl
/-- One round of the law's reckoning. -/
structure Fit (xs : List It) (m i tot ft : Nat) : Prop where
  good : (xs.take i).all It.good = true
  sum : tot = total (xs.take i)
  fit : ft = fitN (xs.take i) m
  few : tot ≤ 1306 * i
theorem Fit.zero (xs : List It) (m : Nat) : Fit xs m 0 0 0 := ⟨by simp, by simp [total], by simp [fitN], by omega⟩
theorem Fit.yes {xs : List It} {m i tot ft : Nat} {x : It} (h : Fit xs m i tot ft) (hx : xs[i]? = some x) (hg : x.good = true) (hs : tot + x.size ≤ m) : Fit xs m (i + 1) (tot + x.size) (i + 1) := by
  have hi : i < xs.length := (List.getElem?_eq_some_iff.1 hx).1
  have e := total_take_succ xs i x hx
  have hz := (It.good_iff x).1 hg
  refine ⟨by rw [all_take_succ xs i x hx, h.good, hg]; rfl, by rw [e, h.sum], ?_, ?_⟩
  · rw [fit_all _ _ (by rw [e, ← h.sum]; exact hs), List.length_take]; omega
  · have := h.few; unfold It.size; omega
theorem Fit.no {xs : List It} {m i tot ft : Nat} {x : It} (h : Fit xs m i tot ft) (hx : xs[i]? = some x) (hg : x.good = true) (hs : m < tot + x.size) : Fit xs m (i + 1) (tot + x.size) ft := by
  have e := total_take_succ xs i x hx
  have hz := (It.good_iff x).1 hg
  refine ⟨by rw [all_take_succ xs i x hx, h.good, hg]; rfl, by rw [e, h.sum], ?_, ?_⟩
  · rw [take_one xs i x hx, fit_snoc _ _ _ (by rw [← take_one xs i x hx, e, ← h.sum]; exact hs), h.fit]
  · have := h.few; unfold It.size; omega
theorem Fit.all {xs : List It} {m tot ft n : Nat} (h : Fit xs m n tot ft) (hn : n = xs.length) : xs.all It.good = true ∧ ft = fitN xs m := by
  have h1 := h.good
  have h2 := h.fit
  rw [hn, List.take_length] at h1 h2
  exact ⟨h1, h2⟩
end Go.Proofs.Ytanbbmlekebhhaa
