/-
  Lines of one long word; the parser asked of them.
-/
import Derived.Test.YtmfjaehajdephabJR
import Derived.Test.YtmfjaehajdephabJO
namespace Go.Proofs.Ytmfjaehajdephab
open Go.Shelf Go.RowKit Go.Deep
set_option linter.unusedVariables false
set_option linter.unusedSimpArgs false
set_option maxRecDepth 1000000

theorem spl_one (l : List UInt8) (h : ∀ x ∈ l, x ≠ 32) (h0 : l ≠ []) : spl [] l = [l] := by
  have := spl_run l [] [] h
  rw [List.append_nil, List.nil_append] at this
  rw [this]
  simp [spl, h0]
theorem isW_long (x : ByteArray) (l : List UInt8) (h : l.length < x.size) : isW x l = false := by
  cases hc : isW x l with
  | false => rfl
  | true =>
    have := (isW_iff x l).1 hc
    subst this
    exact absurd h (by show ¬ l.length < l.toArray.size; simp)
theorem one_word (w : ByteArray) (h : 20 < w.size) : oneW [w] = (errC, none) := by
  have e0 : wd_ [w] 0 = w := rfl
  have k (l : List UInt8) (hl : l.length ≤ 20) : isW w l = false := isW_long w l (by omega)
  have hs : set5 w = false := by
    unfold set5
    rw [k _ (by decide), k _ (by decide), k _ (by decide), k _ (by decide), k _ (by decide)]
    rfl
  have hc : casB [w] = false := k _ (by decide)
  have ha : aloneP [w] = errC := by
    unfold aloneP
    simp only [e0]
    rw [k w_get (by decide), k w_gets (by decide), k w_gat (by decide), k w_gats (by decide), k w_incr (by decide), k w_decr (by decide), k w_touch (by decide), k w_del_ (by decide), k w_flush (by decide), k w_ver (by decide), k w_quit (by decide)]
    rfl
  unfold oneW
  rw [if_neg (by simp), e0, hs, if_neg (by simp), hc, if_neg (by simp), ha]
theorem oneP_xs (n : Nat) (hn : 20 < n) : oneP (List.replicate n 120) = (errC, none) := by
  unfold oneP oneB wordsB
  show oneW (List.map mk8 (spl [] (List.replicate n 120))) = _
  rw [spl_one _ (fun x hx => by rw [List.eq_of_mem_replicate hx]; decide) (by intro h; have := congrArg List.length h; simp at this; omega)]
  exact one_word _ (by show 20 < (List.replicate n (120 : UInt8)).toArray.size; simp; exact hn)
theorem endP_none (l : List UInt8) (h : ∀ x ∈ l, x ≠ 10) : endP l = l.length := by
  unfold endP
  rw [List.findIdx_eq_length]
  intro x hx
  simpa using h x hx
def edgeB (n : Nat) (cr : Bool) : List UInt8 := List.replicate n 120 ++ (if cr = true then [13] else [])
theorem edge_no (n : Nat) (cr : Bool) : ∀ x ∈ edgeB n cr, x ≠ 10 := fun x hx => by
  unfold edgeB at hx
  rcases List.mem_append.1 hx with h | h
  · rw [List.eq_of_mem_replicate h]; decide
  · cases cr with
    | false => simp at h
    | true => simp at h; subst h; decide
theorem edge_cut (n : Nat) (cr : Bool) (hn : 0 < n) : cutP (edgeB n cr) = List.replicate n 120 := by
  unfold edgeB cutP
  cases cr with
  | true => simp
  | false =>
    simp only [Bool.false_eq_true, if_false, List.append_nil]
    rw [if_neg]
    intro h
    rw [List.getLast?_replicate, if_neg (by omega)] at h
    revert h
    decide
theorem edge_long (n : Nat) (cr : Bool) (hn : 2048 < n) : nextP oneP ⟨edgeB n cr, false, none⟩ = (some (badC longT), ⟨[], true, none⟩) := by
  have e : nextP oneP ⟨edgeB n cr, false, none⟩ = lineP oneP (edgeB n cr) := rfl
  rw [e]
  unfold lineP
  simp only []
  rw [endP_none _ (edge_no n cr), List.take_length, edge_cut n cr (by omega), List.length_replicate, if_pos hn, if_neg (Nat.lt_irrefl _)]
theorem edge_wait (n : Nat) (cr : Bool) (h0 : 0 < n) (hn : n ≤ 2048) : nextP oneP ⟨edgeB n cr, false, none⟩ = (none, ⟨edgeB n cr, false, none⟩) := by
  have e : nextP oneP ⟨edgeB n cr, false, none⟩ = lineP oneP (edgeB n cr) := rfl
  rw [e]
  unfold lineP
  simp only []
  rw [endP_none _ (edge_no n cr), List.take_length, edge_cut n cr (by omega), List.length_replicate, if_neg (by omega), if_pos rfl]
theorem edge_line (n : Nat) (cr : Bool) (h0 : 20 < n) (hn : n ≤ 2048) : nextP oneP ⟨edgeB n cr ++ [10], false, none⟩ = (some errC, ⟨[], false, none⟩) := by
  have e : nextP oneP ⟨edgeB n cr ++ [10], false, none⟩ = lineP oneP (edgeB n cr ++ [10]) := rfl
  rw [e]
  unfold lineP
  simp only []
  have he : endP (edgeB n cr ++ [10]) = (edgeB n cr).length := by
    rw [endP_app2 _ _ (endP_none _ (edge_no n cr))]
    rfl
  rw [he, List.take_left, edge_cut n cr (by omega), List.length_replicate, if_neg (by omega), if_neg (by rw [List.length_append]; simp), oneP_xs n h0]
  simp
end Go.Proofs.Ytmfjaehajdephab
