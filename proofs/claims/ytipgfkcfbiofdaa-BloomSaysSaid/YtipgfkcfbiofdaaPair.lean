/- Two filters beside one another. -/
import Derived.Test.YtipgfkcfbiofdaaCnt
set_option linter.unusedVariables false
set_option linter.unusedSimpArgs false
namespace Go.Proofs.Ytipgfkcfbiofdaa
open Go.RowKit Go.Deep Math

theorem Fl.keep {w0 : World} {f s : Nat} {l : List Bool} {t : Nat} {W W' : World} {q : Nat} (h : Fl w0 f s l t W) (k : Keep [q] W W') (h1 : f ≠ q) (h2 : s ≠ q) (hq : w0.heap.size ≤ q) : Fl w0 f s l t W' :=
  ⟨h.flt.keep k (by simpa using h1) (by simpa using h2), h.bel.trans (k.below (by simpa using hq) h.bel.size), h.lf, h.ls⟩

structure Two (w0 : World) (f s : Nat) (l : List Bool) (g u : Nat) (m : List Bool) (t : Nat) (W : World) : Prop where
  a : Fl w0 f s l t W
  b : Fl w0 g u m t W
  gs : g ≠ s
  us : u ≠ s
  fu : f ≠ u
theorem Two.add1 {w0 W : World} {f s g u : Nat} {l m : List Bool} {t : Nat} (h : Two w0 f s l g u m t W) (key : ByteArray) (hk : key.size ≤ maxLen) :
    Calls Try.prog 10 #[.pointer (some ⟨f, 0, none⟩), .string key] W fun e W' => e = .returned (.tuple #[]) ∧ Two w0 f s (setB l (plc key l.length t)) g u m t W' := by
  refine (add_l h.a key hk).mono ?_
  rintro e W' ⟨rfl, hf, hb⟩
  exact ⟨rfl, hf, h.b.keep hb h.gs h.us h.a.ls, h.gs, h.us, h.fu⟩
theorem Two.add2 {w0 W : World} {f s g u : Nat} {l m : List Bool} {t : Nat} (h : Two w0 f s l g u m t W) (key : ByteArray) (hk : key.size ≤ maxLen) :
    Calls Try.prog 10 #[.pointer (some ⟨g, 0, none⟩), .string key] W fun e W' => e = .returned (.tuple #[]) ∧ Two w0 f s l g u (setB m (plc key m.length t)) t W' := by
  refine (add_l h.b key hk).mono ?_
  rintro e W' ⟨rfl, hf, hb⟩
  exact ⟨rfl, h.a.keep hb h.fu (fun e => h.us e.symm) h.b.ls, hf, h.gs, h.us, h.fu⟩

theorem bitsB_mem {n t : Nat} {xs ys : List ByteArray} (h : ∀ x, x ∈ xs ↔ x ∈ ys) : bitsB n t xs = bitsB n t ys := by
  apply List.ext_getElem
  · rw [bitsB_length, bitsB_length]
  · intro i h1 h2
    have e1 := bitsB_getD n t xs i
    have e2 := bitsB_getD n t ys i
    rw [List.getD_eq_getElem?_getD, List.getElem?_eq_getElem h1] at e1
    rw [List.getD_eq_getElem?_getD, List.getElem?_eq_getElem h2] at e2
    simp only [Option.getD_some] at e1 e2
    rw [e1, e2]
    congr 1
    simp only [mem_told, h]

/-- What the second filter was told by round i. -/
def Back (xs ys : List ByteArray) (i : Nat) : Prop := (∀ x ∈ ys, x ∈ xs) ∧ ∀ j, j < i → ∀ x, xs[xs.length - 1 - j]? = some x → x ∈ ys
theorem Back.nil (xs : List ByteArray) : Back xs [] 0 := ⟨fun x h => by simp at h, fun j h => by omega⟩
theorem Back.more {xs ys : List ByteArray} {i : Nat} (h : Back xs ys i) {x y : ByteArray} (hx : xs[xs.length - 1 - i]? = some x) (hy : xs[0]? = some y) : Back xs ((ys ++ [x]) ++ [y]) (i + 1) := by
  refine ⟨fun z hz => ?_, fun j hj z hz => ?_⟩
  · simp only [List.mem_append, List.mem_singleton] at hz
    rcases hz with (hz | rfl) | rfl
    · exact h.1 z hz
    · exact List.mem_of_getElem? hx
    · exact List.mem_of_getElem? hy
  · simp only [List.mem_append, List.mem_singleton]
    by_cases hji : j = i
    · subst hji
      rw [hx] at hz
      cases hz
      exact .inl (.inr rfl)
    · exact .inl (.inl (h.2 j (by omega) z hz))
theorem Back.all {xs ys : List ByteArray} (h : Back xs ys xs.length) : ∀ x, x ∈ xs ↔ x ∈ ys := by
  intro x
  refine ⟨fun hx => ?_, h.1 x⟩
  obtain ⟨m, hm, rfl⟩ := List.getElem_of_mem hx
  refine h.2 (xs.length - 1 - m) (by omega) _ ?_
  have e : xs.length - 1 - (xs.length - 1 - m) = m := by omega
  rw [e, List.getElem?_eq_getElem hm]
end Go.Proofs.Ytipgfkcfbiofdaa
