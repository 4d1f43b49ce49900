/-
  Plain reasoning on the words of a line: two lines put together by a blank; a slice of words as it lies in the world.
-/
import Derived.Test.YtffmmpahenogdaaDoorAwake
import Derived.Deep.QuietTactic
import Derived.BigQuiet
namespace Go.Proofs.YtffmmpahenogdaaDoor
open Go.Shelf Go.RowKit
set_option linter.unusedVariables false

theorem spl_join (a : List UInt8) : ∀ (w b : List UInt8), spl w (a ++ 32 :: b) = spl w a ++ spl [] b := by
  induction a with
  | nil =>
    intro w b
    simp only [List.nil_append, spl, if_true]
    split <;> simp
  | cons x t ih =>
    intro w b
    simp only [List.cons_append, spl]
    split
    · split
      · exact ih [] b
      · rw [ih [] b]; rfl
    · exact ih _ b

theorem spl_len (a : List UInt8) : ∀ w, (spl w a).length ≤ w.length + a.length := by
  induction a with
  | nil => intro w; simp only [spl]; split <;> simp_all; cases w <;> simp_all
  | cons x t ih =>
    intro w
    simp only [spl]
    split
    · split
      · have := ih []; simp at this ⊢; omega
      · rename_i h1 h2
        have := ih []
        have hw : 1 ≤ w.length := by cases w <;> simp_all
        simp at this ⊢; omega
    · have := ih (w ++ [x]); simp at this ⊢; omega

/-- A slice of words: its length, and each of its words in its place, from this world on. -/
theorem Own.form {w : World} {B : Nat} {v : Value} {ws : List (List UInt8)} (h : Own w B v ws) : ∃ ao cap, v = .slice ao ws.length cap ∧ ∀ w' : World, Below w.heap.size w w' → ∀ j x, ws[j]? = some x → ∃ g, ao = some ⟨g, 0, none⟩ ∧ w'.cell? ⟨g, j, none⟩ = some (strV x) := by
  by_cases h0 : ws = []
  · subst h0
    obtain ⟨ao, cap, rfl⟩ : ∃ ao cap, v = .slice ao 0 cap := by
      rcases Joins.ownsRow_forms h with ⟨rfl, _⟩ | ⟨g, cap, rfl⟩
      · exact ⟨_, _, rfl⟩
      · exact ⟨_, _, rfl⟩
    exact ⟨ao, cap, rfl, fun _ _ j x hj => by simp at hj⟩
  · obtain ⟨g, cap, rfl, hg, hc⟩ := h.slice h0
    exact ⟨_, cap, rfl, fun w' hb j x hj => ⟨g, rfl, cell_later (hc j x hj) hg hb⟩⟩
end Go.Proofs.YtffmmpahenogdaaDoor
