/- Buffers that are read; what a list of records can be. -/
import Derived.Test.YtbccnfbombgdmaaRListC
import Derived.Test.YtbccnfbombgdmaaRTakeE
set_option linter.unusedVariables false
set_option linter.unusedSimpArgs false
namespace Go.Proofs.Ytbccnfbombgdmaa
open Go.RowKit Go.Deep Math

theorem buf_full {w : World} {g r : Nat} {l : List UInt8} (h : Buf w g l r) : Buf w g (l ++ List.replicate r 0) 0 := by
  unfold Buf at *
  rw [bCells_append, show bCells (List.replicate r 0) = zc r by simp [bCells, zc], show zc 0 = [] from rfl, List.append_nil]
  exact h
theorem buf_bs {w : World} {g : Nat} {l : List UInt8} {n cap : Nat} (h : Buf w g l 0) (hn : n = l.length) (hc : n ≤ cap) : BS w (some ⟨g, 0, none⟩) n cap l :=
  BS.mk' hn hc (by have := h.reads 0; rwa [List.drop_zero] at this)
theorem lst_all : ∀ (n : Nat) (b : List UInt8) (xs : List It), b.length ≤ n → lst b = some xs → total xs ≤ b.length ∧ ∀ x ∈ xs, x.fits ∧ x.good = true := by
  intro n
  induction n with
  | zero =>
    intro b xs hb h
    have : b = [] := List.eq_nil_of_length_eq_zero (by omega)
    subst this
    rw [lst_none (by simp [take, ended])] at h
    simp at h
    subst h
    simp [total]
  | succ n ih =>
    intro b xs hb h
    cases hT : take b using Tk.elim3 with
    | none =>
      rw [lst_none hT] at h
      simp at h
      subst h
      simp [total]
    | bad => rw [lst_bad hT] at h; cases h
    | ok x k =>
      obtain ⟨t1, t2, t3, t4, t5⟩ := take_ok hT
      rw [lst_ok hT] at h
      cases hl : lst (b.drop k) with
      | none => rw [hl] at h; simp at h
      | some ys =>
        rw [hl] at h
        simp at h
        subst h
        have hp := x.size_pos
        obtain ⟨i1, i2⟩ := ih (b.drop k) ys (by rw [List.length_drop]; omega) hl
        rw [List.length_drop] at i1
        refine ⟨by simp only [total]; omega, fun y hy => ?_⟩
        rcases List.mem_cons.1 hy with rfl | hy
        · exact ⟨t1, t2⟩
        · exact i2 y hy
/-- The items of a page. -/
def lsO (b : List UInt8) : List It := (lst b).getD []
theorem lsO_all (b : List UInt8) : total (lsO b) ≤ b.length ∧ ∀ x ∈ lsO b, x.fits ∧ x.good = true := by
  unfold lsO
  cases h : lst b with
  | none => simp [total]
  | some xs => exact lst_all b.length b xs (Nat.le_refl _) h
theorem good_sizes {x : It} (h : x.good = true) : x.key.length ≤ 250 ∧ x.value.length ≤ 1024 := by
  have := (It.good_iff x).1 h
  exact ⟨this.2.1, this.2.2.1⟩
theorem total_len : ∀ xs : List It, xs.length * 32 ≤ total xs
  | [] => by simp [total]
  | x :: r => by have := total_len r; simp only [total, List.length_cons, It.size]; omega
end Go.Proofs.Ytbccnfbombgdmaa
