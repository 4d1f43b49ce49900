/- How many bits are set behind one key more. -/
import Derived.Test.YtipgfkcfbiofdaaTold
set_option linter.unusedVariables false
set_option linter.unusedSimpArgs false
namespace Go.Proofs.Ytipgfkcfbiofdaa
open Go.RowKit Go.Deep Math

theorem ixs_count (l : List Bool) : ∀ k, k ≤ l.length → (ixs l k).length = (l.take k).count true
  | 0, _ => rfl
  | k + 1, h => by
    have hk : k < l.length := by omega
    have ih := ixs_count l k (by omega)
    rw [List.take_succ_eq_append_getElem hk, List.count_append]
    have e : l.getD k false = l[k] := by rw [List.getD_eq_getElem?_getD, List.getElem?_eq_getElem hk]; rfl
    cases hv : l[k]
    · rw [ixs_not l k (by rw [e, hv]), ih]; simp
    · rw [ixs_set l k (by rw [e, hv]), List.length_append, ih]; simp
theorem cntB_count (l : List Bool) : cntB l = l.count true := by unfold cntB; rw [ixs_count l _ (Nat.le_refl _), List.take_length]
theorem set_same {l : List Bool} {i : Nat} (h : l.getD i false = true) : l.set i true = l := by
  apply List.ext_getElem?
  intro j
  rw [List.getElem?_set]
  by_cases hj : i = j
  · subst hj
    rw [List.getD_eq_getElem?_getD] at h
    cases hl : l[i]? with
    | none => rw [hl] at h; simp at h
    | some v =>
      rw [hl] at h
      have := (List.getElem?_eq_some_iff.1 hl).1
      simp at h
      simp [this, h]
  · simp [hj]
theorem count_set_new {l : List Bool} {i : Nat} (hi : i < l.length) (h : l.getD i false = false) : (l.set i true).count true = l.count true + 1 := by
  rw [List.count_set hi]
  have : l[i] = false := by rw [List.getD_eq_getElem?_getD, List.getElem?_eq_getElem hi] at h; exact h
  simp [this]
theorem setB_same {l : List Bool} : ∀ {ps : List Nat}, mayB l ps = true → setB l ps = l
  | [], _ => rfl
  | p :: ps, h => by
    unfold mayB at h
    rw [List.all_cons, Bool.and_eq_true] at h
    show setB (l.set p true) ps = l
    rw [set_same h.1]
    exact setB_same h.2
theorem cntB_step (l : List Bool) (i : Nat) (hi : i < l.length) : cntB l ≤ cntB (l.set i true) ∧ cntB (l.set i true) ≤ cntB l + 1 := by
  cases h : l.getD i false
  · rw [cntB_count, cntB_count, count_set_new hi h]; omega
  · rw [set_same h]; omega
theorem cntB_setB : ∀ (ps : List Nat) (l : List Bool), (∀ i ∈ ps, i < l.length) → cntB l ≤ cntB (setB l ps) ∧ cntB (setB l ps) ≤ cntB l + ps.length
  | [], l, _ => ⟨Nat.le_refl _, Nat.le_refl _⟩
  | p :: ps, l, h => by
    have s := cntB_step l p (h p (by simp))
    have r := cntB_setB ps (l.set p true) (fun i hi => by rw [List.length_set]; exact h i (by simp [hi]))
    show cntB l ≤ cntB (setB (l.set p true) ps) ∧ cntB (setB (l.set p true) ps) ≤ _
    rw [List.length_cons]
    omega
theorem cntB_more : ∀ (ps : List Nat) (l : List Bool), (∀ i ∈ ps, i < l.length) → mayB l ps = false → cntB l < cntB (setB l ps)
  | [], l, _, h => by simp [mayB] at h
  | p :: ps, l, hl, h => by
    show cntB l < cntB (setB (l.set p true) ps)
    have r := cntB_setB ps (l.set p true) (fun i hi => by rw [List.length_set]; exact hl i (by simp [hi]))
    cases hv : l.getD p false
    · have : cntB (l.set p true) = cntB l + 1 := by rw [cntB_count, cntB_count, count_set_new (hl p (by simp)) hv]
      omega
    · rw [set_same hv]
      refine cntB_more ps l (fun i hi => hl i (by simp [hi])) ?_
      unfold mayB at h ⊢
      rw [List.all_cons, hv, Bool.true_and] at h
      exact h
theorem cntB_le (l : List Bool) : cntB l ≤ l.length := ixs_le _ _
end Go.Proofs.Ytipgfkcfbiofdaa
