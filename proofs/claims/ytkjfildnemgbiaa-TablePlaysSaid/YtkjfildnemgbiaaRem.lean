/- What a run of calls leaves: of each key the last one counts. -/
import Derived.Test.YtkjfildnemgbiaaAwake
import Derived.Deep.RegionHeld
import Derived.Deep.RegionHeld3
set_option linter.unusedVariables false
set_option linter.unusedSimpArgs false
namespace Go.Proofs.Ytkjfildnemgbiaa
open Go.RowKit Go.Deep Math Tab

/-- The i-th call, as every later world holds it. -/
theorem ActsAt.at2 {w : World} {a : Option Addr} {len : Nat} {xs : List ActI} (h : ActsAt w a len xs) (i : Nat) (hi : i < len) :
    ∃ b o x, a = some ⟨b, o, none⟩ ∧ xs[i]? = some x ∧ x.fits ∧ ∀ W, Below w.heap.size w W → OneAct W b (o + i * 3) x := by
  have hx := List.getElem?_eq_getElem (l := xs) (i := i) (by rw [← h.len]; exact hi)
  obtain ⟨b, o, ha, hb, hc⟩ := h.cell i _ hx
  exact ⟨b, o, _, ha, hx, h.fits _ (List.getElem_mem _), fun W k => hc.below k hb⟩
def rem : List ActI → List KV
  | [] => []
  | a :: r => if a.k ∈ r.map ActI.k ∨ a.op = 1 then rem r else (a.k, a.v) :: rem r
theorem rem_keys {k : List UInt8} : ∀ {l : List ActI}, k ∈ keysOf (rem l) → k ∈ l.map ActI.k
  | [], h => by simp [rem, keysOf] at h
  | a :: r, h => by
    unfold rem at h
    split at h
    · exact List.mem_cons_of_mem _ (rem_keys h)
    · rw [keysOf, List.map_cons] at h
      rcases List.mem_cons.1 h with h | h
      · rw [h]; simp
      · exact List.mem_cons_of_mem _ (rem_keys h)
theorem rem_snoc (a : ActI) : ∀ r : List ActI, rem (r ++ [a]) = outV a.k (rem r) ++ (if a.op = 1 then [] else [(a.k, a.v)])
  | [] => by
    show rem [a] = _
    unfold rem
    by_cases h : a.op = 1 <;> simp [h, rem, outV]
  | b :: r => by
    have ih := rem_snoc a r
    rw [List.cons_append]
    unfold rem
    by_cases hk : b.k = a.k
    · rw [if_pos (.inl (by simp [hk])), ih]
      congr 1
      split
      · rfl
      · simp [outV, hk]
    · have e : (b.k ∈ (r ++ [a]).map ActI.k ∨ b.op = 1) ↔ (b.k ∈ r.map ActI.k ∨ b.op = 1) := by
        simp [hk]
      by_cases hc : b.k ∈ r.map ActI.k ∨ b.op = 1
      · rw [if_pos (e.2 hc), if_pos hc, ih]
      · rw [if_neg (fun x => hc (e.1 x)), if_neg hc, ih]
        simp [outV, hk]
theorem fnd_rem : ∀ (l : List ActI) (j : Nat) (x : ActI), l[j]? = some x → (∀ j' y, j < j' → l[j']? = some y → y.k ≠ x.k) → fnd x.k (rem l) = if x.op = 1 then none else some x.v
  | [], j, x, h, _ => by simp at h
  | a :: r, 0, x, h, hl => by
    simp at h
    subst h
    have hn : a.k ∉ r.map ActI.k := fun hm => by
      obtain ⟨y, hy, hk⟩ := List.mem_map.1 hm
      obtain ⟨j, hj⟩ := List.getElem?_of_mem hy
      exact hl (j + 1) y (by omega) (by simpa using hj) hk
    unfold rem
    by_cases hop : a.op = 1
    · rw [if_pos (.inr hop), if_pos hop]
      exact fnd_none.2 (fun hm => hn (rem_keys hm))
    · rw [if_neg (fun x => x.elim hn hop), if_neg hop, fnd_cons]
      simp
  | a :: r, j + 1, x, h, hl => by
    have h' : r[j]? = some x := by simpa using h
    have ih := fnd_rem r j x h' (fun j' y hj hy => hl (j' + 1) y (by omega) (by simpa using hy))
    unfold rem
    by_cases hk : a.k = x.k
    · rw [if_pos (.inl (by rw [hk]; exact List.mem_map.2 ⟨x, List.mem_of_getElem? h', rfl⟩))]
      exact ih
    · split
      · exact ih
      · rw [fnd_cons, if_neg hk]
        exact ih
theorem rem_step {l : List ActI} {i : Nat} {x : ActI} (h : l[i]? = some x) : (rem (l.drop i)).length = (rem (l.drop (i + 1))).length + (if x.k ∈ (l.drop (i + 1)).map ActI.k ∨ x.op = 1 then 0 else 1) := by
  obtain ⟨hi, hx⟩ := List.getElem?_eq_some_iff.1 h
  rw [List.drop_eq_getElem_cons hi, hx]
  conv => lhs; unfold rem
  split <;> simp
/-- What a call makes of a table. -/
def stepT (t : Tb) (a : ActI) : Tb := if a.op = 1 then t.delT hsh a.k else t.setT hsh a.k a.v
theorem key_split {k : List UInt8} {l : List KV} (h : k ∈ keysOf l) : ∃ A v B, l = A ++ (k, v) :: B := by
  obtain ⟨e, he, rfl⟩ := List.mem_map.1 h
  obtain ⟨A, B, rfl⟩ := List.append_of_mem he
  exact ⟨A, e.2, B, rfl⟩
theorem set_perm {H : List UInt8 → Nat} {t : Tb} (g : Tab.Good H t) (k : List UInt8) (v : Int) : (t.setT H k v).all.Perm (outV k t.all ++ [(k, v)]) := by
  refine (g.all_setT k v).trans ?_
  have hi := g.isNew_iff k
  by_cases hk : k ∈ keysOf t.all
  · have hn : t.isNew H k = false := by
      rw [hi]
      cases hf : fnd k t.all with
      | none => exact absurd hk (fnd_none.1 hf)
      | some x => rfl
    rw [hn]
    simp only [Bool.false_eq_true, if_false]
    obtain ⟨A, v0, B, e⟩ := key_split hk
    have nd := g.nd
    rw [e] at nd ⊢
    rw [setV_cut nd, outV_cut nd]
    exact List.perm_middle.trans (List.perm_append_singleton _ _).symm
  · have hn : t.isNew H k = true := by rw [hi, fnd_none.2 hk]; rfl
    rw [hn]
    simp only [if_true]
    rw [outV_same hk]
    exact (List.perm_append_singleton _ _).symm
theorem stepT_good {t : Tb} (g : Tab.Good hsh t) (a : ActI) : Tab.Good hsh (stepT t a) := by
  unfold stepT
  split
  · exact g.delT _
  · exact g.setT _ _
theorem stepT_perm {t : Tb} (g : Tab.Good hsh t) (a : ActI) {l : List ActI} (h : t.all.Perm (rem l)) : (stepT t a).all.Perm (rem (l ++ [a])) := by
  unfold stepT
  rw [rem_snoc]
  split
  · rw [List.append_nil]
    exact (g.all_delT a.k).trans (h.filter _)
  · exact (set_perm g a.k a.v).trans ((h.filter _).append_right _)
theorem stepT_len {t : Tb} (g : Tab.Good hsh t) (a : ActI) : (stepT t a).all.length ≤ t.all.length + 1 := by
  unfold stepT
  split
  · have := g.len_delT a.k; omega
  · rw [g.len_setT]; split <;> omega
end Go.Proofs.Ytkjfildnemgbiaa
