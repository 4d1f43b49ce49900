/- Joined texts. -/
import Derived.Test.YtcdghalnneilpaaGreatR15
set_option linter.unusedVariables false
set_option linter.unusedSimpArgs false
set_option maxRecDepth 8000
set_option maxHeartbeats 8000000
namespace Go.Proofs.YtcdghalnneilpaaGreat
open Go.RowKit Go.Deep Math
theorem ty_ne {w : World} {q q' : Nat} {c c' : Array Value} {e e' : TypeId} (h : w.heap[q]? = some (.cells c e (0, 0))) (h' : w.heap[q']? = some (.cells c' e' (0, 0))) (hne : e ≠ e') : q ≠ q' := by
 rintro rfl
 rw [h] at h'
 simp only [Option.some.injEq, Obj.cells.injEq] at h'
 exact hne h'.2.1
theorem own_notin {w : World} {base : Nat} {e e' : TypeId} {sz : Nat} {v : Value} {n : Nat} {xs : List Value} (h : w.ownsRow base e sz v n xs) {q : Nat} {c : Array Value} (hq : w.heap[q]? = some (.cells c e' (0, 0))) (hne : e' ≠ e) : q ∉ own v := fun hm => by
 obtain ⟨c2, hc2⟩ := own_ty h (mem_own.1 hm)
 exact ty_ne hq hc2 hne rfl
theorem own_zero {w : World} {base : Nat} {e : TypeId} {sz : Nat} {v : Value} {n : Nat} {xs : List Value} (h : w.ownsRow base e sz v n xs) : w.ownsRow 0 e sz v n xs := by
 refine ⟨h.1, ?_⟩
 rcases h.2 with h2 | ⟨g, cap, cur, hv, hg, r⟩
 ·exact .inl h2
 ·exact .inr ⟨g, cap, cur, hv, Nat.zero_le _, r⟩
theorem own_base {w : World} {base : Nat} {e : TypeId} {sz : Nat} {v : Value} {n : Nat} {xs : List Value} (h : w.ownsRow base e sz v n xs) : ∀ q ∈ own v, base <= q := fun q hq => by
 rcases h.2 with ⟨h1, _⟩ | ⟨g1, cap, cur, h1, h2, _⟩
 ·rw [h1] at hq; simp [own, Value.ownBlock] at hq
 ·rw [h1] at hq; simp [own, Value.ownBlock] at hq; subst hq; exact h2
theorem own_lt {w : World} {base : Nat} {e : TypeId} {sz : Nat} {v : Value} {n : Nat} {xs : List Value} (h : w.ownsRow base e sz v n xs) : ∀ q ∈ own v, q < w.heap.size := fun q hq => by
 obtain ⟨c, hc⟩ := own_ty h (mem_own.1 hq)
 exact (Array.getElem?_eq_some_iff.1 hc).1
section
variable {W W2 : World} {l d m : Nat} {v5 v6 v7 : Value} {T : Lg}
theorem add_region (h : LgIn W l d m v5 v6 v7 T) (r : Rg) (hrow : W.ownsRow 0 211 1 r.v r.ths.length (ptrCells r.ths)) (hths : ∀ t ∈ r.ths, ThAt W t) (hap : ∀ q, r.v.ownBlock = some q -> v6.ownBlock ≠ some q)
  {v5' : Value} (ho : W2.ownsRow 0 206 3 v5' (T.regs.length + 1) (rgRow T.regs ++ rgCells r)) (hk : Keep (own v5) W W2) : LgIn (W2.setCell ⟨l, 5, none⟩ v5') l d m v5' v6 v7 { T with regs := T.regs ++ [r] } := by
 have hl : Blk W2 l (lgCells d m v5 v6 v7 T) 202 := h.box.same (hk.block l h.box.lt (own_notin h.sld h.box (by decide)))
 have sm : ∀ {q : Nat} {c : Array Value} {e : TypeId}, W.heap[q]? = some (.cells c e (0, 0)) -> e ≠ 206 -> e ≠ 202 -> (W2.setCell ⟨l, 5, none⟩ v5').heap[q]? = W.heap[q]? := fun {q c e} hq h1 h2 => by
  have e1 : W2.heap[q]? = W.heap[q]? := hk.block q (Array.getElem?_eq_some_iff.1 hq).1 (own_notin h.sld hq h1)
  have hne : q ≠ l := ty_ne hq h.box h2
  exact (blk_setCell_other W2 ⟨l, 5, none⟩ v5' q hne).trans e1
 refine ⟨hl.set 5 _, ?_, fun x hx => ?_, own_same h.opn (fun q hq => ?_), own_same h.cont (fun q hq => ?_), h.map.same ?_, fun t ht => ?_, fun x hx => ?_, fun k p hkp => ?_⟩
 ·rw [List.length_append, rgRow_append]
  have : rgRow [r] = rgCells r := by simp [rgRow]
  rw [this]
  refine own_same ho (fun q hq => blk_setCell_other _ _ _ _ ?_)
  obtain ⟨c, hc⟩ := own_ty ho hq
  exact ty_ne hc hl (by decide)
 ·rcases List.mem_append.1 hx with hx | hx
  ·refine own_same (h.rows x hx) (fun q hq => ?_)
   obtain ⟨c, hc⟩ := own_ty (h.rows x hx) hq; exact sm hc (by decide) (by decide)
  ·simp only [List.mem_singleton] at hx
   subst hx
   refine own_same hrow (fun q hq => ?_)
   obtain ⟨c, hc⟩ := own_ty hrow hq; exact sm hc (by decide) (by decide)
 ·obtain ⟨c, hc⟩ := own_ty h.opn hq; exact sm hc (by decide) (by decide)
 ·obtain ⟨c, hc⟩ := own_ty h.cont hq; exact sm hc (by decide) (by decide)
 ·have hne : m ≠ l := Ne.symm (h.notM h.box)
  refine (blk_setCell_other W2 ⟨l, 5, none⟩ v5' m hne).trans ?_
  exact hk.block m h.map.lt (fun hm => by
   obtain ⟨c, hc⟩ := own_ty h.sld (mem_own.1 hm)
   exact h.notM hc rfl)
 ·have ht' : ThAt W t := by
   rcases List.mem_append.1 ht with ht | ht
   ·obtain ⟨x, hx, hxt⟩ := List.mem_flatMap.1 ht
    rcases List.mem_append.1 hx with hx | hx
    ·exact h.ths t (mem_all_regs hx hxt)
    ·simp only [List.mem_singleton] at hx
     subst hx
     exact hths t hxt
   ·exact h.ths t (List.mem_append.2 (.inr ht))
  obtain ⟨c, hc⟩ := ht'.ty
  exact ht'.same (sm hc (by decide) (by decide))
 ·rcases List.mem_append.1 hx with hx | hx
  ·exact h.apart x hx
  ·simp only [List.mem_singleton] at hx
   subst hx
   exact hap
 ·obtain ⟨t, ht, h1, h2⟩ := h.hasAt k p hkp
  refine ⟨t, ?_, h1, h2⟩
  rcases List.mem_append.1 ht with ht | ht
  ·obtain ⟨x, hx, hxt⟩ := List.mem_flatMap.1 ht
   exact List.mem_append.2 (.inl (List.mem_flatMap.2 ⟨x, List.mem_append.2 (.inl hx), hxt⟩))
  ·exact List.mem_append.2 (.inr ht)
end
def thsOf (g : Nat) : Nat -> List It -> List Th
 | _, [] => []
 | i, x :: r => ⟨g, i * 5, x⟩ :: thsOf g (i + 1) r
theorem thsOf_length (g : Nat) : ∀ (xs : List It) (i : Nat), (thsOf g i xs).length = xs.length
 | [], _ => rfl
 | x :: r, i => by simp [thsOf, thsOf_length g r]
theorem thsOf_it (g : Nat) : ∀ (xs : List It) (i : Nat), (thsOf g i xs).map Th.it = xs
 | [], _ => rfl
 | x :: r, i => by simp [thsOf, thsOf_it g r]
theorem thsOf_get (g : Nat) : ∀ (xs : List It) (i j : Nat), (thsOf g i xs)[j]? = (xs[j]?).map fun x => ⟨g, (i + j) * 5, x⟩
 | [], _, _ => by simp [thsOf]
 | x :: r, i, 0 => by simp [thsOf]
 | x :: r, i, j + 1 => by
  simp only [thsOf, List.getElem?_cons_succ, thsOf_get g r (i + 1) j, show i + 1 + j = i + (j + 1) by omega]
theorem thsOf_mem (g : Nat) : ∀ (xs : List It) (i : Nat), ∀ t ∈ thsOf g i xs, t.blk = g /\ i * 5 <= t.off
 | [], _ => by simp [thsOf]
 | x :: r, i => by
  intro t ht
  rcases List.mem_cons.1 ht with rfl | ht
  ·exact ⟨rfl, Nat.le_refl _⟩
  ·have := thsOf_mem g r (i + 1) t ht
   exact ⟨this.1, by omega⟩
theorem thsOf_nodup (g : Nat) : ∀ (xs : List It) (i : Nat), ((thsOf g i xs).map Th.pos).Nodup
 | [], _ => by simp [thsOf]
 | x :: r, i => by
  simp only [thsOf, List.map_cons, List.nodup_cons]
  refine ⟨fun hm => ?_, thsOf_nodup g r (i + 1)⟩
  obtain ⟨t, ht, he⟩ := List.mem_map.1 hm
  have := (thsOf_mem g r (i + 1) t ht).2
  simp only [Th.pos, Prod.mk.injEq] at he
  omega
theorem row_things {w : World} {base : Nat} {v : Value} {xs : List It} (h : Row w base v xs) (hs : ∀ x ∈ xs, x.fits /\ x.good = true) : xs = [] \/ ∃ g c, v = .slice (some ⟨g, 0, none⟩) xs.length c /\ base <= g /\ ∀ t ∈ thsOf g 0 xs, ThAt w t := by
 rcases h.form with ⟨_, h1⟩ | ⟨g, cap, pad, hv, hb, hh, hc, hm, hl⟩
 ·exact .inl h1
 ·refine .inr ⟨g, cap, hv, hb, fun t ht => ?_⟩
  obtain ⟨i, hi⟩ := List.getElem?_of_mem ht
  rw [thsOf_get] at hi
  cases hx : xs[i]? with
  | none => rw [hx] at hi; cases hi
  | some x =>
   rw [hx] at hi
   simp only [Option.map_some, Option.some.injEq, Nat.zero_add] at hi
   subst hi
   have hxm := hs x (List.mem_of_getElem? hx)
   have hgs := good_sizes hxm.2
   have hI : ItsAt w (some ⟨g, 0, none⟩) xs.length xs := its_blk hh rfl (fun y hy => by
    have h1 := hs y hy
    have h2 := good_sizes h1.2
    exact ⟨h1.1, by omega, by omega⟩)
   obtain ⟨b, o, he, _, hc⟩ := hI.cell i x hx
   cases he
   rw [Nat.zero_add] at hc
   refine ⟨hxm.1, ?_, ?_, ⟨_, hh⟩, hc⟩
   ·show x.key.length <= _; omega
   ·show x.value.length <= _; omega
end Go.Proofs.YtcdghalnneilpaaGreat
