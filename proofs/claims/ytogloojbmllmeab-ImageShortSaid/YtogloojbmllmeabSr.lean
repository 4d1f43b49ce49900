/- Rows of items appended to an empty one. -/
import Derived.Test.YtogloojbmllmeabSq
set_option linter.unusedVariables false
set_option linter.unusedSimpArgs false
namespace Go.Proofs.Ytogloojbmllmeab
open Go.RowKit Go.Deep Math

theorem its_get (xs : List It) (i : Nat) (x : It) (hx : xs[i]? = some x) (j : Nat) (hj : j < 5) : (itsCells xs)[i * 5 + j]? = (itCells x)[j]? := by
  have hi : i < xs.length := (List.getElem?_eq_some_iff.1 hx).1
  have e : xs = xs.take i ++ x :: xs.drop (i + 1) := by
    have h2 := List.take_append_drop i xs
    rw [List.drop_eq_getElem_cons hi, (List.getElem?_eq_some_iff.1 hx).2] at h2
    exact h2.symm
  have hl : ((xs.take i).flatMap itCells).length = i * 5 := by
    have := itsCells_length (xs.take i)
    unfold itsCells at this
    rw [this, List.length_take]; congr 1; omega
  have h3 : itsCells xs = (xs.take i).flatMap itCells ++ (itCells x ++ (xs.drop (i + 1)).flatMap itCells) := by
    conv => lhs; rw [e]
    unfold itsCells
    rw [List.flatMap_append, List.flatMap_cons]
  rw [h3, List.getElem?_append_right (by omega), hl, show i * 5 + j - i * 5 = j by omega, List.getElem?_append_left (by show j < 5; omega)]
theorem raw_news {w : World} {b o n : Nat} {xs : List It} (h : RawAt w (some ⟨b, o, none⟩) n xs) : ∀ j u, (itsCells xs)[j]? = some u → w.cell? ((⟨b, o, none⟩ : Addr).add j) = some u := by
  intro j u hu
  have hj : j < xs.length * 5 := by
    have := (List.getElem?_eq_some_iff.1 hu).1
    rw [itsCells_length] at this
    exact this
  have hi : j / 5 < xs.length := by omega
  obtain ⟨x, hx⟩ : ∃ x, xs[j / 5]? = some x := ⟨_, List.getElem?_eq_getElem hi⟩
  have e1 := its_get xs (j / 5) x hx (j % 5) (Nat.mod_lt _ (by omega))
  rw [show j / 5 * 5 + j % 5 = j by omega, hu] at e1
  obtain ⟨b', o', ha, _, hc⟩ := h.cell (j / 5) x hx
  cases ha
  have hadd : (⟨b, o, none⟩ : Addr).add j = ⟨b, o + j, none⟩ := by unfold Addr.add; split <;> simp_all
  have hr : j % 5 < 5 := Nat.mod_lt _ (by omega)
  rw [hadd, show o + j = o + j / 5 * 5 + j % 5 by omega]
  generalize j % 5 = r at e1 hr ⊢
  generalize o + j / 5 * 5 = q at hc ⊢
  match r, hr with
  | 0, _ => cases e1; exact hc.c0
  | 1, _ => cases e1; exact hc.c1
  | 2, _ => cases e1; exact hc.c2
  | 3, _ => cases e1; exact hc.c3
  | 4, _ => cases e1; exact hc.c4
theorem its_one (xs : List It) : ∀ u ∈ itsCells xs, u.oneCell' = true := by
  intro u hu
  obtain ⟨x, _, hx⟩ := List.mem_flatMap.1 hu
  simp only [itCells, List.mem_cons, List.not_mem_nil, or_false] at hx
  rcases hx with rfl | rfl | rfl | rfl | rfl <;> rfl
/-- Below the block that was appended to nothing is turned. -/
theorem grown_below {w w' : World} {g N : Nat} (h : w.grownBy w' (some g)) (hg : N ≤ g) (hN : N ≤ w.heap.size) : Below N w w' :=
  (Keep.mk h.os h.tape h.output h.size (fun k hk hn => h.block k hk (fun e => hn (by cases e; simp)) ) : Keep [g] w w').below (fun k hk => by simp only [List.mem_singleton] at hk; omega) hN
/-- Items appended to the empty row that was made just now. -/
theorem step_app1 {w w8 : World} {ops : Array Oper} {o : Oper} {a : Act} {K : Act → World → Prop} {Q : Exit → Act → World → Prop} {E : Prop} (hw : Region.wanted o (yielded ops a.tmps) = true) (s x : Operand)
    (ho : o.op = .call { callee := .builtin .append, args := #[s, x], argTypes := #[22, 22] })
    {N b oo m c : Nat} {xs : List It} (hs : a.eval s = .slice (some ⟨N, 0, none⟩) 0 0) (hx : a.eval x = .slice (some ⟨b, oo, none⟩) m c) (hm : 0 < m) (hm8 : m ≤ 8) (hN : N = w8.heap.size) (hW : w = (w8.alloc (.cells #[] 33)).drew) (hr : RawAt w8 (some ⟨b, oo, none⟩) m xs)
    (h : ∀ g cap w', w'.ownsRow N 33 5 (.slice (some ⟨g, 0, none⟩) m cap) m (itsCells xs) → Below N w8 w' → K (a.put o.dst (.slice (some ⟨g, 0, none⟩) m cap)) w') :
    if Region.wanted o (yielded ops a.tmps) = true then Oper.wp Try.prog o a w K Q else E := by
  subst hN hW
  obtain ⟨i0, hi0, hp0⟩ := Option.map_eq_some_iff.1 info30
  simp only [Prod.mk.injEq] at hp0
  obtain ⟨hz0, hz1, hz2⟩ := hp0
  have hb : Below w8.heap.size w8 (w8.alloc (.cells #[] 33)).drew := ((Below.refl _ _).alloc (Nat.le_refl _) _).drew
  have hsz : (w8.alloc (.cells #[] 33)).drew.heap.size = w8.heap.size + 1 := nblk_alloc w8 _
  have hown : (w8.alloc (.cells #[] 33)).drew.ownsRow w8.heap.size 33 5 (.slice (some ⟨w8.heap.size, 0, none⟩) 0 0) 0 [] := World.ownsRow_made w8 #[] 0 (Nat.le_refl _) (by decide) rfl
  refine step_append_g hw s x 22 ho w8.heap.size 33 i0 _ 5 56 Try.underlying22 hi0 hz0 hz1 hz2 rfl (by decide) _ 0 [] hs hown ⟨b, oo, none⟩ m c (itsCells xs) hx (by rw [itsCells_length, hr.len]) (raw_news (hr.below hb)) (its_one _) hm (by unfold maxLen; omega) (by omega) (by rw [hsz]; omega) (fun g cap w' h1 h2 h3 => ?_)
  rw [Nat.zero_add] at h1 ⊢
  exact h g cap w' h1 (hb.trans (grown_below h2 (Nat.le_refl _) (by rw [hsz]; omega)))
theorem step_app2 {w : World} {ops : Array Oper} {o : Oper} {a : Act} {K : Act → World → Prop} {Q : Exit → Act → World → Prop} {E : Prop} (hw : Region.wanted o (yielded ops a.tmps) = true) (s x : Operand)
    (ho : o.op = .call { callee := .builtin .append, args := #[s, x], argTypes := #[22, 22] })
    {N g n cap b oo m c : Nat} {xs ys : List It} (hs : a.eval s = .slice (some ⟨g, 0, none⟩) n cap) (hx : a.eval x = .slice (some ⟨b, oo, none⟩) m c) (hn : n ≤ 8) (hm : 0 < m) (hm8 : m ≤ 8) (hNw : N ≤ w.heap.size) (hown : w.ownsRow N 33 5 (.slice (some ⟨g, 0, none⟩) n cap) n (itsCells xs)) (hr : RawAt w (some ⟨b, oo, none⟩) m ys)
    (h : ∀ g cap w', w'.ownsRow N 33 5 (.slice (some ⟨g, 0, none⟩) (n + m) cap) (n + m) (itsCells (xs ++ ys)) → Below N w w' → K (a.put o.dst (.slice (some ⟨g, 0, none⟩) (n + m) cap)) w') :
    if Region.wanted o (yielded ops a.tmps) = true then Oper.wp Try.prog o a w K Q else E := by
  obtain ⟨i0, hi0, hp0⟩ := Option.map_eq_some_iff.1 info30
  simp only [Prod.mk.injEq] at hp0
  obtain ⟨hz0, hz1, hz2⟩ := hp0
  have hg := (hown.lt g rfl).1
  refine step_append_g hw s x 22 ho N 33 i0 _ 5 56 Try.underlying22 hi0 hz0 hz1 hz2 rfl (by decide) _ n (itsCells xs) hs hown ⟨b, oo, none⟩ m c (itsCells ys) hx (by rw [itsCells_length, hr.len]) (raw_news hr) (its_one _) hm (by unfold maxLen; omega) (by omega) hNw (fun g2 cap2 w' h1 h2 h3 => ?_)
  have e : itsCells xs ++ itsCells ys = itsCells (xs ++ ys) := by simp [itsCells]
  rw [e] at h1
  exact h g2 cap2 w' h1 (grown_below h2 hg hNw)
theorem items_same2 {w8 w10 : World} {a8 : Option Addr} {N g n c8 c10 : Nat} {xs : List It} (h : RawAt w8 a8 n xs) (hb : Below w8.heap.size w8 w10) (hown : w10.ownsRow N 33 5 (.slice (some ⟨g, 0, none⟩) n c10) n (itsCells xs)) (hn : n ≤ 16) :
    Calls Try.prog 10 #[.slice a8 n c8, .slice (some ⟨g, 0, none⟩) n c10] w10 fun e w' => e = .returned (.bool true) ∧ Below w8.heap.size w10 w' := by
  obtain ⟨a, c, hv, _, hr⟩ := own_raw h.len h.fits hown
  cases hv
  refine (items_same a8 _ n c8 _ xs (by omega) w10 (h.below hb) hr).mono ?_
  rintro e w' ⟨rfl, b⟩
  exact ⟨rfl, b.mono hb.size⟩
end Go.Proofs.Ytogloojbmllmeab
