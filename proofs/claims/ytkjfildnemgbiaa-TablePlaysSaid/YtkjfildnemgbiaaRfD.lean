/- The document's Sorted. -/
import Derived.Test.YtkjfildnemgbiaaRfC
set_option linter.unusedVariables false
set_option linter.unusedSimpArgs false
set_option maxRecDepth 8000
namespace Go.Proofs.Ytkjfildnemgbiaa
open Go.RowKit Go.Deep Go.Shelf Math Tab Go.Sort

theorem leB_tr2 : ∀ a b c : List UInt8, leB a b = true → leB b c = true → leB a c = true := fun a b c h1 h2 => by simp only [leB, decide_eq_true_eq] at *; exact List.le_trans h1 h2
theorem leB_to2 : ∀ a b : List UInt8, (leB a b || leB b a) = true := fun a b => by simp only [leB, Bool.or_eq_true, decide_eq_true_eq]; exact List.le_total a b
theorem sortK_len2 (l : List (List UInt8)) : (sortK l).length = l.length := (List.mergeSort_perm l leB).length_eq
theorem ins_sort {l : List (List UInt8)} {x : List UInt8} {k : Nat} (h1 : ∀ y ∈ (sortK l).take k, y < x) (h2 : ∀ y, (sortK l)[k]? = some y → ¬ y < x) : (sortK l).take k ++ [x] ++ (sortK l).drop k = sortK (l ++ [x]) := by
  have hs : (sortK l).Pairwise (fun a b => leB a b = true) := List.pairwise_mergeSort leB_tr2 leB_to2 l
  have hp : (sortK l).Perm l := List.mergeSort_perm l leB
  generalize sortK l = s at *
  have hperm : (s.take k ++ [x] ++ s.drop k).Perm (l ++ [x]) := by
    have e1 : (s.take k ++ [x] ++ s.drop k).Perm (x :: s) := by
      rw [List.append_assoc]
      refine List.perm_middle.trans ?_
      show (x :: (s.take k ++ s.drop k)).Perm (x :: s)
      rw [List.take_append_drop]
    exact e1.trans ((hp.cons x).trans (List.perm_append_singleton _ _).symm)
  rw [← sortK_perm hperm]
  refine (sortK_sorted ?_).symm
  have hs2 := hs
  rw [← List.take_append_drop k s, List.pairwise_append] at hs2
  obtain ⟨p1, p2, p3⟩ := hs2
  have hx : ∀ y ∈ s.drop k, leB x y = true := fun y hy => by
    cases hd : s.drop k with
    | nil => rw [hd] at hy; cases hy
    | cons z r =>
      have hz : s[k]? = some z := by
        have := congrArg (fun l => l[0]?) hd
        simpa [List.getElem?_drop] using this
      have hxz : leB x z = true := by
        have := h2 z hz
        simp only [leB, decide_eq_true_eq]
        exact List.not_lt.1 this
      rw [hd] at hy p2
      rcases List.mem_cons.1 hy with rfl | hy
      · exact hxz
      · exact leB_tr2 _ _ _ hxz ((List.pairwise_cons.1 p2).1 y hy)
  rw [List.append_assoc, List.pairwise_append]
  refine ⟨p1, ?_, fun a ha b hb => ?_⟩
  · rw [List.singleton_append, List.pairwise_cons]
    exact ⟨hx, p2⟩
  · rw [List.singleton_append] at hb
    rcases List.mem_cons.1 hb with rfl | hb
    · simp only [leB, decide_eq_true_eq]; exact List.le_of_lt (h1 a ha)
    · exact p3 a ha b hb
/-! ### append(append(append([]string{}, l[:k]...), x), l[k:]...) in any order -/
def upB (L : Nat → Bool) (i : Nat) : Nat → Bool := fun j => if j = i then true else L j
theorem upB_same (L : Nat → Bool) (i : Nat) : upB L i i = true := by simp [upB]
theorem upB_other (L : Nat → Bool) (i j : Nat) (h : j ≠ i) : upB L i j = L j := by simp [upB, h]
structure J8 (ops : Array Oper) (w0 : World) (val : Nat → Value) (x : List UInt8) (P Q : List (List UInt8)) (L : Nat → Bool) (V : Nat → Value) (W : World) : Prop where
  cl : ∀ j i, edgeOf ops j i = true → L j = true → L i = true
  bel : Below w0.heap.size w0 W
  pu : ∀ i, L i = true → i ≠ 0 → i ≠ 4 → i ≠ 12 → i ≠ 13 → i ≠ 17 → i ≠ 18 → V i = val i
  a0 : L 0 = true → L 4 = false → GR strK w0.heap.size (V 0) [] W
  a4 : L 4 = true → L 13 = false → GR strK w0.heap.size (V 4) P W
  a12 : L 12 = true → L 13 = false → GR strK w0.heap.size (V 12) [x] W ∧ (L 0 = true → L 4 = false → ∀ q ∈ ownB (V 0), q ∉ ownB (V 12)) ∧ (L 4 = true → ∀ q ∈ ownB (V 4), q ∉ ownB (V 12))
  a13 : L 13 = true → L 17 = false → GR strK w0.heap.size (V 13) (P ++ [x]) W
  a17 : L 17 = true → GR strK w0.heap.size (V 17) (P ++ [x] ++ Q) W
  a18 : L 18 = true → V 18 = V 17
section
variable {ops : Array Oper} {w0 W W' : World} {val : Nat → Value} {x : List UInt8} {P Q : List (List UInt8)} {L : Nat → Bool} {V : Nat → Value}
theorem J8.start {n : Nat} (h : w0 = W) : J8 ops w0 val x P Q (fun j => (Array.replicate n false).getD j false) V W := by
  have er : ∀ j, (Array.replicate n false).getD j false = false := fun j => by simp only [Array.getD_eq_getD_getElem?, Array.getElem?_replicate]; split <;> rfl
  subst h
  refine ⟨fun j i _ h => ?_, Below.refl _ _, fun i h => ?_, fun h => ?_, fun h => ?_, fun h => ?_, fun h => ?_, fun h => ?_, fun h => ?_⟩ <;> (simp only [er] at h; cases h)
theorem J8.out {listed : Array Bool} {i : Nat} (hi : i < listed.size) (h : J8 ops w0 val x P Q (upB (fun j => listed.getD j false) i) V W) : J8 ops w0 val x P Q (fun j => (listed.setIfInBounds i true).getD j false) V W := by
  have e : (fun j => (listed.setIfInBounds i true).getD j false) = upB (fun j => listed.getD j false) i := by
    funext j
    rw [getD_set _ _ _ hi]
    rfl
  rw [e]
  exact h
theorem J8.clU (h : J8 ops w0 val x P Q L V W) {i : Nat} (hd : ∀ k, edgeOf ops i k = true → L k = true) : ∀ j k, edgeOf ops j k = true → upB L i j = true → upB L i k = true := fun j k he hj => by
  unfold upB at hj ⊢
  split
  · rfl
  · split at hj
    · rename_i e; subst e; exact hd k he
    · exact h.cl j k he hj
theorem GR.lt {v : Value} {B : Nat} {xs : List (List UInt8)} (h : GR strK B v xs W) : ∀ q ∈ ownB v, B ≤ q ∧ q < W.heap.size := fun q hq => by
  obtain ⟨h1, c, hc⟩ := own_ty h.row (mem_own.1 hq)
  exact ⟨h1, (Array.getElem?_eq_some_iff.1 hc).1⟩
theorem GR.keepG {v : Value} {B : Nat} {xs : List (List UInt8)} {F : List Nat} (h : GR strK B v xs W) (k : Keep F W W') (hF : ∀ q ∈ F, q ∉ ownB v) : GR strK B v xs W' :=
  ⟨own_same h.row (fun q hq => k.block q (h.lt q (mem_own.2 hq)).2 (fun hm => hF q hm (mem_own.2 hq)))⟩
theorem J8.pure (h : J8 ops w0 val x P Q L V W) (i : Nat) (n0 : i ≠ 0) (n4 : i ≠ 4) (n12 : i ≠ 12) (n13 : i ≠ 13) (n17 : i ≠ 17) (n18 : i ≠ 18) (hd : ∀ k, edgeOf ops i k = true → L k = true) : J8 ops w0 val x P Q (upB L i) (setV V i (val i)) W := by
  have l := fun j (hj : i ≠ j) => upB_other L i j (Ne.symm hj)
  have v := fun j (hj : i ≠ j) => setV_other V i j (val i) (Ne.symm hj)
  refine ⟨h.clU hd, h.bel, fun j hj m0 m4 m12 m13 m17 m18 => ?_, ?_, ?_, ?_, ?_, ?_, ?_⟩
  · by_cases e : j = i
    · subst e; exact setV_same _ _ _
    · rw [upB_other _ _ _ e] at hj
      rw [setV_other _ _ _ _ e]
      exact h.pu j hj m0 m4 m12 m13 m17 m18
  · rw [l 0 n0, l 4 n4, v 0 n0]; exact h.a0
  · rw [l 4 n4, l 13 n13, v 4 n4]; exact h.a4
  · rw [l 12 n12, l 13 n13, l 0 n0, l 4 n4, v 12 n12, v 0 n0, v 4 n4]; exact h.a12
  · rw [l 13 n13, l 17 n17, v 13 n13]; exact h.a13
  · rw [l 17 n17, v 17 n17]; exact h.a17
  · rw [l 18 n18, v 18 n18, v 17 n17]; exact h.a18
theorem J8.puU (h : J8 ops w0 val x P Q L V W) {i : Nat} {v : Value} (hi : i = 0 ∨ i = 4 ∨ i = 12 ∨ i = 13 ∨ i = 17 ∨ i = 18) : ∀ j, upB L i j = true → j ≠ 0 → j ≠ 4 → j ≠ 12 → j ≠ 13 → j ≠ 17 → j ≠ 18 → setV V i v j = val j := fun j hj m0 m4 m12 m13 m17 m18 => by
  have e : j ≠ i := fun e => by omega
  rw [upB_other _ _ _ e] at hj
  rw [setV_other _ _ _ _ e]
  exact h.pu j hj m0 m4 m12 m13 m17 m18
theorem J8.no (h : J8 ops w0 val x P Q L V W) {j i : Nat} (e : edgeOf ops j i = true) (hi : L i = false) : L j = false := by
  cases hj : L j with
  | false => rfl
  | true => rw [h.cl j i e hj] at hi; cases hi
theorem J8.z0 (h : J8 ops w0 val x P Q L V W) (e40 : edgeOf ops 4 0 = true) (hn : L 0 = false) (hd : ∀ k, edgeOf ops 0 k = true → L k = true) : J8 ops w0 val x P Q (upB L 0) (setV V 0 (.slice (some ⟨W.heap.size, 0, none⟩) 0 0)) (W.alloc (.cells #[] 9)) := by
  have b : Below W.heap.size W (W.alloc (.cells #[] 9)) := (Below.refl _ _).alloc (Nat.le_refl _) _
  have h4 := h.no e40 hn
  refine ⟨h.clU hd, h.bel.trans (b.mono h.bel.size), h.puU (.inl rfl), fun _ _ => ?_, fun h1 => ?_, fun h1 h2 => ?_, fun h1 h2 => ?_, fun h1 => ?_, ?_⟩
  · rw [setV_same]; exact GR.lit0 strK _ W h.bel.size
  · rw [upB_other _ _ _ (by decide), h4] at h1; cases h1
  · rw [upB_other _ _ _ (by decide)] at h1 h2
    rw [upB_other L 0 4 (by decide), setV_other V 0 12 _ (by decide), setV_same]
    obtain ⟨g1, _, _⟩ := h.a12 h1 h2
    refine ⟨g1.below b, fun _ _ q hq hq2 => ?_, fun h9 => ?_⟩
    · have := (g1.lt q hq2).2
      simp [ownB, Value.ownBlock] at hq
      omega
    · rw [h4] at h9; cases h9
  · rw [upB_other _ _ _ (by decide)] at h1 h2
    rw [setV_other V 0 13 _ (by decide)]
    exact (h.a13 h1 h2).below b
  · rw [upB_other _ _ _ (by decide)] at h1
    rw [setV_other V 0 17 _ (by decide)]
    exact (h.a17 h1).below b
  · rw [upB_other _ _ _ (by decide), setV_other V 0 18 _ (by decide), setV_other V 0 17 _ (by decide)]; exact h.a18
theorem J8.z4 (h : J8 ops w0 val x P Q L V W) (e134 : edgeOf ops 13 4 = true) (hn : L 4 = false) (hd : ∀ k, edgeOf ops 4 k = true → L k = true) (h0 : L 0 = true) {v : Value} (g : GR strK w0.heap.size v ([] ++ P) W') (k : Keep (ownB (V 0)) W W') (o : ∀ q ∈ ownB v, q ∈ ownB (V 0) ∨ W.heap.size ≤ q) (e1713 : edgeOf ops 17 13 = true) : J8 ops w0 val x P Q (upB L 4) (setV V 4 v) W' := by
  have h13 := h.no e134 hn
  have h17 := h.no e1713 h13
  have G0 := h.a0 h0 hn
  refine ⟨h.clU hd, h.bel.trans (k.below (fun q hq => (G0.lt q hq).1) h.bel.size), h.puU (.inr (.inl rfl)), fun _ h2 => ?_, fun _ _ => ?_, fun h1 h2 => ?_, fun h1 h2 => ?_, fun h1 => ?_, ?_⟩
  · rw [upB_same] at h2; cases h2
  · rw [setV_same]; exact g
  · rw [upB_other _ _ _ (by decide)] at h1
    rw [setV_other V 4 12 _ (by decide), setV_same]
    obtain ⟨g1, g2, _⟩ := h.a12 h1 h13
    have g3 := g2 h0 hn
    refine ⟨g1.keepG k g3, fun _ h9 => ?_, fun _ q hq hq2 => ?_⟩
    · rw [upB_same] at h9; cases h9
    · rcases o q hq with h5 | h5
      · exact g3 q h5 hq2
      · have := (g1.lt q hq2).2; omega
  · rw [upB_other _ _ _ (by decide), h13] at h1; cases h1
  · rw [upB_other _ _ _ (by decide), h17] at h1; cases h1
  · rw [upB_other _ _ _ (by decide), setV_other V 4 18 _ (by decide), setV_other V 4 17 _ (by decide)]; exact h.a18
theorem J8.z12 (h : J8 ops w0 val x P Q L V W) (e1312 : edgeOf ops 13 12 = true) (hn : L 12 = false) (hd : ∀ k, edgeOf ops 12 k = true → L k = true) : J8 ops w0 val x P Q (upB L 12) (setV V 12 (.slice (some ⟨W.heap.size, 0, none⟩) 1 1)) (W.alloc (.cells #[.string (txt x)] 9)) := by
  have b : Below W.heap.size W (W.alloc (.cells #[.string (txt x)] 9)) := (Below.refl _ _).alloc (Nat.le_refl _) _
  have h13 := h.no e1312 hn
  have own : ∀ q, q ∈ ownB (.slice (some ⟨W.heap.size, 0, none⟩) 1 1) → q = W.heap.size := fun q hq => by simpa [ownB, Value.ownBlock] using hq
  refine ⟨h.clU hd, h.bel.trans (b.mono h.bel.size), h.puU (.inr (.inr (.inl rfl))), fun h1 h2 => ?_, fun h1 h2 => ?_, fun _ _ => ?_, fun h1 h2 => ?_, fun h1 => ?_, ?_⟩
  · rw [upB_other _ _ _ (by decide)] at h1 h2
    rw [setV_other V 12 0 _ (by decide)]
    exact (h.a0 h1 h2).below b
  · rw [upB_other _ _ _ (by decide)] at h1 h2
    rw [setV_other V 12 4 _ (by decide)]
    exact (h.a4 h1 h2).below b
  · rw [setV_same, setV_other V 12 0 _ (by decide), setV_other V 12 4 _ (by decide), upB_other L 12 0 (by decide), upB_other L 12 4 (by decide)]
    refine ⟨GR.lit strK _ W x h.bel.size, fun h1 h2 q hq hq2 => ?_, fun h1 q hq hq2 => ?_⟩
    · have := ((h.a0 h1 h2).lt q hq).2
      have := own q hq2
      omega
    · have := ((h.a4 h1 h13).lt q hq).2
      have := own q hq2
      omega
  · rw [upB_other _ _ _ (by decide), h13] at h1; cases h1
  · rw [upB_other _ _ _ (by decide)] at h1
    rw [setV_other V 12 17 _ (by decide)]
    exact (h.a17 h1).below b
  · rw [upB_other _ _ _ (by decide), setV_other V 12 18 _ (by decide), setV_other V 12 17 _ (by decide)]; exact h.a18
theorem J8.z13 (h : J8 ops w0 val x P Q L V W) (e1713 : edgeOf ops 17 13 = true) (hn : L 13 = false) (hd : ∀ k, edgeOf ops 13 k = true → L k = true) (h4 : L 4 = true) {v : Value} (g : GR strK w0.heap.size v (P ++ [x]) W') (k : Keep (ownB (V 4)) W W') : J8 ops w0 val x P Q (upB L 13) (setV V 13 v) W' := by
  have h17 := h.no e1713 hn
  have G4 := h.a4 h4 hn
  refine ⟨h.clU hd, h.bel.trans (k.below (fun q hq => (G4.lt q hq).1) h.bel.size), h.puU (.inr (.inr (.inr (.inl rfl)))), fun _ h2 => ?_, fun _ h2 => ?_, fun h1 h2 => ?_, fun h1 h2 => ?_, fun h1 => ?_, ?_⟩
  · rw [upB_other _ _ _ (by decide), h4] at h2; cases h2
  · rw [upB_same] at h2; cases h2
  · rw [upB_same] at h2; cases h2
  · rw [setV_same]; exact g
  · rw [upB_other _ _ _ (by decide), h17] at h1; cases h1
  · rw [upB_other _ _ _ (by decide), setV_other V 13 18 _ (by decide), setV_other V 13 17 _ (by decide)]; exact h.a18
theorem J8.z17 (h : J8 ops w0 val x P Q L V W) (e134 : edgeOf ops 13 4 = true) (e1817 : edgeOf ops 18 17 = true) (hn : L 17 = false) (hd : ∀ k, edgeOf ops 17 k = true → L k = true) (h13 : L 13 = true) {v : Value} (g : GR strK w0.heap.size v (P ++ [x] ++ Q) W') (k : Keep (ownB (V 13)) W W') : J8 ops w0 val x P Q (upB L 17) (setV V 17 v) W' := by
  have h18 := h.no e1817 hn
  have h4 := h.cl 13 4 e134 h13
  have G := h.a13 h13 hn
  refine ⟨h.clU hd, h.bel.trans (k.below (fun q hq => (G.lt q hq).1) h.bel.size), h.puU (.inr (.inr (.inr (.inr (.inl rfl))))), fun _ h2 => ?_, fun _ h2 => ?_, fun h1 h2 => ?_, fun h1 h2 => ?_, fun h1 => ?_, fun h1 => ?_⟩
  · rw [upB_other _ _ _ (by decide), h4] at h2; cases h2
  · rw [upB_other _ _ _ (by decide), h13] at h2; cases h2
  · rw [upB_other _ _ _ (by decide), h13] at h2; cases h2
  · rw [upB_same] at h2; cases h2
  · rw [setV_same]; exact g
  · rw [upB_other _ _ _ (by decide), h18] at h1; cases h1
theorem J8.z18 (h : J8 ops w0 val x P Q L V W) (hd : ∀ k, edgeOf ops 18 k = true → L k = true) : J8 ops w0 val x P Q (upB L 18) (setV V 18 (V 17)) W := by
  refine ⟨h.clU hd, h.bel, h.puU (.inr (.inr (.inr (.inr (.inr rfl))))), ?_, ?_, ?_, ?_, ?_, fun _ => ?_⟩
  · rw [upB_other L 18 0 (by decide), upB_other L 18 4 (by decide), setV_other V 18 0 _ (by decide)]; exact h.a0
  · rw [upB_other L 18 4 (by decide), upB_other L 18 13 (by decide), setV_other V 18 4 _ (by decide)]; exact h.a4
  · rw [upB_other L 18 12 (by decide), upB_other L 18 13 (by decide), upB_other L 18 0 (by decide), upB_other L 18 4 (by decide), setV_other V 18 12 _ (by decide), setV_other V 18 0 _ (by decide), setV_other V 18 4 _ (by decide)]; exact h.a12
  · rw [upB_other L 18 13 (by decide), upB_other L 18 17 (by decide), setV_other V 18 13 _ (by decide)]; exact h.a13
  · rw [upB_other L 18 17 (by decide), setV_other V 18 17 _ (by decide)]; exact h.a17
  · rw [setV_same, setV_other V 18 17 _ (by decide)]
end
/-- 'l[:k]' and 'l[k:]' of any row. -/
theorem slices_any {B : Nat} {lv : Value} {l : List (List UInt8)} {W : World} (h : SR B lv l W) (k : Nat) (hk : k ≤ l.length) (hl : l.length ≤ 1000) :
    ∃ h3 h16, (∀ X, (Instr.sliceAt 29 lv none (some (.int .i64 (k : Int))) none).run Try.prog X = .ok h3 X) ∧ Src strK W h3 (l.take k) ∧ (∀ X, (Instr.sliceAt 29 lv (some (.int .i64 (k : Int))) none none).run Try.prog X = .ok h16 X) ∧ Src strK W h16 (l.drop k) := by
  have hG := h.gr
  rcases h.row.2 with ⟨h1, h0⟩ | ⟨g, cap, cur, hv, _, hh, hnc, _⟩
  · have e : l = [] := List.eq_nil_of_length_eq_zero h0
    subst e
    have ek : k = 0 := by simpa using hk
    subst ek
    refine ⟨.slice none 0 0, .slice none 0 0, fun X => ?_, .inl ⟨rfl, rfl⟩, fun X => ?_, .inl ⟨rfl, rfl⟩⟩ <;> (rw [h1]; simp [go_sem])
  · rw [hv] at hG ⊢
    obtain ⟨to, tc, ht, _, hto⟩ := run_tailS g l.length cap k hk hnc
    refine ⟨_, _, run_headS g l.length cap k (by omega), ?_, ht, ?_⟩
    · refine .inr ⟨_, cap, by rw [List.length_take, Nat.min_eq_left hk], fun j y hy => ?_⟩
      rw [Addr.add_lit, Nat.zero_add]
      rw [List.getElem?_take] at hy
      split at hy
      · exact hG.cells hy
      · cases hy
    · refine .inr ⟨_, tc, by rw [List.length_drop], fun j y hy => ?_⟩
      rw [List.getElem?_drop] at hy
      have hlt := (List.getElem?_eq_some_iff.1 hy).1
      rw [hto (by omega), Addr.add_lit]
      exact hG.cells hy
end Go.Proofs.Ytkjfildnemgbiaa
