/- A row without one of its elements; what drop leaves of a table's buckets. -/
import Derived.Test.YtkjfildnemgbiaaRf8
set_option linter.unusedVariables false
set_option linter.unusedSimpArgs false
set_option maxRecDepth 8000
namespace Go.Proofs.Ytkjfildnemgbiaa
open Go.RowKit Go.Deep Go.Shelf Math Tab Go.Sort

theorem run_tailS (g n cap K : Nat) (hk : K ≤ n) (hn : n ≤ cap) : ∃ (to tc : Nat), (∀ X, (Instr.sliceAt 29 (.slice (some ⟨g, 0, none⟩) n cap) (some (.int .i64 (K : Int))) none none).run Try.prog X = .ok (.slice (some ⟨g, to, none⟩) (n - K) tc) X) ∧ (∀ X, (Instr.sliceAt 41 (.slice (some ⟨g, 0, none⟩) n cap) (some (.int .i64 (K : Int))) none none).run Try.prog X = .ok (.slice (some ⟨g, to, none⟩) (n - K) tc) X) ∧ (K < n → to = K) := by
  by_cases hc : cap = K
  · refine ⟨0, 0, fun X => ?_, fun X => ?_, fun h => by omega⟩ <;>
    · have hnn : n = K := by omega
      subst hnn
      subst hc
      simp [go_sem]
  · refine ⟨K, cap - K, fun X => ?_, fun X => ?_, fun _ => rfl⟩ <;>
    · simp [go_sem]
      rw [if_pos (by omega), if_neg hc]
theorem run_headS (g n cap k : Nat) (hk : k ≤ cap) (X : World) : (Instr.sliceAt 29 (.slice (some ⟨g, 0, none⟩) n cap) none (some (.int .i64 (k : Int))) none).run Try.prog X = .ok (.slice (some ⟨g, 0, none⟩) k cap) X := by
  simp [go_sem]
  intro h
  omega
theorem run_headI (g n cap k : Nat) (hk : k ≤ cap) (X : World) : (Instr.sliceAt 41 (.slice (some ⟨g, 0, none⟩) n cap) none (some (.int .i64 (k : Int))) none).run Try.prog X = .ok (.slice (some ⟨g, 0, none⟩) k cap) X := by
  simp [go_sem]
  intro h
  omega
theorem run_noneS (X : World) : (Instr.buildSlice 29 0 #[]).run Try.prog X = .ok (.slice (some ⟨X.heap.size, 0, none⟩) 0 0) (X.alloc (.cells #[] 9)) := by
  simp [go_sem]
theorem run_noneI (X : World) : (Instr.buildSlice 41 0 #[]).run Try.prog X = .ok (.slice (some ⟨X.heap.size, 0, none⟩) 0 0) (X.alloc (.cells #[] 3)) := by
  simp [go_sem]
theorem run_succ (k : Nat) (hk : k ≤ 1000000) (X : World) : (binOp .add 3 (.int .i64 (k : Int)) (.int .i64 1)).run Try.prog X = .ok (.int .i64 ((k + 1 : Nat) : Int)) X := by
  simp [go_sem]
  rw [IntWalk.i64_left, IntWalk.wrap64_in _ (by omega)]
section
variable {α : Type} {K : Kd α} {B : Nat} {W W' : World} {xs : List α}
theorem Src.below {u : Value} {ys : List α} (h : Src K W u ys) (b : Below W.heap.size W W') : Src K W' u ys := by
  rcases h with h | ⟨a, c, h1, h2⟩
  · exact .inl h
  · exact .inr ⟨a, c, h1, fun j y hy => (b.cell (p := a.add j) (block_lt_of_cell (h2 j y hy))).trans (h2 j y hy)⟩
/-- 'append(append([]T{}, l[:k]...), l[k+1:]...)': the row without its k-th element. -/
theorem cut_g {g cap n : Nat} (h : GR K B (.slice (some ⟨g, 0, none⟩) n cap) xs W) (hl : n = xs.length) (hb : B ≤ W.heap.size) {k : Nat} (hk : k < n) (hn : n ≤ 100000) (to tc : Nat) (hto : k + 1 < n → to = k + 1) :
    ∃ (ua : Option Addr) (uc : Nat) (W2 : World) (va : Option Addr) (vc : Nat) (W3 : World),
      (∀ ty, (Builtin.append_ #[K.tS, K.tS] ty #[.slice (some ⟨W.heap.size, 0, none⟩) 0 0, .slice (some ⟨g, 0, none⟩) k cap]).run Try.prog (W.alloc (.cells #[] K.tE)) = .ok (.slice ua k uc) W2) ∧
      (∀ ty, (Builtin.append_ #[K.tS, K.tS] ty #[.slice ua k uc, .slice (some ⟨g, to, none⟩) (n - (k + 1)) tc]).run Try.prog W2 = .ok (.slice va (n - 1) vc) W3) ∧
      GR K B (.slice va (n - 1) vc) (xs.take k ++ xs.drop (k + 1)) W3 ∧ Below W.heap.size W W2 ∧ Below W.heap.size W W3 ∧ (∀ q ∈ ownB (.slice va (n - 1) vc), W.heap.size ≤ q) := by
  have b1 : Below W.heap.size W (W.alloc (.cells #[] K.tE)) := (Below.refl _ _).alloc (Nat.le_refl _) _
  have htl : (xs.take k).length = k := by simp; omega
  have s1 : Src K (W.alloc (.cells #[] K.tE)) (.slice (some ⟨g, 0, none⟩) k cap) (xs.take k) := Src.below (W := W) (.inr ⟨_, cap, by rw [htl], fun j y hy => by
    rw [Addr.add_lit, Nat.zero_add]
    rw [List.getElem?_take] at hy
    split at hy
    · exact h.cells hy
    · cases hy⟩) b1
  obtain ⟨v2, W2, r2, n2, k2, o2⟩ := app_g (GR.lit0 K B W hb) (Nat.le_trans hb b1.size) s1 (by rw [htl]; simp; omega)
  obtain ⟨ua, uc, rfl⟩ := n2.slice
  rw [List.nil_append, htl] at r2
  simp only [List.nil_append] at n2 o2
  rw [htl] at n2 o2
  have hown1 : ownB (.slice (some ⟨W.heap.size, 0, none⟩) 0 0) = [W.heap.size] := rfl
  rw [hown1] at k2 o2
  have b2 : Below W.heap.size W W2 := b1.trans (k2.below (by simp) b1.size)
  have hdl : (xs.drop (k + 1)).length = n - (k + 1) := by simp; omega
  have s2 : Src K W2 (.slice (some ⟨g, to, none⟩) (n - (k + 1)) tc) (xs.drop (k + 1)) := .inr ⟨_, tc, by rw [hdl], fun j y hy => by
    rw [List.getElem?_drop] at hy
    have hlt := (List.getElem?_eq_some_iff.1 hy).1
    rw [hto (by omega), Addr.add_lit]
    exact (h.below b2).cells hy⟩
  obtain ⟨v3, W3, r3, n3, k3, o3⟩ := app_g n2 (Nat.le_trans hb b2.size) s2 (by rw [htl, hdl]; omega)
  obtain ⟨va, vc, rfl⟩ := n3.slice
  have e : (xs.take k ++ xs.drop (k + 1)).length = n - 1 := by rw [List.length_append, htl, hdl]; omega
  rw [e] at r3 n3 o3
  have hq2 : ∀ q ∈ ownB (.slice ua k uc), W.heap.size ≤ q := fun q hq => by
    rcases o2 q hq with h1 | h1
    · simp at h1; omega
    · rw [nblk_alloc] at h1; omega
  refine ⟨ua, uc, W2, va, vc, W3, r2, r3, n3, b2, b2.trans (k3.below hq2 b2.size), fun q hq => ?_⟩
  rcases o3 q hq with h1 | h1
  · exact hq2 q h1
  · exact Nat.le_trans b2.size h1
end
/-- The first b of a row turned. -/
def partM {α : Type} (d : α → α) (b : Nat) (l : List α) : List α := (l.take b).map d ++ l.drop b
theorem partM_zero {α : Type} (d : α → α) (l : List α) : partM d 0 l = l := by simp [partM]
theorem partM_all {α : Type} (d : α → α) (l : List α) {b : Nat} (h : l.length ≤ b) : partM d b l = l.map d := by simp [partM, List.take_of_length_le h, List.drop_of_length_le h]
theorem partM_len {α : Type} (d : α → α) (b : Nat) (l : List α) : (partM d b l).length = l.length := by simp [partM]; omega
theorem partM_at {α : Type} (d : α → α) {b : Nat} {l : List α} {x : α} (h : l[b]? = some x) : (partM d b l)[b]? = some x := by
  have hb := (List.getElem?_eq_some_iff.1 h).1
  unfold partM
  rw [List.getElem?_append_right (by simp; omega), List.getElem?_drop]
  simp only [List.length_map, List.length_take]
  rw [show b + (b - min b l.length) = b by omega]
  exact h
theorem partM_set {α : Type} (d : α → α) {b : Nat} {l : List α} {x : α} (h : l[b]? = some x) : (partM d b l).set b (d x) = partM d (b + 1) l := by
  obtain ⟨hb, hx⟩ := List.getElem?_eq_some_iff.1 h
  unfold partM
  rw [List.set_append_right _ _ (by simp; omega)]
  simp only [List.length_map, List.length_take]
  rw [show b - min b l.length = 0 by omega, List.drop_eq_getElem_cons hb, List.set_cons_zero, List.take_succ_eq_append_getElem hb, hx]
  simp
section
variable {B : Nat} {w w' : World} {f nb ob nx : Nat} {vN vO : List Value} {nw od : Ch} {kv vv : Value} {ks : List (List UInt8)} {vs : List Int} {key : List UInt8}
/-- Old buckets that are moved stay nil. -/
theorem RfIn.setZ (h : RfIn B w f nb ob nx vN vO nw od kv vv ks vs) {W : World} (b : Below w.heap.size w W) {i : Nat} (hi : i < nx) : RfIn B (W.setCell ⟨ob, i, none⟩ (.slice none 0 0)) f nb ob nx vN vO nw od kv vv ks vs := by
  have h0 : 0 < nx + od.length := by omega
  have hW := h.below b
  have hO := (hW.rO h0).set i (.slice none 0 0)
  have e : vO.set i (.slice none 0 0) = vO := by
    apply List.ext_getElem?
    intro j
    rw [List.getElem?_set]
    by_cases e : i = j
    · subst e
      rw [if_pos rfl, h.zO i hi, if_pos (by rw [h.lO]; omega)]
    · rw [if_neg e]
  rw [e] at hO
  refine hW.same (fun q c t hq _ => ?_)
  by_cases hqo : q = ob
  · subst hqo
    exact hO.trans (hW.rO h0).symm
  · exact blk_setCell_other _ _ _ _ hqo
theorem RfIn.dropO {b : Nat} (h : RfIn B w f nb ob nx vN vO nw (partM (dropK key) (b - nx) od) kv vv ks vs) (hB : B ≤ w.heap.size) (hb : b < nx + od.length) : ∃ v ss, vO[b]? = some v ∧ SR B v ss w ∧ (ss = [] ∨ ss ∈ od) ∧
    ∀ W u, Below w.heap.size w W → SR w.heap.size u (dropK key ss) W → (dropK key ss = [] → u = .slice none 0 0) → (∀ q ∈ ownB u, w.heap.size ≤ q) → ∃ vO', RfIn B (W.setCell ⟨ob, b, none⟩ u) f nb ob nx vN vO' nw (partM (dropK key) (b + 1 - nx) od) kv vv ks vs := by
  by_cases hx : b < nx
  · refine ⟨_, [], h.zO b hx, SR.nil _ _, .inl rfl, fun W u hb hS h0 _ => ⟨vO, ?_⟩⟩
    rw [h0 rfl, show b + 1 - nx = 0 by omega]
    rw [show b - nx = 0 by omega] at h
    exact h.setZ hb hx
  · obtain ⟨i, rfl⟩ : ∃ i, b = nx + i := ⟨b - nx, by omega⟩
    have hil : i < od.length := by omega
    rw [show nx + i - nx = i by omega] at h
    have hg := List.getElem?_eq_getElem hil
    obtain ⟨v, h1, h2, h3⟩ := h.eO i _ (partM_at (dropK key) hg)
    refine ⟨v, od[i], h1, h2, .inr (List.getElem_mem _), fun W u hb hS _ hq => ⟨vO.set (nx + i) u, ?_⟩⟩
    rw [show nx + i + 1 - nx = i + 1 by omega, ← partM_set (dropK key) hg]
    exact h.setO hb (by rw [partM_len]; exact hil) (hS.lower hB) hq
theorem RfIn.dropN {b : Nat} (h : RfIn B w f nb ob nx vN vO (partM (dropK key) b nw) od kv vv ks vs) (hB : B ≤ w.heap.size) (hb : b < nw.length) : ∃ v ss, vN[b]? = some v ∧ SR B v ss w ∧ ss ∈ nw ∧
    ∀ W u, Below w.heap.size w W → SR w.heap.size u (dropK key ss) W → (∀ q ∈ ownB u, w.heap.size ≤ q) → ∃ vN', RfIn B (W.setCell ⟨nb, b, none⟩ u) f nb ob nx vN' vO (partM (dropK key) (b + 1) nw) od kv vv ks vs := by
  have hg := List.getElem?_eq_getElem hb
  obtain ⟨v, h1, h2, h3⟩ := h.eN b _ (partM_at (dropK key) hg)
  refine ⟨v, nw[b], h1, h2, List.getElem_mem _, fun W u hW hS hq => ⟨vN.set b u, ?_⟩⟩
  rw [← partM_set (dropK key) hg]
  exact h.setN hW hB (by rw [partM_len]; exact hb) (hS.lower hB) hq
end
theorem SR.ge {B : Nat} {v : Value} {ss : List (List UInt8)} {W : World} (h : SR B v ss W) : ∀ q ∈ ownB v, B ≤ q := fun q hq => (own_ty h.row (mem_own.1 hq)).1
end Go.Proofs.Ytkjfildnemgbiaa
