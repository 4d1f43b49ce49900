/- Rows of numbers beside a slab. -/
import Derived.Test.YteeanaoglcpaaaaDoorAwake
import Derived.Maps.AppendAt
import Derived.Lib.AppendZeros
set_option linter.unusedVariables false
set_option linter.unusedSimpArgs false
namespace Go.Proofs.YteeanaoglcpaaaaDoor
open Go.RowKit Go.Deep Go.Shelf Math

def own (v : Value) : List Nat := v.ownBlock.toList
theorem mem_own {v : Value} {q : Nat} : q ∈ own v ↔ v.ownBlock = some q := by simp [own, Option.mem_toList]
theorem own_same {w w' : World} {base : Nat} {e : TypeId} {size : Nat} {v : Value} {n : Nat} {xs : List Value} (h : w.ownsRow base e size v n xs) (k : ∀ q, v.ownBlock = some q → w'.heap[q]? = w.heap[q]?) : w'.ownsRow base e size v n xs := by
  refine ⟨h.1, ?_⟩
  rcases h.2 with h2 | ⟨g, cap, cur, hv, hg, hh, r⟩
  · exact .inl h2
  · exact .inr ⟨g, cap, cur, hv, hg, by rw [k g (by rw [hv]; rfl)]; exact hh, r⟩
theorem own_ty {w : World} {base : Nat} {e : TypeId} {size : Nat} {v : Value} {n : Nat} {xs : List Value} (h : w.ownsRow base e size v n xs) {q : Nat} (hq : v.ownBlock = some q) : base ≤ q ∧ ∃ c, w.heap[q]? = some (.cells c e (0, 0)) := by
  rcases h.2 with ⟨h2, _⟩ | ⟨g, cap, cur, hv, hg, hh, r⟩
  · rw [h2] at hq; cases hq
  · rw [hv] at hq
    simp [Value.ownBlock] at hq
    subst hq
    exact ⟨hg, cur, hh⟩
theorem Blk.ty_ne {w : World} {b : Nat} {L : List Value} {t : TypeId} (h : Blk w b L t) {q : Nat} {c : Array Value} {t' : TypeId} (hq : w.heap[q]? = some (.cells c t' (0, 0))) (ht : t ≠ t') : b ≠ q := fun e => by
  subst e
  unfold Blk at h
  rw [h] at hq
  simp at hq
  exact ht hq.2
def intV (xs : List Int) : List Value := xs.map fun x => Value.int .i64 x
theorem intV_len (xs : List Int) : (intV xs).length = xs.length := by simp [intV]
theorem intV_app (xs ys : List Int) : intV (xs ++ ys) = intV xs ++ intV ys := by simp [intV]
theorem intV_get {xs : List Int} {i : Nat} {x : Int} (h : xs[i]? = some x) : (intV xs)[i]? = some (.int .i64 x) := by simp [intV, h]
/-- A row of numbers of the law's own. -/
structure NR (w0 : World) (v : Value) (xs : List Int) (W : World) : Prop where
  row : W.ownsRow w0.heap.size 3 1 v xs.length (intV xs)
theorem NR.nil (w0 W : World) : NR w0 (.slice none 0 0) [] W := ⟨⟨rfl, .inl ⟨rfl, rfl⟩⟩⟩
theorem NR.below {w0 W W' : World} {v : Value} {xs : List Int} (h : NR w0 v xs W) (b : Below W.heap.size W W') : NR w0 v xs W' :=
  ⟨own_same h.row (fun q hq => by obtain ⟨_, c, hc⟩ := own_ty h.row hq; exact b.block q (Array.getElem?_eq_some_iff.1 hc).1)⟩
theorem NR.keep {w0 W W' : World} {v : Value} {xs : List Int} {f s : Nat} {l : List Pg} (h : NR w0 v xs W) (S : SlIn W f s l) (k : Keep [s] W W') : NR w0 v xs W' :=
  ⟨own_same h.row (fun q hq => by
    obtain ⟨_, c, hc⟩ := own_ty h.row hq
    exact k.block q (Array.getElem?_eq_some_iff.1 hc).1 (by simpa using (S.row.ty_ne hc (by decide)).symm))⟩
theorem NR.slice {w0 W : World} {v : Value} {xs : List Int} (h : NR w0 v xs W) : ∃ a c, v = .slice a xs.length c := by
  rcases h.row.2 with ⟨h1, h0⟩ | ⟨g, cap, cur, hv, _⟩
  · exact ⟨none, 0, by rw [h1, h0]⟩
  · exact ⟨_, _, hv⟩
theorem NR.cell {w0 W : World} {v : Value} {xs : List Int} (h : NR w0 v xs W) {i : Nat} {x : Int} (hx : xs[i]? = some x) : ∃ g c, v = .slice (some ⟨g, 0, none⟩) xs.length c ∧ W.cell? ⟨g, i, none⟩ = some (.int .i64 x) ∧ g < W.heap.size ∧ xs.length ≤ c := by
  have hi := (List.getElem?_eq_some_iff.1 hx).1
  rcases h.row.2 with ⟨_, h0⟩ | ⟨g, cap, cur, hv, _, hh, hnc, _, _, htk⟩
  · omega
  · refine ⟨g, cap, hv, ?_, (Array.getElem?_eq_some_iff.1 hh).1, hnc⟩
    have e1 := intV_get hx
    rw [← htk, List.getElem?_take] at e1
    split at e1
    · rw [Array.getElem?_toList] at e1
      simp [World.cell?, hh, e1]
    · cases e1
theorem info3 : (Tryd.prog.info? 3).map (fun i => (i.zero, i.size, i.bytes)) = some (some (.int .i64 0), 1, 8) := by kernel_rfl
theorem Sl.off {w0 W W' : World} {f s : Nat} {l : List Pg} (S : Sl w0 f s l W) {v : Value} {xs : List Int} (h : NR w0 v xs W) (k : Keep (own v) W W') : Sl w0 f s l W' := by
  have hn : ∀ b, (∃ L t, Blk W b L t ∧ t ≠ 3) → b ∉ own v := fun b ⟨L, t, hb, ht⟩ hm => by
    obtain ⟨_, c, hc⟩ := own_ty h.row (mem_own.1 hm)
    exact hb.ty_ne hc ht rfl
  refine ⟨S.inn.same (k.block f S.inn.own.lt (hn f ⟨_, _, S.inn.own, by decide⟩)) (k.block s S.inn.row.lt (hn s ⟨_, _, S.inn.row, by decide⟩)), ?_, S.lf, S.ls, S.good, S.tab⟩
  exact S.bel.trans (k.below (fun q hq => (own_ty h.row (mem_own.1 hq)).1) S.bel.size)
/-- One more number at the end. -/
theorem app_int {w0 W : World} {v : Value} {xs : List Int} (h : NR w0 v xs W) (hb : w0.heap.size ≤ W.heap.size) (x : Int) (hn : xs.length + 1 ≤ 1048576) :
    ∃ va vc w', (∀ ty, (Builtin.append_ #[35, 35] ty #[v, .slice (some ⟨W.heap.size, 0, none⟩) 1 1]).run Tryd.prog (W.alloc (.cells #[.int .i64 x] 3)) = .ok (.slice va (xs.length + 1) vc) w') ∧
      NR w0 (.slice va (xs.length + 1) vc) (xs ++ [x]) w' ∧ Keep (own v) W w' := by
  obtain ⟨i0, hi, hi2⟩ := Option.map_eq_some_iff.1 info3
  simp only [Prod.mk.injEq] at hi2
  have b := (Below.refl W.heap.size W).alloc (Nat.le_refl _) (.cells #[.int .i64 x] 3)
  have hown := (h.below b).row
  have hnews : ∀ j u, ([.int .i64 x] : List Value)[j]? = some u → (W.alloc (.cells #[.int .i64 x] 3)).cell? ((⟨W.heap.size, 0, none⟩ : Addr).add j) = some u := fun j u hu => by
    rw [Addr.add_lit, Nat.zero_add]
    exact (Blk.new W [.int .i64 x] 3).cell hu
  obtain ⟨v', w', hrun, ho, hg, hnil, hblk⟩ := run_append_own_at (P := Tryd.prog) (W.alloc (.cells #[.int .i64 x] 3)) w0.heap.size 35 0 3 i0 _ 1 8 Tryd.underlying35 hi hi2.1 hi2.2.1 hi2.2.2 rfl (by decide) v xs.length (intV xs) hown ⟨W.heap.size, 0, none⟩ 1 1 [.int .i64 x] rfl hnews (fun u hu => by simp at hu; subst hu; rfl) (by unfold maxLen; omega) (by omega) (Nat.le_trans hb b.size)
  have hform : ∃ va vc, v' = .slice va (xs.length + 1) vc := by
    rcases ho.2 with ⟨_, h0⟩ | ⟨g, cap, cur, hv, _⟩
    · omega
    · exact ⟨_, _, hv⟩
  obtain ⟨va, vc, rfl⟩ := hform
  refine ⟨va, vc, w', fun ty => hrun, ⟨?_⟩, (Keep.of_below (F := own v) b).grown hg (fun q hq => .inl (mem_own.2 hq))⟩
  rw [intV_app, List.length_append]
  exact ho
/-- More numbers at the end, out of any place where they can be read. -/
theorem app_ints {w0 W : World} {v : Value} {xs ys : List Int} (h : NR w0 v xs W) (hb : w0.heap.size ≤ W.heap.size) (a : Addr) (m c : Nat) (hm : ys.length = m) (hys : ∀ j y, ys[j]? = some y → W.cell? (a.add j) = some (.int .i64 y)) (hn : xs.length + m ≤ 1048576) :
    ∃ va vc w', (∀ ty, (Builtin.append_ #[35, 35] ty #[v, .slice (some a) m c]).run Tryd.prog W = .ok (.slice va (xs.length + m) vc) w') ∧
      NR w0 (.slice va (xs.length + m) vc) (xs ++ ys) w' ∧ Keep (own v) W w' ∧ (∀ q ∈ own (.slice va (xs.length + m) vc), q ∈ own v ∨ W.heap.size ≤ q) := by
  obtain ⟨i0, hi, hi2⟩ := Option.map_eq_some_iff.1 info3
  simp only [Prod.mk.injEq] at hi2
  have hnews : ∀ j u, (intV ys)[j]? = some u → W.cell? (a.add j) = some u := fun j u hu => by
    simp only [intV, List.getElem?_map, Option.map_eq_some_iff] at hu
    obtain ⟨y, hy, rfl⟩ := hu
    exact hys j y hy
  obtain ⟨v', w', hrun, ho, hg, hnil, hblk⟩ := run_append_own_at (P := Tryd.prog) W w0.heap.size 35 0 3 i0 _ 1 8 Tryd.underlying35 hi hi2.1 hi2.2.1 hi2.2.2 rfl (by decide) v xs.length (intV xs) h.row a m c (intV ys) (by rw [intV_len, hm, Nat.mul_one]) hnews (fun u hu => by simp [intV] at hu; obtain ⟨y, _, rfl⟩ := hu; rfl) (by unfold maxLen; omega) (by omega) hb
  have hnr : NR w0 v' (xs ++ ys) w' := ⟨by rw [intV_app, List.length_append, hm]; exact ho⟩
  obtain ⟨va, vc, hv⟩ := hnr.slice
  rw [List.length_append, hm] at hv
  subst hv
  refine ⟨va, vc, w', fun ty => hrun, hnr, (Keep.refl (own v) W).grown hg (fun q hq => .inl (mem_own.2 hq)), fun q hq => ?_⟩
  rcases hblk with h2 | h2
  · exact .inl (mem_own.2 (h2 ▸ mem_own.1 hq))
  · have := mem_own.1 hq
    rw [h2] at this
    exact .inr (Nat.le_of_eq (Option.some.inj this))
theorem NR.cells {w0 W : World} {xs : List Int} {g n cap : Nat} (h : NR w0 (.slice (some ⟨g, 0, none⟩) n cap) xs W) {i : Nat} {x : Int} (hx : xs[i]? = some x) : W.cell? ⟨g, i, none⟩ = some (.int .i64 x) := by
  obtain ⟨g', c', hv, hc, _⟩ := h.cell hx
  simp only [Value.slice.injEq, Option.some.injEq, Addr.mk.injEq, and_true] at hv
  obtain ⟨rfl, _, _⟩ := hv
  exact hc
theorem run_tail (g n cap K : Nat) (hk : K ≤ n) (hn : n ≤ cap) : ∃ (to tc : Nat), (∀ X, (Instr.sliceAt 35 (.slice (some ⟨g, 0, none⟩) n cap) (some (.int .i64 (K : Int))) none none).run Tryd.prog X = .ok (.slice (some ⟨g, to, none⟩) (n - K) tc) X) ∧ (K < n → to = K) := by
  by_cases hc : cap = K
  · refine ⟨0, 0, fun X => ?_, fun h => by omega⟩
    have hnn : n = K := by omega
    subst hnn
    subst hc
    simp [go_sem]
  · refine ⟨K, cap - K, fun X => ?_, fun _ => rfl⟩
    simp [go_sem]
    rw [if_pos (by omega), if_neg hc]
theorem run_head (g n cap k : Nat) (hk : k ≤ cap) (X : World) : (Instr.sliceAt 35 (.slice (some ⟨g, 0, none⟩) n cap) none (some (.int .i64 (k : Int))) none).run Tryd.prog X = .ok (.slice (some ⟨g, 0, none⟩) k cap) X := by
  simp [go_sem]
  intro h
  omega
theorem run_none (X : World) : (Instr.buildSlice 35 0 #[]).run Tryd.prog X = .ok (.slice (some ⟨X.heap.size, 0, none⟩) 0 0) (X.alloc (.cells #[] 3)) := by
  simp [go_sem]
theorem run_succ (k : Nat) (hk : k ≤ 1000000) (X : World) : (binOp .add 3 (.int .i64 (k : Int)) (.int .i64 1)).run Tryd.prog X = .ok (.int .i64 ((k + 1 : Nat) : Int)) X := by
  simp [go_sem]
  rw [IntWalk.i64_left, IntWalk.wrap64_in _ (by omega)]
/-- 'append(append([]int{}, l[:k]...), l[k+1:]...)': the row without its k-th number; what each step yields. -/
theorem cut_int {w0 W : World} {xs : List Int} {g cap : Nat} (h : NR w0 (.slice (some ⟨g, 0, none⟩) xs.length cap) xs W) (hb : w0.heap.size ≤ W.heap.size) {k : Nat} (hk : k < xs.length) (hcap : xs.length ≤ cap) (hn : xs.length ≤ 100000) :
    ∃ (ua : Option Addr) (uc : Nat) (W2 : World) (va : Option Addr) (vc : Nat) (W3 : World) (to tc : Nat),
      (∀ X, (Instr.sliceAt 35 (.slice (some ⟨g, 0, none⟩) xs.length cap) (some (.int .i64 (((k + 1 : Nat)) : Int))) none none).run Tryd.prog X = .ok (.slice (some ⟨g, to, none⟩) (xs.length - (k + 1)) tc) X) ∧
      (∀ ty, (Builtin.append_ #[35, 35] ty #[.slice (some ⟨W.heap.size, 0, none⟩) 0 0, .slice (some ⟨g, 0, none⟩) k cap]).run Tryd.prog (W.alloc (.cells #[] 3)) = .ok (.slice ua k uc) W2) ∧
      (∀ ty, (Builtin.append_ #[35, 35] ty #[.slice ua k uc, .slice (some ⟨g, to, none⟩) (xs.length - (k + 1)) tc]).run Tryd.prog W2 = .ok (.slice va (xs.length - 1) vc) W3) ∧
      NR w0 (.slice va (xs.length - 1) vc) (xs.take k ++ xs.drop (k + 1)) W3 ∧ Below W.heap.size W W3 := by
  obtain ⟨to, tc, hsl, hto⟩ := run_tail g xs.length cap (k + 1) hk hcap
  have hgl : g < W.heap.size := by
    obtain ⟨x, hx⟩ : ∃ x, xs[k]? = some x := ⟨_, List.getElem?_eq_getElem hk⟩
    exact block_lt_of_cell (h.cells hx)
  have b1 : Below W.heap.size W (W.alloc (.cells #[] 3)) := (Below.refl _ _).alloc (Nat.le_refl _) _
  have n1 : NR w0 (.slice (some ⟨W.heap.size, 0, none⟩) 0 0) [] (W.alloc (.cells #[] 3)) := ⟨⟨rfl, .inr ⟨W.heap.size, 0, #[], rfl, hb, Blk.new W [] 3, Nat.le_refl _, Nat.zero_le _, rfl, rfl⟩⟩⟩
  have htl : (xs.take k).length = k := by simp; omega
  obtain ⟨ua, uc, W2, r2, n2, k2, o2⟩ := app_ints (ys := xs.take k) n1 (Nat.le_trans hb b1.size) ⟨g, 0, none⟩ k cap htl (fun j y hy => by
    rw [Addr.add_lit, Nat.zero_add]
    rw [List.getElem?_take] at hy
    split at hy
    · exact (h.below b1).cells hy
    · cases hy) (by simp; omega)
  simp only [List.length_nil, Nat.zero_add, List.nil_append] at r2 n2 o2
  have hown1 : own (.slice (some ⟨W.heap.size, 0, none⟩) 0 0) = [W.heap.size] := rfl
  rw [hown1] at k2 o2
  have b2 : Below W.heap.size W W2 := b1.trans (k2.below (by simp) b1.size)
  have hdl : (xs.drop (k + 1)).length = xs.length - (k + 1) := by simp
  obtain ⟨va, vc, W3, r3, n3, k3, o3⟩ := app_ints (ys := xs.drop (k + 1)) n2 (Nat.le_trans hb b2.size) ⟨g, to, none⟩ (xs.length - (k + 1)) tc hdl (fun j y hy => by
    rw [List.getElem?_drop] at hy
    have hlt := (List.getElem?_eq_some_iff.1 hy).1
    rw [hto (by omega), Addr.add_lit]
    exact (h.below b2).cells hy) (by rw [htl]; omega)
  rw [htl] at r3 n3
  have e : k + (xs.length - (k + 1)) = xs.length - 1 := by omega
  rw [e] at r3 n3
  refine ⟨ua, uc, W2, va, vc, W3, to, tc, hsl, r2, r3, n3, b2.trans (k3.below (fun q hq => ?_) b2.size)⟩
  rcases o2 q hq with h1 | h1
  · simp at h1; omega
  · rw [nblk_alloc] at h1; omega
end Go.Proofs.YteeanaoglcpaaaaDoor
