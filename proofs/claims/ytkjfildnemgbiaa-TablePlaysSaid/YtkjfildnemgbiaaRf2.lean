/- Rows of any kind: one appended to another, one without its k-th element. -/
import Derived.Test.YtkjfildnemgbiaaRf1
import Derived.Laws.OwnMore
set_option linter.unusedVariables false
set_option linter.unusedSimpArgs false
set_option maxRecDepth 8000
namespace Go.Proofs.Ytkjfildnemgbiaa
open Go.RowKit Go.Deep Go.Shelf Math Tab Go.Sort

/-- A kind of rows: the slice's type, its element's, how an element stands in its cell. -/
structure Kd (α : Type) where
  tS : TypeId
  tE : TypeId
  enc : α → Value
  hU : Try.prog.underlying tS = some (.slice tE)
  z : Value
  bytes : Nat
  info : (Try.prog.info? tE).map (fun i => (i.zero, i.size, i.bytes)) = some (some z, 1, bytes)
  hb : bytes ≤ 16
  one : ∀ x, (enc x).oneCell' = true
  zc : z.cells.size = 1
def strK : Kd (List UInt8) := ⟨29, 9, encStr, Try.underlying29, .string ⟨#[]⟩, 16, info9, by decide, fun _ => rfl, rfl⟩
theorem info3 : (Try.prog.info? 3).map (fun i => (i.zero, i.size, i.bytes)) = some (some (.int .i64 0), 1, 8) := by kernel_rfl
def intK : Kd Int := ⟨41, 3, fun x => .int .i64 x, Try.underlying41, .int .i64 0, 8, info3, by decide, fun _ => rfl, rfl⟩
section
variable {α : Type} (K : Kd α)
structure GR (B : Nat) (v : Value) (xs : List α) (W : World) : Prop where
  row : W.ownsRow B K.tE 1 v xs.length (xs.map K.enc)
variable {K} {B : Nat} {W W' : World} {v u : Value} {xs ys : List α}
theorem SR.gr {v : Value} {ss : List (List UInt8)} (h : SR B v ss W) : GR strK B v ss W := ⟨h.row⟩
theorem GR.sr {v : Value} {ss : List (List UInt8)} (h : GR strK B v ss W) : SR B v ss W := ⟨h.row⟩
theorem NR.gr {v : Value} {ss : List Int} (h : NR B v ss W) : GR intK B v ss W := ⟨h.row⟩
theorem GR.nr {v : Value} {ss : List Int} (h : GR intK B v ss W) : NR B v ss W := ⟨h.row⟩
theorem GR.below (h : GR K B v xs W) (b : Below W.heap.size W W') : GR K B v xs W' :=
  ⟨own_same h.row (fun q hq => by obtain ⟨_, c, hc⟩ := own_ty h.row hq; exact b.block q (Array.getElem?_eq_some_iff.1 hc).1)⟩
theorem GR.cell (h : GR K B v xs W) {i : Nat} {x : α} (hx : xs[i]? = some x) : ∃ g c, v = .slice (some ⟨g, 0, none⟩) xs.length c ∧ W.cell? ⟨g, i, none⟩ = some (K.enc x) ∧ g < W.heap.size ∧ xs.length ≤ c := by
  have hi := (List.getElem?_eq_some_iff.1 hx).1
  rcases h.row.2 with ⟨_, h0⟩ | ⟨g, cap, cur, hv, _, hh, hnc, _, _, htk⟩
  · omega
  · refine ⟨g, cap, hv, ?_, (Array.getElem?_eq_some_iff.1 hh).1, hnc⟩
    have e1 : (xs.map K.enc)[i]? = some (K.enc x) := by simp [hx]
    rw [← htk, List.getElem?_take] at e1
    split at e1
    · rw [Array.getElem?_toList] at e1
      simp [World.cell?, hh, e1]
    · cases e1
theorem GR.cells {g n cap : Nat} (h : GR K B (.slice (some ⟨g, 0, none⟩) n cap) xs W) {i : Nat} {x : α} (hx : xs[i]? = some x) : W.cell? ⟨g, i, none⟩ = some (K.enc x) := by
  obtain ⟨g', c', hv, hc, _⟩ := h.cell hx
  simp only [Value.slice.injEq, Option.some.injEq, Addr.mk.injEq, and_true] at hv
  obtain ⟨rfl, _, _⟩ := hv
  exact hc
/-- Where elements can be read from. -/
def Src (K : Kd α) (W : World) (u : Value) (ys : List α) : Prop := (u = .slice none 0 0 ∧ ys = []) ∨ ∃ a c, u = .slice (some a) ys.length c ∧ ∀ j y, ys[j]? = some y → W.cell? (a.add j) = some (K.enc y)
theorem GR.src (h : GR K B v xs W) : Src K W v xs := by
  rcases h.row.2 with ⟨hv, h0⟩ | ⟨g, cap, cur, hv, _⟩
  · exact .inl ⟨hv, List.eq_nil_of_length_eq_zero h0⟩
  · refine .inr ⟨⟨g, 0, none⟩, cap, hv, fun j y hy => ?_⟩
    rw [hv] at h
    rw [Addr.add_lit, Nat.zero_add]
    exact h.cells hy
theorem app_g (h : GR K B v xs W) (hb : B ≤ W.heap.size) (hu : Src K W u ys) (hn : xs.length + ys.length ≤ 1048576) :
    ∃ v' w', (∀ ty, (Builtin.append_ #[K.tS, K.tS] ty #[v, u]).run Try.prog W = .ok v' w') ∧ GR K B v' (xs ++ ys) w' ∧ Keep (ownB v) W w' ∧ (∀ q ∈ ownB v', q ∈ ownB v ∨ W.heap.size ≤ q) := by
  obtain ⟨i0, hi, hi2⟩ := Option.map_eq_some_iff.1 K.info
  simp only [Prod.mk.injEq] at hi2
  have hb16 := K.hb
  rcases hu with ⟨rfl, rfl⟩ | ⟨a, c, rfl, hc⟩
  · refine ⟨v, W, fun ty => run_append_owned_none (P := Try.prog) W B K.tS ty K.tE i0 1 K.hU hi v xs.length (xs.map K.enc) h.row, by rw [List.append_nil]; exact h, Keep.refl _ _, fun q hq => .inl hq⟩
  · have hnews : ∀ j u, (ys.map K.enc)[j]? = some u → W.cell? (a.add j) = some u := fun j u hu => by
      rw [List.getElem?_map, Option.map_eq_some_iff] at hu
      obtain ⟨y, hy, rfl⟩ := hu
      exact hc j y hy
    have hby : (xs.length + ys.length) * K.bytes ≤ 140737488355328 := Nat.le_trans (Nat.mul_le_mul hn hb16) (by decide)
    obtain ⟨v', w', hrun, ho, hgr, hnil, hblk⟩ := run_append_own_at (P := Try.prog) W B K.tS 0 K.tE i0 _ 1 K.bytes K.hU hi hi2.1 hi2.2.1 hi2.2.2 K.zc (by decide) v xs.length (xs.map K.enc) h.row a ys.length c (ys.map K.enc) (by simp) hnews (fun u hu => by obtain ⟨y, _, rfl⟩ := List.mem_map.1 hu; exact K.one y) (by unfold maxLen; omega) hby hb
    refine ⟨v', w', fun ty => hrun, ⟨by rw [List.map_append, List.length_append]; exact ho⟩, (Keep.refl (ownB v) W).grown hgr (fun q hq => .inl (mem_own.2 hq)), fun q hq => ?_⟩
    rcases hblk with h2 | h2
    · exact .inl (mem_own.2 (h2 ▸ mem_own.1 hq))
    · have := mem_own.1 hq
      rw [h2] at this
      exact .inr (Nat.le_of_eq (Option.some.inj this))
theorem GR.lit (K : Kd α) (B : Nat) (W : World) (x : α) (hb : B ≤ W.heap.size) : GR K B (.slice (some ⟨W.heap.size, 0, none⟩) 1 1) [x] (W.alloc (.cells #[K.enc x] K.tE)) :=
  ⟨⟨rfl, .inr ⟨W.heap.size, 1, #[K.enc x], rfl, hb, heap_alloc_new W _, Nat.le_refl _, by unfold maxLen; omega, rfl, rfl⟩⟩⟩
theorem GR.lit0 (K : Kd α) (B : Nat) (W : World) (hb : B ≤ W.heap.size) : GR K B (.slice (some ⟨W.heap.size, 0, none⟩) 0 0) ([] : List α) (W.alloc (.cells #[] K.tE)) :=
  ⟨⟨rfl, .inr ⟨W.heap.size, 0, #[], rfl, hb, heap_alloc_new W _, Nat.le_refl _, Nat.zero_le _, rfl, rfl⟩⟩⟩
theorem GR.slice (h : GR K B v xs W) : ∃ a c, v = .slice a xs.length c := by
  rcases h.row.2 with ⟨h1, h0⟩ | ⟨g, cap, cur, hv, _⟩
  · exact ⟨none, 0, by rw [h1, h0]⟩
  · exact ⟨_, _, hv⟩
/-- 'append([]T{x}, u...)': a new row. -/
theorem front_g (K : Kd α) (hb : B ≤ W.heap.size) (x : α) (hu : Src K W u ys) (hn : ys.length + 1 ≤ 1048576) :
    ∃ va vc w', (∀ ty, (Builtin.append_ #[K.tS, K.tS] ty #[.slice (some ⟨W.heap.size, 0, none⟩) 1 1, u]).run Try.prog (W.alloc (.cells #[K.enc x] K.tE)) = .ok (.slice va (ys.length + 1) vc) w') ∧
      GR K B (.slice va (ys.length + 1) vc) (x :: ys) w' ∧ Below W.heap.size W w' ∧ (∀ q ∈ ownB (.slice va (ys.length + 1) vc), W.heap.size ≤ q) := by
  have b := (Below.refl W.heap.size W).alloc (Nat.le_refl _) (.cells #[K.enc x] K.tE)
  have hu2 : Src K (W.alloc (.cells #[K.enc x] K.tE)) u ys := by
    rcases hu with h | ⟨a, c, h1, h2⟩
    · exact .inl h
    · refine .inr ⟨a, c, h1, fun j y hy => ?_⟩
      have := h2 j y hy
      exact (b.cell (p := a.add j) (block_lt_of_cell this)).trans this
  obtain ⟨v', w', hr, hG, hK, hO⟩ := app_g (GR.lit K B W x hb) (Nat.le_trans hb b.size) hu2 (by simp; omega)
  obtain ⟨va, vc, rfl⟩ := hG.slice
  have e : ([x] ++ ys).length = ys.length + 1 := by simp
  rw [e] at hr hG hO
  refine ⟨va, vc, w', hr, hG, b.trans (hK.below (fun q hq => ?_) b.size), fun q hq => ?_⟩
  · simp [ownB, Value.ownBlock] at hq; omega
  · rcases hO q hq with h1 | h1
    · simp [ownB, Value.ownBlock] at h1; omega
    · rw [nblk_alloc] at h1; omega
end
end Go.Proofs.Ytkjfildnemgbiaa
