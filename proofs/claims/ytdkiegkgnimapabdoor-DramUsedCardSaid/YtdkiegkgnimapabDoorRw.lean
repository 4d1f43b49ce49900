/- Rows of the call's own: numbers, nodes. -/
import Derived.Test.YtdkiegkgnimapabDoorMem
import Derived.Test.YtdkiegkgnimapabDoorProg
import Derived.Maps.AppendAt
import Derived.Laws.OwnMore
import Derived.Laws.MakeOwn
set_option linter.unusedVariables false
set_option linter.unusedSimpArgs false
set_option maxRecDepth 8000
namespace Go.Proofs.YtdkiegkgnimapabDoor
open Go.RowKit Go.Deep

def ownB (v : Value) : List Nat := v.ownBlock.toList
theorem mem_own {v : Value} {q : Nat} : q ∈ ownB v ↔ v.ownBlock = some q := by simp [ownB, Option.mem_toList]
theorem own_same {w w' : World} {base : Nat} {e : TypeId} {size : Nat} {v : Value} {n : Nat} {xs : List Value} (h : w.ownsRow base e size v n xs) (k : ∀ q, v.ownBlock = some q → w'.heap[q]? = w.heap[q]?) : w'.ownsRow base e size v n xs := by
  refine ⟨h.1, ?_⟩
  rcases h.2 with h2 | ⟨g, cap, cur, hv, hg, hh, r⟩
  · exact .inl h2
  · exact .inr ⟨g, cap, cur, hv, hg, by rw [k g (by rw [hv]; rfl)]; exact hh, r⟩
theorem own_ty {w : World} {base : Nat} {e : TypeId} {size : Nat} {v : Value} {n : Nat} {xs : List Value} (h : w.ownsRow base e size v n xs) {q : Nat} (hq : v.ownBlock = some q) : base ≤ q ∧ ∃ c : Array Value, w.heap[q]? = some (.cells c e (0, 0)) := by
  rcases h.2 with ⟨h2, _⟩ | ⟨g, cap, cur, hv, hg, hh, r⟩
  · rw [h2] at hq; cases hq
  · rw [hv] at hq
    simp [Value.ownBlock] at hq
    subst hq
    exact ⟨hg, cur, hh⟩
/-- A kind of rows: the slice's type, its element's, how an element stands in its cells. -/
structure Kd (α : Type) where
  tS : TypeId
  tE : TypeId
  sz : Nat
  enc : α → List Value
  len : ∀ x, (enc x).length = sz
  hU : Tryd.prog.underlying tS = some (.slice tE)
  z : Value
  bytes : Nat
  info : (Tryd.prog.info? tE).map (fun i => (i.zero, i.size, i.bytes)) = some (some z, sz, bytes)
  hb : bytes ≤ 64
  pos : 0 < sz
  one : ∀ x, ∀ u ∈ enc x, u.oneCell' = true
  zc : z.cells.size = sz
theorem info3 : (Tryd.prog.info? 3).map (fun i => (i.zero, i.size, i.bytes)) = some (some (.int .i64 0), 1, 8) := by kernel_rfl
def intK : Kd Int := ⟨71, 3, 1, fun x => [.int .i64 x], fun _ => rfl, Tryd.underlying71, .int .i64 0, 8, info3, by decide, by decide, fun x u hu => by simp at hu; subst hu; rfl, rfl⟩
section
variable {α : Type} (K : Kd α)
def Kd.row (xs : List α) : List Value := xs.flatMap K.enc
theorem Kd.row_len (xs : List α) : (K.row xs).length = xs.length * K.sz := by
  unfold Kd.row
  induction xs with
  | nil => simp
  | cons x xs ih => rw [List.flatMap_cons, List.length_append, ih, K.len, List.length_cons, Nat.add_mul, Nat.one_mul, Nat.add_comm]
theorem Kd.row_app (xs ys : List α) : K.row (xs ++ ys) = K.row xs ++ K.row ys := by simp [Kd.row]
theorem Kd.row_get : ∀ (xs : List α) {i r : Nat} {x : α}, xs[i]? = some x → r < K.sz → (K.row xs)[i * K.sz + r]? = (K.enc x)[r]?
  | [], i, r, x, h, _ => by simp at h
  | y :: xs, 0, r, x, h, hr => by
    simp at h; subst h
    unfold Kd.row
    rw [List.flatMap_cons, Nat.zero_mul, Nat.zero_add, List.getElem?_append_left (by rw [K.len]; exact hr)]
  | y :: xs, i + 1, r, x, h, hr => by
    have ih := Kd.row_get xs (i := i) (by simpa using h) hr
    unfold Kd.row at ih ⊢
    rw [List.flatMap_cons, List.getElem?_append_right (by rw [K.len, Nat.add_mul, Nat.one_mul]; omega), K.len]
    rw [show (i + 1) * K.sz + r - K.sz = i * K.sz + r by rw [Nat.add_mul, Nat.one_mul]; omega]
    exact ih
theorem Kd.row_take : ∀ (xs : List α) (n : Nat), n ≤ xs.length → (K.row xs).take (n * K.sz) = K.row (xs.take n)
  | xs, 0, _ => by simp [Kd.row]
  | [], n + 1, h => by simp at h
  | y :: xs, n + 1, h => by
    have ih := Kd.row_take xs n (by simpa using h)
    unfold Kd.row at ih ⊢
    rw [List.flatMap_cons, List.take_succ_cons, List.flatMap_cons, ← ih, List.take_append, K.len]
    rw [show (n + 1) * K.sz - K.sz = n * K.sz by rw [Nat.add_mul, Nat.one_mul]; omega]
    rw [List.take_of_length_le (by rw [K.len, Nat.add_mul, Nat.one_mul]; omega)]
/-- A row that lies above B. -/
structure GR (B : Nat) (v : Value) (xs : List α) (W : World) : Prop where
  row : W.ownsRow B K.tE K.sz v xs.length (K.row xs)
variable {K} {B : Nat} {W W' : World} {v u : Value} {xs ys : List α}
theorem GR.nil (K : Kd α) (B : Nat) (W : World) : GR K B (.slice none 0 0) ([] : List α) W := ⟨⟨by simp [Kd.row], .inl ⟨rfl, rfl⟩⟩⟩
theorem GR.sameB (h : GR K B v xs W) (e : ∀ q ∈ ownB v, W'.heap[q]? = W.heap[q]?) : GR K B v xs W' := ⟨own_same h.row (fun q hq => e q (mem_own.2 hq))⟩
theorem GR.lt (h : GR K B v xs W) : ∀ q ∈ ownB v, B ≤ q ∧ q < W.heap.size := fun q hq => by
  obtain ⟨h1, c, hc⟩ := own_ty h.row (mem_own.1 hq)
  exact ⟨h1, (Array.getElem?_eq_some_iff.1 hc).1⟩
theorem GR.ty (h : GR K B v xs W) : ∀ q ∈ ownB v, ∃ c : Array Value, W.heap[q]? = some (.cells c K.tE (0, 0)) := fun q hq => (own_ty h.row (mem_own.1 hq)).2
theorem GR.below (h : GR K B v xs W) (b : Below W.heap.size W W') : GR K B v xs W' := h.sameB (fun q hq => b.block q (h.lt q hq).2)
theorem GR.heap (h : GR K B v xs W) (e : W'.heap = W.heap) : GR K B v xs W' := h.sameB (fun q hq => by rw [e])
theorem GR.slice (h : GR K B v xs W) : ∃ a c, v = .slice a xs.length c := by
  rcases h.row.2 with ⟨h1, h0⟩ | ⟨g, cap, cur, hv, _⟩
  · exact ⟨none, 0, by rw [h1, h0]⟩
  · exact ⟨_, _, hv⟩
theorem GR.cell (h : GR K B v xs W) {i r : Nat} {x : α} {u : Value} (hx : xs[i]? = some x) (hu : (K.enc x)[r]? = some u) : ∃ g c, v = .slice (some ⟨g, 0, none⟩) xs.length c ∧ W.cell? ⟨g, i * K.sz + r, none⟩ = some u ∧ g < W.heap.size ∧ xs.length ≤ c := by
  have hi := (List.getElem?_eq_some_iff.1 hx).1
  have hr : r < K.sz := by have := (List.getElem?_eq_some_iff.1 hu).1; rw [K.len] at this; exact this
  rcases h.row.2 with ⟨_, h0⟩ | ⟨g, cap, cur, hv, _, hh, hnc, _, _, htk⟩
  · omega
  · refine ⟨g, cap, hv, ?_, (Array.getElem?_eq_some_iff.1 hh).1, hnc⟩
    have e1 := (K.row_get xs hx hr).trans hu
    rw [← htk, List.getElem?_take] at e1
    split at e1
    · rw [Array.getElem?_toList] at e1
      simp [World.cell?, hh, e1]
    · cases e1
/-- Where elements can be read from. -/
def Src (K : Kd α) (W : World) (u : Value) (ys : List α) : Prop := (u = .slice none 0 0 ∧ ys = []) ∨ ∃ a c, u = .slice (some a) ys.length c ∧ ∀ j y, (K.row ys)[j]? = some y → W.cell? (a.add j) = some y
theorem GR.src (h : GR K B v xs W) : Src K W v xs := by
  rcases h.row.2 with ⟨hv, h0⟩ | ⟨g, cap, cur, hv, _, hh, hnc, _, _, htk⟩
  · exact .inl ⟨hv, List.eq_nil_of_length_eq_zero h0⟩
  · refine .inr ⟨⟨g, 0, none⟩, cap, hv, fun j y hy => ?_⟩
    rw [Addr.add_lit, Nat.zero_add]
    rw [← htk, List.getElem?_take] at hy
    split at hy
    · rw [Array.getElem?_toList] at hy
      simp [World.cell?, hh, hy]
    · cases hy
theorem app_g (h : GR K B v xs W) (hb : B ≤ W.heap.size) (hu : Src K W u ys) (hn : xs.length + ys.length ≤ 1048576) :
    ∃ v' w', (∀ ty, (Builtin.append_ #[K.tS, K.tS] ty #[v, u]).run Tryd.prog W = .ok v' w') ∧ GR K B v' (xs ++ ys) w' ∧ Keep (ownB v) W w' ∧ (∀ q ∈ ownB v', q ∈ ownB v ∨ W.heap.size ≤ q) := by
  obtain ⟨i0, hi, hi2⟩ := Option.map_eq_some_iff.1 K.info
  simp only [Prod.mk.injEq] at hi2
  have hb16 := K.hb
  rcases hu with ⟨rfl, rfl⟩ | ⟨a, c, rfl, hc⟩
  · refine ⟨v, W, fun ty => run_append_owned_none (P := Tryd.prog) W B K.tS ty K.tE i0 K.sz K.hU hi v xs.length (K.row xs) h.row, by rw [List.append_nil]; exact h, Keep.refl _ _, fun q hq => .inl hq⟩
  · have hby : (xs.length + ys.length) * K.bytes ≤ 140737488355328 := Nat.le_trans (Nat.mul_le_mul hn hb16) (by decide)
    obtain ⟨v', w', hrun, ho, hgr, hnil, hblk⟩ := run_append_own_at (P := Tryd.prog) W B K.tS 0 K.tE i0 _ K.sz K.bytes K.hU hi hi2.1 hi2.2.1 hi2.2.2 K.zc K.pos v xs.length (K.row xs) h.row a ys.length c (K.row ys) (K.row_len ys) hc (fun u hu => by
      obtain ⟨y, _, hy⟩ := List.mem_flatMap.1 hu
      exact K.one y u hy) (by unfold maxLen; omega) hby hb
    refine ⟨v', w', fun ty => hrun, ⟨by rw [K.row_app, List.length_append]; exact ho⟩, (Keep.refl (ownB v) W).grown hgr (fun q hq => .inl (mem_own.2 hq)), fun q hq => ?_⟩
    rcases hblk with h2 | h2
    · exact .inl (mem_own.2 (h2 ▸ mem_own.1 hq))
    · have := mem_own.1 hq
      rw [h2] at this
      exact .inr (Nat.le_of_eq (Option.some.inj this))
theorem GR.lit (K : Kd α) (B : Nat) (W : World) (x : α) (hb : B ≤ W.heap.size) : GR K B (.slice (some ⟨W.heap.size, 0, none⟩) 1 1) [x] (W.alloc (.cells (K.enc x).toArray K.tE)) :=
  ⟨⟨by rw [K.row_len], .inr ⟨W.heap.size, 1, (K.enc x).toArray, rfl, hb, heap_alloc_new W _, Nat.le_refl _, by unfold maxLen; omega, by simp [K.len], by simp [Kd.row, List.take_of_length_le, K.len]⟩⟩⟩
/-- One more element at the end of a row. -/
theorem snoc_g (h : GR K B v xs W) (hb : B ≤ W.heap.size) (x : α) (hn : xs.length + 1 ≤ 1048576) :
    ∃ va vc w', (∀ ty, (Builtin.append_ #[K.tS, K.tS] ty #[v, .slice (some ⟨W.heap.size, 0, none⟩) 1 1]).run Tryd.prog (W.alloc (.cells (K.enc x).toArray K.tE)) = .ok (.slice va (xs.length + 1) vc) w') ∧
      GR K B (.slice va (xs.length + 1) vc) (xs ++ [x]) w' ∧ Keep (ownB v) W w' ∧ (∀ q ∈ ownB (.slice va (xs.length + 1) vc), q ∈ ownB v ∨ W.heap.size ≤ q) := by
  have b := (Below.refl W.heap.size W).alloc (Nat.le_refl _) (.cells (K.enc x).toArray K.tE)
  have hl := GR.lit K B W x hb
  obtain ⟨v', w', hr, hG, hK, hO⟩ := app_g (h.below b) (Nat.le_trans hb b.size) hl.src (by simpa using hn)
  obtain ⟨va, vc, rfl⟩ := hG.slice
  have e : (xs ++ [x]).length = xs.length + 1 := by simp
  rw [e] at hr hG hO
  refine ⟨va, vc, w', hr, hG, (Keep.of_below (F := ownB v) b).trans hK (fun q hq => .inl hq), fun q hq => ?_⟩
  rcases hO q hq with h1 | h1
  · exact .inl h1
  · exact .inr (Nat.le_trans b.size h1)
/-- 'append([]T{x}, u...)': a new row. -/
theorem front_g (K : Kd α) (hb : B ≤ W.heap.size) (x : α) (hu : Src K W u ys) (hn : ys.length + 1 ≤ 1048576) :
    ∃ va vc w', (∀ ty, (Builtin.append_ #[K.tS, K.tS] ty #[.slice (some ⟨W.heap.size, 0, none⟩) 1 1, u]).run Tryd.prog (W.alloc (.cells (K.enc x).toArray K.tE)) = .ok (.slice va (ys.length + 1) vc) w') ∧
      GR K B (.slice va (ys.length + 1) vc) (x :: ys) w' ∧ Below W.heap.size W w' ∧ (∀ q ∈ ownB (.slice va (ys.length + 1) vc), W.heap.size ≤ q) := by
  have b := (Below.refl W.heap.size W).alloc (Nat.le_refl _) (.cells (K.enc x).toArray K.tE)
  have hu2 : Src K (W.alloc (.cells (K.enc x).toArray K.tE)) u ys := by
    rcases hu with h | ⟨a, c, h1, h2⟩
    · exact .inl h
    · refine .inr ⟨a, c, h1, fun j y hy => ?_⟩
      have := h2 j y hy
      exact (b.cell (p := a.add j) (block_lt_of_cell this)).trans this
  obtain ⟨v', w', hr, hG, hK, hO⟩ := app_g (GR.lit K B W x hb) (Nat.le_trans hb b.size) hu2 (by simp; omega)
  obtain ⟨va, vc, rfl⟩ := hG.slice
  have e : ([x] ++ ys).length = ys.length + 1 := by simp
  rw [e] at hr hG hO
  refine ⟨va, vc, w', hr, hG, b.trans (hK.below (fun q hq => ?_) b.size), fun q hq => ?_⟩
  · simp [ownB, Value.ownBlock] at hq; omega
  · rcases hO q hq with h1 | h1
    · simp [ownB, Value.ownBlock] at h1; omega
    · rw [nblk_alloc] at h1; omega
/-- One more element where there is room: the same row. -/
theorem snoc_fit {g n cap : Nat} (h : GR K B (.slice (some ⟨g, 0, none⟩) n cap) xs W) (hb : B ≤ W.heap.size) (x : α) (hl : xs.length = n) (hn : n + 1 ≤ cap) :
    ∃ w', (∀ ty, (Builtin.append_ #[K.tS, K.tS] ty #[.slice (some ⟨g, 0, none⟩) n cap, .slice (some ⟨W.heap.size, 0, none⟩) 1 1]).run Tryd.prog (W.alloc (.cells (K.enc x).toArray K.tE)) = .ok (.slice (some ⟨g, 0, none⟩) (n + 1) cap) w') ∧
      GR K B (.slice (some ⟨g, 0, none⟩) (n + 1) cap) (xs ++ [x]) w' ∧ Keep [g] W w' ∧ w'.heap.size = W.heap.size + 1 := by
  have b := (Below.refl W.heap.size W).alloc (Nat.le_refl _) (.cells (K.enc x).toArray K.tE)
  have hown := (h.below b).row
  have hs := (GR.lit K B W x hb).src
  obtain ⟨i0, hi, hi2⟩ := Option.map_eq_some_iff.1 K.info
  simp only [Prod.mk.injEq] at hi2
  obtain ⟨hz1, hz2, hz3⟩ := hi2
  rw [hl] at hown
  rcases hs with ⟨hs, _⟩ | ⟨a, c, hs, hc⟩
  · cases hs
  simp only [Value.slice.injEq, Option.some.injEq, List.length_singleton] at hs
  obtain ⟨rfl, _, rfl⟩ := hs
  have hone : ∀ u ∈ K.row [x], u.oneCell' = true := fun u hu => by
    obtain ⟨y, _, hy⟩ := List.mem_flatMap.1 hu
    exact K.one y u hy
  have hrl : (K.row [x]).length = 1 * K.sz := K.row_len [x]
  rcases hown.2 with ⟨h, _⟩ | ⟨g', cap', cur, h, hbg, hg, hnc, hcm, hcs, htake⟩
  · simp at h
  simp only [Value.slice.injEq, Option.some.injEq, Addr.mk.injEq, and_true, true_and] at h
  obtain ⟨rfl, rfl⟩ := h
  have hfit : n * i0.size + (K.row [x]).length ≤ cur.size := by rw [hrl, hcs, hz2, ← Nat.add_mul]; exact Nat.mul_le_mul_right _ hn
  have hr := fun ty => run_append_room (P := Tryd.prog) (W.alloc (.cells (K.enc x).toArray K.tE)) K.tS ty K.tE i0 K.hU hi g n cap cur hg ⟨W.heap.size, 0, none⟩ 1 1 (K.row [x]) (by rw [hrl, hz2]) hc hone hn hfit
  have hlen : (K.row xs ++ K.row [x]).length = (n + 1) * K.sz := by rw [List.length_append, hown.1, hrl, Nat.add_mul]
  rw [hz2] at hr
  refine ⟨_, hr, ⟨by rw [List.length_append, hl, K.row_app]; exact hlen, .inr ⟨g, cap, _, by rw [List.length_append, hl]; rfl, hbg, setRow_heap _ g cur _ K.tE _ hg, by rw [List.length_append, hl]; exact hn, hcm, ?_, ?_⟩⟩, ⟨rfl, rfl, rfl, by simp, fun k hk hn => ?_⟩, by simp⟩
  · simp only [List.size_toArray, List.length_append, List.length_take, List.length_drop, Array.length_toList]
    rw [hz2] at hfit
    omega
  · rw [htake, K.row_app, List.length_append, hl, List.length_singleton, ← hlen]
    exact List.take_left
  · rw [setRow_other _ g k _ (fun e => hn (by simp [e]))]
    exact blk_alloc_lt _ _ _ hk
/-- 's[:n]'. -/
theorem GR.cut {g c n : Nat} (h : GR K B (.slice (some ⟨g, 0, none⟩) xs.length c) xs W) (hn : n ≤ xs.length) : GR K B (.slice (some ⟨g, 0, none⟩) n c) (xs.take n) W := by
  have hl : (xs.take n).length = n := by simp [hn]
  rcases h.row.2 with ⟨h1, _⟩ | ⟨g', cap, cur, hv, hg, hh, hnc, hcm, hsz, htk⟩
  · cases h1
  · simp only [Value.slice.injEq, Option.some.injEq, Addr.mk.injEq, and_true, true_and] at hv
    obtain ⟨rfl, rfl⟩ := hv
    refine ⟨⟨K.row_len _, .inr ⟨g, c, cur, by rw [hl], hg, hh, by omega, hcm, hsz, ?_⟩⟩⟩
    rw [hl, ← K.row_take xs n hn, ← htk, List.take_take, Nat.min_eq_left (Nat.mul_le_mul_right _ hn)]
/-- 'make([]T, 0, n)'. -/
theorem make_g (K : Kd α) (hb : B ≤ W.heap.size) (n : Nat) (hn : n ≤ 1048576) : ∃ w', (Instr.makeSlice K.tS (.int .i64 0) (.int .i64 (n : Int))).run Tryd.prog W = .ok (.slice (some ⟨W.heap.size, 0, none⟩) 0 n) w' ∧
    GR K B (.slice (some ⟨W.heap.size, 0, none⟩) 0 n) ([] : List α) w' ∧ Below W.heap.size W w' ∧ w'.heap.size = W.heap.size + 1 := by
  obtain ⟨i0, hi, hi2⟩ := Option.map_eq_some_iff.1 K.info
  simp only [Prod.mk.injEq] at hi2
  have h16 := K.hb
  have hby : i0.bytes * n ≤ 281474976710656 := by rw [hi2.2.2]; exact Nat.le_trans (Nat.mul_le_mul h16 hn) (by decide)
  have h63 : (n : Int) ≤ 9223372036854775807 := by omega
  have hb2 : (i0.bytes : Int) * (n : Int) ≤ 281474976710656 := by
    have h : ((i0.bytes * n : Nat) : Int) ≤ 281474976710656 := by omega
    rwa [Int.natCast_mul] at h
  have hr := run_make (P := Tryd.prog) W K.tS K.tE i0 _ K.hU hi hi2.1 .i64 .i64 0 n (Int.le_refl _) (by omega) hb2 h63
  simp only [Int.toNat_zero, Int.toNat_natCast] at hr
  refine ⟨_, hr, ⟨?_⟩, (Below.refl _ W).alloc (Nat.le_refl _) _, by rw [nblk_alloc]⟩
  have := World.ownsRow_made (size := K.sz) (base := B) (e := K.tE) W (madeCells K.z.cells (n * i0.size)) n hb (by unfold maxLen; omega) (by rw [size_madeCells, hi2.2.1])
  exact this
end
end Go.Proofs.YtdkiegkgnimapabDoor
