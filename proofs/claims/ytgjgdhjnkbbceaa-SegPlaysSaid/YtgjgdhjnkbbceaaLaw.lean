/- What the laws say of a Seg: calls as they come in, the Seg as the world goes on. -/
import Derived.Test.YtgjgdhjnkbbceaaSg7
import Derived.ChangeSlices
import Derived.ChangeMaps
import Derived.Deep.Slices
import Derived.SizedLaws
set_option linter.unusedVariables false
set_option linter.unusedSimpArgs false
set_option maxRecDepth 8000
namespace Go.Proofs.Ytgjgdhjnkbbceaa
open Go.RowKit Go.Deep Sgm Go.ChangeShapes Go.WideShapes

/-- Blocks of other types than a Seg's stay. -/
def OffT (W W' : World) : Prop := W.heap.size ≤ W'.heap.size ∧ ∀ (b : Nat) (c : Array Value) (t : TypeId), W.heap[b]? = some (Obj.cells c t (0, 0)) → t ≠ 48 → t ≠ 52 → W'.heap[b]? = W.heap[b]?
theorem OffT.refl (W : World) : OffT W W := ⟨Nat.le_refl _, fun _ _ _ _ _ _ => rfl⟩
theorem OffT.trans {a b c : World} (h : OffT a b) (k : OffT b c) : OffT a c := ⟨Nat.le_trans h.1 k.1, fun q x t hq h1 h2 => by
  have e := h.2 q x t hq h1 h2
  exact (k.2 q x t (e.trans hq) h1 h2).trans e⟩
theorem OffT.below {a b : World} (h : Below a.heap.size a b) : OffT a b := ⟨h.size, fun q x t hq _ _ => h.block q (Array.getElem?_eq_some_iff.1 hq).1⟩
theorem GR.off {α : Type} {K : Kd α} {B : Nat} {v : Value} {xs : List α} {W W' : World} (h : GR K B v xs W) (k : OffT W W') (h1 : K.tE ≠ 48) (h2 : K.tE ≠ 52) : GR K B v xs W' :=
  h.sameB (fun q hq => by obtain ⟨c, hc⟩ := h.ty q hq; exact k.2 q c K.tE hc h1 h2)
theorem Blk.offT {W W' : World} {b : Nat} {L : List Value} {t : TypeId} (h : Blk W b L t) (k : OffT W W') (h1 : t ≠ 48) (h2 : t ≠ 52) : Blk W' b L t := h.same (k.2 b _ t h h1 h2)
/-- A Seg as a law holds it: all its blocks are newer than the law's call. -/
structure SL (w0 : World) (f : Nat) (s : St) (W : World) : Prop where
  sm : ∃ F, SM W f s F ∧ ∀ b ∈ F, w0.heap.size ≤ b
  bel : Below w0.heap.size w0 W
section
variable {w0 W W' : World} {f : Nat} {s : St} {i : Int}
theorem SL.nd (h : SL w0 f s W) : s.Nd := by obtain ⟨F, T, _⟩ := h.sm; exact T.nd
theorem SL.on (h : SL w0 f s W) (b : Below W.heap.size W W') : SL w0 f s W' := by
  obtain ⟨F, T, hF⟩ := h.sm
  exact ⟨⟨F, T.below b, hF⟩, h.bel.trans (b.mono h.bel.size)⟩
theorem SL.drewN (h : SL w0 f s W) (q : Nat) : SL w0 f s (W.drewN q) := h.on ⟨rfl, rfl, rfl, Nat.le_refl _, fun _ _ => rfl⟩
/-- A row of another type turned beside it. -/
theorem SL.keepRow {α : Type} {K : Kd α} {B : Nat} {v : Value} {xs : List α} (h : SL w0 f s W) (g : GR K B v xs W) (h1 : K.tE ≠ 48) (h2 : K.tE ≠ 52) (hB : w0.heap.size ≤ B) (k : Keep (ownB v) W W') : SL w0 f s W' := by
  obtain ⟨F, T, hF⟩ := h.sm
  refine ⟨⟨F, T.same (fun b hb => k.block b (T.lt b hb) (fun hm => ?_)), hF⟩, h.bel.trans (k.below (fun q hq => Nat.le_trans hB (g.lt q hq).1) h.bel.size)⟩
  obtain ⟨c, hc⟩ := g.ty b hm
  rcases T.ty b hb c _ hc with e | e
  · exact h1 e
  · exact h2 e
theorem SL.moves {F F' : List Nat} {s' : St} (h : SL w0 f s W) (hF : ∀ b ∈ F, w0.heap.size ≤ b) (T : SM W f s F) (T' : SM W' f s' F') (M : Moves F F' W W') : SL w0 f s' W' ∧ OffT W W' := by
  refine ⟨⟨⟨F', T', fun b hb => ?_⟩, h.bel.trans (M.keep.below hF h.bel.size)⟩, M.keep.size, fun b c t hb h1 h2 => M.keep.block b (Array.getElem?_eq_some_iff.1 hb).1 (fun hm => ?_)⟩
  · rcases M.foot b hb with e | e
    · exact hF b e
    · exact Nat.le_trans h.bel.size e
  · rcases T.ty b hm c t hb with e | e
    · exact h1 e
    · exact h2 e
theorem new_l (h : Below w0.heap.size w0 W) : Calls Try.prog 10 #[] W fun e W' => ∃ f, e = .returned (.pointer (some ⟨f, 0, none⟩)) ∧ SL w0 f St0 W' ∧ Below W.heap.size W W' := by
  refine (new_m W).mono ?_
  rintro e W' ⟨F, rfl, T, B, hF⟩
  exact ⟨_, rfl, ⟨⟨F, T, fun b hb => Nat.le_trans h.size (hF b hb)⟩, h.trans (B.mono h.size)⟩, B⟩
theorem add_l (h : SL w0 f s W) (hi : I64 i) (hn : s.all.length < 100000) : Calls Try.prog 15 #[.pointer (some ⟨f, 0, none⟩), .int .i64 i] W fun e W' => e = .returned (.bool (!s.has i)) ∧ SL w0 f (addS i s) W' ∧ OffT W W' := by
  obtain ⟨F, T, hF⟩ := h.sm
  refine (add_m T hi hn).mono ?_
  rintro e W' ⟨rfl, F', T', M⟩
  exact ⟨rfl, h.moves hF T T' M⟩
theorem touch_l (h : SL w0 f s W) (hi : I64 i) : Calls Try.prog 12 #[.pointer (some ⟨f, 0, none⟩), .int .i64 i] W fun e W' => e = .returned (.bool (s.has i)) ∧ SL w0 f (tchS i s) W' ∧ OffT W W' := by
  obtain ⟨F, T, hF⟩ := h.sm
  refine (touch_m T hi).mono ?_
  rintro e W' ⟨rfl, F', T', M⟩
  exact ⟨rfl, h.moves hF T T' M⟩
theorem remove_l (h : SL w0 f s W) (hi : I64 i) (hn : s.all.length ≤ 100000) : Calls Try.prog 13 #[.pointer (some ⟨f, 0, none⟩), .int .i64 i] W fun e W' => e = .returned (.bool (s.has i)) ∧ SL w0 f (rmvS i s) W' ∧ OffT W W' := by
  obtain ⟨F, T, hF⟩ := h.sm
  refine (remove_m T hi hn).mono ?_
  rintro e W' ⟨rfl, F', T', M⟩
  exact ⟨rfl, h.moves hF T T' M⟩
theorem evict_l (h : SL w0 f s W) (hn : s.all.length ≤ 100000) : Calls Try.prog 11 #[.pointer (some ⟨f, 0, none⟩)] W fun e W' => e = .returned (.tuple #[.int .i64 ((evi s).getD 0), .bool (evi s).isSome]) ∧ SL w0 f (eviS s) W' ∧ OffT W W' := by
  obtain ⟨F, T, hF⟩ := h.sm
  refine (evict_m T hn).mono ?_
  rintro e W' ⟨rfl, F', T', M⟩
  exact ⟨rfl, h.moves hF T T' M⟩
theorem len_l (h : SL w0 f s W) : Calls Try.prog 14 #[.pointer (some ⟨f, 0, none⟩)] W fun e W' => e = .returned (.int .i64 (s.all.length : Int)) ∧ W' = W := by
  obtain ⟨F, T, hF⟩ := h.sm
  exact len_m T
theorem lists_l (h : SL w0 f s W) (hn : s.all.length ≤ 100000) : Calls Try.prog 20 #[.pointer (some ⟨f, 0, none⟩)] W fun e W' => e = .returned (.tuple #[rwV W.heap.size s.h.length, rwV (W.heap.size + 1 + s.h.length) s.w.length, rwV (W.heap.size + 1 + s.h.length + 1 + s.w.length) s.c.length]) ∧ LsP W s W' ∧ SL w0 f s W' := by
  obtain ⟨F, T, hF⟩ := h.sm
  refine (lists_m T hn).mono ?_
  rintro e W' ⟨rfl, P⟩
  exact ⟨rfl, P, h.on P.bel⟩
theorem SL.i64 (h : SL w0 f s W) : ∀ i ∈ ids s.all, I64 i := by obtain ⟨F, T, _⟩ := h.sm; exact T.i64
end
/-! ### Calls that come in -/
/-- One call of a law's row. -/
structure ActI where
  op : Int
  id : Int
def ActI.fits (t : ActI) : Prop := (-9223372036854775808 ≤ t.op ∧ t.op ≤ 9223372036854775807) ∧ I64 t.id
theorem cells35 : Try.prog.cellsOf 35 = 2 := by kernel_rfl
theorem cells3 : Try.prog.cellsOf 3 = 1 := by kernel_rfl
theorem wf_i64 {z : Int} (h : (Lit.int .i64 z).wf = true) : -9223372036854775808 ≤ z ∧ z ≤ 9223372036854775807 := by
  have h1 : IntKind.i64.min = -9223372036854775808 := rfl
  have h2 : IntKind.i64.max = 9223372036854775807 := rfl
  simp [Lit.wf, h1, h2] at h
  exact h
structure OneAct (w : World) (b o : Nat) (x : ActI) : Prop where
  c0 : w.cell? ⟨b, o, none⟩ = some (.int .i64 x.op)
  c1 : w.cell? ⟨b, o + 1, none⟩ = some (.int .i64 x.id)
theorem OneAct.below {w w' : World} {b o : Nat} {x : ActI} {B : Nat} (h : OneAct w b o x) (k : Below B w w') (hb : b < B) : OneAct w' b o x :=
  ⟨(k.cell (p := ⟨b, o, none⟩) hb).trans h.c0, (k.cell (p := ⟨b, o + 1, none⟩) hb).trans h.c1⟩
/-- A slice of calls. -/
structure ActsAt (w : World) (a : Option Addr) (len : Nat) (xs : List ActI) : Prop where
  len : len = xs.length
  fits : ∀ x ∈ xs, x.fits
  cell : ∀ i x, xs[i]? = some x → ∃ b o, a = some ⟨b, o, none⟩ ∧ b < w.heap.size ∧ OneAct w b (o + i * 2) x
theorem choose_lt {α : Type} (dflt : α) {n : Nat} {p : Nat → α → Prop} (h : ∀ i, i < n → ∃ t, p i t) : ∃ T : Nat → α, ∀ i, i < n → p i (T i) :=
  ⟨fun i => if hi : i < n then Classical.choose (h i hi) else dflt, fun i hi => by simp only [hi, dif_pos]; exact Classical.choose_spec (h i hi)⟩
set_option maxHeartbeats 400000 in
theorem acts_open {H : Type} {enc : TypeId × Value → H} {W : World} {fuel : Nat} {a0 : Option Addr} {len0 cap0 : Nat} {x : DataW H × List MemPlace} (h : DataW.trod enc Try.prog W 0 (fun _ => true) true fuel 29 [.slice a0 len0 cap0] = some x) : ∃ xs, ActsAt W a0 len0 xs := by
  rcases open_slice Try.underlying29 h with ⟨hcs, _⟩ | ⟨a, len, cap, m, n, D, Pl, hcs, _, hl, hm, hmm, hx, hel⟩
  · simp at hcs
    obtain ⟨rfl, rfl, rfl⟩ := hcs
    exact ⟨[], rfl, fun x hx => by simp at hx, fun i x hx => by simp at hx⟩
  · simp only [List.cons.injEq, Value.slice.injEq, and_true] at hcs
    obtain ⟨rfl, rfl, rfl⟩ := hcs
    have hmc : m = cap0 := by simpa using hmm
    by_cases h0 : len0 = 0
    · subst h0; exact ⟨[], rfl, fun x hx => by simp at hx, fun i x hx => by simp at hx⟩
    have hspot : a.spot = none := by
      obtain ⟨cs', h1, h2⟩ := hel 0 (by omega)
      rw [cells35] at h1
      obtain ⟨_, hlen, hcell⟩ := World.cells?_some h1
      match cs', hlen with
      | [v0, v1], _ =>
        have e0 := hcell 0 (by omega)
        have := World.cell?_spot (v := v0) (by simpa using e0)
        simpa [Addr.add] using this
    obtain ⟨b, off, sp⟩ := a
    simp only at hspot
    subst hspot
    have each : ∀ i, i < len0 → ∃ t : ActI, t.fits ∧ OneAct W b (off + i * 2) t := by
      intro i hi
      obtain ⟨cs', h1, h2⟩ := hel i (by omega)
      rw [cells35] at h1
      obtain ⟨_, hlen, hcell⟩ := World.cells?_some h1
      obtain ⟨xs, k, hk, hxy, _, hxl, hf⟩ := DataW.trod_struct Try.underlying35 h2
      match xs, hxl, cs', hlen with
      | [y0, y1], _, [v0, v1], _ =>
        have g0 := hf 0 _ rfl
        have g1 := hf 1 _ rfl
        simp at g0 g1
        simp only [cells3] at g0 g1
        simp only [List.take_succ_cons, List.take_zero] at g0 g1
        simp only [Prod.mk.injEq] at hxy
        obtain ⟨n0, hv0, _, w0⟩ := DataW.trod_int Try.underlying3 g0
        obtain ⟨n1, hv1, _, w1⟩ := DataW.trod_int Try.underlying3 g1
        simp only [List.cons.injEq, and_true] at hv0 hv1
        subst hv0 hv1
        have e0 := hcell 0 (by omega)
        have e1 := hcell 1 (by omega)
        rw [Addr.add_lit, Addr.add_lit] at e0 e1
        exact ⟨⟨n0, n1⟩, ⟨wf_i64 w0, wf_i64 w1⟩, by simpa using e0, by simpa using e1⟩
    obtain ⟨T, hT⟩ := choose_lt (⟨0, 0⟩ : ActI) each
    refine ⟨(List.range len0).map T, by simp, fun x hx => ?_, fun i t ht => ⟨b, off, rfl, ?_, ?_⟩⟩
    · obtain ⟨i, hi, rfl⟩ := List.mem_map.1 hx
      exact (hT i (List.mem_range.1 hi)).1
    · exact block_lt_of_cell (a := ⟨b, off + 0 * 2, none⟩) (hT 0 (by omega)).2.c0
    · have hi : i < len0 := by have := (List.getElem?_eq_some_iff.1 ht).1; simpa using this
      have : t = T i := by
        rw [List.getElem?_map, List.getElem?_range hi] at ht
        simpa using ht.symm
      rw [this]
      exact (hT i hi).2
/-- The i-th call, read in any later world. -/
theorem ActsAt.at {w : World} {a : Option Addr} {len : Nat} {xs : List ActI} (h : ActsAt w a len xs) {W : World} (k : Below w.heap.size w W) (i : Nat) (hi : i < len) :
    ∃ b o x, a = some ⟨b, o, none⟩ ∧ xs[i]? = some x ∧ x.fits ∧ OneAct W b (o + i * 2) x := by
  have hx := List.getElem?_eq_getElem (l := xs) (i := i) (by rw [← h.len]; exact hi)
  obtain ⟨b, o, ha, hb, hc⟩ := h.cell i _ hx
  exact ⟨b, o, _, ha, hx, h.fits _ (List.getElem_mem _), hc.below k hb⟩
end Go.Proofs.Ytgjgdhjnkbbceaa
