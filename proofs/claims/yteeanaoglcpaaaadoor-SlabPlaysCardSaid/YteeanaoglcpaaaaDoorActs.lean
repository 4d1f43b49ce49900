/- Rows of calls, as they come in. -/
import Derived.Test.YteeanaoglcpaaaaDoorAwake
import Derived.ChangeSlices
import Derived.Deep.Slices
import Derived.SizedLaws
set_option linter.unusedVariables false
set_option linter.unusedSimpArgs false
set_option maxRecDepth 8000
namespace Go.Proofs.YteeanaoglcpaaaaDoor
open Go.RowKit Go.Deep Go.ChangeShapes Go.WideShapes Math

/-- One call of a law's row. -/
structure ActI where
  free : Bool
  nat : Int
  cls : Int
  raw : Bool
def ActI.fits (t : ActI) : Prop := (-9223372036854775808 ≤ t.nat ∧ t.nat ≤ 9223372036854775807) ∧ (-9223372036854775808 ≤ t.cls ∧ t.cls ≤ 9223372036854775807)
def actL (t : ActI) : List Value := [.bool t.free, .int .i64 t.nat, .int .i64 t.cls, .bool t.raw]
theorem cells37 : Tryd.prog.cellsOf 37 = 4 := by kernel_rfl
theorem cells3 : Tryd.prog.cellsOf 3 = 1 := by kernel_rfl
theorem cells4 : Tryd.prog.cellsOf 4 = 1 := by kernel_rfl
theorem wf_i64 {z : Int} (h : (Lit.int .i64 z).wf = true) : -9223372036854775808 ≤ z ∧ z ≤ 9223372036854775807 := by
  have h1 : IntKind.i64.min = -9223372036854775808 := rfl
  have h2 : IntKind.i64.max = 9223372036854775807 := rfl
  simp [Lit.wf, h1, h2] at h
  exact h
theorem act_open {H : Type} {enc : TypeId × Value → H} {W : World} {fuel : Nat} {cs : List Value} {x : DataW H × List MemPlace} (h : DataW.trod enc Tryd.prog W 0 (fun _ => true) true fuel 37 cs = some x) (hl : cs.length = 4) :
    ∃ t : ActI, t.fits ∧ cs = actL t := by
  obtain ⟨xs, k, hk, hxy, _, hxl, hf⟩ := DataW.trod_struct Tryd.underlying37 h
  match xs, hxl, cs, hl with
  | [y0, y1, y2, y3], _, [v0, v1, v2, v3], _ =>
    have g0 := hf 0 _ rfl
    have g1 := hf 1 _ rfl
    have g2 := hf 2 _ rfl
    have g3 := hf 3 _ rfl
    simp at g0 g1 g2 g3
    simp only [cells3, cells4] at g0 g1 g2 g3
    simp only [List.take_succ_cons, List.take_zero] at g0 g1 g2 g3
    obtain ⟨n0, hv0, _⟩ := DataW.trod_bool Tryd.underlying4 g0
    obtain ⟨n1, hv1, _, w1⟩ := DataW.trod_int Tryd.underlying3 g1
    obtain ⟨n2, hv2, _, w2⟩ := DataW.trod_int Tryd.underlying3 g2
    obtain ⟨n3, hv3, _⟩ := DataW.trod_bool Tryd.underlying4 g3
    simp only [List.cons.injEq, and_true] at hv0 hv1 hv2 hv3
    subst hv0 hv1 hv2 hv3
    exact ⟨⟨n0, n1, n2, n3⟩, ⟨wf_i64 w1, wf_i64 w2⟩, rfl⟩
structure OneAct (w : World) (b o : Nat) (x : ActI) : Prop where
  c0 : w.cell? ⟨b, o, none⟩ = some (.bool x.free)
  c1 : w.cell? ⟨b, o + 1, none⟩ = some (.int .i64 x.nat)
  c2 : w.cell? ⟨b, o + 2, none⟩ = some (.int .i64 x.cls)
  c3 : w.cell? ⟨b, o + 3, none⟩ = some (.bool x.raw)
theorem OneAct.below {w w' : World} {b o : Nat} {x : ActI} {B : Nat} (h : OneAct w b o x) (k : Below B w w') (hb : b < B) : OneAct w' b o x :=
  ⟨(k.cell (p := ⟨b, o, none⟩) hb).trans h.c0, (k.cell (p := ⟨b, o + 1, none⟩) hb).trans h.c1, (k.cell (p := ⟨b, o + 2, none⟩) hb).trans h.c2, (k.cell (p := ⟨b, o + 3, none⟩) hb).trans h.c3⟩
/-- A slice of calls. -/
structure ActsAt (w : World) (a : Option Addr) (len : Nat) (xs : List ActI) : Prop where
  len : len = xs.length
  fits : ∀ x ∈ xs, x.fits
  cell : ∀ i x, xs[i]? = some x → ∃ b o, a = some ⟨b, o, none⟩ ∧ b < w.heap.size ∧ OneAct w b (o + i * 4) x
theorem choose_lt {α : Type} (dflt : α) {n : Nat} {p : Nat → α → Prop} (h : ∀ i, i < n → ∃ t, p i t) : ∃ T : Nat → α, ∀ i, i < n → p i (T i) :=
  ⟨fun i => if hi : i < n then Classical.choose (h i hi) else dflt, fun i hi => by simp only [hi, dif_pos]; exact Classical.choose_spec (h i hi)⟩
set_option maxHeartbeats 400000 in
theorem acts_open {H : Type} {enc : TypeId × Value → H} {W : World} {fuel : Nat} {a0 : Option Addr} {len0 cap0 : Nat} {x : DataW H × List MemPlace} (h : DataW.trod enc Tryd.prog W 0 (fun _ => true) true fuel 32 [.slice a0 len0 cap0] = some x) :
    ∃ xs, ActsAt W a0 len0 xs := by
  rcases open_slice Tryd.underlying32 h with ⟨hcs, _⟩ | ⟨a, len, cap, m, n, D, Pl, hcs, _, hl, hm, hmm, hx, hel⟩
  · simp at hcs
    obtain ⟨rfl, rfl, rfl⟩ := hcs
    exact ⟨[], rfl, fun x hx => by simp at hx, fun i x hx => by simp at hx⟩
  · simp only [List.cons.injEq, Value.slice.injEq, and_true] at hcs
    obtain ⟨rfl, rfl, rfl⟩ := hcs
    have hmc : m = cap0 := by simpa using hmm
    by_cases h0 : len0 = 0
    · subst h0; exact ⟨[], rfl, fun x hx => by simp at hx, fun i x hx => by simp at hx⟩
    have hspot : a.spot = none := by
      obtain ⟨cs', h1, h2⟩ := hel 0 (by omega)
      rw [cells37] at h1
      obtain ⟨_, hlen, hcell⟩ := World.cells?_some h1
      match cs', hlen with
      | [v0, v1, v2, v3], _ =>
        have e0 := hcell 0 (by omega)
        have := World.cell?_spot (v := v0) (by simpa using e0)
        simpa [Addr.add] using this
    obtain ⟨b, off, sp⟩ := a
    simp only at hspot
    subst hspot
    have each : ∀ i, i < len0 → ∃ t : ActI, t.fits ∧ OneAct W b (off + i * 4) t := by
      intro i hi
      obtain ⟨cs', h1, h2⟩ := hel i (by omega)
      rw [cells37] at h1
      obtain ⟨_, hlen, hcell⟩ := World.cells?_some h1
      obtain ⟨t, ht, rfl⟩ := act_open h2 hlen
      have key : ∀ j v, j < 4 → (actL t)[j]? = some v → W.cell? ⟨b, off + i * 4 + j, none⟩ = some v := fun j v hj hv => by
        have e := hcell j (by omega)
        rw [hv] at e
        rw [Addr.add_lit, Addr.add_lit] at e
        exact e
      exact ⟨t, ht, key 0 _ (by omega) rfl, key 1 _ (by omega) rfl, key 2 _ (by omega) rfl, key 3 _ (by omega) rfl⟩
    obtain ⟨T, hT⟩ := choose_lt (⟨false, 0, 0, false⟩ : ActI) each
    refine ⟨(List.range len0).map T, by simp, fun x hx => ?_, fun i t ht => ⟨b, off, rfl, ?_, ?_⟩⟩
    · obtain ⟨i, hi, rfl⟩ := List.mem_map.1 hx
      exact (hT i (List.mem_range.1 hi)).1
    · exact block_lt_of_cell (a := ⟨b, off + 0 * 4, none⟩) (hT 0 (by omega)).2.c0
    · have hi : i < len0 := by have := (List.getElem?_eq_some_iff.1 ht).1; simpa using this
      have : t = T i := by
        rw [List.getElem?_map, List.getElem?_range hi] at ht
        simpa using ht.symm
      rw [this]
      exact (hT i hi).2
/-- The i-th call, read in any later world. -/
theorem ActsAt.at {w : World} {a : Option Addr} {len : Nat} {xs : List ActI} (h : ActsAt w a len xs) {W : World} (k : Below w.heap.size w W) (i : Nat) (hi : i < len) :
    ∃ b o x, a = some ⟨b, o, none⟩ ∧ xs[i]? = some x ∧ x.fits ∧ OneAct W b (o + i * 4) x := by
  have hx := List.getElem?_eq_getElem (l := xs) (i := i) (by rw [← h.len]; exact hi)
  obtain ⟨b, o, ha, hb, hc⟩ := h.cell i _ hx
  exact ⟨b, o, _, ha, hx, h.fits _ (List.getElem_mem _), hc.below k hb⟩
end Go.Proofs.YteeanaoglcpaaaaDoor
