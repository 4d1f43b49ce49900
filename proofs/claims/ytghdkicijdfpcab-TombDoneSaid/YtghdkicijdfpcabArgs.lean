/- What comes in: rows of numbers, of marks, of rows of marks. -/
import Derived.Test.YtghdkicijdfpcabMore
import Derived.ChangeSlices
import Derived.SizedLaws
import Derived.OpenShut
set_option linter.unusedVariables false
set_option linter.unusedSimpArgs false
set_option maxRecDepth 8000
namespace Go.Proofs.Ytghdkicijdfpcab
open Go.RowKit Go.Deep Go.ChangeShapes Go.WideShapes Math

theorem wfi64 {z : Int} (h : (Lit.int .i64 z).wf = true) : -9223372036854775808 ≤ z ∧ z ≤ 9223372036854775807 := by
  have h1 : IntKind.i64.min = -9223372036854775808 := rfl
  have h2 : IntKind.i64.max = 9223372036854775807 := rfl
  simp [Lit.wf, h1, h2] at h
  omega
theorem wfu64 {z : Int} (h : (Lit.int .u64 z).wf = true) : 0 ≤ z ∧ z < 18446744073709551616 := by
  have h1 : IntKind.u64.min = 0 := rfl
  have h2 : IntKind.u64.max = 18446744073709551615 := rfl
  simp [Lit.wf, h1, h2] at h
  omega
/-! ### Numbers -/
structure IntsAt (w : World) (a : Option Addr) (len : Nat) (zs : List Int) : Prop where
  len : len = zs.length
  cell : ∀ i z, zs[i]? = some z → ∃ b o, a = some ⟨b, o, none⟩ ∧ b < w.heap.size ∧ w.cell? ⟨b, o + i, none⟩ = some (.int .i64 z)
theorem cells48 : Try.prog.cellsOf 40 = 2 := by kernel_rfl
theorem cells30 : Try.prog.cellsOf 31 = 1 := by kernel_rfl
theorem cells31 : Try.prog.cellsOf 32 = 1 := by kernel_rfl
theorem mark_open {H : Type} {enc : TypeId × Value → H} {W : World} {fuel : Nat} {cs : List Value} {x : DataW H × List MemPlace} (h : DataW.trod enc Try.prog W 0 (fun _ => true) true fuel 40 cs = some x) (hl : cs.length = 2) :
    ∃ t : Mk, Mk.fits t ∧ cs = [.int .u64 (t.1 : Int), .int .u64 (t.2 : Int)] := by
  obtain ⟨xs, k, hk, hxy, _, hxl, hf⟩ := DataW.trod_struct Try.underlying40 h
  match xs, hxl, cs, hl with
  | [y0, y1], _, [v0, v1], _ =>
    have g0 := hf 0 _ rfl
    have g1 := hf 1 _ rfl
    simp at g0 g1
    simp only [cells30] at g0 g1
    simp only [List.take_succ_cons, List.take_zero] at g0 g1
    obtain ⟨n0, hv0, _, w0⟩ := DataW.trod_int Try.underlying31 g0
    obtain ⟨n1, hv1, _, w1⟩ := DataW.trod_int Try.underlying31 g1
    simp only [List.cons.injEq, and_true] at hv0 hv1
    subst hv0 hv1
    have q0 := wfu64 w0
    have q1 := wfu64 w1
    refine ⟨(n0.toNat, n1.toNat), ⟨by show n0.toNat < _; omega, by show n1.toNat < _; omega⟩, ?_⟩
    show _ = [Value.int .u64 (n0.toNat : Int), .int .u64 (n1.toNat : Int)]
    rw [Int.toNat_of_nonneg q0.1, Int.toNat_of_nonneg q1.1]
theorem mark_param {H : Type} {enc : TypeId × Value → H} {W : World} {fuel : Nat} {cs : Array Value} {x : DataW H × List MemPlace} (h : DataW.trod enc Try.prog W 0 (fun _ => true) true fuel 40 (Value.agg cs).cells.toList = some x) (hl : cs.size = Try.prog.cellsOf 40) :
    ∃ t : Mk, Mk.fits t ∧ cs = #[.int .u64 (t.1 : Int), .int .u64 (t.2 : Int)] := by
  obtain ⟨t, h1, h2⟩ := mark_open (cs := cs.toList) h (by rw [Array.length_toList, hl, cells48])
  exact ⟨t, h1, by rw [← Array.toArray_toList (xs := cs), h2]⟩
theorem choose_lt {α : Type} [Inhabited α] {n : Nat} {p : Nat → α → Prop} (h : ∀ i, i < n → ∃ t, p i t) : ∃ T : Nat → α, ∀ i, i < n → p i (T i) :=
  ⟨fun i => if hi : i < n then Classical.choose (h i hi) else default, fun i hi => by simp only [hi, dif_pos]; exact Classical.choose_spec (h i hi)⟩

set_option maxHeartbeats 400000 in
theorem marks_open {H : Type} {enc : TypeId × Value → H} {W : World} {fuel : Nat} {a0 : Option Addr} {len0 cap0 : Nat} {x : DataW H × List MemPlace} (h : DataW.trod enc Try.prog W 0 (fun _ => true) true fuel 32 [.slice a0 len0 cap0] = some x) : ∃ xs, MksAt W a0 len0 xs := by
  rcases open_slice Try.underlying32 h with ⟨hcs, _⟩ | ⟨a, len, cap, m, n, D, Pl, hcs, _, hl, hm, hmm, hx, hel⟩
  · simp at hcs
    obtain ⟨rfl, rfl, rfl⟩ := hcs
    exact ⟨[], rfl, fun x hx => by simp at hx, fun i x hx => by simp at hx⟩
  · simp only [List.cons.injEq, Value.slice.injEq, and_true] at hcs
    obtain ⟨rfl, rfl, rfl⟩ := hcs
    have hmc : m = cap0 := by simpa using hmm
    by_cases h0 : len0 = 0
    · subst h0; exact ⟨[], rfl, fun x hx => by simp at hx, fun i x hx => by simp at hx⟩
    have hspot : a.spot = none := by
      obtain ⟨cs', h1, h2⟩ := hel 0 (by omega)
      rw [cells48] at h1
      obtain ⟨_, hlen, hcell⟩ := World.cells?_some h1
      match cs', hlen with
      | [v0, v1], _ =>
        have e0 := hcell 0 (by omega)
        have := World.cell?_spot (v := v0) (by simpa using e0)
        simpa [Addr.add] using this
    obtain ⟨b, off, sp⟩ := a
    simp only at hspot
    subst hspot
    have each : ∀ i, i < len0 → ∃ t : Mk, Mk.fits t ∧ OneMk W b (off + i * 2) t := by
      intro i hi
      obtain ⟨cs', h1, h2⟩ := hel i (by omega)
      rw [cells48] at h1
      obtain ⟨_, hlen, hcell⟩ := World.cells?_some h1
      obtain ⟨t, ht, rfl⟩ := mark_open h2 hlen
      have key : ∀ j v, j < 2 → ([.int .u64 (t.1 : Int), .int .u64 (t.2 : Int)] : List Value)[j]? = some v → W.cell? ⟨b, off + i * 2 + j, none⟩ = some v := fun j v hj hv => by
        have e := hcell j (by omega)
        rw [hv] at e
        rw [Addr.add_lit, Addr.add_lit] at e
        exact e
      exact ⟨t, ht, key 0 _ (by omega) rfl, key 1 _ (by omega) rfl⟩
    obtain ⟨T, hT⟩ := @choose_lt _ ⟨(0, 0)⟩ _ _ each
    refine ⟨(List.range len0).map T, by simp, fun x hx => ?_, fun i t ht => ⟨b, off, rfl, ?_, ?_⟩⟩
    · obtain ⟨i, hi, rfl⟩ := List.mem_map.1 hx
      exact (hT i (List.mem_range.1 hi)).1
    · exact block_lt_of_cell (a := ⟨b, off + 0 * 2, none⟩) (hT 0 (by omega)).2.c0
    · have hi : i < len0 := by have := (List.getElem?_eq_some_iff.1 ht).1; simpa using this
      have : t = T i := by
        rw [List.getElem?_map, List.getElem?_range hi] at ht
        simpa using ht.symm
      rw [this]
      exact (hT i hi).2
/-! ### Rows of marks -/
structure Rw where
  a : Option Addr
  len : Nat
  cap : Nat
  xs : List Mk
structure RowsAt (w : World) (a : Option Addr) (len : Nat) (rs : List Rw) : Prop where
  len : len = rs.length
  cell : ∀ (i : Nat) (r : Rw), rs[i]? = some r → ∃ b o, a = some ⟨b, o, none⟩ ∧ b < w.heap.size ∧ w.cell? ⟨b, o + i, none⟩ = some (.slice r.a r.len r.cap)
  row : ∀ (i : Nat) (r : Rw), rs[i]? = some r → MksAt w r.a r.len r.xs
  nil : ∀ (i : Nat) (r : Rw), rs[i]? = some r → r.a = none → r.cap = 0
set_option maxHeartbeats 400000 in
theorem rows_open {H : Type} {enc : TypeId × Value → H} {W : World} {fuel : Nat} {a0 : Option Addr} {len0 cap0 : Nat} {x : DataW H × List MemPlace} (h : DataW.trod enc Try.prog W 0 (fun _ => true) true fuel 22 [.slice a0 len0 cap0] = some x) : ∃ rs, RowsAt W a0 len0 rs := by
  rcases open_slice Try.underlying22 h with ⟨hcs, _⟩ | ⟨a, len, cap, m, n, D, Pl, hcs, _, hl, hm, hmm, hx, hel⟩
  · simp at hcs
    obtain ⟨rfl, rfl, rfl⟩ := hcs
    exact ⟨[], rfl, fun i x hx => by simp at hx, fun i x hx => by simp at hx, fun i x hx => by simp at hx⟩
  · simp only [List.cons.injEq, Value.slice.injEq, and_true] at hcs
    obtain ⟨rfl, rfl, rfl⟩ := hcs
    have hmc : m = cap0 := by simpa using hmm
    by_cases h0 : len0 = 0
    · subst h0; exact ⟨[], rfl, fun i x hx => by simp at hx, fun i x hx => by simp at hx, fun i x hx => by simp at hx⟩
    have hspot : a.spot = none := by
      obtain ⟨cs', h1, h2⟩ := hel 0 (by omega)
      rw [cells31] at h1
      obtain ⟨_, hlen, hcell⟩ := World.cells?_some h1
      match cs', hlen with
      | [v0], _ =>
        have e0 := hcell 0 (by omega)
        have := World.cell?_spot (v := v0) (by simpa using e0)
        simpa [Addr.add] using this
    obtain ⟨b, off, sp⟩ := a
    simp only at hspot
    subst hspot
    have each : ∀ i, i < len0 → ∃ r : Rw, W.cell? ⟨b, off + i, none⟩ = some (.slice r.a r.len r.cap) ∧ MksAt W r.a r.len r.xs ∧ (r.a = none → r.cap = 0) := by
      intro i hi
      obtain ⟨cs', h1, h2⟩ := hel i (by omega)
      rw [cells31] at h1
      obtain ⟨_, hlen, hcell⟩ := World.cells?_some h1
      match cs', hlen with
      | [v0], _ =>
        have e := hcell 0 (by omega)
        rw [Addr.add_lit, Addr.add_lit, Nat.mul_one, Nat.add_zero] at e
        simp only [List.getElem?_cons_zero] at e
        have hv : ∃ a1 l1 c1, v0 = .slice a1 l1 c1 ∧ (a1 = none → c1 = 0) := by
          rcases open_slice Try.underlying32 h2 with ⟨hcs, _⟩ | ⟨a1, l1, c1, _, _, _, _, hcs, _⟩
          · simp at hcs; exact ⟨_, _, _, hcs, fun _ => rfl⟩
          · simp at hcs; exact ⟨_, _, _, hcs, fun h => by cases h⟩
        obtain ⟨a1, l1, c1, rfl, hz⟩ := hv
        obtain ⟨xs, hxs⟩ := marks_open h2
        exact ⟨⟨a1, l1, c1, xs⟩, e, hxs, hz⟩
    obtain ⟨T, hT⟩ := @choose_lt _ ⟨⟨none, 0, 0, []⟩⟩ _ _ each
    have pick : ∀ i t, ((List.range len0).map T)[i]? = some t → i < len0 ∧ t = T i := fun i t ht => by
      have hi : i < len0 := by have := (List.getElem?_eq_some_iff.1 ht).1; simpa using this
      rw [List.getElem?_map, List.getElem?_range hi] at ht
      exact ⟨hi, by simpa using ht.symm⟩
    refine ⟨(List.range len0).map T, by simp, fun i t ht => ⟨b, off, rfl, ?_, ?_⟩, fun i t ht => ?_, fun i t ht => ?_⟩
    · exact block_lt_of_cell (a := ⟨b, off + 0, none⟩) (hT 0 (by omega)).1
    · obtain ⟨hi, rfl⟩ := pick i t ht; exact (hT i hi).1
    · obtain ⟨hi, rfl⟩ := pick i t ht; exact (hT i hi).2.1
    · obtain ⟨hi, rfl⟩ := pick i t ht; exact (hT i hi).2.2
end Go.Proofs.Ytghdkicijdfpcab
