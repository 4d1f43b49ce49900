/- An item as it comes in. -/
import Derived.Test.YtanbbmlekebhhaaRLs
import Derived.ChangeSlices
import Derived.Deep.Slices
import Derived.SizedLaws
set_option linter.unusedVariables false
set_option linter.unusedSimpArgs false
set_option maxRecDepth 100000
namespace Go.Proofs.Ytanbbmlekebhhaa
open Go.RowKit Go.Deep Go.ChangeShapes Go.WideShapes Math

theorem cells30 : Try.prog.cellsOf 32 = 5 := by kernel_rfl
theorem cells9 : Try.prog.cellsOf 9 = 1 := by kernel_rfl
theorem cells27 : Try.prog.cellsOf 29 = 1 := by kernel_rfl
theorem cells2 : Try.prog.cellsOf 2 = 1 := by kernel_rfl
theorem cells28 : Try.prog.cellsOf 30 = 1 := by kernel_rfl
theorem wf_i64 {z : Int} (h : (Lit.int .i64 z).wf = true) : -9223372036854775808 ≤ z ∧ z ≤ 9223372036854775807 := by
  have h1 : IntKind.i64.min = -9223372036854775808 := rfl
  have h2 : IntKind.i64.max = 9223372036854775807 := rfl
  simp [Lit.wf, h1, h2] at h
  exact h
theorem wf_u32 {z : Int} (h : (Lit.int .u32 z).wf = true) : 0 ≤ z ∧ z < 4294967296 := by
  have h1 : IntKind.u32.min = 0 := rfl
  have h2 : IntKind.u32.max = 4294967295 := rfl
  simp [Lit.wf, h1, h2] at h
  omega
theorem wf_u64 {z : Int} (h : (Lit.int .u64 z).wf = true) : 0 ≤ z ∧ z < 18446744073709551616 := by
  have h1 : IntKind.u64.min = 0 := rfl
  have h2 : IntKind.u64.max = 18446744073709551615 := rfl
  simp [Lit.wf, h1, h2] at h
  omega
theorem txt_data (s : ByteArray) : txt s.data.toList = s := by
  unfold txt; rw [Array.toArray_toList]

theorem item_open {H : Type} {enc : TypeId × Value → H} {W : World} {fuel : Nat} {cs : List Value} {x : DataW H × List MemPlace} (h : DataW.trod enc Try.prog W 0 (fun _ => true) true fuel 32 cs = some x) (hl : cs.length = 5) :
    ∃ t : It, t.fits ∧ cs = itCells t := by
  obtain ⟨xs, k, hk, hxy, _, hxl, hf⟩ := DataW.trod_struct Try.underlying32 h
  match xs, hxl, cs, hl with
  | [y0, y1, y2, y3, y4], _, [v0, v1, v2, v3, v4], _ =>
    have g0 := hf 0 _ rfl
    have g1 := hf 1 _ rfl
    have g2 := hf 2 _ rfl
    have g3 := hf 3 _ rfl
    have g4 := hf 4 _ rfl
    simp at g0 g1 g2 g3 g4
    simp only [cells9, cells27, cells2, cells28] at g0 g1 g2 g3 g4
    simp only [List.take_succ_cons, List.take_zero] at g0 g1 g2 g3 g4
    obtain ⟨s0, hv0, _, _⟩ := DataW.trod_string Try.underlying9 g0
    obtain ⟨s1, hv1, _, _⟩ := DataW.trod_string Try.underlying9 g1
    obtain ⟨n2, hv2, _, w2⟩ := DataW.trod_int Try.underlying29 g2
    obtain ⟨n3, hv3, _, w3⟩ := DataW.trod_int Try.underlying2 g3
    obtain ⟨n4, hv4, _, w4⟩ := DataW.trod_int Try.underlying30 g4
    simp only [List.cons.injEq, and_true] at hv0 hv1 hv2 hv3 hv4
    subst hv0 hv1 hv2 hv3 hv4
    have q2 := wf_u32 w2
    have q3 := wf_i64 w3
    have q4 := wf_u64 w4
    refine ⟨⟨s0.data.toList, s1.data.toList, n2.toNat, n3, n4.toNat⟩, ⟨by simp; omega, q3.1, q3.2, by simp; omega⟩, ?_⟩
    simp only [itCells, txt_data, List.cons.injEq, Value.int.injEq, true_and, and_true]
    exact ⟨by omega, by omega⟩
/-- The same for a parameter. -/
theorem item_param {H : Type} {enc : TypeId × Value → H} {W : World} {fuel : Nat} {cs : Array Value} {x : DataW H × List MemPlace} (h : DataW.trod enc Try.prog W 0 (fun _ => true) true fuel 32 (Value.agg cs).cells.toList = some x) (hl : cs.size = Try.prog.cellsOf 32) :
    ∃ t : It, t.fits ∧ cs = (itCells t).toArray := by
  obtain ⟨t, h1, h2⟩ := item_open (cs := cs.toList) h (by rw [Array.length_toList, hl, cells30])
  exact ⟨t, h1, by rw [← h2, Array.toArray_toList]⟩
end Go.Proofs.Ytanbbmlekebhhaa
