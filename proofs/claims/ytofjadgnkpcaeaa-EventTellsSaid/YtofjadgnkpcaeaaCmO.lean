/-
  A command as it comes in.
-/
import Derived.Test.YtofjadgnkpcaeaaOpen
import Derived.Test.YtofjadgnkpcaeaaTyped
import Derived.ChangeArms
set_option linter.unusedVariables false
set_option linter.unusedSimpArgs false
set_option maxRecDepth 100000
namespace Go.Proofs.Ytofjadgnkpcaeaa
open Go.RowKit Go.Deep Go.ChangeShapes Go.WideShapes

theorem ce9 : Try.prog.cellsOf 9 = 1 := by kernel_rfl
theorem ce24 : Try.prog.cellsOf 24 = 1 := by kernel_rfl
theorem ce25 : Try.prog.cellsOf 25 = 1 := by kernel_rfl
theorem ce2 : Try.prog.cellsOf 2 = 1 := by kernel_rfl
theorem ce26 : Try.prog.cellsOf 26 = 1 := by kernel_rfl
theorem ce4 : Try.prog.cellsOf 4 = 1 := by kernel_rfl
theorem ce31 : Try.prog.cellsOf 31 = 12 := by kernel_rfl
set_option maxHeartbeats 2000000 in
theorem cmd_open {H : Type} {enc : TypeId × Value → H} {W : World} {fuel : Nat} {cs : List Value} {x : DataW H × List MemPlace} (h : DataW.trod enc Try.prog W 0 (fun _ => true) true fuel 31 cs = some x) (hl : cs.length = 12)
    (hw : ∀ n ∈ x.1.weights Try.prog 31, n ≤ reachBytes) :
    ∃ (c : Cm) (a : Option Addr) (len cap : Nat), cs = [.string c.what, .string c.verb, .slice a len cap, .string c.data, .int .u32 c.fl, .int .i64 c.ex, .int .u64 c.cs, .int .u64 c.y, .bool c.wc, .bool c.wt, .bool c.dn, .bool c.q] ∧ StrsAt W a len c.keys ∧ len ≤ cap ∧ c.verb.size ≤ 140737488351232 ∧ c.data.size ≤ 140737488351232 := by
  obtain ⟨xs, k, hk, hxy, _, hxl, hf⟩ := DataW.trod_struct Try.underlying31 h
  match xs, hxl, cs, hl with
  | [y0, y1, y2, y3, y4, y5, y6, y7, y8, y9, y10, y11], _, [v0, v1, v2, v3, v4, v5, v6, v7, v8, v9, v10, v11], _ =>
    have g0 := hf 0 _ rfl
    have g1 := hf 1 _ rfl
    have g2 := hf 2 _ rfl
    have g3 := hf 3 _ rfl
    have g4 := hf 4 _ rfl
    have g5 := hf 5 _ rfl
    have g6 := hf 6 _ rfl
    have g7 := hf 7 _ rfl
    have g8 := hf 8 _ rfl
    have g9 := hf 9 _ rfl
    have g10 := hf 10 _ rfl
    have g11 := hf 11 _ rfl
    clear hf h
    simp at g0 g1 g2 g3 g4 g5 g6 g7 g8 g9 g10 g11
    simp only [ce9, ce24, ce25, ce2, ce26, ce4] at g0 g1 g2 g3 g4 g5 g6 g7 g8 g9 g10 g11
    simp only [List.take_succ_cons, List.take_zero] at g0 g1 g2 g3 g4 g5 g6 g7 g8 g9 g10 g11
    obtain ⟨s0, hv0, _, _⟩ := DataW.trod_string Try.underlying9 g0
    obtain ⟨s1, hv1, hy1, _⟩ := DataW.trod_string Try.underlying9 g1
    obtain ⟨s3, hv3, hy3, _⟩ := DataW.trod_string Try.underlying9 g3
    obtain ⟨n4, hv4, _, _⟩ := DataW.trod_int Try.underlying25 g4
    obtain ⟨n5, hv5, _, _⟩ := DataW.trod_int Try.underlying2 g5
    obtain ⟨n6, hv6, _, _⟩ := DataW.trod_int Try.underlying26 g6
    obtain ⟨n7, hv7, _, _⟩ := DataW.trod_int Try.underlying26 g7
    obtain ⟨b8, hv8, _⟩ := DataW.trod_bool Try.underlying4 g8
    obtain ⟨b9, hv9, _⟩ := DataW.trod_bool Try.underlying4 g9
    obtain ⟨b10, hv10, _⟩ := DataW.trod_bool Try.underlying4 g10
    obtain ⟨b11, hv11, _⟩ := DataW.trod_bool Try.underlying4 g11
    have hw' : ∀ k, (k ∈ y1.1.weights Try.prog 9 ∨ k ∈ y2.1.weights Try.prog 24 ∨ k ∈ y3.1.weights Try.prog 9) → k ≤ reachBytes := fun k hk => by
      refine hw k ?_
      rw [hxy]
      simp only [DataW.weights, Try.underlying31]
      rcases hk with hk | hk | hk <;> simp [DataW.weightsEach, hk]
    have e0 : ∀ s : ByteArray, s.data.toList.length = s.size := fun s => by rw [Array.length_toList]; rfl
    have hs1 := hw' s1.data.toList.length (.inl (by rw [hy1]; simp [DataW.weights]))
    have hs3 := hw' s3.data.toList.length (.inr (.inr (by rw [hy3]; simp [DataW.weights])))
    rw [e0] at hs1 hs3
    obtain ⟨a, len, cap, hlc, hv2⟩ : ∃ a len cap, len ≤ cap ∧ v2 = .slice a len cap := by
      rcases open_strings Try.underlying24 Try.underlying9 (by kernel_rfl) g2 with ⟨hcs, _⟩ | ⟨a, len, cap, ss, hcs, hb, hl, _⟩
      · simp at hcs; exact ⟨_, _, _, Nat.le_refl _, hcs⟩
      · simp at hcs; exact ⟨_, _, _, hl, hcs⟩
    subst hv2
    obtain ⟨zs, hz⟩ := strs_open g2 (fun k hk => hw' k (.inr (.inl hk)))
    simp only [List.cons.injEq, and_true] at hv0 hv1 hv3 hv4 hv5 hv6 hv7 hv8 hv9 hv10 hv11
    subst hv0 hv1 hv3 hv4 hv5 hv6 hv7 hv8 hv9 hv10 hv11
    exact ⟨⟨s0, s1, zs, s3, n4, n5, n6, n7, b8, b9, b10, b11⟩, a, len, cap, rfl, hz, hlc, by simpa [reachBytes] using hs1, by simpa [reachBytes] using hs3⟩
theorem cmd_param {H : Type} {enc : TypeId × Value → H} {W : World} {fuel : Nat} {cs : Array Value} {x : DataW H × List MemPlace} (h : DataW.trod enc Try.prog W 0 (fun _ => true) true fuel 31 (Value.agg cs).cells.toList = some x) (hl : cs.size = Try.prog.cellsOf 31)
    (hw : ∀ n ∈ x.1.weights Try.prog 31, n ≤ reachBytes) :
    ∃ (c : Cm) (a : Option Addr) (len cap : Nat), cs = #[.string c.what, .string c.verb, .slice a len cap, .string c.data, .int .u32 c.fl, .int .i64 c.ex, .int .u64 c.cs, .int .u64 c.y, .bool c.wc, .bool c.wt, .bool c.dn, .bool c.q] ∧ StrsAt W a len c.keys ∧ len ≤ cap ∧ c.verb.size ≤ 140737488351232 ∧ c.data.size ≤ 140737488351232 := by
  obtain ⟨c, a, len, cap, h1, h2⟩ := cmd_open (cs := cs.toList) h (by rw [Array.length_toList, hl, ce31]) hw
  exact ⟨c, a, len, cap, by rw [← Array.toArray_toList (xs := cs), h1], h2⟩
end Go.Proofs.Ytofjadgnkpcaeaa
