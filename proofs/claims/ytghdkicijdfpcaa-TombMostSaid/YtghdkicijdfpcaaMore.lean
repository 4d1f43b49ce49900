/- Open that is refused; rows of marks that were appended. -/
import Derived.Test.YtghdkicijdfpcaaAwake
set_option linter.unusedVariables false
set_option linter.unusedSimpArgs false
set_option maxRecDepth 8000
namespace Go.Proofs.Ytghdkicijdfpcaa
open Go.RowKit Go.Deep Math

set_option maxHeartbeats 1000000 in
theorem open_bad {w0 W : World} {d : Nat} {F : List Nat} {S : Dv} (h : Law w0 d F S W) (first pages : Int) (g : Int) (h1 : -9223372036854775808 ≤ first ∧ first ≤ 9223372036854775807) (h2 : -9223372036854775808 ≤ pages ∧ pages ≤ 9223372036854775807)
    (hb : first < 0 ∨ pages < 1 ∨ (S.cs.length : Int) - pages < first) :
    Calls Try.prog 11 #[.pointer (some ⟨d, 0, none⟩), .int .i64 first, .int .i64 pages, .int .u64 g] W fun e W' => e = .returned (.tuple #[.pointer none, .int .i64 1]) ∧ W' = W := by
  have cP : Hid (Calls Try.prog 27 #[.pointer (some ⟨d, 0, none⟩)] W fun e w' => e = .returned (.int .i64 S.cs.length) ∧ w' = W) := by obtain ⟨p, pd, wa, wc, rfl, hW⟩ := h.dev; exact pages_any d p pd wa wc S W hW
  have hm := h.dev.good.many
  generalize S.cs.length = N at cP hb hm
  clear h
  by_cases a1 : first < 0
  · clear hb
    have q1 : (first < 0) = True := eq_true a1
    clear a1 h1 h2
    go_enter Try.func11, Try.ntmps11
    go_wp2
    go_ret2
    exact ⟨rfl, rfl⟩
  by_cases a2 : pages < 1
  · clear hb
    have q1 : (first < 0) = False := eq_false a1
    have q2 : (pages < 1) = True := eq_true a2
    clear a1 a2 h1 h2
    go_enter Try.func11, Try.ntmps11
    go_wp2
    go_ret2
    exact ⟨rfl, rfl⟩
  have a3 : (N : Int) - pages < first := by omega
  have q1 : (first < 0) = False := eq_false a1
  have q2 : (pages < 1) = False := eq_false a2
  have q3 : ((N : Int) - pages < first) = True := eq_true a3
  have q4 : wrap64 ((N : Int) - pages) = (N : Int) - pages := by unfold wrap64; omega
  have q5 : IntKind.i64.wrap ((N : Int) - pages) = (N : Int) - pages := by rw [IntKind.wrap_i64]; omega
  clear a1 a2 a3 h1 h2 hb
  go_enter Try.func11, Try.ntmps11
  go_wp2_with fail
  refine cP.out.mono ?_
  rintro e w1 ⟨rfl, e1⟩
  obtain rfl : W = w1 := e1.symm
  clear e1
  go_wp2
  go_ret2
  exact ⟨rfl, rfl⟩

theorem MkIn.of_row {W : World} {F : List Nat} {j m base : Nat} {a : Option Addr} {len cap : Nat} {xs : List Mk} (ho : W.ownsRow base 48 2 (.slice a len cap) len (mkCells xs)) (hf : ∀ x ∈ xs, Mk.fits x) (hF : ∀ x ∈ F, x < base) (hj : j < base) (hm : m < base) : MkIn W j m F a len xs := by
  obtain ⟨o1, o2⟩ := ho
  have hl : len = xs.length := by rw [mkCells_length] at o1; omega
  refine ⟨⟨hl, hf, fun i x hx => ?_⟩, fun b o e => ?_⟩
  · have hi : i < xs.length := (List.getElem?_eq_some_iff.1 hx).1
    rcases o2 with ⟨_, h0⟩ | ⟨g, cp, cur, hv, hg, hh, _, _, _, htk⟩
    · omega
    · simp only [Value.slice.injEq] at hv
      obtain ⟨c0, c1⟩ := mkCells_get xs i x hx
      rw [← htk, List.getElem?_take] at c0 c1
      refine ⟨g, 0, hv.1, (Array.getElem?_eq_some_iff.1 hh).1, ?_, ?_⟩
      · split at c0
        · rw [Array.getElem?_toList] at c0; simp [World.cell?, hh, c0]
        · cases c0
      · split at c1
        · rw [Array.getElem?_toList] at c1; simp [World.cell?, hh, c1]
        · cases c1
  · rcases o2 with ⟨hv, _⟩ | ⟨g, cp, cur, hv, hg, _⟩
    · simp only [Value.slice.injEq] at hv
      rw [hv.1] at e; cases e
    · simp only [Value.slice.injEq] at hv
      rw [hv.1] at e
      cases e
      exact ⟨fun hf => by have := hF _ hf; omega, by omega, by omega⟩
theorem info48' : ∃ i, Try.prog.info? 48 = some i ∧ i.zero = some (.agg #[.int .u64 0, .int .u64 0]) ∧ i.size = 2 ∧ i.bytes = 16 := by
  obtain ⟨i, hi, hi2⟩ := Option.map_eq_some_iff.1 info48
  simp only [Prod.mk.injEq] at hi2
  exact ⟨i, hi, hi2⟩
end Go.Proofs.Ytghdkicijdfpcaa
