/-
  What chapter 6 says of a few calls: proof of the law 'TombKnown'. No conditions.
-/
import Derived.WalkKit
import Derived.Below
import Derived.Test.YtghdkicijdfpcaaMore
namespace Go.Proofs.Ytghdkicijdfpcaa.tombKnown
open Go.RowKit Go.Deep Math
set_option linter.unusedVariables false
set_option linter.unusedSimpArgs false

set_option maxRecDepth 8000 in
set_option maxHeartbeats 4000000 in
theorem walk  (w : World)  :
    Calls Try.prog 3 #[] w fun e w' => e = .returned (.bool true) ∧ Below w.heap.size w w' := by
  have ca := hide' (awake_any w)
  go_enter Try.func3, Try.ntmps3
  go_wp2_with fail
  refine ca.out.mono ?_
  rintro r w1 ⟨rfl, h1⟩
  have B1 := hide' h1
  clear h1 ca
  have cN := hide' (new_law B1.out 3 (by omega) (by omega))
  go_wp2_with fail
  refine cN.out.mono ?_
  rintro e w2 ⟨d, F2, rfl, hl2, _⟩
  have L2 := hide' hl2
  clear hl2 cN
  have N2 : Hid ((Dv.fresh 3).cs.length = 3) := rfl
  have c1 := hide' (open_bad L2.out 2 2 1 (by omega) (by omega) (by rw [N2.out]; omega))
  have c2 := hide' (open_bad L2.out (-1) 1 1 (by omega) (by omega) (by omega))
  go_wp2_with fail
  refine c1.out.mono ?_
  rintro e w3 ⟨rfl, h3⟩
  obtain rfl : w2 = w3 := h3.symm
  clear h3 c1
  go_wp2_with fail
  refine c2.out.mono ?_
  rintro e w3 ⟨rfl, h3⟩
  obtain rfl : w2 = w3 := h3.symm
  clear h3 c2
  have hsc : scanP 1 ((Dv.fresh 3).pgs 2 1) = [] := by rw [pgs_pl, fresh_pl]; rfl
  have cO := hide' (open_is L2.out (Sure.fresh 3) 2 1 1 (by omega) (by rw [N2.out]; omega) (by decide) [] hsc)
  clear hsc
  go_wp2_with fail
  refine cO.out.mono ?_
  rintro e w4 ⟨j, m, n, S4, J4, rfl, hl4, _, hj4, hi4, hn, _, _, _⟩
  have L4 := hide' hl4
  have J4h := hide' hj4
  have HI4 := hide' hi4
  have hn' : n ≤ 23 := by omega
  clear hl4 hj4 hi4 hn cO L2
  obtain ⟨W5, hmk, hB5⟩ : ∃ W5, (Instr.makeSlice 31 (.int .i64 24) (.int .i64 24)).run Try.prog w4 = .ok (.slice (some ⟨w4.heap.size, 0, none⟩) 24 24) W5 ∧ Below w4.heap.size w4 W5 := by
    obtain ⟨i0, hi, hz0, hz1, hz2⟩ := info48'
    have := run_make (P := Try.prog) w4 31 48 i0 (.agg #[.int .u64 0, .int .u64 0]) Try.underlying31 hi hz0 .i64 .i64 24 24 (by omega) (by omega) (by rw [hz2]; omega) (by omega)
    exact ⟨_, this, (Below.refl _ _).alloc (Nat.le_refl _) _⟩
  have L5 := hide' (L4.out.below hB5)
  have J5h := hide' (J4h.out.below hB5)
  clear hB5
  have ce := hide' (add_none j none 0 W5)
  have cm := hide' (add_many j (some ⟨w4.heap.size, 0, none⟩) 24 24 (by omega) W5)
  go_wp2_with fail
  refine ce.out.mono ?_
  rintro e w6 ⟨rfl, h6⟩
  obtain rfl : W5 = w6 := h6.symm
  clear h6 ce
  go_wp2_with fail
  refine cm.out.mono ?_
  rintro e w6 ⟨rfl, h6⟩
  obtain rfl : W5 = w6 := h6.symm
  clear h6 cm hmk
  have cR := hide' (room_is J5h.out HI4.out (by show 0 ≤ 1; omega) (by omega))
  go_wp2_with fail
  refine cR.out.mono ?_
  rintro e w7 ⟨rfl, b7⟩
  have J7h := hide' (J5h.out.below b7)
  have B7 := hide' ((L5.out.below b7).bel)
  clear b7 cR
  have cM := hide' (marks_one (k := 0) J7h.out (by omega) (fun y hy => by rw [HI4.out.M] at hy; simp [kM] at hy))
  go_wp2_with fail
  refine cM.out.mono ?_
  rintro e w8 ⟨g, cap, ys, rfl, ht, _, _, b8⟩
  have ey : ys = [] := told_none ht (fun y => by rw [HI4.out.M]; rfl)
  subst ey
  have B8 := hide' (B7.out.trans (b8.mono B7.out.size))
  clear ht b8 cM
  go_wp2
  go_ret
  exact ⟨rfl, B8.out⟩
end Go.Proofs.Ytghdkicijdfpcaa.tombKnown
