/-
  The examples of chapter 9 answer as the document tells them; no condition.
-/
import Derived.WalkKit
import Derived.Below
import Derived.Test.YtbjkahdlejaheaaKn9
namespace Go.Proofs.Ytbjkahdlejaheaa.regionKnown
open Go.RowKit Go.Deep Math
set_option linter.unusedVariables false
set_option linter.unusedSimpArgs false

set_option maxRecDepth 8000 in
set_option maxHeartbeats 40000000 in
theorem walk  (w : World)  :
    Calls Try.prog 3 #[] w fun e w' => e = .returned (.bool true) ∧ Below w.heap.size w w' := by
  have ca := hide (awake_any w)
  go_enter Try.func3, Try.ntmps3
  go_wp2_with fail
  refine ca.out.mono ?_
  rintro r w1 ⟨rfl, h1⟩
  have B1 := hide h1
  clear h1 ca
  have cN := hide (new_law B1.out 7 (by omega) (by omega))
  go_wp2_with fail
  refine cN.out.mono ?_
  rintro e w2 ⟨d, F2, rfl, hl2, _⟩
  have c1 := hide (open_bad hl2.dev 0 2 (by omega) (by omega) (by show (Dv.fresh 7).cs.length < 8; decide) (by omega))
  have cO := hide (open_new hl2 3 1 (by omega) (by omega) (by omega))
  clear hl2 cN
  go_wp2_with fail
  refine c1.out.mono ?_
  rintro e w3 ⟨rfl, h3⟩
  obtain rfl : w2 = w3 := h3.symm
  clear h3 c1
  go_wp2_with fail
  refine cO.out.mono ?_
  rintro e w4 ⟨l, m, v5, T, S, rfl, G4, hN, _⟩
  have cB := hide (fun W : World => put_bad (w := W) (l := l) ⟨#[]⟩ ⟨#[]⟩ 0 0 0 rfl)
  have HG4 := hide G4
  have HN := hide hN
  clear cO G4 hN
  unfold itV at cB
  go_wp2_with fail
  refine (cB.out _).mono ?_
  rintro e w5 ⟨rfl, b5⟩
  have G5 := HG4.out.below b5
  have cS := hide (seal_idle G5.lg HN.out.opn)
  have cG := hide (get_none G5.lg [97] (by decide) (by rw [HN.out.has]))
  have HG5 := hide G5
  clear b5 cB G5 HG4
  go_wp2_with fail
  refine cS.out.mono ?_
  rintro e w6 ⟨rfl, h6⟩
  obtain rfl : w5 = w6 := h6.symm
  clear h6 cS
  have ez : It.zero.val = .agg #[.string ⟨#[]⟩, .string ⟨#[]⟩, .int .u32 0, .int .i64 0, .int .u64 0] := rfl
  rw [ez] at cG
  clear ez
  go_wp2_with fail
  refine cG.out.mono ?_
  rintro e w7 ⟨rfl, b7⟩
  have G7 := HG5.out.below b7
  have G8 := G7.below ((Below.refl w7.heap.size w7).alloc (Nat.le_refl _) (.cells #[.string ⟨#[]⟩, .string ⟨#[]⟩, .int .u32 0, .int .i64 0, .int .u64 0] 36))
  have cNu := hide (number_log G8.lg)
  rw [HN.out.num] at cNu
  have BE := hide G8.bel
  clear cG b7 G7 G8 HG5
  go_wp2_with fail
  refine cNu.out.mono ?_
  rintro e w9 ⟨rfl, h9⟩
  subst h9
  clear cNu
  go_wp2
  go_ret
  exact ⟨rfl, BE.out⟩
end Go.Proofs.Ytbjkahdlejaheaa.regionKnown
