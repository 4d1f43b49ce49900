/- 'awake': the chapter's example. -/
import Derived.Test.YtanbbmlekebhhaaIm9
set_option linter.unusedVariables false
set_option linter.unusedSimpArgs false
set_option maxRecDepth 8000
namespace Go.Proofs.Ytanbbmlekebhhaa
open Go.RowKit Go.Deep Math

theorem two_dump : ∃ S', Dumped (Dv.fresh 3) S' 1 2 twoL ∧ pgsN (dmpB ((2 : Nat) : Int) twoL).length = 1 ∧ dmpN ((2 : Nat) : Int) twoL = 2 ∧ S'.loadErr ((1 : Nat) : Int) ((1 : Nat) : Int) = 0 ∧ S'.loadIts ((1 : Nat) : Int) ((1 : Nat) : Int) = twoL := by
  rcases dump_any (Dv.fresh 3) 1 2 twoL twoL_good rfl (by decide) with ⟨S', h⟩ | ⟨_, h⟩
  · have e2 : dmpN ((2 : Nat) : Int) twoL = 2 := by decide
    have hb : dmpB ((2 : Nat) : Int) twoL = encs twoL := by unfold dmpB; rw [e2]; rfl
    have e1 : pgsN (dmpB ((2 : Nat) : Int) twoL).length = 1 := by rw [hb, encs_length]; decide
    have hl := load_stands (h.stands (by decide) (by decide)) hb (fun x hx => ⟨twoL_fits x hx, List.all_eq_true.1 twoL_good x hx⟩)
    rw [e1] at hl
    exact ⟨S', h, e1, e2, hl.1, hl.2⟩
  · exact absurd rfl h

set_option maxHeartbeats 2000000 in
theorem awake_any (w : World) : Calls Try.prog 9 #[] w fun e w' => e = .returned (.bool true) ∧ Below w.heap.size w w' := by
  have cN := hide (new_lw (Below.refl w.heap.size w) 3 (by omega) (by omega))
  go_enter Try.func9, Try.ntmps9
  go_wp2_with fail
  refine cN.out.mono ?_
  rintro e w1 ⟨d, F1, rfl, L1⟩
  have HL1 := hide L1
  clear L1 cN
  have cT := hide (two_any w1)
  go_wp2_with fail
  refine cT.out.mono ?_
  rintro e w2 ⟨a2, rfl, hr2, b2⟩
  obtain ⟨S', hDu, e1, e2, l1, l2⟩ := two_dump
  have L2 := HL1.out.below b2
  have cD := dump_lw L2 ((1 : Nat) : Int) ((2 : Nat) : Int) (by omega) a2 2 2 twoL (by omega) (by omega) hr2
  rw [hDu.p, hDu.n, hDu.err, hDu.same, e1, e2] at cD
  have CD := hide cD
  clear cD cT L2 HL1 hr2 b2 hDu e1 e2
  go_wp2_with fail
  refine CD.out.mono ?_
  rintro e w3 ⟨rfl, F3, L3⟩
  have cL := load_lw L3 ((1 : Nat) : Int) ((1 : Nat) : Int) (by omega) (by rw [l2]; exact twoL_fits)
  rw [l1, l2] at cL
  have CL := hide cL
  clear cL CD L3 l1 l2
  go_wp2_with fail
  refine CL.out.mono ?_
  rintro e w4 ⟨a4, c4, rfl, hr4, hc4, S4, hl4, L4⟩
  have HR4 := hide hr4
  have HL4 := hide L4
  have htl : twoL.length = 2 := rfl
  rw [htl] at HR4 hc4 ⊢
  have cT := hide (two_any w4)
  clear CL hr4 L4 hl4 htl
  go_wp2_with fail
  refine cT.out.mono ?_
  rintro e w5 ⟨a5, rfl, hr5, b5⟩
  have cI := hide (items_same a4 a5 2 c4 2 twoL (by omega) w5 (HR4.out.below b5) hr5)
  have HL5 := hide (HL4.out.below b5)
  clear cT hr5 b5
  go_wp2_with fail
  refine cI.out.mono ?_
  rintro e w6 ⟨rfl, b6⟩
  have HL6 := hide (HL5.out.below b6)
  clear cI b6
  go_wp2
  go_ret
  exact ⟨rfl, HL6.out.bel⟩
end Go.Proofs.Ytanbbmlekebhhaa
