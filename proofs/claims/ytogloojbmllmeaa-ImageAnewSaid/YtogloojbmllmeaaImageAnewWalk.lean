/-
  ImageAnew holds for every input.
-/
import Derived.WalkKit
import Derived.Below
import Derived.Test.YtogloojbmllmeaaLp
namespace Go.Proofs.Ytogloojbmllmeaa.imageAnew
open Go.RowKit Go.Deep Math
set_option linter.unusedVariables false
set_option linter.unusedSimpArgs false

set_option maxRecDepth 8000 in
set_option maxHeartbeats 40000000 in
theorem walk (a0 : Option Addr) (len0 cap0 : Nat) (z0 : List It) (a1 : Option Addr) (len1 cap1 : Nat) (z1 : List It) (w : World) (hw0 : RawAt w a0 len0 z0 ∧ len0 ≤ cap0) (hw1 : RawAt w a1 len1 z1 ∧ len1 ≤ cap1) :
    Calls Try.prog 8 #[.slice a0 len0 cap0, .slice a1 len1 cap1] w fun e w' => e = .returned (.bool true) ∧ Below w.heap.size w w' := by
  have ca := hide (awake_any w)
  have HA := hide hw0
  have HB := hide hw1
  clear hw0 hw1
  go_enter Try.func8, Try.ntmps8
  go_wp2_with fail
  refine ca.out.mono ?_
  rintro e w1 ⟨rfl, b1⟩
  have B1 := hide b1
  clear b1 ca
  by_cases h0 : 20 < len0
  · have i0 : (20 : Int) < (len0 : Int) := by omega
    clear h0
    go_wp2
    go_ret
    exact ⟨rfl, B1.out⟩
  · have i0 : ¬ (20 : Int) < (len0 : Int) := by omega
    by_cases h1 : 20 < len1
    · have i1 : (20 : Int) < (len1 : Int) := by omega
      clear h0 h1
      go_wp2
      go_ret
      exact ⟨rfl, B1.out⟩
    · have i1 : ¬ (20 : Int) < (len1 : Int) := by omega
      have cN := hide (new_lw B1.out 70 (by omega) (by omega))
      go_wp2_with fail
      refine cN.out.mono ?_
      rintro e w2 ⟨d, F2, rfl, L2⟩
      clear cN
      cases hg0 : z0.all It.good with
      | false =>
        have cD := hide (dump_badL L2 3 60 (by omega) a0 len0 cap0 z0 (by omega) HA.out.2 (HA.out.1.below L2.bel) hg0)
        clear L2
        go_wp2_with fail
        refine cD.out.mono ?_
        rintro e w3 ⟨rfl, F3, L3⟩
        clear cD
        have hC3 := calm_fresh 70
        cases hg1 : z1.all It.good with
        | false =>
          have cE := hide (dump_badL L3 3 60 (by omega) a1 len1 cap1 z1 (by omega) HB.out.2 (HB.out.1.below L3.bel) hg1)
          clear L3 hC3
          go_wp2_with fail
          refine cE.out.mono ?_
          rintro e w4 ⟨rfl, F4, L4⟩
          have HL := hide L4
          clear cE L4
          go_wp2
          go_ret
          exact ⟨rfl, HL.out.bel⟩
        | true =>
          obtain ⟨S4, hDu, hC4, hst, cE⟩ := dump_goodL L3 hC3 3 60 (by omega) (by omega) a1 len1 cap1 z1 (by omega) HB.out.2 (HB.out.1.below L3.bel) hg1
          have CE := hide cE
          clear cE L3 hC3 hst hDu hC4
          generalize pgsN (dmpB ((60 : Nat) : Int) z1).length = pp at *
          generalize dmpN ((60 : Nat) : Int) z1 = nn at *
          go_wp2_with fail
          refine CE.out.mono ?_
          rintro e w4 ⟨rfl, F4, L4⟩
          have HL := hide L4
          clear CE L4
          go_wp2
          go_ret
          exact ⟨rfl, HL.out.bel⟩
      | true =>
        obtain ⟨S3, hDu0, hC3, hst0, cD⟩ := dump_goodL L2 (calm_fresh 70) 3 60 (by omega) (by omega) a0 len0 cap0 z0 (by omega) HA.out.2 (HA.out.1.below L2.bel) hg0
        have CD := hide cD
        clear cD L2 hDu0 hst0
        generalize pgsN (dmpB ((60 : Nat) : Int) z0).length = pp0 at *
        generalize dmpN ((60 : Nat) : Int) z0 = nn0 at *
        go_wp2_with fail
        refine CD.out.mono ?_
        rintro e w3 ⟨rfl, F3, L3⟩
        clear CD
        cases hg1 : z1.all It.good with
        | false =>
          have cE := hide (dump_badL L3 3 60 (by omega) a1 len1 cap1 z1 (by omega) HB.out.2 (HB.out.1.below L3.bel) hg1)
          clear L3 hC3
          go_wp2_with fail
          refine cE.out.mono ?_
          rintro e w4 ⟨rfl, F4, L4⟩
          have HL := hide L4
          clear cE L4
          go_wp2
          go_ret
          exact ⟨rfl, HL.out.bel⟩
        | true =>
          obtain ⟨S4, hDu, hC4, hst, cE⟩ := dump_goodL L3 hC3 3 60 (by omega) (by omega) a1 len1 cap1 z1 (by omega) HB.out.2 (HB.out.1.below L3.bel) hg1
          have CE := hide cE
          have hnn := hDu.nle
          have hb : dmpB ((60 : Nat) : Int) z1 = encs (z1.take (dmpN ((60 : Nat) : Int) z1)) := rfl
          have hlen1 := HB.out.1.len
          have ht : (z1.take (dmpN ((60 : Nat) : Int) z1)).length = dmpN ((60 : Nat) : Int) z1 := by rw [List.length_take]; omega
          have hit := its_take HB.out.1.fits hg1 (dmpN ((60 : Nat) : Int) z1)
          have cLo : Hid (∀ (w4 : World) (F4 : List Nat), Lw w w4 d F4 S4 → Calls Try.prog 12 #[.pointer (some ⟨d, 0, none⟩), .int .i64 ((3 : Nat) : Int), .int .i64 (pgsN (dmpB ((60 : Nat) : Int) z1).length : Nat)] w4 fun e w' => ∃ a c', e = .returned (.tuple #[.slice a (dmpN ((60 : Nat) : Int) z1) c', .int .i64 0]) ∧ RawAt w' a (dmpN ((60 : Nat) : Int) z1) (z1.take (dmpN ((60 : Nat) : Int) z1)) ∧ ∃ S', Like S4 S' ∧ Lw w w' d F4 S') := fun w4 F4 L4 => by
            refine (load_goodL L4 3 _ _ hst hb hit).mono ?_
            rintro e w' ⟨a, c', rfl, h1, _, h2⟩
            rw [ht] at h1
            exact ⟨a, c', by rw [ht], h1, h2⟩
          have hnl : dmpN ((60 : Nat) : Int) z1 ≤ len1 := by omega
          clear cE L3 hC3 hst hDu hC4 hb ht hit hnn hlen1
          generalize pgsN (dmpB ((60 : Nat) : Int) z1).length = pp at *
          generalize dmpN ((60 : Nat) : Int) z1 = nn at *
          have hni : (nn : Int) ≤ (len1 : Int) := by omega
          have hnc : nn ≤ cap1 := by have := HB.out.2; omega
          have HNL := hide hnl
          clear hnl
          go_wp2_with fail
          refine CE.out.mono ?_
          rintro e w4 ⟨rfl, F4, L4⟩
          have cL := hide (cLo.out w4 F4 L4)
          clear CE L4 cLo
          go_wp2_with fail
          refine cL.out.mono ?_
          rintro e w5 ⟨a5, c5, rfl, hr5, S5, hl5, L5⟩
          have cI := hide (items_same a5 a1 nn c5 cap1 (z1.take nn) (by omega) w5 hr5 ((HB.out.1.take nn HNL.out).below L5.bel))
          have HL := hide L5
          clear cL hr5 hl5 L5
          go_wp2_with fail
          refine cI.out.mono ?_
          rintro e w6 ⟨rfl, b6⟩
          have HL6 := hide (HL.out.below b6)
          clear b6 cI
          go_wp2
          go_ret
          exact ⟨rfl, HL6.out.bel⟩
end Go.Proofs.Ytogloojbmllmeaa.imageAnew
