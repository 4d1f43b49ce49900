/-
  ImageSpoils holds for every input.
-/
import Derived.WalkKit
import Derived.Below
import Derived.Test.YtogloojbmllmeaaSp
namespace Go.Proofs.Ytogloojbmllmeaa.imageSpoils
open Go.RowKit Go.Deep Math
set_option linter.unusedVariables false
set_option linter.unusedSimpArgs false

set_option maxRecDepth 8000 in
set_option maxHeartbeats 40000000 in
theorem walk (a0 : Option Addr) (len0 cap0 : Nat) (z0 : List It) (a1 : Int) (a2 : Int) (w : World) (hw0 : RawAt w a0 len0 z0 ∧ len0 ≤ cap0) (hw1 : (Lit.int .i64 a1).wf = true) (hw2 : (Lit.int .i64 a2).wf = true) :
    Calls Try.prog 7 #[.slice a0 len0 cap0, .int .i64 a1, .int .i64 a2] w fun e w' => e = .returned (.bool true) ∧ Below w.heap.size w w' := by
  have ca := hide (awake_any w)
  have HA := hide hw0
  have h4 := and3_four a2
  clear hw0 hw1 hw2
  go_enter Try.func7, Try.ntmps7
  go_wp2_with fail
  refine ca.out.mono ?_
  rintro e w1 ⟨rfl, b1⟩
  have B1 := hide b1
  clear b1 ca
  by_cases h0 : 20 < len0
  · have i0 : (20 : Int) < (len0 : Int) := by omega
    clear h0
    go_wp2
    go_ret
    exact ⟨rfl, B1.out⟩
  have i0 : ¬ (20 : Int) < (len0 : Int) := by omega
  have cN := hide (new_lw B1.out 70 (by omega) (by omega))
  have H4 := hide h4
  clear h4
  go_wp2_with fail
  refine cN.out.mono ?_
  rintro e w2 ⟨d, F2, rfl, L2⟩
  clear cN
  cases hg0 : z0.all It.good with
  | false =>
    have cD := hide (dump_badL L2 0 60 (by omega) a0 len0 cap0 z0 (by omega) HA.out.2 (HA.out.1.below L2.bel) hg0)
    clear L2
    go_wp2_with fail
    refine cD.out.mono ?_
    rintro e w3 ⟨rfl, F3, L3⟩
    have HL := hide L3
    clear cD L3
    go_wp2
    go_ret
    exact ⟨rfl, HL.out.bel⟩
  | true =>
    obtain ⟨S3, hDu, hC3, hst, cD⟩ := dump_goodL L2 (calm_fresh 70) 0 60 (by omega) (by omega) a0 len0 cap0 z0 (by omega) HA.out.2 (HA.out.1.below L2.bel) hg0
    have CD := hide cD
    have hsl := hDu.w.still
    have hpl := hDu.le
    have hpg := hst.pgs
    have hoff := hst.off
    generalize dmpB ((60 : Nat) : Int) z0 = cc at *
    have HP := hide hpg
    have HS := hide (And.intro hC3 (And.intro hsl hoff))
    clear cD L2 hDu hst hpg hC3 hsl hoff
    obtain ⟨pp, hpp⟩ : ∃ pp, pp = pgsN cc.length := ⟨_, rfl⟩
    rw [← hpp] at CD HP hpl
    have HPP := hide hpp
    clear hpp
    generalize dmpN ((60 : Nat) : Int) z0 = nn at *
    go_wp2_with fail
    refine CD.out.mono ?_
    rintro e w3 ⟨rfl, F3, L3⟩
    clear CD
    by_cases hp0 : a1 < 0
    · have HL := hide L3
      clear L3
      go_wp2
      go_ret
      exact ⟨rfl, HL.out.bel⟩
    by_cases hp1 : (pp : Int) ≤ a1
    · have HL := hide L3
      clear L3
      go_wp2
      go_ret
      exact ⟨rfl, HL.out.bel⟩
    obtain ⟨k, rfl⟩ := Int.eq_ofNat_of_zero_le (show (0 : Int) ≤ a1 by omega)
    have hk : k < pp := by omega
    have hpgk := HP.out k hk
    rw [Nat.zero_add] at hpgk
    have cR := read_lw L3 k _ HS.out.2.2 hpgk
    have hpl2 := partI_le cc k
    have him := imP_page k (partI cc k) hpl2 (by omega)
    rw [text_page k (partI cc k) hpl2] at cR
    generalize [73, 77] ++ (low (partI cc k).length 2 ++ (low k 4 ++ (partI cc k ++ List.replicate (376 - (partI cc k).length) 0))) = l at *
    have CR := hide cR
    have HI := hide him
    clear cR hpgk L3 him hpl2 HP HPP
    go_wp2_with fail
    refine CR.out.mono ?_
    rintro e w4 ⟨g, rfl, hb4, hl4, hg4, hn4, S4, hS4, L4⟩
    have hC4 := HS.out.1.like hS4
    have hs4 : ∀ x ∈ S4.cs, x.last = none := by rw [hS4.cs]; exact HS.out.2.1
    have HC := hide (And.intro hC4 (And.intro hs4 (And.intro hl4 (And.intro hg4 hn4))))
    have hkk : k < pp := hk
    have HK := hide (And.intro hk hpl)
    clear CR hC4 hs4 hl4 hg4 hn4 hS4 HS hk hkk
    rcases H4.out with h4 | h4 | h4 | h4
    · have cE := hide (erase_lw L4 k)
      have hB := hide (spoil_erase HC.out.1 (show pp ≤ 70 by omega) HK.out.1)
      clear L4 hb4
      go_wp2_with fail
      refine cE.out.mono ?_
      rintro e w5 ⟨rfl, F5, L5⟩
      have hB5 := hB.out
      clear cE hB
      have cL := hide (load_badL L5 0 pp (by omega) hB5)
      clear L5 hB5
      go_wp2_with fail
      refine cL.out.mono ?_
      rintro e w9 ⟨a9, c9, rfl, S9, hl9, L9⟩
      have HL := hide L9
      clear cL hl9 L9
      go_wp2
      go_ret
      exact ⟨rfl, HL.out.bel⟩
    · have cE := hide (write_lw L4 k g 384 384 l (blk_bs hb4 HC.out.2.2.1) HC.out.2.2.2.1)
      have hB := hide (spoil_torn HC.out.1 HC.out.2.1 (show pp ≤ 70 by omega) HK.out.1 l HC.out.2.2.1)
      clear L4 hb4
      go_wp2_with fail
      refine cE.out.mono ?_
      rintro e w5 ⟨rfl, F5, L5⟩
      have cC := crash_two L5
      have CC := hide cC
      clear cE cC
      have HL5 := hide L5
      clear L5
      go_wp2_with fail
      refine CC.out.mono ?_
      rintro e w6 ⟨rfl, F6, L6⟩
      have cO := hide (on_lw L6)
      clear CC L6
      go_wp2_with fail
      refine cO.out.mono ?_
      rintro e w7 ⟨rfl, F7, L7⟩
      have hB7 := hB.out
      clear cO hB
      have cL := hide (load_badL L7 0 pp (by omega) hB7)
      clear L7 hB7
      go_wp2_with fail
      refine cL.out.mono ?_
      rintro e w9 ⟨a9, c9, rfl, S9, hl9, L9⟩
      have HL := hide L9
      clear cL hl9 L9
      go_wp2
      go_ret
      exact ⟨rfl, HL.out.bel⟩
    · have c4 := hb4.cell (i := 4) (bget l 4 HC.out.2.2.1 (by omega))
      have f4 := hb4.frozen 4
      have hgw := hb4.lt
      obtain ⟨x4, hx4⟩ : ∃ x4, l.getD 4 0 = x4 := ⟨_, rfl⟩
      obtain ⟨y4, hy4⟩ : ∃ y4, x4 ^^^ 1 = y4 := ⟨_, rfl⟩
      have hx8 := xor8 x4
      rw [hy4] at hx8
      rw [hx4] at c4
      have hne : l.getD 4 0 ≠ y4 := by rw [hx4, ← hy4]; exact fun e => xor8_ne _ e.symm
      obtain ⟨L5, hb5⟩ := poke L4 hb4 HC.out.2.2.2.1 HC.out.2.2.2.2 4 y4
      have hl5 : (l.set 4 y4).length = 384 := by rw [List.length_set]; exact HC.out.2.2.1
      have cE := hide (write_lw L5 k g 384 384 _ (blk_bs hb5 hl5) HC.out.2.2.2.1)
      have hB := hide (spoil_write HC.out.1 (show pp ≤ 70 by omega) HK.out.1 _ hl5 (imP_other l HC.out.2.2.1 k _ HI.out y4 hne))
      clear hx4 hy4 hne
      clear L4 hb4 L5 hb5 hl5
      go_wp2_with fail
      refine cE.out.mono ?_
      rintro e w6 ⟨rfl, F6, L6⟩
      have hB6 := hB.out
      clear cE hB
      have cL := hide (load_badL L6 0 pp (by omega) hB6)
      clear L6 hB6
      go_wp2_with fail
      refine cL.out.mono ?_
      rintro e w9 ⟨a9, c9, rfl, S9, hl9, L9⟩
      have HL := hide L9
      clear cL hl9 L9
      go_wp2
      go_ret
      exact ⟨rfl, HL.out.bel⟩
    · have c4 := hb4.cell (i := 0) (bget l 0 HC.out.2.2.1 (by omega))
      have f4 := hb4.frozen 0
      have hgw := hb4.lt
      obtain ⟨L5, hb5⟩ := poke L4 hb4 HC.out.2.2.2.1 HC.out.2.2.2.2 0 0
      have hl5 : (l.set 0 0).length = 384 := by rw [List.length_set]; exact HC.out.2.2.1
      have cE := hide (write_lw L5 k g 384 384 _ (blk_bs hb5 hl5) HC.out.2.2.2.1)
      have hB := hide (spoil_write HC.out.1 (show pp ≤ 70 by omega) HK.out.1 _ hl5 (imP_bare l HC.out.2.2.1 k))
      clear L4 hb4 L5 hb5 hl5
      go_wp2_with fail
      refine cE.out.mono ?_
      rintro e w6 ⟨rfl, F6, L6⟩
      have hB6 := hB.out
      clear cE hB
      have cL := hide (load_badL L6 0 pp (by omega) hB6)
      clear L6 hB6
      go_wp2_with fail
      refine cL.out.mono ?_
      rintro e w9 ⟨a9, c9, rfl, S9, hl9, L9⟩
      have HL := hide L9
      clear cL hl9 L9
      go_wp2
      go_ret
      exact ⟨rfl, HL.out.bel⟩
end Go.Proofs.Ytogloojbmllmeaa.imageSpoils
