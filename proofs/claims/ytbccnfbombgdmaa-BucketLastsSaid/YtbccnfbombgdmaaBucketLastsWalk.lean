/-
  BucketLasts holds: what was put and flushed is there when it is opened anew behind a crash.
-/
import Derived.WalkKit
import Derived.Below
import Derived.Test.YtbccnfbombgdmaaLaw8
import Derived.Test.YtbccnfbombgdmaaRItems
namespace Go.Proofs.Ytbccnfbombgdmaa.bucketLasts
open Go.RowKit Go.Deep Math
set_option linter.unusedVariables false
set_option linter.unusedSimpArgs false

theorem exX : (exI 120 1).good = true ∧ (exI 120 1).size ≤ 120 := ⟨(exI_ok 120 1 (by omega) (by omega)).2.1, (exI_ok 120 1 (by omega) (by omega)).2.2⟩
set_option maxRecDepth 8000 in
set_option maxHeartbeats 40000000 in
theorem walk (a0 : Int) (a1 : Option Addr) (len1 cap1 : Nat) (z1 : List It) (a2 : Option Addr) (len2 cap2 : Nat) (z2 : List UInt8) (w : World) (hw0 : (Lit.int .i64 a0).wf = true) (hw1 : RawAt w a1 len1 z1) (hw2 : BS w a2 len2 cap2 z2 ∧ (a2 = none → z2 = []) ∧ len2 ≤ 140737488351232) :
    Calls Try.prog 5 #[.int .i64 a0, .slice a1 len1 cap1, .slice a2 len2 cap2] w fun e w' => e = .returned (.bool true) ∧ Below w.heap.size w w' := by
  have ca := hide (awake_any w)
  obtain ⟨hb, hnil, hbl⟩ := hw2
  have HP := hide hb
  have HPN := hide hnil
  have HPL := hide hbl
  have HW := hide hw1
  have HLEN := hide hw1.len
  clear hw0 hw1 hb hnil hbl
  by_cases hpre : a0 < 1 ∨ 5 < a0 ∨ 40 < len1
  · go_enter Try.func5, Try.ntmps5
    by_cases e1 : a0 < 1
    · have e1' : (a0 < 1) = True := eq_true e1
      clear e1 hpre
      go_wp2_with fail
      refine ca.out.mono ?_
      rintro r w1 ⟨rfl, h1⟩
      have B1 := hide h1
      clear h1 ca
      go_wp2
      go_ret
      exact ⟨rfl, B1.out⟩
    · have e1' : (a0 < 1) = False := eq_false e1
      by_cases e2 : 5 < a0
      · have e2' : (5 < a0) = True := eq_true e2
        clear e1 e2 hpre
        go_wp2_with fail
        refine ca.out.mono ?_
        rintro r w1 ⟨rfl, h1⟩
        have B1 := hide h1
        clear h1 ca
        go_wp2
        go_ret
        exact ⟨rfl, B1.out⟩
      · have e2' : (5 < a0) = False := eq_false e2
        have e3' : ((40 : Int) < (len1 : Int)) = True := eq_true (by omega)
        clear e1 e2 hpre
        go_wp2_with fail
        refine ca.out.mono ?_
        rintro r w1 ⟨rfl, h1⟩
        have B1 := hide h1
        clear h1 ca
        go_wp2
        go_ret
        exact ⟨rfl, B1.out⟩
  obtain ⟨n, rfl⟩ : ∃ n : Nat, a0 = (n : Int) := ⟨a0.toNat, by omega⟩
  have e1' : ((n : Int) < 1) = False := eq_false (by omega)
  have e2' : ((5 : Int) < (n : Int)) = False := eq_false (by omega)
  have e3' : ((40 : Int) < (len1 : Int)) = False := eq_false (by omega)
  have HN : Hid (1 ≤ n ∧ n ≤ 5 ∧ len1 ≤ 40) := ⟨by omega, by omega, by omega⟩
  clear hpre
  go_enter Try.func5, Try.ntmps5
  go_wp2_with fail
  refine ca.out.mono ?_
  rintro r w1 ⟨rfl, h1⟩
  have B1 := hide h1
  clear h1 ca
  have cN := hide (new_law B1.out 5 (by omega) (by omega))
  go_wp2_with fail
  refine cN.out.mono ?_
  rintro e w2 ⟨d, F2, rfl, hl2, _⟩
  have L2 := hide hl2
  clear hl2 cN e1' e2' e3' B1
  have cO := hide (bu_open L2.out (Sure.fresh 5) 0 n HN.out.1 (by have := HN.out.2.1; omega) (by show 0 + n ≤ 5; have := HN.out.2.1; omega))
  go_wp2_with fail
  refine cO.out.mono ?_
  rintro e w3 ⟨s, S3, G3, rfl, hb3, hk3, _⟩
  have hls : S3.losses = 0 := hk3.losses
  obtain ⟨f3, hf3⟩ : ∃ f3, f3 = (fun k => (Dv.fresh 5).its (0 + k)) := ⟨_, rfl⟩
  obtain ⟨t3, ht3⟩ : ∃ t3, t3 = ((List.range n).map (fun k => toldB ((Dv.fresh 5).its (0 + k)))) := ⟨_, rfl⟩
  rw [← hf3, ← ht3] at hb3
  have U3 := hide hb3
  have HL3 := hide hls
  clear hb3 hk3 hls hf3 ht3 cO L2
  go_wp2_with fail
  have hl40 : len1 ≤ 40 := HN.out.2.2
  go_loopg [11] len1 (fun kx s11 wr => ∃ i : Nat, s11 = .int .i64 i ∧ i ≤ len1 ∧ len1 - i ≤ kx ∧ Hid (∃ S f bs G, Bu w wr d s 0 n S f bs G ∧ S.losses = 0))
  case atStart => exact ⟨0, rfl, Nat.zero_le _, by omega, _, _, _, _, U3.out, HL3.out⟩
  case round =>
    obtain ⟨i, rfl, hin, hg, I⟩ := hrel
    obtain ⟨S, f, bs, G, hbu, hls⟩ := I.out
    have U := hide hbu
    have HL := hide hls
    clear I hbu hls
    by_cases hlt : i < len1
    · have hlt2 : (i : Int) < (len1 : Int) := by omega
      obtain ⟨x, hx⟩ : ∃ x, z1[i]? = some x := ⟨_, List.getElem?_eq_getElem (by rw [← HLEN.out]; exact hlt)⟩
      obtain ⟨b, o, rfl, hb, hc⟩ := (HW.out.below U.out.bel).cell i x hx
      obtain ⟨c0, c1, c2, c3, c4⟩ := hc.vals
      have cP := hide (bu_any U.out x (HW.out.fits x (List.mem_of_getElem? hx)))
      clear hc hx hb
      go_wp2_with fail
      refine cP.out.mono ?_
      rintro e w4 ⟨va, vn, vc, er, rfl, S4, f4, bs4, G4, hb4, _, hl4, _, _⟩
      have U4 := hide hb4
      have HL4 := hide (hl4.trans HL.out)
      clear hb4 hl4 cP c0 c1 c2 c3 c4
      go_wp2
      go_roundg (len1 - (i + 1))
      case measure => omega
      case rel => exact ⟨i + 1, rfl, by omega, by omega, S4, f4, bs4, G4, U4.out, HL4.out⟩
    · obtain rfl : i = len1 := by omega
      have hlt2 : ¬ (i : Int) < (i : Int) := by omega
      have cF := hide (bu_flush U.out)
      go_wp2_with fail
      refine cF.out.mono ?_
      rintro e w4 ⟨rfl, S4, G4, hb4, _, hl4, _, hc4⟩
      have U4 := hide hb4
      have HL4 := hide (hl4.trans HL.out)
      have HC4 := hide hc4
      clear hb4 hl4 hc4 cF U HL
      have cI := hide (bu_items U4.out)
      go_wp2_with fail
      refine cI.out.mono ?_
      rintro e w5 ⟨v, rfl, hr, S5, hb5, hk5, _⟩
      have hra := RowA.of_new U4.out hr
      obtain ⟨la, lc, rfl⟩ := hr.sl
      obtain ⟨m, hm⟩ : ∃ m, m = (allF n f).length := ⟨_, rfl⟩
      rw [← hm] at hra ⊢
      have HM := hide hm
      have R5 := hide hra
      have OK := hide hb5.oks
      have hl5 : S5.losses = 0 := hk5.losses.trans HL4.out
      have cC := hide (bu_crash hb5 (by rw [hk5.cs]; exact HC4.out) hl5 HP.out HPN.out HPL.out)
      clear hr hra hb5 hk5 hl5 cI HC4 HL4 hm
      go_wp2_with fail
      refine cC.out.mono ?_
      rintro e w6 ⟨rfl, S6, G6, hg6, mv6, hl6⟩
      have g6 := hide hg6
      have R6 := hide (R5.out.move mv6)
      have HL6 := hide hl6
      clear hg6 mv6 hl6 cC R5
      have cD := hide (gone_items g6.out)
      go_wp2_with fail
      refine cD.out.mono ?_
      rintro e w7 ⟨rfl, b7⟩
      have g7 := hide (g6.out.below b7)
      have R7 := hide (R6.out.below b7)
      clear b7 cD g6 R6
      have cT := hide (it_any ⟨#[120]⟩ 1 w7)
      go_wp2_with fail
      refine cT.out.mono ?_
      rintro e w8 ⟨rfl, hw8⟩
      have b8 : Below w7.heap.size w7 w8 := by rw [hw8]; exact (Below.refl _ _).alloc (Nat.le_refl _) _
      have g8 := hide (g7.out.below b8)
      have R8 := hide (R7.out.below b8)
      clear b8 hw8 cT g7 R7
      have cP := hide (gone_put g8.out (exI 120 1) exX.1 exX.2)
      go_wp2_with fail
      refine cP.out.mono ?_
      rintro e w9 ⟨rfl, b9⟩
      have g9 := hide (g8.out.below b9)
      have R9 := hide (R8.out.below b9)
      clear b9 cP g8 R8
      have cOn := hide (gone_on g9.out HL6.out)
      go_wp2_with fail
      refine cOn.out.mono ?_
      rintro e w10 ⟨rfl, S10, G10, hg10, mv10, hs10⟩
      have g10 := hide hg10
      have R10 := hide (R9.out.move mv10)
      have HS10 := hide hs10
      clear hg10 mv10 hs10 cOn g9 R9 HL6
      have cT := hide (it_any ⟨#[120]⟩ 1 w10)
      go_wp2_with fail
      refine cT.out.mono ?_
      rintro e w11 ⟨rfl, hw11⟩
      have b11 : Below w10.heap.size w10 w11 := by rw [hw11]; exact (Below.refl _ _).alloc (Nat.le_refl _) _
      have g11 := hide (g10.out.below b11)
      have R11 := hide (R10.out.below b11)
      clear b11 hw11 cT g10 R10
      have cP := hide (gone_put g11.out (exI 120 1) exX.1 exX.2)
      go_wp2_with fail
      refine cP.out.mono ?_
      rintro e w12 ⟨rfl, b12⟩
      have g12 := hide (g11.out.below b12)
      have R12 := hide (R11.out.below b12)
      clear b12 cP g11 R11
      have cO := hide (gone_open g12.out HS10.out)
      go_wp2_with fail
      refine cO.out.mono ?_
      rintro e w13 ⟨t, S13, f13, bs13, G13, rfl, hb13, hall, hrow⟩
      have U13 := hide hb13
      have R13 := hide (hrow _ _ _ R12.out)
      have HA := hide hall
      clear hb13 hall hrow cO g12 R12 HS10
      have cI := hide (bu_items U13.out)
      go_wp2_with fail
      refine cI.out.mono ?_
      rintro e w14 ⟨v, rfl, hr, S14, hb14, _, mv14⟩
      rw [HA.out] at hr
      have R14 := R13.out.move mv14
      obtain ⟨la', lc', hv1, hI1, _, _, _⟩ := R14.row.its OK.out.1
      obtain ⟨ua, uc, hv2, hI2, _, _, _⟩ := hr.its OK.out.1
      subst hv2
      simp only [Value.slice.injEq] at hv1
      obtain ⟨rfl, hq9, rfl⟩ := hv1
      clear hq9
      rw [← HM.out] at hI1 hI2 ⊢
      have cS := hide (items_same la ua m lc uc (allF n f) (by have := total_len (allF n f); have := OK.out.2; have := HN.out.2.1; have := HM.out; omega) w14 hI1 hI2)
      have B14 := hide hb14.bel
      clear hr R14 hI1 hI2 hb14 mv14 cI U13 R13
      go_wp2_with fail
      refine cS.out.mono ?_
      rintro e w15 ⟨rfl, b15⟩
      have B15 := hide (B14.out.trans (b15.mono B14.out.size))
      clear b15 cS
      go_wp2
      go_ret
      exact ⟨rfl, B15.out⟩
end Go.Proofs.Ytbccnfbombgdmaa.bucketLasts
