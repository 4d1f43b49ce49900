/-
  ImageBack holds for every input.
-/
import Derived.WalkKit
import Derived.Below
import Derived.Test.YtogloojbmllmeaaLs
namespace Go.Proofs.Ytogloojbmllmeaa.imageBack
open Go.RowKit Go.Deep Math
set_option linter.unusedVariables false
set_option linter.unusedSimpArgs false

set_option maxRecDepth 8000 in
set_option maxHeartbeats 40000000 in
theorem walk (a0 : Int) (a1 : Option Addr) (len1 cap1 : Nat) (z1 : List It) (w : World) (hw0 : (Lit.int .i64 a0).wf = true) (hw1 : RawAt w a1 len1 z1 ∧ len1 ≤ cap1) :
    Calls Try.prog 5 #[.int .i64 a0, .slice a1 len1 cap1] w fun e w' => e = .returned (.bool true) ∧ Below w.heap.size w w' := by
  have ca := hide (awake_any w)
  have HA := hide hw1
  clear hw0 hw1
  go_enter Try.func5, Try.ntmps5
  go_wp2_with fail
  refine ca.out.mono ?_
  rintro e w1 ⟨rfl, b1⟩
  have B1 := hide b1
  clear b1 ca
  by_cases hp0 : a0 < 0
  · go_wp2
    go_ret
    exact ⟨rfl, B1.out⟩
  by_cases hp1 : 10 < a0
  · go_wp2
    go_ret
    exact ⟨rfl, B1.out⟩
  by_cases h0 : 60 < len1
  · have i0 : (60 : Int) < (len1 : Int) := by omega
    clear h0
    go_wp2
    go_ret
    exact ⟨rfl, B1.out⟩
  obtain ⟨P, rfl⟩ := Int.eq_ofNat_of_zero_le (show (0 : Int) ≤ a0 by omega)
  have i0 : ¬ (60 : Int) < (len1 : Int) := by omega
  have hP : P ≤ 10 := by omega
  go_wp2_with fail
  go_loopg [5, 6, 7] len1 (fun kx s5 s6 s7 wr => ∃ (i tot ft : Nat), s7 = .int .i64 i ∧ s5 = .int .i64 tot ∧ s6 = .int .i64 ft ∧ i ≤ len1 ∧ len1 - i ≤ kx ∧ Hid (Fit z1 (376 * P) i tot ft ∧ Below w.heap.size w wr))
  case atStart => exact ⟨0, 0, 0, rfl, rfl, rfl, Nat.zero_le _, by omega, Fit.zero _ _, B1.out⟩
  case round =>
    clear B1
    obtain ⟨i, tot, ft, rfl, rfl, rfl, hin, hg, I⟩ := hrel
    by_cases hlt : i < len1
    · have hlt2 : (i : Int) < (len1 : Int) := by omega
      obtain ⟨x, hx⟩ : ∃ x, z1[i]? = some x := ⟨_, List.getElem?_eq_getElem (by rw [← HA.out.1.len]; exact hlt)⟩
      obtain ⟨b, o, rfl, hb, hc⟩ := HA.out.1.cell i x hx
      have hc' := hc.below I.out.2 hb
      have c0 := hc'.c0
      have c1 := hc'.c1
      have c2 := hc'.c2
      have c3 := hc'.c3
      have c4 := hc'.c4
      have hbw : b < wr.heap.size := Nat.lt_of_lt_of_le hb I.out.2.size
      have cg := hide (refGood_any (txt x.key) (txt x.value) x.flags x.exp x.ver)
      rw [← x.good_mayBe] at cg
      unfold itV at cg
      have HC := hide (And.intro hb hc)
      clear hc hc'
      cases hgx : x.good with
      | false =>
        rw [hgx] at cg
        clear hgx hx HC
        go_wp2_with (go_at_call 19; refine (cg.out _).mono ?_; rintro r w2 ⟨rfl, b2⟩; have B2 := hide b2; clear b2)
        go_ret
        exact ⟨rfl, I.out.2.trans (B2.out.mono I.out.2.size)⟩
      | true =>
        rw [hgx] at cg
        have hz := (It.good_iff x).1 hgx
        have cs := hide (refSize_any (txt x.key) (txt x.value) x.flags x.exp x.ver (by rw [txt_size]; omega) (by rw [txt_size]; omega))
        have es : 32 + (txt x.key).size + (txt x.value).size = x.size := by rw [txt_size, txt_size]; rfl
        rw [es] at cs
        unfold itV at cs
        have FY := hide (fun hs => I.out.1.yes hx hgx hs)
        have FN := hide (fun hs => I.out.1.no hx hgx hs)
        have hsz : x.size ≤ 1306 := by unfold It.size; omega
        have htt : tot ≤ 78360 := by have := I.out.1.few; omega
        have hszi : (x.size : Int) ≤ 1306 := by omega
        have hsz0 : (0 : Int) ≤ (x.size : Int) := by omega
        have htti : (tot : Int) ≤ 78360 := by omega
        generalize x.size = sz at *
        clear hx hgx es hz hsz htt
        go_wp2_with fail
        refine (cg.out _).mono ?_
        rintro r w2 ⟨rfl, b2⟩
        have I2 := hide (I.out.2.trans (b2.mono I.out.2.size))
        have hc' := HC.out.2.below I2.out HC.out.1
        have c0 := hc'.c0
        have c1 := hc'.c1
        have c2 := hc'.c2
        have c3 := hc'.c3
        have c4 := hc'.c4
        have hbw : b < w2.heap.size := Nat.lt_of_lt_of_le HC.out.1 I2.out.size
        clear b2 hc' cg I
        by_cases hfit : tot + sz ≤ 376 * P
        · have hf2 : ((tot : Int) + (sz : Int) ≤ 376 * (P : Int)) = True := eq_true (by omega)
          have E := hide (FY.out hfit)
          clear hfit FY FN
          go_wp2_with (go_at_call 20; refine (cs.out _).mono ?_; rintro r w3 ⟨rfl, b3⟩; have B3 := hide b3; clear b3)
          go_roundg (len1 - (i + 1))
          case measure => omega
          case rel => exact ⟨i + 1, tot + sz, i + 1, rfl, rfl, rfl, by omega, by omega, E.out, I2.out.trans (B3.out.mono I2.out.size)⟩
        · have hf2 : ((tot : Int) + (sz : Int) ≤ 376 * (P : Int)) = False := eq_false (by omega)
          have E := hide (FN.out (by omega))
          clear hfit FY FN
          go_wp2_with (go_at_call 20; refine (cs.out _).mono ?_; rintro r w3 ⟨rfl, b3⟩; have B3 := hide b3; clear b3)
          go_roundg (len1 - (i + 1))
          case measure => omega
          case rel => exact ⟨i + 1, tot + sz, ft, rfl, rfl, rfl, by omega, by omega, E.out, I2.out.trans (B3.out.mono I2.out.size)⟩
    · obtain rfl : i = len1 := by omega
      have hlt2 : ¬ (i : Int) < (i : Int) := by omega
      obtain ⟨hg0, hft⟩ := I.out.1.all HA.out.1.len
      have hft2 : ft = dmpN ((P : Nat) : Int) z1 := by rw [hft]; rfl
      subst hft2
      have cN := hide (new_lw I.out.2 10 (by omega) (by omega))
      have HG := hide hg0
      clear I hg hg0 hft
      go_wp2_with fail
      refine cN.out.mono ?_
      rintro e w3 ⟨d, F3, rfl, L3⟩
      clear cN
      have ef : (((10 - P : Nat)) : Int) = 10 - (P : Int) := by omega
      obtain ⟨S4, hDu, hC4, hst, cD⟩ := dump_goodL L3 (calm_fresh 10) (10 - P) P (by omega) (by omega) a1 i cap1 z1 (by omega) HA.out.2 (HA.out.1.below L3.bel) HG.out
      rw [ef] at cD
      have CD := hide cD
      have hle := hDu.le
      have hnn := hDu.nle
      have hb : dmpB ((P : Nat) : Int) z1 = encs (z1.take (dmpN ((P : Nat) : Int) z1)) := rfl
      have hlen0 := HA.out.1.len
      have ht : (z1.take (dmpN ((P : Nat) : Int) z1)).length = dmpN ((P : Nat) : Int) z1 := by rw [List.length_take]; omega
      have hit := its_take HA.out.1.fits HG.out (dmpN ((P : Nat) : Int) z1)
      have cLo : Hid (∀ (w4 : World) (F4 : List Nat), Lw w w4 d F4 S4 → Calls Try.prog 12 #[.pointer (some ⟨d, 0, none⟩), .int .i64 (10 - (P : Int)), .int .i64 (pgsN (dmpB ((P : Nat) : Int) z1).length : Nat)] w4 fun e w' => ∃ a c', e = .returned (.tuple #[.slice a (dmpN ((P : Nat) : Int) z1) c', .int .i64 0]) ∧ RawAt w' a (dmpN ((P : Nat) : Int) z1) (z1.take (dmpN ((P : Nat) : Int) z1)) ∧ ∃ S' F', Lw w w' d F' S') := fun w4 F4 L4 => by
        rw [← ef]
        refine (load_goodL L4 (10 - P) _ _ hst hb hit).mono ?_
        rintro e w' ⟨a, c', rfl, h1, _, S', _, h2⟩
        rw [ht] at h1
        exact ⟨a, c', by rw [ht], h1, S', F4, h2⟩
      have hnl : dmpN ((P : Nat) : Int) z1 ≤ i := by omega
      clear cD L3 hst hC4 hDu hb ht hit hnn hlen0 ef
      generalize pgsN (dmpB ((P : Nat) : Int) z1).length = pp at *
      generalize dmpN ((P : Nat) : Int) z1 = nn at *
      have hni : (nn : Int) ≤ (i : Int) := by omega
      have hpi : ¬ (P : Int) < (pp : Int) := by omega
      have hnc : nn ≤ cap1 := by have := HA.out.2; omega
      have HNL := hide hnl
      clear hnl hle
      go_wp2_with fail
      refine CD.out.mono ?_
      rintro e w4 ⟨rfl, F4, L4⟩
      have cL := hide (cLo.out w4 F4 L4)
      clear CD L4 cLo
      go_wp2_with fail
      refine cL.out.mono ?_
      rintro e w7 ⟨a7, c7, rfl, hr7, S7, F7, L7⟩
      have cI := hide (items_same a7 a1 nn c7 cap1 (z1.take nn) (by omega) w7 hr7 ((HA.out.1.take nn HNL.out).below L7.bel))
      have HL := hide L7
      clear cL hr7 L7
      go_wp2_with fail
      refine cI.out.mono ?_
      rintro e w8 ⟨rfl, b8⟩
      have HL8 := hide (HL.out.below b8)
      clear b8 cI
      go_wp2
      go_ret
      exact ⟨rfl, HL8.out.bel⟩
end Go.Proofs.Ytogloojbmllmeaa.imageBack
