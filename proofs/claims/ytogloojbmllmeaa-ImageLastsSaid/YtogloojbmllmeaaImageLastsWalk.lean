/-
  ImageLasts holds for every input.
-/
import Derived.WalkKit
import Derived.Below
import Derived.Test.YtogloojbmllmeaaLr
import Derived.Test.YtogloojbmllmeaaBy9
namespace Go.Proofs.Ytogloojbmllmeaa.imageLasts
open Go.RowKit Go.Deep Math
set_option linter.unusedVariables false
set_option linter.unusedSimpArgs false

set_option maxRecDepth 8000 in
set_option maxHeartbeats 40000000 in
theorem walk (a0 : Option Addr) (len0 cap0 : Nat) (z0 : List It) (a1 : Int) (a2 : Option Addr) (len2 cap2 : Nat) (z2 : List UInt8) (w : World) (hw0 : RawAt w a0 len0 z0 ∧ len0 ≤ cap0) (hw1 : (Lit.int .i64 a1).wf = true) (hw2 : BS w a2 len2 cap2 z2 ∧ (a2 = none → z2 = []) ∧ len2 ≤ 140737488351232) :
    Calls Try.prog 6 #[.slice a0 len0 cap0, .int .i64 a1, .slice a2 len2 cap2] w fun e w' => e = .returned (.bool true) ∧ Below w.heap.size w w' := by
  have ca := hide (awake_any w)
  have HA := hide hw0
  have HB := hide hw2
  have hk : a1 ≤ 9223372036854775807 := by
    simp only [Lit.wf, decide_eq_true_eq, Bool.and_eq_true] at hw1
    first | exact hw1.2 | omega
  have HK := hide hk
  clear hw0 hw1 hw2 hk
  go_enter Try.func6, Try.ntmps6
  go_wp2_with fail
  refine ca.out.mono ?_
  rintro e w1 ⟨rfl, b1⟩
  have B1 := hide b1
  clear b1 ca
  by_cases h0 : 30 < len0
  · have i0 : (30 : Int) < (len0 : Int) := by omega
    clear h0
    go_wp2
    go_ret
    exact ⟨rfl, B1.out⟩
  · have i0 : ¬ (30 : Int) < (len0 : Int) := by omega
    go_wp2_with fail
    go_loopg [7] len0 (fun kx s7 wr => ∃ i : Nat, s7 = .int .i64 i ∧ i ≤ len0 ∧ len0 - i ≤ kx ∧ Hid ((z0.take i).all It.good = true ∧ Below w.heap.size w wr))
    case atStart => exact ⟨0, rfl, Nat.zero_le _, by omega, by simp, B1.out⟩
    case round =>
      clear B1
      obtain ⟨i, rfl, hin, hg, I⟩ := hrel
      by_cases hlt : i < len0
      · have hlt2 : (i : Int) < (len0 : Int) := by omega
        obtain ⟨x, hx⟩ : ∃ x, z0[i]? = some x := ⟨_, List.getElem?_eq_getElem (by rw [← HA.out.1.len]; exact hlt)⟩
        obtain ⟨b, o, rfl, hb, hc⟩ := HA.out.1.cell i x hx
        have hc' := hc.below I.out.2 hb
        have c0 := hc'.c0
        have c1 := hc'.c1
        have c2 := hc'.c2
        have c3 := hc'.c3
        have c4 := hc'.c4
        have hbw : b < wr.heap.size := Nat.lt_of_lt_of_le hb I.out.2.size
        have cg := hide (refGood_any (txt x.key) (txt x.value) x.flags x.exp x.ver)
        rw [← x.good_mayBe] at cg
        unfold itV at cg
        have AT := hide (all_take_succ z0 i x hx)
        clear hc hc' hx
        cases hgx : x.good with
        | true =>
          rw [hgx] at cg AT
          clear hgx
          go_wp2_with (go_at_call 19; refine (cg.out _).mono ?_; rintro r w2 ⟨rfl, b2⟩; have B2 := hide b2; clear b2)
          go_roundg (len0 - (i + 1))
          case measure => omega
          case rel => exact ⟨i + 1, rfl, by omega, by omega, by rw [AT.out, I.out.1]; rfl, I.out.2.trans (B2.out.mono I.out.2.size)⟩
        | false =>
          rw [hgx] at cg
          clear hgx AT
          go_wp2_with (go_at_call 19; refine (cg.out _).mono ?_; rintro r w2 ⟨rfl, b2⟩; have B2 := hide b2; clear b2)
          go_ret
          exact ⟨rfl, I.out.2.trans (B2.out.mono I.out.2.size)⟩
      · obtain rfl : i = len0 := by omega
        have hlt2 : ¬ (i : Int) < (i : Int) := by omega
        have hg0 : z0.all It.good = true := by
          have := I.out.1
          rw [HA.out.1.len, List.take_length] at this
          exact this
        have cN := hide (new_lw I.out.2 60 (by omega) (by omega))
        have HG := hide hg0
        clear I hg hg0
        go_wp2_with fail
        refine cN.out.mono ?_
        rintro e w2 ⟨d, F2, rfl, L2⟩
        have cA := hide (arm_lw L2 a1 HK.out)
        clear cN L2
        go_wp2_with fail
        refine cA.out.mono ?_
        rintro e w3 ⟨rfl, L3⟩
        clear cA
        rcases dump_armL L3 rfl (show _ = 60 from fresh_len 60) 0 60 (by omega) (by omega) a0 i cap0 z0 (by omega) HA.out.2 (HA.out.1.below L3.bel) HG.out with ⟨S4, hst, hsl, hnn, cD⟩ | ⟨S4, cD⟩
        · have CD := hide cD
          have hb : dmpB ((60 : Nat) : Int) z0 = encs (z0.take (dmpN ((60 : Nat) : Int) z0)) := rfl
          have hlen0 := HA.out.1.len
          have ht : (z0.take (dmpN ((60 : Nat) : Int) z0)).length = dmpN ((60 : Nat) : Int) z0 := by rw [List.length_take]; omega
          have hit := its_take HA.out.1.fits HG.out (dmpN ((60 : Nat) : Int) z0)
          have cLo : Hid (∀ (w4 : World) (F4 : List Nat), Lw w w4 d F4 (S4.crash z2).on → Calls Try.prog 12 #[.pointer (some ⟨d, 0, none⟩), .int .i64 ((0 : Nat) : Int), .int .i64 (pgsN (dmpB ((60 : Nat) : Int) z0).length : Nat)] w4 fun e w' => ∃ a c', e = .returned (.tuple #[.slice a (dmpN ((60 : Nat) : Int) z0) c', .int .i64 0]) ∧ RawAt w' a (dmpN ((60 : Nat) : Int) z0) (z0.take (dmpN ((60 : Nat) : Int) z0)) ∧ ∃ S' F', Lw w w' d F' S') := fun w4 F4 L4 => by
            refine (load_goodL L4 0 _ _ (hst.past hsl) hb hit).mono ?_
            rintro e w' ⟨a, c', rfl, h1, _, S', _, h2⟩
            rw [ht] at h1
            exact ⟨a, c', by rw [ht], h1, S', F4, h2⟩
          have hnl : dmpN ((60 : Nat) : Int) z0 ≤ i := by omega
          clear cD L3 hst hsl hb ht hit hnn hlen0
          generalize pgsN (dmpB ((60 : Nat) : Int) z0).length = pp at *
          generalize dmpN ((60 : Nat) : Int) z0 = nn at *
          have hni : (nn : Int) ≤ (i : Int) := by omega
          have hnc : nn ≤ cap0 := by have := HA.out.2; omega
          have HNL := hide hnl
          clear hnl
          go_wp2_with fail
          refine CD.out.mono ?_
          rintro e w4 ⟨rfl, F4, L4⟩
          have cC := hide (crash_l0 L4 a2 len2 cap2 z2 (by have := HB.out.2.2; omega) HB.out.1)
          clear CD L4
          go_wp2_with fail
          refine cC.out.mono ?_
          rintro e w5 ⟨rfl, F5, L5⟩
          have cO := hide (on_lw L5)
          clear cC L5
          go_wp2_with fail
          refine cO.out.mono ?_
          rintro e w6 ⟨rfl, F6, L6⟩
          have cL := hide (cLo.out w6 F6 L6)
          clear cO L6 cLo
          go_wp2_with fail
          refine cL.out.mono ?_
          rintro e w7 ⟨a7, c7, rfl, hr7, S7, F7, L7⟩
          have cI := hide (items_same a7 a0 nn c7 cap0 (z0.take nn) (by omega) w7 hr7 ((HA.out.1.take nn HNL.out).below L7.bel))
          have HL := hide L7
          clear cL hr7 L7
          go_wp2_with fail
          refine cI.out.mono ?_
          rintro e w8 ⟨rfl, b8⟩
          have HL8 := hide (HL.out.below b8)
          clear b8 cI
          go_wp2
          go_ret
          exact ⟨rfl, HL8.out.bel⟩
        · have CD := hide cD
          clear cD L3
          go_wp2_with fail
          refine CD.out.mono ?_
          rintro e w4 ⟨rfl, F4, L4⟩
          have cC := hide (crash_l0 L4 a2 len2 cap2 z2 (by have := HB.out.2.2; omega) HB.out.1)
          clear CD L4
          go_wp2_with fail
          refine cC.out.mono ?_
          rintro e w5 ⟨rfl, F5, L5⟩
          have cO := hide (on_lw L5)
          clear cC L5
          go_wp2_with fail
          refine cO.out.mono ?_
          rintro e w6 ⟨rfl, F6, L6⟩
          have HL8 := hide L6
          clear cO L6
          go_wp2
          go_ret
          exact ⟨rfl, HL8.out.bel⟩
end Go.Proofs.Ytogloojbmllmeaa.imageLasts
