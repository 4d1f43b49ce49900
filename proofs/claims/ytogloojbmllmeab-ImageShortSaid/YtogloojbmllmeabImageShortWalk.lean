/-
  ImageShort holds for every input.
-/
import Derived.WalkKit
import Derived.Below
import Derived.Test.YtogloojbmllmeabSr
namespace Go.Proofs.Ytogloojbmllmeab.imageShort
open Go.RowKit Go.Deep Math
set_option linter.unusedVariables false
set_option linter.unusedSimpArgs false

set_option maxRecDepth 8000 in
set_option maxHeartbeats 40000000 in
theorem walk (a0 : Option Addr) (len0 cap0 : Nat) (z0 : List It) (a1 : Option Addr) (len1 cap1 : Nat) (z1 : List It) (w : World) (hw0 : RawAt w a0 len0 z0 ∧ len0 ≤ cap0) (hw1 : RawAt w a1 len1 z1 ∧ len1 ≤ cap1) :
    Calls Try.prog 3 #[.slice a0 len0 cap0, .slice a1 len1 cap1] w fun e w' => e = .returned (.bool true) ∧ Below w.heap.size w w' := by
  have ca := hide (awake_any w)
  have HA := hide hw0
  have HB := hide hw1
  clear hw0 hw1
  go_enter Try.func3, Try.ntmps3
  go_wp2_with fail
  refine ca.out.mono ?_
  rintro e w1 ⟨rfl, b1⟩
  have B1 := hide b1
  clear b1 ca
  by_cases h1 : len0 < 1
  · have i1 : (len0 : Int) < 1 := by omega
    clear h1
    go_wp2
    go_ret
    exact ⟨rfl, B1.out⟩
  have i1 : ¬ (len0 : Int) < 1 := by omega
  by_cases h2 : 8 < len0
  · have i2 : (8 : Int) < (len0 : Int) := by omega
    clear h1 h2
    go_wp2
    go_ret
    exact ⟨rfl, B1.out⟩
  have i2 : ¬ (8 : Int) < (len0 : Int) := by omega
  by_cases h3 : len1 < 1
  · have i3 : (len1 : Int) < 1 := by omega
    clear h1 h2 h3
    go_wp2
    go_ret
    exact ⟨rfl, B1.out⟩
  have i3 : ¬ (len1 : Int) < 1 := by omega
  by_cases h4 : 8 < len1
  · have i4 : (8 : Int) < (len1 : Int) := by omega
    clear h1 h2 h3 h4
    go_wp2
    go_ret
    exact ⟨rfl, B1.out⟩
  have i4 : ¬ (8 : Int) < (len1 : Int) := by omega
  have HN := hide (And.intro h2 h4)
  clear h1 h2 h3 h4
  have cN := hide (new_lw B1.out 20 (by omega) (by omega))
  go_wp2_with fail
  refine cN.out.mono ?_
  rintro e w2 ⟨d, F2, rfl, L2⟩
  clear cN
  have n0 : len0 ≤ 8 := by have := HN.out; omega
  have n1 : len1 ≤ 8 := by have := HN.out; omega
  cases hg0 : z0.all It.good with
  | false =>
    have cD := hide (dump_badL L2 0 1 (by omega) a0 len0 cap0 z0 (by omega) HA.out.2 (HA.out.1.below L2.bel) hg0)
    clear L2
    go_wp2_with fail
    refine cD.out.mono ?_
    rintro e w3 ⟨rfl, F3, L3⟩
    clear cD
    cases hg1 : z1.all It.good with
    | false =>
      have cE := hide (dump_badL L3 10 1 (by omega) a1 len1 cap1 z1 (by omega) HB.out.2 (HB.out.1.below L3.bel) hg1)
      clear L3
      go_wp2_with fail
      refine cE.out.mono ?_
      rintro e w4 ⟨rfl, F4, L4⟩
      have HL := hide L4
      clear cE L4
      go_wp2
      go_ret
      exact ⟨rfl, HL.out.bel⟩
    | true =>
      obtain ⟨S4, hDu, hC4, hst, cE⟩ := dump_goodL L3 (calm_fresh 20) 10 1 (by omega) (by omega) a1 len1 cap1 z1 (by omega) HB.out.2 (HB.out.1.below L3.bel) hg1
      have CE := hide cE
      clear cE L3 hDu hC4 hst
      generalize pgsN (dmpB ((1 : Nat) : Int) z1).length = pp at *
      generalize dmpN ((1 : Nat) : Int) z1 = nn at *
      go_wp2_with fail
      refine CE.out.mono ?_
      rintro e w4 ⟨rfl, F4, L4⟩
      have HL := hide L4
      clear CE L4
      go_wp2
      go_ret
      exact ⟨rfl, HL.out.bel⟩
  | true =>
    obtain ⟨S3, hDu0, hC3, hst0, cD⟩ := dump_goodL L2 (calm_fresh 20) 0 1 (by omega) (by omega) a0 len0 cap0 z0 (by omega) HA.out.2 (HA.out.1.below L2.bel) hg0
    have CD := hide cD
    have hnle0 := hDu0.nle
    have hpg0 := hst0.pgs 0
    have ec0 : dmpB ((1 : Nat) : Int) z0 = encs (z0.take (dmpN ((1 : Nat) : Int) z0)) := rfl
    have el0 := encs_length (z0.take (dmpN ((1 : Nat) : Int) z0))
    rw [← ec0] at el0
    clear cD L2 hDu0 hst0
    generalize dmpB ((1 : Nat) : Int) z0 = c1 at *
    generalize dmpN ((1 : Nat) : Int) z0 = nn at *
    obtain ⟨pp, hpp⟩ : ∃ pp, pp = pgsN c1.length := ⟨_, rfl⟩
    rw [← hpp] at CD hpg0
    have H0 := hide (And.intro hpp (And.intro hpg0 (And.intro ec0 (And.intro el0 hnle0))))
    have HG0 := hide hg0
    clear hpp hpg0 ec0 el0 hnle0 hg0
    go_wp2_with fail
    refine CD.out.mono ?_
    rintro e w3 ⟨rfl, F3, L3⟩
    clear CD
    cases hg1 : z1.all It.good with
    | false =>
      have cE := hide (dump_badL L3 10 1 (by omega) a1 len1 cap1 z1 (by omega) HB.out.2 (HB.out.1.below L3.bel) hg1)
      clear L3
      go_wp2_with fail
      refine cE.out.mono ?_
      rintro e w4 ⟨rfl, F4, L4⟩
      have HL := hide L4
      clear cE L4 hC3
      go_wp2
      go_ret
      exact ⟨rfl, HL.out.bel⟩
    | true =>
      obtain ⟨S4, hDu1, hC4, hst1, cE⟩ := dump_goodL L3 hC3 10 1 (by omega) (by omega) a1 len1 cap1 z1 (by omega) HB.out.2 (HB.out.1.below L3.bel) hg1
      have CE := hide cE
      have hnle1 := hDu1.nle
      have hpg1 := hst1.pgs 0
      have hoth := hDu1.w.oth 0 (.inl (by omega))
      have ec1 : dmpB ((1 : Nat) : Int) z1 = encs (z1.take (dmpN ((1 : Nat) : Int) z1)) := rfl
      clear cE L3 hDu1 hst1
      generalize dmpB ((1 : Nat) : Int) z1 = c2 at *
      generalize dmpN ((1 : Nat) : Int) z1 = mm at *
      obtain ⟨qq, hqq⟩ : ∃ qq, qq = pgsN c2.length := ⟨_, rfl⟩
      rw [← hqq] at CE hpg1
      have H1 := hide (And.intro hqq (And.intro hpg1 (And.intro hoth (And.intro ec1 (And.intro hnle1 hC4)))))
      have HG1 := hide hg1
      clear hqq hpg1 hoth ec1 hnle1 hg1 hC3 hC4
      by_cases hp1 : pp = 1
      · subst hp1
        by_cases hq1 : qq = 1
        · subst hq1
          go_wp2_with fail
          refine CE.out.mono ?_
          rintro e w4 ⟨rfl, F4, L4⟩
          clear CE
          have hc1 : c1.length ≤ 376 := by have := H0.out.1; unfold pgsN at this; omega
          have hc2 : c2.length ≤ 376 := by have := H1.out.1; unfold pgsN at this; omega
          have hnl : nn ≤ len0 := by have := H0.out.2.2.2.2; rw [← HA.out.1.len] at this; exact this
          have HC := hide (And.intro hc1 (And.intro hc2 hnl))
          have HL4 := hide L4
          clear hc1 hc2 L4 n1
          go_wp2_with fail
          go_loopg [13, 14] nn (fun kx s13 s14 wr => ∃ (i tot : Nat), s14 = .int .i64 i ∧ s13 = .int .i64 tot ∧ i ≤ nn ∧ nn - i ≤ kx ∧ tot ≤ 1306 * i ∧ Hid (tot = total (z0.take i) ∧ Lw w wr d F4 S4))
          case atStart => exact ⟨0, 0, rfl, rfl, Nat.zero_le _, by omega, by omega, by simp [total], HL4.out⟩
          case round =>
            clear HL4
            obtain ⟨i, tot, rfl, rfl, hin, hg, htt, I⟩ := hrel
            by_cases hlt : i < nn
            · have hlt2 : (i : Int) < (nn : Int) := by omega
              have hlt3 : i < len0 := by omega
              have hlt4 : (i : Int) < (len0 : Int) := by omega
              obtain ⟨x, hx⟩ : ∃ x, z0[i]? = some x := ⟨_, List.getElem?_eq_getElem (by rw [← HA.out.1.len]; exact hlt3)⟩
              obtain ⟨b, o, rfl, hb, hc⟩ := HA.out.1.cell i x hx
              have hc' := hc.below I.out.2.bel hb
              have c0 := hc'.c0
              have c1' := hc'.c1
              have hbw : b < wr.heap.size := Nat.lt_of_lt_of_le hb I.out.2.bel.size
              have hgx : x.good = true := List.all_eq_true.1 HG0.out x (List.mem_of_getElem? hx)
              have hz := (It.good_iff x).1 hgx
              have TS := hide (total_take_succ z0 i x hx)
              have hkb : (txt x.key).size = x.key.length := txt_size _
              have hvb : (txt x.value).size = x.value.length := txt_size _
              have esz : x.size = 32 + x.key.length + x.value.length := rfl
              generalize txt x.key = kb at *
              generalize txt x.value = vb at *
              have hki : (kb.size : Int) ≤ 250 := by omega
              have hvi : (vb.size : Int) ≤ 1024 := by omega
              have hti : (tot : Int) ≤ 10448 := by omega
              have HZ := hide (And.intro hz (And.intro hkb (And.intro hvb esz)))
              have FF := hide (And.intro c0 c1')
              have HTT := hide htt
              clear hc hc' hx hgx hz hkb hvb esz htt hlt3
              go_wp2_with fail
              go_region_held (fun W => W.cell? ⟨b, o + i * 5, none⟩ = some (.string kb) ∧ W.cell? ⟨b, o + i * 5 + 1, none⟩ = some (.string vb))
                (exact FF.out)
                (fail)
              all_goals go_wp2
              all_goals go_roundg (nn - (i + 1))
              case measure => omega
              case rel =>
                have hh := HZ.out
                have ht := HTT.out
                exact ⟨i + 1, tot + x.size, rfl, by rw [sum_wrap tot kb.size vb.size x.size (by omega) (by omega) (by omega) (by omega)], by omega, by omega, by omega, by rw [TS.out, I.out.1], I.out.2.below (Below.refl _ _).drew⟩
            · obtain rfl : i = nn := by omega
              have hlt2 : ¬ (i : Int) < (i : Int) := by omega
              have hsum : tot = c1.length := by rw [I.out.1, H0.out.2.2.2.1]
              subst hsum
              have hpg := H1.out.2.1 (by omega)
              rw [Nat.add_zero, partI_whole c2 HC.out.2.1] at hpg
              have cR := read_lw I.out.2 10 _ H1.out.2.2.2.2.2.off hpg
              rw [text_page 0 c2 HC.out.2.1] at cR
              have CR := hide cR
              have hpz := H0.out.2.1 (by omega)
              rw [Nat.add_zero, partI_whole c1 HC.out.1] at hpz
              have hpz4 : S4.pg 0 = some (.whole ⟨(pageI 0 c1).toArray⟩) := by rw [H1.out.2.2.1]; exact hpz
              have HP := hide hpz4
              have him := imP_page 1 c2 HC.out.2.1 (by omega)
              rw [← page_one] at him
              have HI := hide him
              clear cR I hg hpg hpz hpz4 him
              generalize [73, 77] ++ (low c2.length 2 ++ (low 0 4 ++ (c2 ++ List.replicate (376 - c2.length) 0))) = l at *
              go_wp2_with fail
              refine CR.out.mono ?_
              rintro e w5 ⟨g, rfl, hb5, hl5, hg5, hn5, S5, hS5, L5⟩
              clear CR
              have c4 := hb5.cell (i := 4) (bget l 4 hl5 (by omega))
              have f4 := hb5.frozen 4
              have hgw := hb5.lt
              obtain ⟨L6, hb6⟩ := poke L5 hb5 hg5 hn5 4 1
              have hl6 : (l.set 4 1).length = 384 := by rw [List.length_set]; exact hl5
              have cW := hide (write_lw L6 1 g 384 384 _ (blk_bs hb6 hl6) hg5)
              have hC5 := H1.out.2.2.2.2.2.like hS5
              have hB := hide (both_of hC5 (by omega) c1 c2 HC.out.1 HC.out.2.1 (by have := HP.out; unfold Dv.pg at this ⊢; rw [hS5.cs]; exact this) _ hl6 HI.out)
              clear L5 hb5 hl5 hg5 hn5 hS5 L6 hb6 hl6 hC5
              go_wp2_with fail
              refine cW.out.mono ?_
              rintro e w7 ⟨rfl, F7, L7⟩
              clear cW c4 f4 hgw
              by_cases hsh : c1.length < 376
              · have hshi : (c1.length : Int) < 376 := by omega
                have cL := hide (load_badL L7 0 2 (by omega) (hB.out.short hsh))
                clear L7 hsh
                go_wp2_with fail
                refine cL.out.mono ?_
                rintro e w8 ⟨a8, c8, rfl, S8, hl8, L8⟩
                have HL := hide L8
                clear cL hl8 L8
                go_wp2
                go_ret
                exact ⟨rfl, HL.out.bel⟩
              · have hshi : ¬ (c1.length : Int) < 376 := by omega
                have hys : c1 ++ c2 = encs (z0.take i ++ z1.take mm) := by rw [encs_append, ← H0.out.2.2.1, ← H1.out.2.2.2.1]
                obtain ⟨q1, q2⟩ := hB.out.whole hsh (z0.take i ++ z1.take mm) hys (fun x hx => by
                  rcases List.mem_append.1 hx with h | h
                  · exact its_take HA.out.1.fits HG0.out i x h
                  · exact its_take HB.out.1.fits HG1.out mm x h)
                have cL := load_lw L7 ((0 : Nat) : Int) ((2 : Nat) : Int) (by omega) (by
                  rw [q2]
                  intro x hx
                  rcases List.mem_append.1 hx with h | h
                  · exact (its_take HA.out.1.fits HG0.out i x h).1
                  · exact (its_take HB.out.1.fits HG1.out mm x h).1)
                rw [q1, q2] at cL
                have hmm : mm ≤ len1 := by have := H1.out.2.2.2.2.1; rw [← HB.out.1.len] at this; exact this
                have hlq : (z0.take i ++ z1.take mm).length = i + mm := by
                  rw [List.length_append, List.length_take, List.length_take, ← HA.out.1.len, ← HB.out.1.len]
                  have := HC.out.2.2
                  omega
                rw [hlq] at cL
                have CL := hide cL
                clear cL L7 hsh q1 q2 hys hlq
                go_wp2_with fail
                refine CL.out.mono ?_
                rintro e w8 ⟨a8, c8, rfl, hr8, hc8, S8, hl8, L8⟩
                have hi8 : i ≤ 8 := by have := HC.out.2.2; omega
                have hm8 : mm ≤ 8 := by have := HN.out.2; omega
                have hip : 0 < i := by
                  rcases Nat.eq_zero_or_pos i with h | h
                  · have e := H0.out.2.2.1
                    rw [h, List.take_zero] at e
                    have : c1.length = 0 := by rw [e]; rfl
                    omega
                  · exact h
                have hmp : 0 < mm := by
                  rcases Nat.eq_zero_or_pos mm with h | h
                  · have e := H1.out.2.2.2.1
                    rw [h, List.take_zero] at e
                    have e2 := H1.out.1
                    rw [e] at e2
                    exact absurd e2 (by decide)
                  · exact h
                have hr0 := (HA.out.1.take i HC.out.2.2).below L8.bel
                have hr1 := (HB.out.1.take mm hmm).below L8.bel
                obtain ⟨x0, hx0⟩ : ∃ x, (z0.take i)[0]? = some x := ⟨_, List.getElem?_eq_getElem (by rw [← hr0.len]; exact hip)⟩
                obtain ⟨x1, hx1⟩ : ∃ x, (z1.take mm)[0]? = some x := ⟨_, List.getElem?_eq_getElem (by rw [← hr1.len]; exact hmp)⟩
                obtain ⟨b0, o0, rfl, _, _⟩ := hr0.cell 0 x0 hx0
                obtain ⟨b1, o1, rfl, _, _⟩ := hr1.cell 0 x1 hx1
                have hmc : mm ≤ cap1 := by have := HB.out.2; omega
                have hic : i ≤ cap0 := by have := HA.out.2; have := HC.out.2.2; omega
                have hii : (i : Int) ≤ (len0 : Int) := by have := HC.out.2.2; omega
                have hmi : (mm : Int) ≤ (len1 : Int) := by omega
                have HL := hide L8
                have HR := hide hr8
                have HR0 := hide hr0
                have HR1 := hide hr1
                have HQ := hide (And.intro hi8 (And.intro hm8 (And.intro hip hmp)))
                clear CL hl8 L8 hr8 hr0 hr1 hx0 hx1 hi8 hm8 hip hmp hmm
                generalize z0.take i = xs0 at *
                generalize z1.take mm = xs1 at *
                go_wp2_with fail
                go_region_held3 (fun W => True) (trivial) ((first
                  | (refine step_app1 (by rfl) (.tmp 133) (.tmp 136) rfl rfl rfl HQ.out.2.2.1 HQ.out.1 rfl rfl HR0.out (fun g9 cap9 w9 hown9 hb9 => ?_))
                  | (refine step_app2 (by rfl) (.tmp 137) (.tmp 140) rfl rfl rfl HQ.out.1 HQ.out.2.2.2 HQ.out.2.1 hb9.size hown9 (HR1.out.below hb9) (fun g10 cap10 w10 hown10 hb10 => ?_))
                  | (go_at_call 10; refine (items_same2 HR.out (hb9.trans hb10) hown10 (by have := HQ.out; omega)).mono ?_; rintro e w11 ⟨rfl, b11⟩)))
                all_goals trace_state
                all_goals go_wp2
                all_goals go_ret
                all_goals exact ⟨rfl, HL.out.bel.trans (((hb9.trans hb10).trans b11).mono HL.out.bel.size)⟩
        · have hqi : ((qq : Int) = 1) = False := eq_false (by omega)
          have hqn : ((qq : Int) != 1) = true := by simp only [bne_iff_ne, ne_eq]; omega
          clear hq1
          go_wp2_with fail
          refine CE.out.mono ?_
          rintro e w4 ⟨rfl, F4, L4⟩
          have HL := hide L4
          clear CE L4
          go_wp2
          go_ret
          exact ⟨rfl, HL.out.bel⟩
      · have hpi : ((pp : Int) = 1) = False := eq_false (by omega)
        clear hp1
        go_wp2_with fail
        refine CE.out.mono ?_
        rintro e w4 ⟨rfl, F4, L4⟩
        have HL := hide L4
        clear CE L4
        go_wp2
        go_ret
        exact ⟨rfl, HL.out.bel⟩
end Go.Proofs.Ytogloojbmllmeab.imageShort
