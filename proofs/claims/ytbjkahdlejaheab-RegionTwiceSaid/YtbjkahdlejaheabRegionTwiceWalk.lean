/-
  Behind two Seals that the power cut off an opened log tells nothing that it did not tell between, but what was put since: for every input the call returns true; no condition.
-/
import Derived.WalkKit
import Derived.Below
import Derived.Test.YtbjkahdlejaheabRp9
import Derived.Test.YtbjkahdlejaheabBy9
import Derived.Test.YtbjkahdlejaheabRItems
import Derived.Test.YtbjkahdlejaheabRRow
namespace Go.Proofs.Ytbjkahdlejaheab.regionTwice
open Go.RowKit Go.Deep Math
set_option linter.unusedVariables false
set_option linter.unusedSimpArgs false

theorem ite_items (z y : It) (w' : World) : (if (txt z.key).toList = (txt y.key).toList then if (txt z.value).toList = (txt y.value).toList then if (z.flags : Int) = (y.flags : Int) then if z.exp = y.exp then if (z.ver : Int) = (y.ver : Int) then Result.ok (Next.value (Value.bool true)) w' else Result.ok (Next.value (Value.bool false)) w' else Result.ok (Next.value (Value.bool false)) w' else Result.ok (Next.value (Value.bool false)) w' else Result.ok (Next.value (Value.bool false)) w' else Result.ok (Next.value (Value.bool false)) w') = Result.ok (Next.value (Value.bool (itEq z y))) w' := by
  by_cases hzy : z = y
  · subst hzy; simp [itEq_self]
  · rw [itEq_ne hzy]
    by_cases h1 : (txt z.key).toList = (txt y.key).toList
    · by_cases h2 : (txt z.value).toList = (txt y.value).toList
      · by_cases h3 : (z.flags : Int) = (y.flags : Int)
        · by_cases h4 : z.exp = y.exp
          · by_cases h5 : (z.ver : Int) = (y.ver : Int)
            · exfalso
              apply hzy
              rw [txt_list, txt_list] at h1 h2
              obtain ⟨a, b, c, d, e⟩ := z
              obtain ⟨a', b', c', d', e'⟩ := y
              simp only at h1 h2 h3 h4 h5
              have h3' : c = c' := by omega
              have h5' : e = e' := by omega
              rw [h1, h2, h3', h4, h5']
            · rw [if_pos h1, if_pos h2, if_pos h3, if_pos h4, if_neg h5]
          · rw [if_pos h1, if_pos h2, if_pos h3, if_neg h4]
        · rw [if_pos h1, if_pos h2, if_neg h3]
      · rw [if_pos h1, if_neg h2]
    · rw [if_neg h1]
theorem below_drew (w : World) : Below w.heap.size w { w with drawn := w.drawn + 1 } := ⟨rfl, rfl, rfl, Nat.le_refl _, fun _ _ => rfl⟩
set_option maxRecDepth 8000 in
set_option maxHeartbeats 40000000 in
theorem walk (a0 : Int) (a1 : Option Addr) (len1 cap1 : Nat) (z1 : List It) (a2 : Int) (a3 : Option Addr) (len3 cap3 : Nat) (z3 : List UInt8) (a4 : Option Addr) (len4 cap4 : Nat) (z4 : List It) (a5 : Int) (a6 : Option Addr) (len6 cap6 : Nat) (z6 : List UInt8) (w : World) (hw0 : (Lit.int .i64 a0).wf = true) (hw1 : RawAt w a1 len1 z1) (hw2 : (Lit.int .i64 a2).wf = true) (hw3 : BS w a3 len3 cap3 z3 ∧ (a3 = none → z3 = []) ∧ len3 ≤ 140737488351232) (hw4 : RawAt w a4 len4 z4) (hw5 : (Lit.int .i64 a5).wf = true) (hw6 : BS w a6 len6 cap6 z6 ∧ (a6 = none → z6 = []) ∧ len6 ≤ 140737488351232) :
    Calls Try.prog 6 #[.int .i64 a0, .slice a1 len1 cap1, .int .i64 a2, .slice a3 len3 cap3, .slice a4 len4 cap4, .int .i64 a5, .slice a6 len6 cap6] w fun e w' => e = .returned (.bool true) ∧ Below w.heap.size w w' := by
  have ca := hide (awake_any w)
  have HP3 := hide hw3
  have HP6 := hide hw6
  have HW := hide hw1
  have HLEN := hide hw1.len
  have HW4 := hide hw4
  have HLEN4 := hide hw4.len
  have ha2 : a2 ≤ 9223372036854775807 := by
    have h1 : IntKind.i64.max = 9223372036854775807 := rfl
    simp [Lit.wf, h1] at hw2
    omega
  have ha5 : a5 ≤ 9223372036854775807 := by
    have h1 : IntKind.i64.max = 9223372036854775807 := rfl
    simp [Lit.wf, h1] at hw5
    omega
  have HA2 := hide ha2
  have HA5 := hide ha5
  clear hw0 hw1 hw2 hw3 hw4 hw5 hw6 ha2 ha5
  by_cases hpre : a0 < 1 ∨ 3 < a0 ∨ 15 < len1 ∨ 15 < len4
  · go_enter Try.func6, Try.ntmps6
    by_cases q0 : a0 < 1
    · have e1' : (a0 < 1) = True := eq_true (by omega)
      clear hpre q0
      go_wp2_with fail
      refine ca.out.mono ?_
      rintro r w1 ⟨rfl, h1⟩
      have B1 := hide h1
      clear h1 ca
      go_wp2
      go_ret
      exact ⟨rfl, B1.out⟩
    have e1' : (a0 < 1) = False := eq_false (by omega)
    by_cases q1 : 3 < a0
    · have e2' : (3 < a0) = True := eq_true (by omega)
      clear hpre q0 q1
      go_wp2_with fail
      refine ca.out.mono ?_
      rintro r w1 ⟨rfl, h1⟩
      have B1 := hide h1
      clear h1 ca
      go_wp2
      go_ret
      exact ⟨rfl, B1.out⟩
    have e2' : (3 < a0) = False := eq_false (by omega)
    by_cases q2 : 15 < len1
    · have e3' : ((15 : Int) < (len1 : Int)) = True := eq_true (by omega)
      clear hpre q0 q1 q2
      go_wp2_with fail
      refine ca.out.mono ?_
      rintro r w1 ⟨rfl, h1⟩
      have B1 := hide h1
      clear h1 ca
      go_wp2
      go_ret
      exact ⟨rfl, B1.out⟩
    have e3' : ((15 : Int) < (len1 : Int)) = False := eq_false (by omega)
    have e4' : ((15 : Int) < (len4 : Int)) = True := eq_true (by omega)
    clear hpre q0 q1 q2
    go_wp2_with fail
    refine ca.out.mono ?_
    rintro r w1 ⟨rfl, h1⟩
    have B1 := hide h1
    clear h1 ca
    go_wp2
    go_ret
    exact ⟨rfl, B1.out⟩
  obtain ⟨R, rfl⟩ : ∃ n : Nat, a0 = (n : Int) := ⟨a0.toNat, by omega⟩
  have e1' : ((R : Int) < 1) = False := eq_false (by omega)
  have e2' : (3 < (R : Int)) = False := eq_false (by omega)
  have e3' : ((15 : Int) < (len1 : Int)) = False := eq_false (by omega)
  have e4' : ((15 : Int) < (len4 : Int)) = False := eq_false (by omega)
  have HN : Hid (1 ≤ R ∧ R ≤ 3) := ⟨by omega, by omega⟩
  have hl15 : len1 ≤ 15 := by omega
  have hm15 : len4 ≤ 15 := by omega
  clear hpre
  go_enter Try.func6, Try.ntmps6
  go_wp2_with fail
  refine ca.out.mono ?_
  rintro r w1 ⟨rfl, h1⟩
  have B1 := hide h1
  clear h1 ca
  have cN := hide (new_law B1.out 12 (by omega) (by omega))
  go_wp2_with fail
  refine cN.out.mono ?_
  rintro e w2 ⟨d, F2, rfl, hl2, _⟩
  have cO := hide (open_new hl2 0 R HN.out.1 (by have := HN.out; omega) (by have := HN.out; omega))
  clear hl2 cN e1' e2' e3' e4' B1
  go_wp2_with fail
  refine cO.out.mono ?_
  rintro e w4 ⟨l, m, v5, T, S, rfl, G4, hN, _⟩
  have A4 : Hid (Al R 0 z1 [] S T) := hN.al (by have := HN.out; omega)
  have cA := hide (arm_lg G4 a2 HA2.out)
  clear cO G4 hN
  go_wp2_with fail
  refine cA.out.mono ?_
  rintro e w5 ⟨rfl, G5⟩
  have U5 : Hid (PpPost w [] w d l m R 0 z1 [] w5) := ⟨_, _, _, _, _, _, G5, .inl (A4.out.arm a2), fun q hq => by cases hq⟩
  clear cA G5 A4
  go_wp2_with fail
  go_loopg [19] len1 (fun kx s19 wr => ∃ i : Nat, s19 = .int .i64 i ∧ i ≤ len1 ∧ len1 - i ≤ kx ∧ Hid (PpPost w [] w d l m R i z1 [] wr))
  case atStart => exact ⟨0, rfl, Nat.zero_le _, by omega, U5.out⟩
  case round =>
    obtain ⟨i, rfl, hin, hg, I⟩ := hrel
    obtain ⟨v5, v6, v7, F, S, T, hG, hS, hQ⟩ := I.out
    have G := hide hG
    have HS := hide hS
    have HQ := hide hQ
    clear I hG hS hQ U5
    by_cases hlt : i < len1
    · have hlt2 : (i : Int) < (len1 : Int) := by omega
      obtain ⟨x, hx⟩ : ∃ x, z1[i]? = some x := ⟨_, List.getElem?_eq_getElem (by rw [← HLEN.out]; exact hlt)⟩
      have HXF := hide (HW.out.fits x (List.mem_of_getElem? hx))
      have HXM := hide (List.mem_of_getElem? hx)
      obtain ⟨b, o, rfl, hb, hc⟩ := HW.out.cell i x hx
      have XW : Hid (∀ w', Below w.heap.size w w' → OneIt w' b (o + i * 5) x) := fun w' hb' => hc.below hb' hb
      clear hx hb hc
      obtain ⟨c0, c1, c2, c3, c4⟩ := (XW.out wr G.out.bel).vals
      have cP := hide (put_pp G.out HS.out HQ.out HN.out.1 (by have := HN.out; omega) (by omega) x HXF.out HXM.out)
      rw [show x.val = .agg #[.string (txt x.key), .string (txt x.value), .int .u32 x.flags, .int .i64 x.exp, .int .u64 x.ver] from rfl] at cP
      go_wp2_with fail
      refine cP.out.mono ?_
      rintro e w6 ⟨⟨v, rfl⟩, hpw⟩
      have KE := hide hpw
      clear cP c0 c1 c2 c3 c4 hpw
      go_wp2
      go_roundg (len1 - (i + 1))
      case measure => omega
      case rel => exact ⟨i + 1, rfl, by omega, by omega, KE.out⟩
    · have hil : len1 = i := by omega
      subst hil
      have hlt2 : ¬ (len1 : Int) < (len1 : Int) := by omega
      have cS := hide (seal_pp G.out HS.out HQ.out HN.out.1 (by have := HN.out; omega) (by omega))
      clear hg hin hlt
      go_wp2_with fail
      refine cS.out.mono ?_
      rintro e w6 ⟨⟨vs, rfl⟩, hsp⟩
      obtain ⟨v5, v6, v7, F, S, T, hG, hS, _⟩ := hsp
      have cC := hide (crash_lg hG HP3.out.1 HP3.out.2.1 HP3.out.2.2)
      have HS6 := hide hS
      clear cS G HS HQ hG hS
      go_wp2_with fail
      refine cC.out.mono ?_
      rintro e w7 ⟨rfl, F7, G7, M7⟩
      have cO := hide (on_lg G7)
      clear cC G7 M7
      go_wp2_with fail
      refine cO.out.mono ?_
      rintro e w8 ⟨rfl, F8, G8, M8⟩
      obtain ⟨M, D, hM, hW⟩ := cutM HS6.out z3
      have hW2 : Wk R M z1 [] (S.crash z3).on.cs D := by rw [on_cs]; exact hW
      have cP := hide (open_wk G8 rfl hW2 HN.out.1 (by have := HN.out; omega))
      have HM := hide hM
      have HW2 := hide hW2
      clear cO G8 M8 hM hW hW2 HS6
      go_wp2_with fail
      refine cP.out.mono ?_
      rintro e w9 ⟨l2, m2, u5, T2, S9, rfl, G9, hSL, hO, K9⟩
      have A9 : Hid (Al R 20 z4 D S9 T2) := hO.al2 HW2.out hSL.cs (hSL.off.trans rfl) (by have := HM.out; omega) (by have := HN.out; omega) z4
      have cI := hide (items_log G9.lg (by have := hO.all; have := HN.out; omega) (by have := hO.len; have := HN.out; omega))
      have HO := hide hO
      have H9 := hide G9
      clear cP G9 hO K9 hSL HM HW2
      go_wp2_with fail
      refine cI.out.mono ?_
      rintro e wv ⟨sa, sn, sc, rfl, hsn, hsr, bv⟩
      have GV := hide (H9.out.below bv)
      have SR : Hid (Row wv w.heap.size (.slice sa sn sc) T2.items) := hsr.mono H9.out.bel.size
      have HQV : Hid (Prot wv (Value.slice sa sn sc).ownBlock.toList wv F8 l2 m2 u5 (.slice none 0 0) (.slice none 0 0)) := fun q hq => by
        have hq' : (Value.slice sa sn sc).ownBlock = some q := by simpa using hq
        have h1 := hsr.lt q hq'
        refine ⟨fun hF => ?_, fun hL => ?_, h1.2, rfl⟩
        · have := H9.out.dev.lt q hF; omega
        · have := H9.out.lg.lt q (List.mem_append.2 (.inl hL)); omega
      have HSN := hide hsn
      have hsn200 : sn ≤ 200 := by rw [HSN.out]; have h1 := hadOf_length T2 T2.all; have h2 := HO.out.all; have h3 := HN.out; exact Nat.le_trans h1 (by omega)
      have cA := hide (arm_lg GV.out a5 HA5.out)
      have AMV : Hid (∀ W', LG w W' d F8 (S9.arm a5) l2 m2 u5 (.slice none 0 0) (.slice none 0 0) T2 → True) := fun _ _ => trivial
      clear cI hsn hsr bv H9 AMV
      go_wp2_with fail
      refine (arm_pp GV.out HQV.out a5 HA5.out).mono ?_
      rintro e wb ⟨rfl, GB, hQB⟩
      have UB : Hid (PpPost wv (Value.slice sa sn sc).ownBlock.toList w d l2 m2 R (20 + 0) z4 D wb) := ⟨_, _, _, _, _, _, GB, .inl (A9.out.arm a5), hQB⟩
      clear cA GB hQB HQV GV A9
      go_wp2_with fail
      go_loopg [21] len4 (fun kx s21 wr => ∃ i : Nat, s21 = .int .i64 i ∧ i ≤ len4 ∧ len4 - i ≤ kx ∧ Hid (PpPost wv (Value.slice sa sn sc).ownBlock.toList w d l2 m2 R (20 + i) z4 D wr))
      case atStart => exact ⟨0, rfl, Nat.zero_le _, by omega, UB.out⟩
      case round =>
        obtain ⟨i, rfl, hin, hg, I⟩ := hrel
        obtain ⟨v5, v6, v7, F, S, T, hG, hS, hQ⟩ := I.out
        have G := hide hG
        have HS := hide hS
        have HQ := hide hQ
        clear I hG hS hQ UB
        by_cases hlt : i < len4
        · have hlt3 : (i : Int) < (len4 : Int) := by omega
          obtain ⟨x, hx⟩ : ∃ x, z4[i]? = some x := ⟨_, List.getElem?_eq_getElem (by rw [← HLEN4.out]; exact hlt)⟩
          have HXF := hide (HW4.out.fits x (List.mem_of_getElem? hx))
          have HXM := hide (List.mem_of_getElem? hx)
          obtain ⟨b, o, rfl, hb, hc⟩ := HW4.out.cell i x hx
          have XW : Hid (∀ w', Below w.heap.size w w' → OneIt w' b (o + i * 5) x) := fun w' hb' => hc.below hb' hb
          clear hx hb hc
          obtain ⟨c0, c1, c2, c3, c4⟩ := (XW.out wr G.out.bel).vals
          have cP := hide (put_pp G.out HS.out HQ.out HN.out.1 (by have := HN.out; omega) (by omega) x HXF.out HXM.out)
          rw [show x.val = .agg #[.string (txt x.key), .string (txt x.value), .int .u32 x.flags, .int .i64 x.exp, .int .u64 x.ver] from rfl] at cP
          go_wp2_with fail
          refine cP.out.mono ?_
          rintro e w6 ⟨⟨v, rfl⟩, hpw⟩
          have KE : Hid (PpPost wv (Value.slice sa sn sc).ownBlock.toList w d l2 m2 R (20 + (i + 1)) z4 D w6) := hpw
          clear cP c0 c1 c2 c3 c4 hpw
          go_wp2
          go_roundg (len4 - (i + 1))
          case measure => omega
          case rel => exact ⟨i + 1, rfl, by omega, by omega, KE.out⟩
        · have hil : len4 = i := by omega
          subst hil
          have hlt3 : ¬ (len4 : Int) < (len4 : Int) := by omega
          have cS := hide (seal_pp G.out HS.out HQ.out HN.out.1 (by have := HN.out; omega) (by omega))
          clear hg hin hlt
          go_wp2_with fail
          refine cS.out.mono ?_
          rintro e w6 ⟨⟨vs, rfl⟩, hsp⟩
          obtain ⟨v5, v6, v7, F, S, T, hG, hS, hQ⟩ := hsp
          have cC := hide (crash_lg hG HP6.out.1 HP6.out.2.1 HP6.out.2.2)
          have HS6 := hide hS
          have HQ6 := hide hQ
          clear cS G HS HQ hG hS hQ
          go_wp2_with fail
          refine cC.out.mono ?_
          rintro e w7 ⟨rfl, F7, G7, M7⟩
          have cO := hide (on_lg G7)
          have HQ7 := hide (HQ6.out.moves M7)
          clear cC G7 M7 HQ6
          go_wp2_with fail
          refine cO.out.mono ?_
          rintro e w8 ⟨rfl, F9, G8, M8⟩
          have HQ8 := hide (HQ7.out.moves M8)
          obtain ⟨M, D2, hM, hW⟩ := cutM HS6.out z6
          have hW2 : Wk R M z4 D (S.crash z6).on.cs D2 := by rw [on_cs]; exact hW
          have cP := hide (open_wk G8 rfl hW2 HN.out.1 (by have := HN.out; omega))
          have HFR := hide hW2.frm
          clear cO G8 M8 hM hW hW2 HS6 HQ7
          go_wp2_with fail
          refine cP.out.mono ?_
          rintro e w9 ⟨lh, mh, v5h, Th, S9', rfl, G9, _, hOh, K9⟩
          have SR9 : Hid (Row w9 w.heap.size (.slice sa sn sc) T2.items) := SR.out.keep (fun q hq => by
            obtain ⟨p1, p2, p3, p4⟩ := HQ8.out q (by simpa using hq)
            exact (K9.block q p3 p1).trans p4)
          have cI := hide (items_log G9.lg (by have := hOh.all; have := HN.out; omega) (by have := hOh.len; have := HN.out; omega))
          have HOh := hide hOh
          have H9 := hide G9
          clear cP G9 hOh K9 HQ8
          go_wp2_with fail
          refine cI.out.mono ?_
          rintro e wa ⟨xa, xn, xc, rfl, hxn, hrow, bA⟩
          have HA := hide (H9.out.below bA)
          have SRA := hide (SR9.out.below bA)
          have RA := hide hrow
          have HXN := hide hxn
          have HIO := hide HOh.out.itemsOk
          have HSO := hide HO.out.itemsOk
          have hxn200 : xn ≤ 200 := by rw [HXN.out]; have h1 := hadOf_length Th Th.all; have h2 := HOh.out.all; have h3 := HN.out; exact Nat.le_trans h1 (by omega)
          have HIT : Hid (∀ y ∈ Th.items, y ∈ z4 ∨ y ∈ T2.items) := fun y hy => by
            rcases from_last HFR.out ((HOh.out.items y).1 hy) with h1 | h1
            · exact .inl h1
            · exact .inr ((HO.out.items y).2 h1)
          clear cI hrow hxn bA H9 HFR SR9 SR
          go_wp2_with fail
          go_loopg [23] xn (fun kx s23 wv => ∃ i : Nat, s23 = .int .i64 i ∧ i ≤ xn ∧ xn - i ≤ kx ∧ Hid (Below wa.heap.size wa wv))
          case atStart => exact ⟨0, rfl, Nat.zero_le _, by omega, Below.refl _ _⟩
          case round =>
            rename_i i0
            obtain ⟨i, rfl, hin2, hg2, J⟩ := hrel
            by_cases hlt3 : i < xn
            · have hlt4 : (i : Int) < (xn : Int) := by omega
              obtain ⟨y, hy⟩ : ∃ y, Th.items[i]? = some y := ⟨_, List.getElem?_eq_getElem (by rw [← HXN.out]; exact hlt3)⟩
              have HYM := hide (HIT.out y (List.mem_of_getElem? hy))
              have HY := hide hy
              clear hy
              go_wp2_with fail
              go_loopg [24, 25] sn (fun ky s24 s25 wv => ∃ (B9 : Bool) (K9 : Nat), s24 = .bool B9 ∧ s25 = .int .i64 K9 ∧ K9 ≤ sn ∧ sn - K9 ≤ ky ∧ Hid ((B9 = true ↔ ∃ j, j < K9 ∧ T2.items[j]? = some y) ∧ Below wa.heap.size wa wv))
              case atStart => exact ⟨false, 0, rfl, rfl, Nat.zero_le _, by omega, ⟨fun h => (by cases h), fun ⟨j, hj, _⟩ => by omega⟩, J.out⟩
              case round =>
                obtain ⟨b, k, rfl, rfl, hk1, hk2, V⟩ := hrel
                clear J
                by_cases hkl : k < sn
                · have hkl2 : (k : Int) < (sn : Int) := by omega
                  obtain ⟨z, hz⟩ : ∃ z, T2.items[k]? = some z := ⟨_, List.getElem?_eq_getElem (by rw [← HSN.out]; exact hkl)⟩
                  have HZ := hide hz
                  have DR := hide (below_drew wr)
                  cases b with
                  | true =>
                    have E : Hid (∃ j, j < k + 1 ∧ T2.items[j]? = some y) := by
                      obtain ⟨j, h1, h2⟩ := V.out.1.1 rfl
                      exact ⟨j, by omega, h2⟩
                    have VB := hide V.out.2
                    clear V hz
                    go_wp2_with fail
                    refine wp_region_guardp (by kernel_rfl) (by kernel_rfl) (fun jx => ([.bool true, .bool true, undef, undef, undef, undef, undef, undef, undef, undef, undef, .bool true, .bool true] : List Value).getD jx undef) (fun W => Below wr.heap.size wr W) (size_of (n := 165) (by kernel_rfl) rfl) (DR.out) ?_ ?_
                    · intro jx ox hi w' ev hc hin hout hpre hcst hfn
                      have hltx : jx < 13 := by
                        have := (Array.getElem?_eq_some_iff.1 hi).1
                        simpa using this
                      match jx, hltx with
                      | 0, _ =>
                        simp only [List.getElem?_toArray, List.getElem?_cons_zero, List.getElem?_cons_succ, Option.some.injEq] at hi
                        subst hi
                        rw [if_pos (by first | rfl | simp [wantV])]
                        have e0 : ev (.tmp 24) = .bool true := hpre 24 12 (by kernel_rfl) (by kernel_rfl) (show (24 : Nat) < 165 by decide)
                        refine .inl ⟨w', ?_, hc⟩
                        show _ = Result.ok (Next.value (.bool true)) w'
                        simp [execOp, e0, hcst, go_sem]
                      | 1, _ =>
                        simp only [List.getElem?_toArray, List.getElem?_cons_zero, List.getElem?_cons_succ, Option.some.injEq] at hi
                        subst hi
                        rw [if_pos (by first | rfl | simp [wantV])]
                        have e0 : ev (.tmp 133) = .bool true := hin 133 0 ⟨0, .data⟩ (by kernel_rfl) (by simp) rfl rfl (show (133 : Nat) < 165 by decide)
                        refine .inl ⟨w', ?_, hc⟩
                        show _ = Result.ok (Next.value (.bool true)) w'
                        simp [execOp, e0, hcst, go_sem]
                      | 2, _ =>
                        simp only [List.getElem?_toArray, List.getElem?_cons_zero, List.getElem?_cons_succ, Option.some.injEq] at hi
                        subst hi
                        rw [if_neg (by first | (simp [wantV]; done) | (simp [wantV]; rfl))]
                        rfl
                      | 3, _ =>
                        simp only [List.getElem?_toArray, List.getElem?_cons_zero, List.getElem?_cons_succ, Option.some.injEq] at hi
                        subst hi
                        rw [if_neg (by first | (simp [wantV]; done) | (simp [wantV]; rfl))]
                        rfl
                      | 4, _ =>
                        simp only [List.getElem?_toArray, List.getElem?_cons_zero, List.getElem?_cons_succ, Option.some.injEq] at hi
                        subst hi
                        rw [if_neg (by first | (simp [wantV]; done) | (simp [wantV]; rfl))]
                        rfl
                      | 5, _ =>
                        simp only [List.getElem?_toArray, List.getElem?_cons_zero, List.getElem?_cons_succ, Option.some.injEq] at hi
                        subst hi
                        rw [if_neg (by first | (simp [wantV]; done) | (simp [wantV]; rfl))]
                        rfl
                      | 6, _ =>
                        simp only [List.getElem?_toArray, List.getElem?_cons_zero, List.getElem?_cons_succ, Option.some.injEq] at hi
                        subst hi
                        rw [if_neg (by first | (simp [wantV]; done) | (simp [wantV]; rfl))]
                        rfl
                      | 7, _ =>
                        simp only [List.getElem?_toArray, List.getElem?_cons_zero, List.getElem?_cons_succ, Option.some.injEq] at hi
                        subst hi
                        rw [if_neg (by first | (simp [wantV]; done) | (simp [wantV]; rfl))]
                        rfl
                      | 8, _ =>
                        simp only [List.getElem?_toArray, List.getElem?_cons_zero, List.getElem?_cons_succ, Option.some.injEq] at hi
                        subst hi
                        rw [if_neg (by first | (simp [wantV]; done) | (simp [wantV]; rfl))]
                        rfl
                      | 9, _ =>
                        simp only [List.getElem?_toArray, List.getElem?_cons_zero, List.getElem?_cons_succ, Option.some.injEq] at hi
                        subst hi
                        rw [if_neg (by first | (simp [wantV]; done) | (simp [wantV]; rfl))]
                        rfl
                      | 10, _ =>
                        simp only [List.getElem?_toArray, List.getElem?_cons_zero, List.getElem?_cons_succ, Option.some.injEq] at hi
                        subst hi
                        rw [if_neg (by first | (simp [wantV]; done) | (simp [wantV]; rfl))]
                        rfl
                      | 11, _ =>
                        simp only [List.getElem?_toArray, List.getElem?_cons_zero, List.getElem?_cons_succ, Option.some.injEq] at hi
                        subst hi
                        rw [if_pos (by first | rfl | simp [wantV])]
                        have e0 : ev (.tmp 134) = .bool true := hin 134 1 ⟨1, .data⟩ (by kernel_rfl) (by simp) rfl rfl (show (134 : Nat) < 165 by decide)
                        have e1 : ev (.tmp 143) = undef := hin 143 10 ⟨10, .data⟩ (by kernel_rfl) (by simp) rfl rfl (show (143 : Nat) < 165 by decide)
                        refine .inl ⟨w', ?_, hc⟩
                        show _ = Result.ok (Next.value (.bool true)) w'
                        simp [execOp, e0, e1, hcst, go_sem]
                      | 12, _ =>
                        simp only [List.getElem?_toArray, List.getElem?_cons_zero, List.getElem?_cons_succ, Option.some.injEq] at hi
                        subst hi
                        rw [if_pos (by first | rfl | simp [wantV])]
                        have e0 : ev (.tmp 144) = .bool true := hin 144 11 ⟨11, .data⟩ (by kernel_rfl) (by simp) rfl rfl (show (144 : Nat) < 165 by decide)
                        refine .inl ⟨w', ?_, hc⟩
                        show _ = Result.ok (Next.value (.bool true)) w'
                        simp [execOp, e0, hcst, go_sem]
                    · intro w7 hc
                      simp only [lexF, Act.put, List.setIfInBounds_toArray, List.set_cons_succ, List.set_cons_zero, List.getD_cons_succ, List.getD_cons_zero]
                      have VC := hide (VB.out.trans (hc.mono VB.out.size))
                      clear hc DR
                      go_wp2
                      go_roundg (sn - (k + 1))
                      case measure => omega
                      case rel => exact ⟨true, k + 1, rfl, rfl, by omega, by omega, ⟨fun _ => E.out, fun _ => rfl⟩, VC.out⟩
                  | false =>
                    obtain ⟨sa', sc', hvs, hIS, _, _, _⟩ := SRA.out.its HSO.out
                    simp only [Value.slice.injEq] at hvs
                    obtain ⟨rfl, hq8, rfl⟩ := hvs
                    clear hq8
                    obtain ⟨lb, lo, rfl, hlb, hlc⟩ := hIS.cell k z hz
                    obtain ⟨xa', xc', hvn, hIN, _, _, _⟩ := RA.out.its HIO.out
                    simp only [Value.slice.injEq] at hvn
                    obtain ⟨rfl, hq9, rfl⟩ := hvn
                    clear hq9
                    obtain ⟨xb, xo, rfl, hxb, hxc⟩ := hIN.cell i y HY.out
                    have VB := hide V.out.2
                    have XL : Hid (∀ w', Below wr.heap.size wr w' → OneIt w' lb (lo + k * 5) z) := fun w' hb => hlc.below (VB.out.trans (hb.mono VB.out.size)) hlb
                    have XA : Hid (∀ w', Below wr.heap.size wr w' → OneIt w' xb (xo + i * 5) y) := fun w' hb => hxc.below (VB.out.trans (hb.mono VB.out.size)) hxb
                    have E : Hid ((itEq z y = true) ↔ ∃ j, j < k + 1 ∧ T2.items[j]? = some y) := by
                      rw [itEq_iff]
                      constructor
                      · intro h; exact ⟨k, by omega, by rw [HZ.out, h]⟩
                      · rintro ⟨j, h1, h2⟩
                        rcases Nat.lt_or_ge j k with h3 | h3
                        · have := V.out.1.2 ⟨j, h3, h2⟩; cases this
                        · have e : j = k := by omega
                          rw [e, HZ.out] at h2
                          exact Option.some.inj h2
                    clear V hz hlb hlc hIN hxb hxc hIS
                    go_wp2_with fail
                    refine wp_region_guardp (by kernel_rfl) (by kernel_rfl) (fun jx => ([.bool false, .bool false, .slice (some ⟨lb, lo, none⟩) sn sc, .int .i64 (k : Int), .pointer (some ⟨lb, lo + k * 5, none⟩), .agg #[.string (txt z.key), .string (txt z.value), .int .u32 z.flags, .int .i64 z.exp, .int .u64 z.ver], .slice (some ⟨xb, xo, none⟩) xn xc, .int .i64 (i : Int), .pointer (some ⟨xb, xo + i * 5, none⟩), .agg #[.string (txt y.key), .string (txt y.value), .int .u32 y.flags, .int .i64 y.exp, .int .u64 y.ver], .bool (itEq z y), .bool (itEq z y), .bool (itEq z y)] : List Value).getD jx undef) (fun W => Below wr.heap.size wr W) (size_of (n := 165) (by kernel_rfl) rfl) (DR.out) ?_ ?_
                    · intro jx ox hi w' ev hc hin hout hpre hcst hfn
                      have hltx : jx < 13 := by
                        have := (Array.getElem?_eq_some_iff.1 hi).1
                        simpa using this
                      match jx, hltx with
                      | 0, _ =>
                        simp only [List.getElem?_toArray, List.getElem?_cons_zero, List.getElem?_cons_succ, Option.some.injEq] at hi
                        subst hi
                        rw [if_pos (by first | rfl | simp [wantV])]
                        have e0 : ev (.tmp 24) = .bool false := hpre 24 12 (by kernel_rfl) (by kernel_rfl) (show (24 : Nat) < 165 by decide)
                        refine .inl ⟨w', ?_, hc⟩
                        show _ = Result.ok (Next.value (.bool false)) w'
                        simp [execOp, e0, hcst, go_sem]
                      | 1, _ =>
                        simp only [List.getElem?_toArray, List.getElem?_cons_zero, List.getElem?_cons_succ, Option.some.injEq] at hi
                        subst hi
                        rw [if_pos (by first | rfl | simp [wantV])]
                        have e0 : ev (.tmp 133) = .bool false := hin 133 0 ⟨0, .data⟩ (by kernel_rfl) (by simp) rfl rfl (show (133 : Nat) < 165 by decide)
                        refine .inl ⟨w', ?_, hc⟩
                        show _ = Result.ok (Next.value (.bool false)) w'
                        simp [execOp, e0, hcst, go_sem]
                      | 2, _ =>
                        simp only [List.getElem?_toArray, List.getElem?_cons_zero, List.getElem?_cons_succ, Option.some.injEq] at hi
                        subst hi
                        rw [if_pos (by first | rfl | simp [wantV])]
                        have e0 : ev (.tmp 20) = .slice (some ⟨lb, lo, none⟩) sn sc := hout 20 (by kernel_rfl) (show (20 : Nat) < 165 by decide)
                        refine .inl ⟨w', ?_, hc⟩
                        show _ = Result.ok (Next.value (.slice (some ⟨lb, lo, none⟩) sn sc)) w'
                        simp [execOp, e0, hcst, go_sem]
                      | 3, _ =>
                        simp only [List.getElem?_toArray, List.getElem?_cons_zero, List.getElem?_cons_succ, Option.some.injEq] at hi
                        subst hi
                        rw [if_pos (by first | rfl | simp [wantV])]
                        have e0 : ev (.tmp 25) = .int .i64 (k : Int) := hout 25 (by kernel_rfl) (show (25 : Nat) < 165 by decide)
                        refine .inl ⟨w', ?_, hc⟩
                        show _ = Result.ok (Next.value (.int .i64 (k : Int))) w'
                        simp [execOp, e0, hcst, go_sem]
                      | 4, _ =>
                        simp only [List.getElem?_toArray, List.getElem?_cons_zero, List.getElem?_cons_succ, Option.some.injEq] at hi
                        subst hi
                        rw [if_pos (by first | rfl | simp [wantV])]
                        have e0 : ev (.tmp 135) = .slice (some ⟨lb, lo, none⟩) sn sc := hin 135 2 ⟨2, .data⟩ (by kernel_rfl) (by simp) rfl rfl (show (135 : Nat) < 165 by decide)
                        have e1 : ev (.tmp 136) = .int .i64 (k : Int) := hin 136 3 ⟨3, .data⟩ (by kernel_rfl) (by simp) rfl rfl (show (136 : Nat) < 165 by decide)
                        refine .inl ⟨w', ?_, hc⟩
                        show _ = Result.ok (Next.value (.pointer (some ⟨lb, lo + k * 5, none⟩))) w'
                        simp only [execOp, e0, e1, hcst]
                        go_simp
                      | 5, _ =>
                        simp only [List.getElem?_toArray, List.getElem?_cons_zero, List.getElem?_cons_succ, Option.some.injEq] at hi
                        subst hi
                        rw [if_pos (by first | rfl | simp [wantV])]
                        have e0 : ev (.tmp 137) = .pointer (some ⟨lb, lo + k * 5, none⟩) := hin 137 4 ⟨4, .data⟩ (by kernel_rfl) (by simp) rfl rfl (show (137 : Nat) < 165 by decide)
                        refine .inl ⟨w', ?_, hc⟩
                        show _ = Result.ok (Next.value (.agg #[.string (txt z.key), .string (txt z.value), .int .u32 z.flags, .int .i64 z.exp, .int .u64 z.ver])) w'
                        obtain ⟨y0, y1, y2, y3, y4⟩ := (XL.out w' hc).vals
                        simp only [execOp, e0]
                        go_simp
                      | 6, _ =>
                        simp only [List.getElem?_toArray, List.getElem?_cons_zero, List.getElem?_cons_succ, Option.some.injEq] at hi
                        subst hi
                        rw [if_pos (by first | rfl | simp [wantV])]
                        have e0 : ev (.tmp 22) = .slice (some ⟨xb, xo, none⟩) xn xc := hout 22 (by kernel_rfl) (show (22 : Nat) < 165 by decide)
                        refine .inl ⟨w', ?_, hc⟩
                        show _ = Result.ok (Next.value (.slice (some ⟨xb, xo, none⟩) xn xc)) w'
                        simp [execOp, e0, hcst, go_sem]
                      | 7, _ =>
                        simp only [List.getElem?_toArray, List.getElem?_cons_zero, List.getElem?_cons_succ, Option.some.injEq] at hi
                        subst hi
                        rw [if_pos (by first | rfl | simp [wantV])]
                        have e0 : ev (.tmp 23) = .int .i64 (i : Int) := hout 23 (by kernel_rfl) (show (23 : Nat) < 165 by decide)
                        refine .inl ⟨w', ?_, hc⟩
                        show _ = Result.ok (Next.value (.int .i64 (i : Int))) w'
                        simp [execOp, e0, hcst, go_sem]
                      | 8, _ =>
                        simp only [List.getElem?_toArray, List.getElem?_cons_zero, List.getElem?_cons_succ, Option.some.injEq] at hi
                        subst hi
                        rw [if_pos (by first | rfl | simp [wantV])]
                        have e0 : ev (.tmp 139) = .slice (some ⟨xb, xo, none⟩) xn xc := hin 139 6 ⟨6, .data⟩ (by kernel_rfl) (by simp) rfl rfl (show (139 : Nat) < 165 by decide)
                        have e1 : ev (.tmp 140) = .int .i64 (i : Int) := hin 140 7 ⟨7, .data⟩ (by kernel_rfl) (by simp) rfl rfl (show (140 : Nat) < 165 by decide)
                        refine .inl ⟨w', ?_, hc⟩
                        show _ = Result.ok (Next.value (.pointer (some ⟨xb, xo + i * 5, none⟩))) w'
                        simp only [execOp, e0, e1, hcst]
                        go_simp
                      | 9, _ =>
                        simp only [List.getElem?_toArray, List.getElem?_cons_zero, List.getElem?_cons_succ, Option.some.injEq] at hi
                        subst hi
                        rw [if_pos (by first | rfl | simp [wantV])]
                        have e0 : ev (.tmp 141) = .pointer (some ⟨xb, xo + i * 5, none⟩) := hin 141 8 ⟨8, .data⟩ (by kernel_rfl) (by simp) rfl rfl (show (141 : Nat) < 165 by decide)
                        refine .inl ⟨w', ?_, hc⟩
                        show _ = Result.ok (Next.value (.agg #[.string (txt y.key), .string (txt y.value), .int .u32 y.flags, .int .i64 y.exp, .int .u64 y.ver])) w'
                        obtain ⟨y0, y1, y2, y3, y4⟩ := (XA.out w' hc).vals
                        simp only [execOp, e0]
                        go_simp
                      | 10, _ =>
                        simp only [List.getElem?_toArray, List.getElem?_cons_zero, List.getElem?_cons_succ, Option.some.injEq] at hi
                        subst hi
                        rw [if_pos (by first | rfl | simp [wantV])]
                        have e0 : ev (.tmp 138) = .agg #[.string (txt z.key), .string (txt z.value), .int .u32 z.flags, .int .i64 z.exp, .int .u64 z.ver] := hin 138 5 ⟨5, .data⟩ (by kernel_rfl) (by simp) rfl rfl (show (138 : Nat) < 165 by decide)
                        have e1 : ev (.tmp 142) = .agg #[.string (txt y.key), .string (txt y.value), .int .u32 y.flags, .int .i64 y.exp, .int .u64 y.ver] := hin 142 9 ⟨9, .data⟩ (by kernel_rfl) (by simp) rfl rfl (show (142 : Nat) < 165 by decide)
                        refine .inl ⟨w', ?_, hc⟩
                        show _ = Result.ok (Next.value (.bool (itEq z y))) w'
                        simp [execOp, e0, e1, hcst, go_sem]
                        exact ite_items z y w'
                      | 11, _ =>
                        simp only [List.getElem?_toArray, List.getElem?_cons_zero, List.getElem?_cons_succ, Option.some.injEq] at hi
                        subst hi
                        rw [if_pos (by first | rfl | simp [wantV])]
                        have e0 : ev (.tmp 134) = .bool false := hin 134 1 ⟨1, .data⟩ (by kernel_rfl) (by simp) rfl rfl (show (134 : Nat) < 165 by decide)
                        have e1 : ev (.tmp 143) = .bool (itEq z y) := hin 143 10 ⟨10, .data⟩ (by kernel_rfl) (by simp) rfl rfl (show (143 : Nat) < 165 by decide)
                        refine .inl ⟨w', ?_, hc⟩
                        show _ = Result.ok (Next.value (.bool (itEq z y))) w'
                        simp [execOp, e0, e1, hcst, go_sem]
                      | 12, _ =>
                        simp only [List.getElem?_toArray, List.getElem?_cons_zero, List.getElem?_cons_succ, Option.some.injEq] at hi
                        subst hi
                        rw [if_pos (by first | rfl | simp [wantV])]
                        have e0 : ev (.tmp 144) = .bool (itEq z y) := hin 144 11 ⟨11, .data⟩ (by kernel_rfl) (by simp) rfl rfl (show (144 : Nat) < 165 by decide)
                        refine .inl ⟨w', ?_, hc⟩
                        show _ = Result.ok (Next.value (.bool (itEq z y))) w'
                        simp [execOp, e0, hcst, go_sem]
                    · intro w7 hc
                      simp only [lexF, Act.put, List.setIfInBounds_toArray, List.set_cons_succ, List.set_cons_zero, List.getD_cons_succ, List.getD_cons_zero]
                      have VC := hide (VB.out.trans (hc.mono VB.out.size))
                      clear hc DR XL XA
                      go_wp2
                      go_roundg (sn - (k + 1))
                      case measure => omega
                      case rel => exact ⟨itEq z y, k + 1, rfl, rfl, by omega, by omega, E.out, VC.out⟩
                · have hk0 : k = sn := by omega
                  have hkl2 : ¬ (k : Int) < (sn : Int) := by omega
                  have VB := hide V.out.2
                  have VI : Hid (b = true ↔ y ∈ T2.items) := by
                    refine V.out.1.trans ⟨fun ⟨j, _, h⟩ => List.mem_of_getElem? h, fun h => ?_⟩
                    obtain ⟨j, hj⟩ := List.getElem?_of_mem h
                    have := (List.getElem?_eq_some_iff.1 hj).1
                    exact ⟨j, by rw [hk0, HSN.out]; exact this, hj⟩
                  clear V hk1 hk2 hkl
                  go_wp2_with fail
                  go_loopg [24, 26] len4 (fun ky s24 s26 wv => ∃ (B9 : Bool) (K9 : Nat), s24 = .bool B9 ∧ s26 = .int .i64 K9 ∧ K9 ≤ len4 ∧ len4 - K9 ≤ ky ∧ Hid ((B9 = true ↔ b = true ∨ ∃ j, j < K9 ∧ z4[j]? = some y) ∧ Below wa.heap.size wa wv))
                  case atStart => exact ⟨b, 0, rfl, rfl, Nat.zero_le _, by omega, ⟨fun h => .inl h, fun h => by rcases h with h | ⟨j, hj, _⟩; exact h; omega⟩, VB.out⟩
                  case round =>
                    rename_i kk0
                    obtain ⟨b', k', rfl, rfl, hk1, hk2, V⟩ := hrel
                    by_cases hkl : k' < len4
                    · have hkl2 : (k' : Int) < (len4 : Int) := by omega
                      obtain ⟨z, hz⟩ : ∃ z, z4[k']? = some z := ⟨_, List.getElem?_eq_getElem (by rw [← HLEN4.out]; exact hkl)⟩
                      have HZ := hide hz
                      have DR := hide (below_drew wr)
                      cases b' with
                      | true =>
                        have E : Hid (b = true ∨ ∃ j, j < k' + 1 ∧ z4[j]? = some y) := by
                          rcases V.out.1.1 rfl with h | ⟨j, h1, h2⟩
                          · exact .inl h
                          · exact .inr ⟨j, by omega, h2⟩
                        have VB3 := hide V.out.2
                        clear V hz
                        go_wp2_with fail
                        refine wp_region_guardp (by kernel_rfl) (by kernel_rfl) (fun jx => ([.bool true, .bool true, undef, undef, undef, undef, undef, undef, undef, undef, undef, .bool true, .bool true] : List Value).getD jx undef) (fun W => Below wr.heap.size wr W) (size_of (n := 165) (by kernel_rfl) rfl) (DR.out) ?_ ?_
                        · intro jx ox hi w' ev hc hin hout hpre hcst hfn
                          have hltx : jx < 13 := by
                            have := (Array.getElem?_eq_some_iff.1 hi).1
                            simpa using this
                          match jx, hltx with
                          | 0, _ =>
                            simp only [List.getElem?_toArray, List.getElem?_cons_zero, List.getElem?_cons_succ, Option.some.injEq] at hi
                            subst hi
                            rw [if_pos (by first | rfl | simp [wantV])]
                            have e0 : ev (.tmp 24) = .bool true := hpre 24 12 (by kernel_rfl) (by kernel_rfl) (show (24 : Nat) < 165 by decide)
                            refine .inl ⟨w', ?_, hc⟩
                            show _ = Result.ok (Next.value (.bool true)) w'
                            simp [execOp, e0, hcst, go_sem]
                          | 1, _ =>
                            simp only [List.getElem?_toArray, List.getElem?_cons_zero, List.getElem?_cons_succ, Option.some.injEq] at hi
                            subst hi
                            rw [if_pos (by first | rfl | simp [wantV])]
                            have e0 : ev (.tmp 151) = .bool true := hin 151 0 ⟨0, .data⟩ (by kernel_rfl) (by simp) rfl rfl (show (151 : Nat) < 165 by decide)
                            refine .inl ⟨w', ?_, hc⟩
                            show _ = Result.ok (Next.value (.bool true)) w'
                            simp [execOp, e0, hcst, go_sem]
                          | 2, _ =>
                            simp only [List.getElem?_toArray, List.getElem?_cons_zero, List.getElem?_cons_succ, Option.some.injEq] at hi
                            subst hi
                            rw [if_neg (by first | (simp [wantV]; done) | (simp [wantV]; rfl))]
                            rfl
                          | 3, _ =>
                            simp only [List.getElem?_toArray, List.getElem?_cons_zero, List.getElem?_cons_succ, Option.some.injEq] at hi
                            subst hi
                            rw [if_neg (by first | (simp [wantV]; done) | (simp [wantV]; rfl))]
                            rfl
                          | 4, _ =>
                            simp only [List.getElem?_toArray, List.getElem?_cons_zero, List.getElem?_cons_succ, Option.some.injEq] at hi
                            subst hi
                            rw [if_neg (by first | (simp [wantV]; done) | (simp [wantV]; rfl))]
                            rfl
                          | 5, _ =>
                            simp only [List.getElem?_toArray, List.getElem?_cons_zero, List.getElem?_cons_succ, Option.some.injEq] at hi
                            subst hi
                            rw [if_neg (by first | (simp [wantV]; done) | (simp [wantV]; rfl))]
                            rfl
                          | 6, _ =>
                            simp only [List.getElem?_toArray, List.getElem?_cons_zero, List.getElem?_cons_succ, Option.some.injEq] at hi
                            subst hi
                            rw [if_neg (by first | (simp [wantV]; done) | (simp [wantV]; rfl))]
                            rfl
                          | 7, _ =>
                            simp only [List.getElem?_toArray, List.getElem?_cons_zero, List.getElem?_cons_succ, Option.some.injEq] at hi
                            subst hi
                            rw [if_neg (by first | (simp [wantV]; done) | (simp [wantV]; rfl))]
                            rfl
                          | 8, _ =>
                            simp only [List.getElem?_toArray, List.getElem?_cons_zero, List.getElem?_cons_succ, Option.some.injEq] at hi
                            subst hi
                            rw [if_neg (by first | (simp [wantV]; done) | (simp [wantV]; rfl))]
                            rfl
                          | 9, _ =>
                            simp only [List.getElem?_toArray, List.getElem?_cons_zero, List.getElem?_cons_succ, Option.some.injEq] at hi
                            subst hi
                            rw [if_neg (by first | (simp [wantV]; done) | (simp [wantV]; rfl))]
                            rfl
                          | 10, _ =>
                            simp only [List.getElem?_toArray, List.getElem?_cons_zero, List.getElem?_cons_succ, Option.some.injEq] at hi
                            subst hi
                            rw [if_neg (by first | (simp [wantV]; done) | (simp [wantV]; rfl))]
                            rfl
                          | 11, _ =>
                            simp only [List.getElem?_toArray, List.getElem?_cons_zero, List.getElem?_cons_succ, Option.some.injEq] at hi
                            subst hi
                            rw [if_pos (by first | rfl | simp [wantV])]
                            have e0 : ev (.tmp 152) = .bool true := hin 152 1 ⟨1, .data⟩ (by kernel_rfl) (by simp) rfl rfl (show (152 : Nat) < 165 by decide)
                            have e1 : ev (.tmp 161) = undef := hin 161 10 ⟨10, .data⟩ (by kernel_rfl) (by simp) rfl rfl (show (161 : Nat) < 165 by decide)
                            refine .inl ⟨w', ?_, hc⟩
                            show _ = Result.ok (Next.value (.bool true)) w'
                            simp [execOp, e0, e1, hcst, go_sem]
                          | 12, _ =>
                            simp only [List.getElem?_toArray, List.getElem?_cons_zero, List.getElem?_cons_succ, Option.some.injEq] at hi
                            subst hi
                            rw [if_pos (by first | rfl | simp [wantV])]
                            have e0 : ev (.tmp 162) = .bool true := hin 162 11 ⟨11, .data⟩ (by kernel_rfl) (by simp) rfl rfl (show (162 : Nat) < 165 by decide)
                            refine .inl ⟨w', ?_, hc⟩
                            show _ = Result.ok (Next.value (.bool true)) w'
                            simp [execOp, e0, hcst, go_sem]
                        · intro w7 hc
                          simp only [lexF, Act.put, List.setIfInBounds_toArray, List.set_cons_succ, List.set_cons_zero, List.getD_cons_succ, List.getD_cons_zero]
                          have VC := hide (VB3.out.trans (hc.mono VB3.out.size))
                          clear hc DR
                          go_wp2
                          go_roundg (len4 - (k' + 1))
                          case measure => omega
                          case rel => exact ⟨true, k' + 1, rfl, rfl, by omega, by omega, ⟨fun _ => E.out, fun _ => rfl⟩, VC.out⟩
                      | false =>
                        obtain ⟨lb, lo, rfl, hlb, hlc⟩ := HW4.out.cell k' z hz
                        obtain ⟨xa', xc', hvn, hIN, _, _, _⟩ := RA.out.its HIO.out
                        simp only [Value.slice.injEq] at hvn
                        obtain ⟨rfl, hq9, rfl⟩ := hvn
                        clear hq9
                        obtain ⟨xb, xo, rfl, hxb, hxc⟩ := hIN.cell i y HY.out
                        have VB3 := hide V.out.2
                        have XL : Hid (∀ w', Below wr.heap.size wr w' → OneIt w' lb (lo + k' * 5) z) := fun w' hb => hlc.below (HA.out.bel.trans ((VB3.out.trans (hb.mono VB3.out.size)).mono HA.out.bel.size)) hlb
                        have XA : Hid (∀ w', Below wr.heap.size wr w' → OneIt w' xb (xo + i * 5) y) := fun w' hb => hxc.below (VB3.out.trans (hb.mono VB3.out.size)) hxb
                        have E : Hid ((itEq z y = true) ↔ b = true ∨ ∃ j, j < k' + 1 ∧ z4[j]? = some y) := by
                          rw [itEq_iff]
                          constructor
                          · intro h; exact .inr ⟨k', by omega, by rw [HZ.out, h]⟩
                          · rintro (h0 | ⟨j, h1, h2⟩)
                            · have := V.out.1.2 (.inl h0); cases this
                            · rcases Nat.lt_or_ge j k' with h3 | h3
                              · have := V.out.1.2 (.inr ⟨j, h3, h2⟩); cases this
                              · have e : j = k' := by omega
                                rw [e, HZ.out] at h2
                                exact Option.some.inj h2
                        clear V hz hlb hlc hIN hxb hxc
                        go_wp2_with fail
                        refine wp_region_guardp (by kernel_rfl) (by kernel_rfl) (fun jx => ([.bool false, .bool false, .slice (some ⟨lb, lo, none⟩) len4 cap4, .int .i64 (k' : Int), .pointer (some ⟨lb, lo + k' * 5, none⟩), .agg #[.string (txt z.key), .string (txt z.value), .int .u32 z.flags, .int .i64 z.exp, .int .u64 z.ver], .slice (some ⟨xb, xo, none⟩) xn xc, .int .i64 (i : Int), .pointer (some ⟨xb, xo + i * 5, none⟩), .agg #[.string (txt y.key), .string (txt y.value), .int .u32 y.flags, .int .i64 y.exp, .int .u64 y.ver], .bool (itEq z y), .bool (itEq z y), .bool (itEq z y)] : List Value).getD jx undef) (fun W => Below wr.heap.size wr W) (size_of (n := 165) (by kernel_rfl) rfl) (DR.out) ?_ ?_
                        · intro jx ox hi w' ev hc hin hout hpre hcst hfn
                          have hltx : jx < 13 := by
                            have := (Array.getElem?_eq_some_iff.1 hi).1
                            simpa using this
                          match jx, hltx with
                          | 0, _ =>
                            simp only [List.getElem?_toArray, List.getElem?_cons_zero, List.getElem?_cons_succ, Option.some.injEq] at hi
                            subst hi
                            rw [if_pos (by first | rfl | simp [wantV])]
                            have e0 : ev (.tmp 24) = .bool false := hpre 24 12 (by kernel_rfl) (by kernel_rfl) (show (24 : Nat) < 165 by decide)
                            refine .inl ⟨w', ?_, hc⟩
                            show _ = Result.ok (Next.value (.bool false)) w'
                            simp [execOp, e0, hcst, go_sem]
                          | 1, _ =>
                            simp only [List.getElem?_toArray, List.getElem?_cons_zero, List.getElem?_cons_succ, Option.some.injEq] at hi
                            subst hi
                            rw [if_pos (by first | rfl | simp [wantV])]
                            have e0 : ev (.tmp 151) = .bool false := hin 151 0 ⟨0, .data⟩ (by kernel_rfl) (by simp) rfl rfl (show (151 : Nat) < 165 by decide)
                            refine .inl ⟨w', ?_, hc⟩
                            show _ = Result.ok (Next.value (.bool false)) w'
                            simp [execOp, e0, hcst, go_sem]
                          | 2, _ =>
                            simp only [List.getElem?_toArray, List.getElem?_cons_zero, List.getElem?_cons_succ, Option.some.injEq] at hi
                            subst hi
                            rw [if_pos (by first | rfl | simp [wantV])]
                            have e0 : ev (.tmp 4) = .slice (some ⟨lb, lo, none⟩) len4 cap4 := hout 4 (by kernel_rfl) (show (4 : Nat) < 165 by decide)
                            refine .inl ⟨w', ?_, hc⟩
                            show _ = Result.ok (Next.value (.slice (some ⟨lb, lo, none⟩) len4 cap4)) w'
                            simp [execOp, e0, hcst, go_sem]
                          | 3, _ =>
                            simp only [List.getElem?_toArray, List.getElem?_cons_zero, List.getElem?_cons_succ, Option.some.injEq] at hi
                            subst hi
                            rw [if_pos (by first | rfl | simp [wantV])]
                            have e0 : ev (.tmp 26) = .int .i64 (k' : Int) := hout 26 (by kernel_rfl) (show (26 : Nat) < 165 by decide)
                            refine .inl ⟨w', ?_, hc⟩
                            show _ = Result.ok (Next.value (.int .i64 (k' : Int))) w'
                            simp [execOp, e0, hcst, go_sem]
                          | 4, _ =>
                            simp only [List.getElem?_toArray, List.getElem?_cons_zero, List.getElem?_cons_succ, Option.some.injEq] at hi
                            subst hi
                            rw [if_pos (by first | rfl | simp [wantV])]
                            have e0 : ev (.tmp 153) = .slice (some ⟨lb, lo, none⟩) len4 cap4 := hin 153 2 ⟨2, .data⟩ (by kernel_rfl) (by simp) rfl rfl (show (153 : Nat) < 165 by decide)
                            have e1 : ev (.tmp 154) = .int .i64 (k' : Int) := hin 154 3 ⟨3, .data⟩ (by kernel_rfl) (by simp) rfl rfl (show (154 : Nat) < 165 by decide)
                            refine .inl ⟨w', ?_, hc⟩
                            show _ = Result.ok (Next.value (.pointer (some ⟨lb, lo + k' * 5, none⟩))) w'
                            simp only [execOp, e0, e1, hcst]
                            go_simp
                          | 5, _ =>
                            simp only [List.getElem?_toArray, List.getElem?_cons_zero, List.getElem?_cons_succ, Option.some.injEq] at hi
                            subst hi
                            rw [if_pos (by first | rfl | simp [wantV])]
                            have e0 : ev (.tmp 155) = .pointer (some ⟨lb, lo + k' * 5, none⟩) := hin 155 4 ⟨4, .data⟩ (by kernel_rfl) (by simp) rfl rfl (show (155 : Nat) < 165 by decide)
                            refine .inl ⟨w', ?_, hc⟩
                            show _ = Result.ok (Next.value (.agg #[.string (txt z.key), .string (txt z.value), .int .u32 z.flags, .int .i64 z.exp, .int .u64 z.ver])) w'
                            obtain ⟨y0, y1, y2, y3, y4⟩ := (XL.out w' hc).vals
                            simp only [execOp, e0]
                            go_simp
                          | 6, _ =>
                            simp only [List.getElem?_toArray, List.getElem?_cons_zero, List.getElem?_cons_succ, Option.some.injEq] at hi
                            subst hi
                            rw [if_pos (by first | rfl | simp [wantV])]
                            have e0 : ev (.tmp 22) = .slice (some ⟨xb, xo, none⟩) xn xc := hout 22 (by kernel_rfl) (show (22 : Nat) < 165 by decide)
                            refine .inl ⟨w', ?_, hc⟩
                            show _ = Result.ok (Next.value (.slice (some ⟨xb, xo, none⟩) xn xc)) w'
                            simp [execOp, e0, hcst, go_sem]
                          | 7, _ =>
                            simp only [List.getElem?_toArray, List.getElem?_cons_zero, List.getElem?_cons_succ, Option.some.injEq] at hi
                            subst hi
                            rw [if_pos (by first | rfl | simp [wantV])]
                            have e0 : ev (.tmp 23) = .int .i64 (i : Int) := hout 23 (by kernel_rfl) (show (23 : Nat) < 165 by decide)
                            refine .inl ⟨w', ?_, hc⟩
                            show _ = Result.ok (Next.value (.int .i64 (i : Int))) w'
                            simp [execOp, e0, hcst, go_sem]
                          | 8, _ =>
                            simp only [List.getElem?_toArray, List.getElem?_cons_zero, List.getElem?_cons_succ, Option.some.injEq] at hi
                            subst hi
                            rw [if_pos (by first | rfl | simp [wantV])]
                            have e0 : ev (.tmp 157) = .slice (some ⟨xb, xo, none⟩) xn xc := hin 157 6 ⟨6, .data⟩ (by kernel_rfl) (by simp) rfl rfl (show (157 : Nat) < 165 by decide)
                            have e1 : ev (.tmp 158) = .int .i64 (i : Int) := hin 158 7 ⟨7, .data⟩ (by kernel_rfl) (by simp) rfl rfl (show (158 : Nat) < 165 by decide)
                            refine .inl ⟨w', ?_, hc⟩
                            show _ = Result.ok (Next.value (.pointer (some ⟨xb, xo + i * 5, none⟩))) w'
                            simp only [execOp, e0, e1, hcst]
                            go_simp
                          | 9, _ =>
                            simp only [List.getElem?_toArray, List.getElem?_cons_zero, List.getElem?_cons_succ, Option.some.injEq] at hi
                            subst hi
                            rw [if_pos (by first | rfl | simp [wantV])]
                            have e0 : ev (.tmp 159) = .pointer (some ⟨xb, xo + i * 5, none⟩) := hin 159 8 ⟨8, .data⟩ (by kernel_rfl) (by simp) rfl rfl (show (159 : Nat) < 165 by decide)
                            refine .inl ⟨w', ?_, hc⟩
                            show _ = Result.ok (Next.value (.agg #[.string (txt y.key), .string (txt y.value), .int .u32 y.flags, .int .i64 y.exp, .int .u64 y.ver])) w'
                            obtain ⟨y0, y1, y2, y3, y4⟩ := (XA.out w' hc).vals
                            simp only [execOp, e0]
                            go_simp
                          | 10, _ =>
                            simp only [List.getElem?_toArray, List.getElem?_cons_zero, List.getElem?_cons_succ, Option.some.injEq] at hi
                            subst hi
                            rw [if_pos (by first | rfl | simp [wantV])]
                            have e0 : ev (.tmp 156) = .agg #[.string (txt z.key), .string (txt z.value), .int .u32 z.flags, .int .i64 z.exp, .int .u64 z.ver] := hin 156 5 ⟨5, .data⟩ (by kernel_rfl) (by simp) rfl rfl (show (156 : Nat) < 165 by decide)
                            have e1 : ev (.tmp 160) = .agg #[.string (txt y.key), .string (txt y.value), .int .u32 y.flags, .int .i64 y.exp, .int .u64 y.ver] := hin 160 9 ⟨9, .data⟩ (by kernel_rfl) (by simp) rfl rfl (show (160 : Nat) < 165 by decide)
                            refine .inl ⟨w', ?_, hc⟩
                            show _ = Result.ok (Next.value (.bool (itEq z y))) w'
                            simp [execOp, e0, e1, hcst, go_sem]
                            exact ite_items z y w'
                          | 11, _ =>
                            simp only [List.getElem?_toArray, List.getElem?_cons_zero, List.getElem?_cons_succ, Option.some.injEq] at hi
                            subst hi
                            rw [if_pos (by first | rfl | simp [wantV])]
                            have e0 : ev (.tmp 152) = .bool false := hin 152 1 ⟨1, .data⟩ (by kernel_rfl) (by simp) rfl rfl (show (152 : Nat) < 165 by decide)
                            have e1 : ev (.tmp 161) = .bool (itEq z y) := hin 161 10 ⟨10, .data⟩ (by kernel_rfl) (by simp) rfl rfl (show (161 : Nat) < 165 by decide)
                            refine .inl ⟨w', ?_, hc⟩
                            show _ = Result.ok (Next.value (.bool (itEq z y))) w'
                            simp [execOp, e0, e1, hcst, go_sem]
                          | 12, _ =>
                            simp only [List.getElem?_toArray, List.getElem?_cons_zero, List.getElem?_cons_succ, Option.some.injEq] at hi
                            subst hi
                            rw [if_pos (by first | rfl | simp [wantV])]
                            have e0 : ev (.tmp 162) = .bool (itEq z y) := hin 162 11 ⟨11, .data⟩ (by kernel_rfl) (by simp) rfl rfl (show (162 : Nat) < 165 by decide)
                            refine .inl ⟨w', ?_, hc⟩
                            show _ = Result.ok (Next.value (.bool (itEq z y))) w'
                            simp [execOp, e0, hcst, go_sem]
                        · intro w7 hc
                          simp only [lexF, Act.put, List.setIfInBounds_toArray, List.set_cons_succ, List.set_cons_zero, List.getD_cons_succ, List.getD_cons_zero]
                          have VC := hide (VB3.out.trans (hc.mono VB3.out.size))
                          clear hc DR XL XA
                          go_wp2
                          go_roundg (len4 - (k' + 1))
                          case measure => omega
                          case rel => exact ⟨itEq z y, k' + 1, rfl, rfl, by omega, by omega, E.out, VC.out⟩
                    · have hk0 : k' = len4 := by omega
                      have hb : b' = true := V.out.1.2 (by
                        rcases HYM.out with h1 | h1
                        · obtain ⟨j, hj⟩ := List.getElem?_of_mem h1
                          have := (List.getElem?_eq_some_iff.1 hj).1
                          exact .inr ⟨j, by rw [hk0, HLEN4.out]; exact this, hj⟩
                        · exact .inl (VI.out.2 h1))
                      subst hb
                      have hkl2 : ¬ (k' : Int) < (len4 : Int) := by omega
                      have VB2 := hide V.out.2
                      clear V hk0
                      go_wp2
                      go_roundg (xn - (i + 1))
                      case measure => omega
                      case rel => exact ⟨i + 1, rfl, by omega, by omega, VB2.out⟩
            · have hlt4 : ¬ (i : Int) < (xn : Int) := by omega
              have BE : Hid (Below w.heap.size w wr) := HA.out.bel.trans (J.out.mono HA.out.bel.size)
              go_wp2
              go_ret
              exact ⟨rfl, BE.out⟩
end Go.Proofs.Ytbjkahdlejaheab.regionTwice
