/-
  Behind a crash at any step an opened log has what some sealed regions had, each item as it was put, and all of what was sealed with OK: for every input the call returns true; no condition.
-/
import Derived.WalkKit
import Derived.Below
import Derived.Test.YtbjkahdlejaheaaZr9
import Derived.Test.YtbjkahdlejaheaaBy9
import Derived.Test.YtbjkahdlejaheaaRItems
import Derived.Test.YtbjkahdlejaheaaRRow
namespace Go.Proofs.Ytbjkahdlejaheaa.regionSealed
open Go.RowKit Go.Deep Math
set_option linter.unusedVariables false
set_option linter.unusedSimpArgs false

theorem from_nil {L : List It} {D : List Tr} (h : From [] L D) : ∀ x ∈ flatI D, x ∈ L := by
  obtain ⟨A, B, N, h1, h2, h3⟩ := h
  have hB : B = [] := (List.append_eq_nil_iff.1 h1.symm).2
  rw [h2, hB]
  exact h3
theorem ite_items (z y : It) (w' : World) : (if (txt z.key).toList = (txt y.key).toList then if (txt z.value).toList = (txt y.value).toList then if (z.flags : Int) = (y.flags : Int) then if z.exp = y.exp then if (z.ver : Int) = (y.ver : Int) then Result.ok (Next.value (Value.bool true)) w' else Result.ok (Next.value (Value.bool false)) w' else Result.ok (Next.value (Value.bool false)) w' else Result.ok (Next.value (Value.bool false)) w' else Result.ok (Next.value (Value.bool false)) w' else Result.ok (Next.value (Value.bool false)) w') = Result.ok (Next.value (Value.bool (itEq z y))) w' := by
  by_cases hzy : z = y
  · subst hzy; simp [itEq_self]
  · rw [itEq_ne hzy]
    by_cases h1 : (txt z.key).toList = (txt y.key).toList
    · by_cases h2 : (txt z.value).toList = (txt y.value).toList
      · by_cases h3 : (z.flags : Int) = (y.flags : Int)
        · by_cases h4 : z.exp = y.exp
          · by_cases h5 : (z.ver : Int) = (y.ver : Int)
            · exfalso
              apply hzy
              rw [txt_list, txt_list] at h1 h2
              obtain ⟨a, b, c, d, e⟩ := z
              obtain ⟨a', b', c', d', e'⟩ := y
              simp only at h1 h2 h3 h4 h5
              have h3' : c = c' := by omega
              have h5' : e = e' := by omega
              rw [h1, h2, h3', h4, h5']
            · rw [if_pos h1, if_pos h2, if_pos h3, if_pos h4, if_neg h5]
          · rw [if_pos h1, if_pos h2, if_pos h3, if_neg h4]
        · rw [if_pos h1, if_pos h2, if_neg h3]
      · rw [if_pos h1, if_neg h2]
    · rw [if_neg h1]
theorem below_drew (w : World) : Below w.heap.size w { w with drawn := w.drawn + 1 } := ⟨rfl, rfl, rfl, Nat.le_refl _, fun _ _ => rfl⟩
set_option maxRecDepth 8000 in
set_option maxHeartbeats 40000000 in
theorem walk (a0 : Int) (a1 : Option Addr) (len1 cap1 : Nat) (z1 : List It) (a2 : Int) (a3 : Option Addr) (len3 cap3 : Nat) (z3 : List UInt8) (w : World) (hw0 : (Lit.int .i64 a0).wf = true) (hw1 : RawAt w a1 len1 z1) (hw2 : (Lit.int .i64 a2).wf = true) (hw3 : BS w a3 len3 cap3 z3 ∧ (a3 = none → z3 = []) ∧ len3 ≤ 140737488351232) :
    Calls Try.prog 4 #[.int .i64 a0, .slice a1 len1 cap1, .int .i64 a2, .slice a3 len3 cap3] w fun e w' => e = .returned (.bool true) ∧ Below w.heap.size w w' := by
  have ca := hide (awake_any w)
  obtain ⟨hb, hnil, hbl⟩ := hw3
  have HP := hide hb
  have HPN := hide hnil
  have HPL := hide hbl
  have HW := hide hw1
  have HLEN := hide hw1.len
  have ha2 : a2 ≤ 9223372036854775807 := by
    have h1 : IntKind.i64.max = 9223372036854775807 := rfl
    simp [Lit.wf, h1] at hw2
    omega
  have HA2 := hide ha2
  clear hw0 hw1 hw2 hb hnil hbl ha2
  by_cases hpre : a0 < 1 ∨ 3 < a0 ∨ 25 < len1
  · go_enter Try.func4, Try.ntmps4
    by_cases q0 : a0 < 1
    · have e1' : (a0 < 1) = True := eq_true (by omega)
      clear hpre q0
      go_wp2_with fail
      refine ca.out.mono ?_
      rintro r w1 ⟨rfl, h1⟩
      have B1 := hide h1
      clear h1 ca
      go_wp2
      go_ret
      exact ⟨rfl, B1.out⟩
    have e1' : (a0 < 1) = False := eq_false (by omega)
    by_cases q1 : 3 < a0
    · have e2' : (3 < a0) = True := eq_true (by omega)
      clear hpre q0 q1
      go_wp2_with fail
      refine ca.out.mono ?_
      rintro r w1 ⟨rfl, h1⟩
      have B1 := hide h1
      clear h1 ca
      go_wp2
      go_ret
      exact ⟨rfl, B1.out⟩
    have e2' : (3 < a0) = False := eq_false (by omega)
    have e3' : ((25 : Int) < (len1 : Int)) = True := eq_true (by omega)
    clear hpre q0 q1
    go_wp2_with fail
    refine ca.out.mono ?_
    rintro r w1 ⟨rfl, h1⟩
    have B1 := hide h1
    clear h1 ca
    go_wp2
    go_ret
    exact ⟨rfl, B1.out⟩
  obtain ⟨R, rfl⟩ : ∃ n : Nat, a0 = (n : Int) := ⟨a0.toNat, by omega⟩
  have e1' : ((R : Int) < 1) = False := eq_false (by omega)
  have e2' : (3 < (R : Int)) = False := eq_false (by omega)
  have e3' : ((25 : Int) < (len1 : Int)) = False := eq_false (by omega)
  have HN : Hid (1 ≤ R ∧ R ≤ 3 ∧ len1 ≤ 25) := ⟨by omega, by omega, by omega⟩
  have hl25 : len1 ≤ 25 := by omega
  clear hpre
  go_enter Try.func4, Try.ntmps4
  go_wp2_with fail
  refine ca.out.mono ?_
  rintro r w1 ⟨rfl, h1⟩
  have B1 := hide h1
  clear h1 ca
  have cN := hide (new_law B1.out 12 (by omega) (by omega))
  go_wp2_with fail
  refine cN.out.mono ?_
  rintro e w2 ⟨d, F2, rfl, hl2, _⟩
  have cO := hide (open_new hl2 0 R HN.out.1 (by have := HN.out; omega) (by have := HN.out; omega))
  clear hl2 cN e1' e2' e3' B1
  go_wp2_with fail
  refine cO.out.mono ?_
  rintro e w4 ⟨l, m, v5, T, S, rfl, G4, hN, _⟩
  have A4 : Hid (Al R 0 z1 [] S T) := hN.al (by have := HN.out; omega)
  have cA := hide (arm_lg G4 a2 HA2.out)
  clear cO G4 hN
  go_wp2_with fail
  refine cA.out.mono ?_
  rintro e w5 ⟨rfl, G5⟩
  have U5 : Hid (PwPost w d l m R 0 z1 [] w5) := ⟨_, _, _, _, _, _, G5, .inl (A4.out.arm a2)⟩
  clear cA G5 A4
  go_wp2_with fail
  go_loopg [13] len1 (fun kx s13 wr => ∃ i : Nat, s13 = .int .i64 i ∧ i ≤ len1 ∧ len1 - i ≤ kx ∧ Hid (PwPost w d l m R i z1 [] wr))
  case atStart => exact ⟨0, rfl, Nat.zero_le _, by omega, U5.out⟩
  case round =>
    obtain ⟨i, rfl, hin, hg, I⟩ := hrel
    obtain ⟨v5, v6, v7, F, S, T, hG, hS⟩ := I.out
    have G := hide hG
    have HS := hide hS
    clear I hG hS U5
    by_cases hlt : i < len1
    · have hlt2 : (i : Int) < (len1 : Int) := by omega
      obtain ⟨x, hx⟩ : ∃ x, z1[i]? = some x := ⟨_, List.getElem?_eq_getElem (by rw [← HLEN.out]; exact hlt)⟩
      have HXF := hide (HW.out.fits x (List.mem_of_getElem? hx))
      have HXM := hide (List.mem_of_getElem? hx)
      obtain ⟨b, o, rfl, hb, hc⟩ := HW.out.cell i x hx
      have XW : Hid (∀ w', Below w.heap.size w w' → OneIt w' b (o + i * 5) x) := fun w' hb' => hc.below hb' hb
      clear hx hb hc
      obtain ⟨c0, c1, c2, c3, c4⟩ := (XW.out wr G.out.bel).vals
      have cP := hide (put_pw G.out HS.out HN.out.1 (by have := HN.out; omega) (by omega) x HXF.out HXM.out)
      rw [show x.val = .agg #[.string (txt x.key), .string (txt x.value), .int .u32 x.flags, .int .i64 x.exp, .int .u64 x.ver] from rfl] at cP
      go_wp2_with fail
      refine cP.out.mono ?_
      rintro e w6 ⟨⟨v, rfl⟩, hpw⟩
      have KE := hide hpw
      clear cP c0 c1 c2 c3 c4 hpw
      go_wp2
      go_roundg (len1 - (i + 1))
      case measure => omega
      case rel => exact ⟨i + 1, rfl, by omega, by omega, KE.out⟩
    · have hil : len1 = i := by omega
      subst hil
      have hlt2 : ¬ (len1 : Int) < (len1 : Int) := by omega
      have cS := hide (seal_pw G.out HS.out HN.out.1 (by have := HN.out; omega) (by omega))
      clear hg hin hlt
      go_wp2_with fail
      refine cS.out.mono ?_
      rintro e w6 ⟨va, vn, vc, er, rfl, hsp⟩
      obtain ⟨v5, v6, v7, F, S, T, hG, hS⟩ := hsp
      have G6 := hide hG
      clear cS G HS hG
      rcases hS with ⟨rfl, hA, hop⟩ | ⟨he, hDe⟩
      · by_cases hl0 : len1 = 0
        · have hq1 : ((0 : Int) < (len1 : Int)) = False := eq_false (by omega)
          have hq2 : ¬ 0 < len1 := by omega
          have CP : Hid (CutP R z1 [] z3 S []) := hA.cutN (by omega) z3
          have BW6 := hide G6.out.bel
          clear hA hop hl0
          have cC := hide (crash_lg G6.out HP.out HPN.out HPL.out)
          go_wp2_with fail
          refine cC.out.mono ?_
          rintro e w7 ⟨rfl, F7, G7, M7⟩
          have cO := hide (on_lg G7)
          clear cC G7 M7 G6 hq1 hq2
          go_wp2_with fail
          refine cO.out.mono ?_
          rintro e w8 ⟨rfl, F8, G8, M8⟩
          obtain ⟨M, D, hM, hW, hX⟩ := CP.out
          have hW2 : Wk R M z1 [] (S.crash z3).on.cs D := by rw [on_cs]; exact hW
          have cP := hide (open_wk G8 rfl hW2 HN.out.1 (by have := HN.out; omega))
          have HX := hide hX
          have HFR := hide (from_nil hW2.frm)
          clear cO G8 M8 hM hW hW2 hX CP
          go_wp2_with fail
          refine cP.out.mono ?_
          rintro e w9 ⟨lh, mh, v5h, Th, S9, rfl, G9, _, hO, K9⟩
          have cI := hide (items_log G9.lg (by have := hO.all; have := HN.out; omega) (by have := hO.len; have := HN.out; omega))
          have HO := hide hO
          have H9 := hide G9
          clear cP G9 hO K9
          go_wp2_with fail
          refine cI.out.mono ?_
          rintro e wa ⟨xa, xn, xc, rfl, hxn, hrow, bA⟩
          have HA := hide (H9.out.below bA)
          have RA := hide hrow
          have HXN := hide hxn
          have HIT : Hid (∀ y ∈ Th.items, y ∈ z1) := fun y hy => HFR.out y (lastIt_mem ((HO.out.items y).1 hy)).1
          have HIO := hide HO.out.itemsOk
          have hxn200 : xn ≤ 200 := by rw [HXN.out]; have h1 := hadOf_length Th Th.all; have h2 := HO.out.all; have h3 := HN.out; exact Nat.le_trans h1 (by omega)
          clear cI hrow hxn bA H9 HFR
          go_wp2_with fail
          go_loopg [18] xn (fun kx s18 wv => ∃ i : Nat, s18 = .int .i64 i ∧ i ≤ xn ∧ xn - i ≤ kx ∧ Hid (Below wa.heap.size wa wv))
          case atStart => exact ⟨0, rfl, Nat.zero_le _, by omega, Below.refl _ _⟩
          case round =>
            rename_i i0
            obtain ⟨i, rfl, hin2, hg2, J⟩ := hrel
            by_cases hlt3 : i < xn
            · have hlt4 : (i : Int) < (xn : Int) := by omega
              obtain ⟨y, hy⟩ : ∃ y, Th.items[i]? = some y := ⟨_, List.getElem?_eq_getElem (by rw [← HXN.out]; exact hlt3)⟩
              have HYM := hide (HIT.out y (List.mem_of_getElem? hy))
              have HY := hide hy
              clear hy
              go_wp2_with fail
              go_loopg [19, 20] len1 (fun ky s19 s20 wv => ∃ (b : Bool) (k : Nat), s19 = .bool b ∧ s20 = .int .i64 k ∧ k ≤ len1 ∧ len1 - k ≤ ky ∧ Hid ((b = true ↔ ∃ j, j < k ∧ z1[j]? = some y) ∧ Below wa.heap.size wa wv))
              case atStart => exact ⟨false, 0, rfl, rfl, Nat.zero_le _, by omega, ⟨fun h => (by cases h), fun ⟨j, hj, _⟩ => by omega⟩, J.out⟩
              case round =>
                obtain ⟨b, k, rfl, rfl, hk1, hk2, V⟩ := hrel
                clear J
                by_cases hkl : k < len1
                · have hkl2 : (k : Int) < (len1 : Int) := by omega
                  obtain ⟨z, hz⟩ : ∃ z, z1[k]? = some z := ⟨_, List.getElem?_eq_getElem (by rw [← HLEN.out]; exact hkl)⟩
                  have HZ := hide hz
                  have DR := hide (below_drew wr)
                  cases b with
                  | true =>
                    have E : Hid (∃ j, j < k + 1 ∧ z1[j]? = some y) := by
                      obtain ⟨j, h1, h2⟩ := V.out.1.1 rfl
                      exact ⟨j, by omega, h2⟩
                    have VB := hide V.out.2
                    clear V hz
                    go_wp2_with fail
                    refine wp_region_guardp (by kernel_rfl) (by kernel_rfl) (fun jx => ([.bool true, .bool true, undef, undef, undef, undef, undef, undef, undef, undef, undef, .bool true, .bool true] : List Value).getD jx undef) (fun W => Below wr.heap.size wr W) (size_of (n := 145) (by kernel_rfl) rfl) (DR.out) ?_ ?_
                    · intro jx ox hi w' ev hc hin hout hpre hcst hfn
                      have hltx : jx < 13 := by
                        have := (Array.getElem?_eq_some_iff.1 hi).1
                        simpa using this
                      match jx, hltx with
                      | 0, _ =>
                        simp only [List.getElem?_toArray, List.getElem?_cons_zero, List.getElem?_cons_succ, Option.some.injEq] at hi
                        subst hi
                        rw [if_pos (by first | rfl | simp [wantV])]
                        have e0 : ev (.tmp 19) = .bool true := hpre 19 12 (by kernel_rfl) (by kernel_rfl) (show (19 : Nat) < 145 by decide)
                        refine .inl ⟨w', ?_, hc⟩
                        show _ = Result.ok (Next.value (.bool true)) w'
                        simp [execOp, e0, hcst, go_sem]
                      | 1, _ =>
                        simp only [List.getElem?_toArray, List.getElem?_cons_zero, List.getElem?_cons_succ, Option.some.injEq] at hi
                        subst hi
                        rw [if_pos (by first | rfl | simp [wantV])]
                        have e0 : ev (.tmp 105) = .bool true := hin 105 0 ⟨0, .data⟩ (by kernel_rfl) (by simp) rfl rfl (show (105 : Nat) < 145 by decide)
                        refine .inl ⟨w', ?_, hc⟩
                        show _ = Result.ok (Next.value (.bool true)) w'
                        simp [execOp, e0, hcst, go_sem]
                      | 2, _ =>
                        simp only [List.getElem?_toArray, List.getElem?_cons_zero, List.getElem?_cons_succ, Option.some.injEq] at hi
                        subst hi
                        rw [if_neg (by first | (simp [wantV]; done) | (simp [wantV]; rfl))]
                        rfl
                      | 3, _ =>
                        simp only [List.getElem?_toArray, List.getElem?_cons_zero, List.getElem?_cons_succ, Option.some.injEq] at hi
                        subst hi
                        rw [if_neg (by first | (simp [wantV]; done) | (simp [wantV]; rfl))]
                        rfl
                      | 4, _ =>
                        simp only [List.getElem?_toArray, List.getElem?_cons_zero, List.getElem?_cons_succ, Option.some.injEq] at hi
                        subst hi
                        rw [if_neg (by first | (simp [wantV]; done) | (simp [wantV]; rfl))]
                        rfl
                      | 5, _ =>
                        simp only [List.getElem?_toArray, List.getElem?_cons_zero, List.getElem?_cons_succ, Option.some.injEq] at hi
                        subst hi
                        rw [if_neg (by first | (simp [wantV]; done) | (simp [wantV]; rfl))]
                        rfl
                      | 6, _ =>
                        simp only [List.getElem?_toArray, List.getElem?_cons_zero, List.getElem?_cons_succ, Option.some.injEq] at hi
                        subst hi
                        rw [if_neg (by first | (simp [wantV]; done) | (simp [wantV]; rfl))]
                        rfl
                      | 7, _ =>
                        simp only [List.getElem?_toArray, List.getElem?_cons_zero, List.getElem?_cons_succ, Option.some.injEq] at hi
                        subst hi
                        rw [if_neg (by first | (simp [wantV]; done) | (simp [wantV]; rfl))]
                        rfl
                      | 8, _ =>
                        simp only [List.getElem?_toArray, List.getElem?_cons_zero, List.getElem?_cons_succ, Option.some.injEq] at hi
                        subst hi
                        rw [if_neg (by first | (simp [wantV]; done) | (simp [wantV]; rfl))]
                        rfl
                      | 9, _ =>
                        simp only [List.getElem?_toArray, List.getElem?_cons_zero, List.getElem?_cons_succ, Option.some.injEq] at hi
                        subst hi
                        rw [if_neg (by first | (simp [wantV]; done) | (simp [wantV]; rfl))]
                        rfl
                      | 10, _ =>
                        simp only [List.getElem?_toArray, List.getElem?_cons_zero, List.getElem?_cons_succ, Option.some.injEq] at hi
                        subst hi
                        rw [if_neg (by first | (simp [wantV]; done) | (simp [wantV]; rfl))]
                        rfl
                      | 11, _ =>
                        simp only [List.getElem?_toArray, List.getElem?_cons_zero, List.getElem?_cons_succ, Option.some.injEq] at hi
                        subst hi
                        rw [if_pos (by first | rfl | simp [wantV])]
                        have e0 : ev (.tmp 106) = .bool true := hin 106 1 ⟨1, .data⟩ (by kernel_rfl) (by simp) rfl rfl (show (106 : Nat) < 145 by decide)
                        have e1 : ev (.tmp 115) = undef := hin 115 10 ⟨10, .data⟩ (by kernel_rfl) (by simp) rfl rfl (show (115 : Nat) < 145 by decide)
                        refine .inl ⟨w', ?_, hc⟩
                        show _ = Result.ok (Next.value (.bool true)) w'
                        simp [execOp, e0, e1, hcst, go_sem]
                      | 12, _ =>
                        simp only [List.getElem?_toArray, List.getElem?_cons_zero, List.getElem?_cons_succ, Option.some.injEq] at hi
                        subst hi
                        rw [if_pos (by first | rfl | simp [wantV])]
                        have e0 : ev (.tmp 116) = .bool true := hin 116 11 ⟨11, .data⟩ (by kernel_rfl) (by simp) rfl rfl (show (116 : Nat) < 145 by decide)
                        refine .inl ⟨w', ?_, hc⟩
                        show _ = Result.ok (Next.value (.bool true)) w'
                        simp [execOp, e0, hcst, go_sem]
                    · intro w7 hc
                      simp only [lexF, Act.put, List.setIfInBounds_toArray, List.set_cons_succ, List.set_cons_zero, List.getD_cons_succ, List.getD_cons_zero]
                      have VC := hide (VB.out.trans (hc.mono VB.out.size))
                      clear hc DR
                      go_wp2
                      go_roundg (len1 - (k + 1))
                      case measure => omega
                      case rel => exact ⟨true, k + 1, rfl, rfl, by omega, by omega, ⟨fun _ => E.out, fun _ => rfl⟩, VC.out⟩
                  | false =>
                    obtain ⟨lb, lo, rfl, hlb, hlc⟩ := HW.out.cell k z hz
                    obtain ⟨xa', xc', hvn, hIN, _, _, _⟩ := RA.out.its HIO.out
                    simp only [Value.slice.injEq] at hvn
                    obtain ⟨rfl, hq9, rfl⟩ := hvn
                    clear hq9
                    obtain ⟨xb, xo, rfl, hxb, hxc⟩ := hIN.cell i y HY.out
                    have VB := hide V.out.2
                    have XL : Hid (∀ w', Below wr.heap.size wr w' → OneIt w' lb (lo + k * 5) z) := fun w' hb => hlc.below (HA.out.bel.trans ((VB.out.trans (hb.mono VB.out.size)).mono HA.out.bel.size)) hlb
                    have XA : Hid (∀ w', Below wr.heap.size wr w' → OneIt w' xb (xo + i * 5) y) := fun w' hb => hxc.below (VB.out.trans (hb.mono VB.out.size)) hxb
                    have E : Hid ((itEq z y = true) ↔ ∃ j, j < k + 1 ∧ z1[j]? = some y) := by
                      rw [itEq_iff]
                      constructor
                      · intro h; exact ⟨k, by omega, by rw [HZ.out, h]⟩
                      · rintro ⟨j, h1, h2⟩
                        rcases Nat.lt_or_ge j k with h3 | h3
                        · have := V.out.1.2 ⟨j, h3, h2⟩; cases this
                        · have e : j = k := by omega
                          rw [e, HZ.out] at h2
                          exact Option.some.inj h2
                    clear V hz hlb hlc hIN hxb hxc
                    go_wp2_with fail
                    refine wp_region_guardp (by kernel_rfl) (by kernel_rfl) (fun jx => ([.bool false, .bool false, .slice (some ⟨lb, lo, none⟩) len1 cap1, .int .i64 (k : Int), .pointer (some ⟨lb, lo + k * 5, none⟩), .agg #[.string (txt z.key), .string (txt z.value), .int .u32 z.flags, .int .i64 z.exp, .int .u64 z.ver], .slice (some ⟨xb, xo, none⟩) xn xc, .int .i64 (i : Int), .pointer (some ⟨xb, xo + i * 5, none⟩), .agg #[.string (txt y.key), .string (txt y.value), .int .u32 y.flags, .int .i64 y.exp, .int .u64 y.ver], .bool (itEq z y), .bool (itEq z y), .bool (itEq z y)] : List Value).getD jx undef) (fun W => Below wr.heap.size wr W) (size_of (n := 145) (by kernel_rfl) rfl) (DR.out) ?_ ?_
                    · intro jx ox hi w' ev hc hin hout hpre hcst hfn
                      have hltx : jx < 13 := by
                        have := (Array.getElem?_eq_some_iff.1 hi).1
                        simpa using this
                      match jx, hltx with
                      | 0, _ =>
                        simp only [List.getElem?_toArray, List.getElem?_cons_zero, List.getElem?_cons_succ, Option.some.injEq] at hi
                        subst hi
                        rw [if_pos (by first | rfl | simp [wantV])]
                        have e0 : ev (.tmp 19) = .bool false := hpre 19 12 (by kernel_rfl) (by kernel_rfl) (show (19 : Nat) < 145 by decide)
                        refine .inl ⟨w', ?_, hc⟩
                        show _ = Result.ok (Next.value (.bool false)) w'
                        simp [execOp, e0, hcst, go_sem]
                      | 1, _ =>
                        simp only [List.getElem?_toArray, List.getElem?_cons_zero, List.getElem?_cons_succ, Option.some.injEq] at hi
                        subst hi
                        rw [if_pos (by first | rfl | simp [wantV])]
                        have e0 : ev (.tmp 105) = .bool false := hin 105 0 ⟨0, .data⟩ (by kernel_rfl) (by simp) rfl rfl (show (105 : Nat) < 145 by decide)
                        refine .inl ⟨w', ?_, hc⟩
                        show _ = Result.ok (Next.value (.bool false)) w'
                        simp [execOp, e0, hcst, go_sem]
                      | 2, _ =>
                        simp only [List.getElem?_toArray, List.getElem?_cons_zero, List.getElem?_cons_succ, Option.some.injEq] at hi
                        subst hi
                        rw [if_pos (by first | rfl | simp [wantV])]
                        have e0 : ev (.tmp 1) = .slice (some ⟨lb, lo, none⟩) len1 cap1 := hout 1 (by kernel_rfl) (show (1 : Nat) < 145 by decide)
                        refine .inl ⟨w', ?_, hc⟩
                        show _ = Result.ok (Next.value (.slice (some ⟨lb, lo, none⟩) len1 cap1)) w'
                        simp [execOp, e0, hcst, go_sem]
                      | 3, _ =>
                        simp only [List.getElem?_toArray, List.getElem?_cons_zero, List.getElem?_cons_succ, Option.some.injEq] at hi
                        subst hi
                        rw [if_pos (by first | rfl | simp [wantV])]
                        have e0 : ev (.tmp 20) = .int .i64 (k : Int) := hout 20 (by kernel_rfl) (show (20 : Nat) < 145 by decide)
                        refine .inl ⟨w', ?_, hc⟩
                        show _ = Result.ok (Next.value (.int .i64 (k : Int))) w'
                        simp [execOp, e0, hcst, go_sem]
                      | 4, _ =>
                        simp only [List.getElem?_toArray, List.getElem?_cons_zero, List.getElem?_cons_succ, Option.some.injEq] at hi
                        subst hi
                        rw [if_pos (by first | rfl | simp [wantV])]
                        have e0 : ev (.tmp 107) = .slice (some ⟨lb, lo, none⟩) len1 cap1 := hin 107 2 ⟨2, .data⟩ (by kernel_rfl) (by simp) rfl rfl (show (107 : Nat) < 145 by decide)
                        have e1 : ev (.tmp 108) = .int .i64 (k : Int) := hin 108 3 ⟨3, .data⟩ (by kernel_rfl) (by simp) rfl rfl (show (108 : Nat) < 145 by decide)
                        refine .inl ⟨w', ?_, hc⟩
                        show _ = Result.ok (Next.value (.pointer (some ⟨lb, lo + k * 5, none⟩))) w'
                        simp only [execOp, e0, e1, hcst]
                        go_simp
                      | 5, _ =>
                        simp only [List.getElem?_toArray, List.getElem?_cons_zero, List.getElem?_cons_succ, Option.some.injEq] at hi
                        subst hi
                        rw [if_pos (by first | rfl | simp [wantV])]
                        have e0 : ev (.tmp 109) = .pointer (some ⟨lb, lo + k * 5, none⟩) := hin 109 4 ⟨4, .data⟩ (by kernel_rfl) (by simp) rfl rfl (show (109 : Nat) < 145 by decide)
                        refine .inl ⟨w', ?_, hc⟩
                        show _ = Result.ok (Next.value (.agg #[.string (txt z.key), .string (txt z.value), .int .u32 z.flags, .int .i64 z.exp, .int .u64 z.ver])) w'
                        obtain ⟨y0, y1, y2, y3, y4⟩ := (XL.out w' hc).vals
                        simp only [execOp, e0]
                        go_simp
                      | 6, _ =>
                        simp only [List.getElem?_toArray, List.getElem?_cons_zero, List.getElem?_cons_succ, Option.some.injEq] at hi
                        subst hi
                        rw [if_pos (by first | rfl | simp [wantV])]
                        have e0 : ev (.tmp 17) = .slice (some ⟨xb, xo, none⟩) xn xc := hout 17 (by kernel_rfl) (show (17 : Nat) < 145 by decide)
                        refine .inl ⟨w', ?_, hc⟩
                        show _ = Result.ok (Next.value (.slice (some ⟨xb, xo, none⟩) xn xc)) w'
                        simp [execOp, e0, hcst, go_sem]
                      | 7, _ =>
                        simp only [List.getElem?_toArray, List.getElem?_cons_zero, List.getElem?_cons_succ, Option.some.injEq] at hi
                        subst hi
                        rw [if_pos (by first | rfl | simp [wantV])]
                        have e0 : ev (.tmp 18) = .int .i64 (i : Int) := hout 18 (by kernel_rfl) (show (18 : Nat) < 145 by decide)
                        refine .inl ⟨w', ?_, hc⟩
                        show _ = Result.ok (Next.value (.int .i64 (i : Int))) w'
                        simp [execOp, e0, hcst, go_sem]
                      | 8, _ =>
                        simp only [List.getElem?_toArray, List.getElem?_cons_zero, List.getElem?_cons_succ, Option.some.injEq] at hi
                        subst hi
                        rw [if_pos (by first | rfl | simp [wantV])]
                        have e0 : ev (.tmp 111) = .slice (some ⟨xb, xo, none⟩) xn xc := hin 111 6 ⟨6, .data⟩ (by kernel_rfl) (by simp) rfl rfl (show (111 : Nat) < 145 by decide)
                        have e1 : ev (.tmp 112) = .int .i64 (i : Int) := hin 112 7 ⟨7, .data⟩ (by kernel_rfl) (by simp) rfl rfl (show (112 : Nat) < 145 by decide)
                        refine .inl ⟨w', ?_, hc⟩
                        show _ = Result.ok (Next.value (.pointer (some ⟨xb, xo + i * 5, none⟩))) w'
                        simp only [execOp, e0, e1, hcst]
                        go_simp
                      | 9, _ =>
                        simp only [List.getElem?_toArray, List.getElem?_cons_zero, List.getElem?_cons_succ, Option.some.injEq] at hi
                        subst hi
                        rw [if_pos (by first | rfl | simp [wantV])]
                        have e0 : ev (.tmp 113) = .pointer (some ⟨xb, xo + i * 5, none⟩) := hin 113 8 ⟨8, .data⟩ (by kernel_rfl) (by simp) rfl rfl (show (113 : Nat) < 145 by decide)
                        refine .inl ⟨w', ?_, hc⟩
                        show _ = Result.ok (Next.value (.agg #[.string (txt y.key), .string (txt y.value), .int .u32 y.flags, .int .i64 y.exp, .int .u64 y.ver])) w'
                        obtain ⟨y0, y1, y2, y3, y4⟩ := (XA.out w' hc).vals
                        simp only [execOp, e0]
                        go_simp
                      | 10, _ =>
                        simp only [List.getElem?_toArray, List.getElem?_cons_zero, List.getElem?_cons_succ, Option.some.injEq] at hi
                        subst hi
                        rw [if_pos (by first | rfl | simp [wantV])]
                        have e0 : ev (.tmp 110) = .agg #[.string (txt z.key), .string (txt z.value), .int .u32 z.flags, .int .i64 z.exp, .int .u64 z.ver] := hin 110 5 ⟨5, .data⟩ (by kernel_rfl) (by simp) rfl rfl (show (110 : Nat) < 145 by decide)
                        have e1 : ev (.tmp 114) = .agg #[.string (txt y.key), .string (txt y.value), .int .u32 y.flags, .int .i64 y.exp, .int .u64 y.ver] := hin 114 9 ⟨9, .data⟩ (by kernel_rfl) (by simp) rfl rfl (show (114 : Nat) < 145 by decide)
                        refine .inl ⟨w', ?_, hc⟩
                        show _ = Result.ok (Next.value (.bool (itEq z y))) w'
                        simp [execOp, e0, e1, hcst, go_sem]
                        exact ite_items z y w'
                      | 11, _ =>
                        simp only [List.getElem?_toArray, List.getElem?_cons_zero, List.getElem?_cons_succ, Option.some.injEq] at hi
                        subst hi
                        rw [if_pos (by first | rfl | simp [wantV])]
                        have e0 : ev (.tmp 106) = .bool false := hin 106 1 ⟨1, .data⟩ (by kernel_rfl) (by simp) rfl rfl (show (106 : Nat) < 145 by decide)
                        have e1 : ev (.tmp 115) = .bool (itEq z y) := hin 115 10 ⟨10, .data⟩ (by kernel_rfl) (by simp) rfl rfl (show (115 : Nat) < 145 by decide)
                        refine .inl ⟨w', ?_, hc⟩
                        show _ = Result.ok (Next.value (.bool (itEq z y))) w'
                        simp [execOp, e0, e1, hcst, go_sem]
                      | 12, _ =>
                        simp only [List.getElem?_toArray, List.getElem?_cons_zero, List.getElem?_cons_succ, Option.some.injEq] at hi
                        subst hi
                        rw [if_pos (by first | rfl | simp [wantV])]
                        have e0 : ev (.tmp 116) = .bool (itEq z y) := hin 116 11 ⟨11, .data⟩ (by kernel_rfl) (by simp) rfl rfl (show (116 : Nat) < 145 by decide)
                        refine .inl ⟨w', ?_, hc⟩
                        show _ = Result.ok (Next.value (.bool (itEq z y))) w'
                        simp [execOp, e0, hcst, go_sem]
                    · intro w7 hc
                      simp only [lexF, Act.put, List.setIfInBounds_toArray, List.set_cons_succ, List.set_cons_zero, List.getD_cons_succ, List.getD_cons_zero]
                      have VC := hide (VB.out.trans (hc.mono VB.out.size))
                      clear hc DR XL XA
                      go_wp2
                      go_roundg (len1 - (k + 1))
                      case measure => omega
                      case rel => exact ⟨itEq z y, k + 1, rfl, rfl, by omega, by omega, E.out, VC.out⟩
                · have hk0 : k = len1 := by omega
                  have hb : b = true := V.out.1.2 (by
                    obtain ⟨j, hj⟩ := List.getElem?_of_mem HYM.out
                    have := (List.getElem?_eq_some_iff.1 hj).1
                    exact ⟨j, by rw [hk0, HLEN.out]; exact this, hj⟩)
                  subst hb
                  have hkl2 : ¬ (k : Int) < (len1 : Int) := by omega
                  have VB := hide V.out.2
                  clear V hk0
                  go_wp2
                  go_roundg (xn - (i + 1))
                  case measure => omega
                  case rel => exact ⟨i + 1, rfl, by omega, by omega, VB.out⟩
            · have hlt4 : ¬ (i : Int) < (xn : Int) := by omega
              have BJ := hide J.out
              clear J hin2 hg2 hlt3
              go_wp2_with fail
              go_loopg [21] 1 (fun kx s21 wv => s21 = .int .i64 0 ∧ Hid (Below wa.heap.size wa wv))
              case atStart => exact ⟨rfl, BJ.out⟩
              case round =>
                obtain ⟨rfl, Y⟩ := hrel
                have BE : Hid (Below w.heap.size w wr) := HA.out.bel.trans (Y.out.mono HA.out.bel.size)
                go_wp2
                go_ret
                exact ⟨rfl, BE.out⟩
        · have hq1 : ((0 : Int) < (len1 : Int)) = True := eq_true (by omega)
          have hq2 : 0 < len1 := by omega
          have HAL : Hid (T.items.length ≤ 300) := by show T.items.length ≤ 300; have h1 := hadOf_length T T.all; have h2 := hA.all; exact Nat.le_trans h1 (by omega)
          have CP : Hid (CutP R z1 [] z3 S T.items) := hA.cutP (by omega) hop z3
          have cI := hide (items_log G6.out.lg (by have := hA.all; omega) (by have := hA.regs; omega))
          clear hA hop hl0
          go_wp2_with fail
          refine cI.out.mono ?_
          rintro e w6b ⟨sa, sn, sc, rfl, hsn, hsr, b6⟩
          have SR : Hid (Row w6b w.heap.size (.slice sa sn sc) T.items ∧ ∀ q, (Value.slice sa sn sc).ownBlock = some q → q ∉ F) := ⟨hsr.mono G6.out.bel.size, fun q hq hF => by
            have h1 := (hsr.lt q hq).1
            have h2 := G6.out.dev.lt q hF
            omega⟩
          have G6b := hide (G6.out.below b6)
          have HSN := hide hsn
          have hsn300 : sn ≤ 300 := by rw [HSN.out]; exact HAL.out
          clear cI hsn hsr b6 hq1 hq2
          have cC := hide (crash_lg G6b.out HP.out HPN.out HPL.out)
          go_wp2_with fail
          refine cC.out.mono ?_
          rintro e w7 ⟨rfl, F7, G7, M7⟩
          have SR7 := hide (row_moves SR.out.1 SR.out.2 M7)
          have cO := hide (on_lg G7)
          clear cC G7 M7 SR G6b G6
          go_wp2_with fail
          refine cO.out.mono ?_
          rintro e w8 ⟨rfl, F8, G8, M8⟩
          have SR8 := hide (row_moves SR7.out.1 SR7.out.2 M8)
          obtain ⟨M, D, hM, hW, hX⟩ := CP.out
          have hW2 : Wk R M z1 [] (S.crash z3).on.cs D := by rw [on_cs]; exact hW
          have cP := hide (open_wk G8 rfl hW2 HN.out.1 (by have := HN.out; omega))
          have HX := hide hX
          have HFR := hide (from_nil hW2.frm)
          clear cO G8 M8 hM hW hW2 hX CP SR7
          go_wp2_with fail
          refine cP.out.mono ?_
          rintro e w9 ⟨lh, mh, v5h, Th, S9, rfl, G9, _, hO, K9⟩
          have SR9 := hide (row_moves SR8.out.1 SR8.out.2 (Moves.of_keep K9))
          have cI := hide (items_log G9.lg (by have := hO.all; have := HN.out; omega) (by have := hO.len; have := HN.out; omega))
          have HO := hide hO
          have H9 := hide G9
          clear cP G9 hO K9 SR8
          go_wp2_with fail
          refine cI.out.mono ?_
          rintro e wa ⟨xa, xn, xc, rfl, hxn, hrow, bA⟩
          have HA := hide (H9.out.below bA)
          have SRA := hide (SR9.out.1.below bA)
          have RA := hide hrow
          have HXN := hide hxn
          have HIT : Hid (∀ y ∈ Th.items, y ∈ z1) := fun y hy => HFR.out y (lastIt_mem ((HO.out.items y).1 hy)).1
          have HIO := hide HO.out.itemsOk
          have hxn200 : xn ≤ 200 := by rw [HXN.out]; have h1 := hadOf_length Th Th.all; have h2 := HO.out.all; have h3 := HN.out; exact Nat.le_trans h1 (by omega)
          clear cI hrow hxn bA H9 HFR SR9
          go_wp2_with fail
          go_loopg [18] xn (fun kx s18 wv => ∃ i : Nat, s18 = .int .i64 i ∧ i ≤ xn ∧ xn - i ≤ kx ∧ Hid (Below wa.heap.size wa wv))
          case atStart => exact ⟨0, rfl, Nat.zero_le _, by omega, Below.refl _ _⟩
          case round =>
            rename_i i0
            obtain ⟨i, rfl, hin2, hg2, J⟩ := hrel
            by_cases hlt3 : i < xn
            · have hlt4 : (i : Int) < (xn : Int) := by omega
              obtain ⟨y, hy⟩ : ∃ y, Th.items[i]? = some y := ⟨_, List.getElem?_eq_getElem (by rw [← HXN.out]; exact hlt3)⟩
              have HYM := hide (HIT.out y (List.mem_of_getElem? hy))
              have HY := hide hy
              clear hy
              go_wp2_with fail
              go_loopg [19, 20] len1 (fun ky s19 s20 wv => ∃ (b : Bool) (k : Nat), s19 = .bool b ∧ s20 = .int .i64 k ∧ k ≤ len1 ∧ len1 - k ≤ ky ∧ Hid ((b = true ↔ ∃ j, j < k ∧ z1[j]? = some y) ∧ Below wa.heap.size wa wv))
              case atStart => exact ⟨false, 0, rfl, rfl, Nat.zero_le _, by omega, ⟨fun h => (by cases h), fun ⟨j, hj, _⟩ => by omega⟩, J.out⟩
              case round =>
                obtain ⟨b, k, rfl, rfl, hk1, hk2, V⟩ := hrel
                clear J
                by_cases hkl : k < len1
                · have hkl2 : (k : Int) < (len1 : Int) := by omega
                  obtain ⟨z, hz⟩ : ∃ z, z1[k]? = some z := ⟨_, List.getElem?_eq_getElem (by rw [← HLEN.out]; exact hkl)⟩
                  have HZ := hide hz
                  have DR := hide (below_drew wr)
                  cases b with
                  | true =>
                    have E : Hid (∃ j, j < k + 1 ∧ z1[j]? = some y) := by
                      obtain ⟨j, h1, h2⟩ := V.out.1.1 rfl
                      exact ⟨j, by omega, h2⟩
                    have VB := hide V.out.2
                    clear V hz
                    go_wp2_with fail
                    refine wp_region_guardp (by kernel_rfl) (by kernel_rfl) (fun jx => ([.bool true, .bool true, undef, undef, undef, undef, undef, undef, undef, undef, undef, .bool true, .bool true] : List Value).getD jx undef) (fun W => Below wr.heap.size wr W) (size_of (n := 145) (by kernel_rfl) rfl) (DR.out) ?_ ?_
                    · intro jx ox hi w' ev hc hin hout hpre hcst hfn
                      have hltx : jx < 13 := by
                        have := (Array.getElem?_eq_some_iff.1 hi).1
                        simpa using this
                      match jx, hltx with
                      | 0, _ =>
                        simp only [List.getElem?_toArray, List.getElem?_cons_zero, List.getElem?_cons_succ, Option.some.injEq] at hi
                        subst hi
                        rw [if_pos (by first | rfl | simp [wantV])]
                        have e0 : ev (.tmp 19) = .bool true := hpre 19 12 (by kernel_rfl) (by kernel_rfl) (show (19 : Nat) < 145 by decide)
                        refine .inl ⟨w', ?_, hc⟩
                        show _ = Result.ok (Next.value (.bool true)) w'
                        simp [execOp, e0, hcst, go_sem]
                      | 1, _ =>
                        simp only [List.getElem?_toArray, List.getElem?_cons_zero, List.getElem?_cons_succ, Option.some.injEq] at hi
                        subst hi
                        rw [if_pos (by first | rfl | simp [wantV])]
                        have e0 : ev (.tmp 105) = .bool true := hin 105 0 ⟨0, .data⟩ (by kernel_rfl) (by simp) rfl rfl (show (105 : Nat) < 145 by decide)
                        refine .inl ⟨w', ?_, hc⟩
                        show _ = Result.ok (Next.value (.bool true)) w'
                        simp [execOp, e0, hcst, go_sem]
                      | 2, _ =>
                        simp only [List.getElem?_toArray, List.getElem?_cons_zero, List.getElem?_cons_succ, Option.some.injEq] at hi
                        subst hi
                        rw [if_neg (by first | (simp [wantV]; done) | (simp [wantV]; rfl))]
                        rfl
                      | 3, _ =>
                        simp only [List.getElem?_toArray, List.getElem?_cons_zero, List.getElem?_cons_succ, Option.some.injEq] at hi
                        subst hi
                        rw [if_neg (by first | (simp [wantV]; done) | (simp [wantV]; rfl))]
                        rfl
                      | 4, _ =>
                        simp only [List.getElem?_toArray, List.getElem?_cons_zero, List.getElem?_cons_succ, Option.some.injEq] at hi
                        subst hi
                        rw [if_neg (by first | (simp [wantV]; done) | (simp [wantV]; rfl))]
                        rfl
                      | 5, _ =>
                        simp only [List.getElem?_toArray, List.getElem?_cons_zero, List.getElem?_cons_succ, Option.some.injEq] at hi
                        subst hi
                        rw [if_neg (by first | (simp [wantV]; done) | (simp [wantV]; rfl))]
                        rfl
                      | 6, _ =>
                        simp only [List.getElem?_toArray, List.getElem?_cons_zero, List.getElem?_cons_succ, Option.some.injEq] at hi
                        subst hi
                        rw [if_neg (by first | (simp [wantV]; done) | (simp [wantV]; rfl))]
                        rfl
                      | 7, _ =>
                        simp only [List.getElem?_toArray, List.getElem?_cons_zero, List.getElem?_cons_succ, Option.some.injEq] at hi
                        subst hi
                        rw [if_neg (by first | (simp [wantV]; done) | (simp [wantV]; rfl))]
                        rfl
                      | 8, _ =>
                        simp only [List.getElem?_toArray, List.getElem?_cons_zero, List.getElem?_cons_succ, Option.some.injEq] at hi
                        subst hi
                        rw [if_neg (by first | (simp [wantV]; done) | (simp [wantV]; rfl))]
                        rfl
                      | 9, _ =>
                        simp only [List.getElem?_toArray, List.getElem?_cons_zero, List.getElem?_cons_succ, Option.some.injEq] at hi
                        subst hi
                        rw [if_neg (by first | (simp [wantV]; done) | (simp [wantV]; rfl))]
                        rfl
                      | 10, _ =>
                        simp only [List.getElem?_toArray, List.getElem?_cons_zero, List.getElem?_cons_succ, Option.some.injEq] at hi
                        subst hi
                        rw [if_neg (by first | (simp [wantV]; done) | (simp [wantV]; rfl))]
                        rfl
                      | 11, _ =>
                        simp only [List.getElem?_toArray, List.getElem?_cons_zero, List.getElem?_cons_succ, Option.some.injEq] at hi
                        subst hi
                        rw [if_pos (by first | rfl | simp [wantV])]
                        have e0 : ev (.tmp 106) = .bool true := hin 106 1 ⟨1, .data⟩ (by kernel_rfl) (by simp) rfl rfl (show (106 : Nat) < 145 by decide)
                        have e1 : ev (.tmp 115) = undef := hin 115 10 ⟨10, .data⟩ (by kernel_rfl) (by simp) rfl rfl (show (115 : Nat) < 145 by decide)
                        refine .inl ⟨w', ?_, hc⟩
                        show _ = Result.ok (Next.value (.bool true)) w'
                        simp [execOp, e0, e1, hcst, go_sem]
                      | 12, _ =>
                        simp only [List.getElem?_toArray, List.getElem?_cons_zero, List.getElem?_cons_succ, Option.some.injEq] at hi
                        subst hi
                        rw [if_pos (by first | rfl | simp [wantV])]
                        have e0 : ev (.tmp 116) = .bool true := hin 116 11 ⟨11, .data⟩ (by kernel_rfl) (by simp) rfl rfl (show (116 : Nat) < 145 by decide)
                        refine .inl ⟨w', ?_, hc⟩
                        show _ = Result.ok (Next.value (.bool true)) w'
                        simp [execOp, e0, hcst, go_sem]
                    · intro w7 hc
                      simp only [lexF, Act.put, List.setIfInBounds_toArray, List.set_cons_succ, List.set_cons_zero, List.getD_cons_succ, List.getD_cons_zero]
                      have VC := hide (VB.out.trans (hc.mono VB.out.size))
                      clear hc DR
                      go_wp2
                      go_roundg (len1 - (k + 1))
                      case measure => omega
                      case rel => exact ⟨true, k + 1, rfl, rfl, by omega, by omega, ⟨fun _ => E.out, fun _ => rfl⟩, VC.out⟩
                  | false =>
                    obtain ⟨lb, lo, rfl, hlb, hlc⟩ := HW.out.cell k z hz
                    obtain ⟨xa', xc', hvn, hIN, _, _, _⟩ := RA.out.its HIO.out
                    simp only [Value.slice.injEq] at hvn
                    obtain ⟨rfl, hq9, rfl⟩ := hvn
                    clear hq9
                    obtain ⟨xb, xo, rfl, hxb, hxc⟩ := hIN.cell i y HY.out
                    have VB := hide V.out.2
                    have XL : Hid (∀ w', Below wr.heap.size wr w' → OneIt w' lb (lo + k * 5) z) := fun w' hb => hlc.below (HA.out.bel.trans ((VB.out.trans (hb.mono VB.out.size)).mono HA.out.bel.size)) hlb
                    have XA : Hid (∀ w', Below wr.heap.size wr w' → OneIt w' xb (xo + i * 5) y) := fun w' hb => hxc.below (VB.out.trans (hb.mono VB.out.size)) hxb
                    have E : Hid ((itEq z y = true) ↔ ∃ j, j < k + 1 ∧ z1[j]? = some y) := by
                      rw [itEq_iff]
                      constructor
                      · intro h; exact ⟨k, by omega, by rw [HZ.out, h]⟩
                      · rintro ⟨j, h1, h2⟩
                        rcases Nat.lt_or_ge j k with h3 | h3
                        · have := V.out.1.2 ⟨j, h3, h2⟩; cases this
                        · have e : j = k := by omega
                          rw [e, HZ.out] at h2
                          exact Option.some.inj h2
                    clear V hz hlb hlc hIN hxb hxc
                    go_wp2_with fail
                    refine wp_region_guardp (by kernel_rfl) (by kernel_rfl) (fun jx => ([.bool false, .bool false, .slice (some ⟨lb, lo, none⟩) len1 cap1, .int .i64 (k : Int), .pointer (some ⟨lb, lo + k * 5, none⟩), .agg #[.string (txt z.key), .string (txt z.value), .int .u32 z.flags, .int .i64 z.exp, .int .u64 z.ver], .slice (some ⟨xb, xo, none⟩) xn xc, .int .i64 (i : Int), .pointer (some ⟨xb, xo + i * 5, none⟩), .agg #[.string (txt y.key), .string (txt y.value), .int .u32 y.flags, .int .i64 y.exp, .int .u64 y.ver], .bool (itEq z y), .bool (itEq z y), .bool (itEq z y)] : List Value).getD jx undef) (fun W => Below wr.heap.size wr W) (size_of (n := 145) (by kernel_rfl) rfl) (DR.out) ?_ ?_
                    · intro jx ox hi w' ev hc hin hout hpre hcst hfn
                      have hltx : jx < 13 := by
                        have := (Array.getElem?_eq_some_iff.1 hi).1
                        simpa using this
                      match jx, hltx with
                      | 0, _ =>
                        simp only [List.getElem?_toArray, List.getElem?_cons_zero, List.getElem?_cons_succ, Option.some.injEq] at hi
                        subst hi
                        rw [if_pos (by first | rfl | simp [wantV])]
                        have e0 : ev (.tmp 19) = .bool false := hpre 19 12 (by kernel_rfl) (by kernel_rfl) (show (19 : Nat) < 145 by decide)
                        refine .inl ⟨w', ?_, hc⟩
                        show _ = Result.ok (Next.value (.bool false)) w'
                        simp [execOp, e0, hcst, go_sem]
                      | 1, _ =>
                        simp only [List.getElem?_toArray, List.getElem?_cons_zero, List.getElem?_cons_succ, Option.some.injEq] at hi
                        subst hi
                        rw [if_pos (by first | rfl | simp [wantV])]
                        have e0 : ev (.tmp 105) = .bool false := hin 105 0 ⟨0, .data⟩ (by kernel_rfl) (by simp) rfl rfl (show (105 : Nat) < 145 by decide)
                        refine .inl ⟨w', ?_, hc⟩
                        show _ = Result.ok (Next.value (.bool false)) w'
                        simp [execOp, e0, hcst, go_sem]
                      | 2, _ =>
                        simp only [List.getElem?_toArray, List.getElem?_cons_zero, List.getElem?_cons_succ, Option.some.injEq] at hi
                        subst hi
                        rw [if_pos (by first | rfl | simp [wantV])]
                        have e0 : ev (.tmp 1) = .slice (some ⟨lb, lo, none⟩) len1 cap1 := hout 1 (by kernel_rfl) (show (1 : Nat) < 145 by decide)
                        refine .inl ⟨w', ?_, hc⟩
                        show _ = Result.ok (Next.value (.slice (some ⟨lb, lo, none⟩) len1 cap1)) w'
                        simp [execOp, e0, hcst, go_sem]
                      | 3, _ =>
                        simp only [List.getElem?_toArray, List.getElem?_cons_zero, List.getElem?_cons_succ, Option.some.injEq] at hi
                        subst hi
                        rw [if_pos (by first | rfl | simp [wantV])]
                        have e0 : ev (.tmp 20) = .int .i64 (k : Int) := hout 20 (by kernel_rfl) (show (20 : Nat) < 145 by decide)
                        refine .inl ⟨w', ?_, hc⟩
                        show _ = Result.ok (Next.value (.int .i64 (k : Int))) w'
                        simp [execOp, e0, hcst, go_sem]
                      | 4, _ =>
                        simp only [List.getElem?_toArray, List.getElem?_cons_zero, List.getElem?_cons_succ, Option.some.injEq] at hi
                        subst hi
                        rw [if_pos (by first | rfl | simp [wantV])]
                        have e0 : ev (.tmp 107) = .slice (some ⟨lb, lo, none⟩) len1 cap1 := hin 107 2 ⟨2, .data⟩ (by kernel_rfl) (by simp) rfl rfl (show (107 : Nat) < 145 by decide)
                        have e1 : ev (.tmp 108) = .int .i64 (k : Int) := hin 108 3 ⟨3, .data⟩ (by kernel_rfl) (by simp) rfl rfl (show (108 : Nat) < 145 by decide)
                        refine .inl ⟨w', ?_, hc⟩
                        show _ = Result.ok (Next.value (.pointer (some ⟨lb, lo + k * 5, none⟩))) w'
                        simp only [execOp, e0, e1, hcst]
                        go_simp
                      | 5, _ =>
                        simp only [List.getElem?_toArray, List.getElem?_cons_zero, List.getElem?_cons_succ, Option.some.injEq] at hi
                        subst hi
                        rw [if_pos (by first | rfl | simp [wantV])]
                        have e0 : ev (.tmp 109) = .pointer (some ⟨lb, lo + k * 5, none⟩) := hin 109 4 ⟨4, .data⟩ (by kernel_rfl) (by simp) rfl rfl (show (109 : Nat) < 145 by decide)
                        refine .inl ⟨w', ?_, hc⟩
                        show _ = Result.ok (Next.value (.agg #[.string (txt z.key), .string (txt z.value), .int .u32 z.flags, .int .i64 z.exp, .int .u64 z.ver])) w'
                        obtain ⟨y0, y1, y2, y3, y4⟩ := (XL.out w' hc).vals
                        simp only [execOp, e0]
                        go_simp
                      | 6, _ =>
                        simp only [List.getElem?_toArray, List.getElem?_cons_zero, List.getElem?_cons_succ, Option.some.injEq] at hi
                        subst hi
                        rw [if_pos (by first | rfl | simp [wantV])]
                        have e0 : ev (.tmp 17) = .slice (some ⟨xb, xo, none⟩) xn xc := hout 17 (by kernel_rfl) (show (17 : Nat) < 145 by decide)
                        refine .inl ⟨w', ?_, hc⟩
                        show _ = Result.ok (Next.value (.slice (some ⟨xb, xo, none⟩) xn xc)) w'
                        simp [execOp, e0, hcst, go_sem]
                      | 7, _ =>
                        simp only [List.getElem?_toArray, List.getElem?_cons_zero, List.getElem?_cons_succ, Option.some.injEq] at hi
                        subst hi
                        rw [if_pos (by first | rfl | simp [wantV])]
                        have e0 : ev (.tmp 18) = .int .i64 (i : Int) := hout 18 (by kernel_rfl) (show (18 : Nat) < 145 by decide)
                        refine .inl ⟨w', ?_, hc⟩
                        show _ = Result.ok (Next.value (.int .i64 (i : Int))) w'
                        simp [execOp, e0, hcst, go_sem]
                      | 8, _ =>
                        simp only [List.getElem?_toArray, List.getElem?_cons_zero, List.getElem?_cons_succ, Option.some.injEq] at hi
                        subst hi
                        rw [if_pos (by first | rfl | simp [wantV])]
                        have e0 : ev (.tmp 111) = .slice (some ⟨xb, xo, none⟩) xn xc := hin 111 6 ⟨6, .data⟩ (by kernel_rfl) (by simp) rfl rfl (show (111 : Nat) < 145 by decide)
                        have e1 : ev (.tmp 112) = .int .i64 (i : Int) := hin 112 7 ⟨7, .data⟩ (by kernel_rfl) (by simp) rfl rfl (show (112 : Nat) < 145 by decide)
                        refine .inl ⟨w', ?_, hc⟩
                        show _ = Result.ok (Next.value (.pointer (some ⟨xb, xo + i * 5, none⟩))) w'
                        simp only [execOp, e0, e1, hcst]
                        go_simp
                      | 9, _ =>
                        simp only [List.getElem?_toArray, List.getElem?_cons_zero, List.getElem?_cons_succ, Option.some.injEq] at hi
                        subst hi
                        rw [if_pos (by first | rfl | simp [wantV])]
                        have e0 : ev (.tmp 113) = .pointer (some ⟨xb, xo + i * 5, none⟩) := hin 113 8 ⟨8, .data⟩ (by kernel_rfl) (by simp) rfl rfl (show (113 : Nat) < 145 by decide)
                        refine .inl ⟨w', ?_, hc⟩
                        show _ = Result.ok (Next.value (.agg #[.string (txt y.key), .string (txt y.value), .int .u32 y.flags, .int .i64 y.exp, .int .u64 y.ver])) w'
                        obtain ⟨y0, y1, y2, y3, y4⟩ := (XA.out w' hc).vals
                        simp only [execOp, e0]
                        go_simp
                      | 10, _ =>
                        simp only [List.getElem?_toArray, List.getElem?_cons_zero, List.getElem?_cons_succ, Option.some.injEq] at hi
                        subst hi
                        rw [if_pos (by first | rfl | simp [wantV])]
                        have e0 : ev (.tmp 110) = .agg #[.string (txt z.key), .string (txt z.value), .int .u32 z.flags, .int .i64 z.exp, .int .u64 z.ver] := hin 110 5 ⟨5, .data⟩ (by kernel_rfl) (by simp) rfl rfl (show (110 : Nat) < 145 by decide)
                        have e1 : ev (.tmp 114) = .agg #[.string (txt y.key), .string (txt y.value), .int .u32 y.flags, .int .i64 y.exp, .int .u64 y.ver] := hin 114 9 ⟨9, .data⟩ (by kernel_rfl) (by simp) rfl rfl (show (114 : Nat) < 145 by decide)
                        refine .inl ⟨w', ?_, hc⟩
                        show _ = Result.ok (Next.value (.bool (itEq z y))) w'
                        simp [execOp, e0, e1, hcst, go_sem]
                        exact ite_items z y w'
                      | 11, _ =>
                        simp only [List.getElem?_toArray, List.getElem?_cons_zero, List.getElem?_cons_succ, Option.some.injEq] at hi
                        subst hi
                        rw [if_pos (by first | rfl | simp [wantV])]
                        have e0 : ev (.tmp 106) = .bool false := hin 106 1 ⟨1, .data⟩ (by kernel_rfl) (by simp) rfl rfl (show (106 : Nat) < 145 by decide)
                        have e1 : ev (.tmp 115) = .bool (itEq z y) := hin 115 10 ⟨10, .data⟩ (by kernel_rfl) (by simp) rfl rfl (show (115 : Nat) < 145 by decide)
                        refine .inl ⟨w', ?_, hc⟩
                        show _ = Result.ok (Next.value (.bool (itEq z y))) w'
                        simp [execOp, e0, e1, hcst, go_sem]
                      | 12, _ =>
                        simp only [List.getElem?_toArray, List.getElem?_cons_zero, List.getElem?_cons_succ, Option.some.injEq] at hi
                        subst hi
                        rw [if_pos (by first | rfl | simp [wantV])]
                        have e0 : ev (.tmp 116) = .bool (itEq z y) := hin 116 11 ⟨11, .data⟩ (by kernel_rfl) (by simp) rfl rfl (show (116 : Nat) < 145 by decide)
                        refine .inl ⟨w', ?_, hc⟩
                        show _ = Result.ok (Next.value (.bool (itEq z y))) w'
                        simp [execOp, e0, hcst, go_sem]
                    · intro w7 hc
                      simp only [lexF, Act.put, List.setIfInBounds_toArray, List.set_cons_succ, List.set_cons_zero, List.getD_cons_succ, List.getD_cons_zero]
                      have VC := hide (VB.out.trans (hc.mono VB.out.size))
                      clear hc DR XL XA
                      go_wp2
                      go_roundg (len1 - (k + 1))
                      case measure => omega
                      case rel => exact ⟨itEq z y, k + 1, rfl, rfl, by omega, by omega, E.out, VC.out⟩
                · have hk0 : k = len1 := by omega
                  have hb : b = true := V.out.1.2 (by
                    obtain ⟨j, hj⟩ := List.getElem?_of_mem HYM.out
                    have := (List.getElem?_eq_some_iff.1 hj).1
                    exact ⟨j, by rw [hk0, HLEN.out]; exact this, hj⟩)
                  subst hb
                  have hkl2 : ¬ (k : Int) < (len1 : Int) := by omega
                  have VB := hide V.out.2
                  clear V hk0
                  go_wp2
                  go_roundg (xn - (i + 1))
                  case measure => omega
                  case rel => exact ⟨i + 1, rfl, by omega, by omega, VB.out⟩
            · have hlt4 : ¬ (i : Int) < (xn : Int) := by omega
              have BJ := hide J.out
              clear J hin2 hg2 hlt3
              go_wp2_with fail
              go_loopg [21] sn (fun kx s21 wv => ∃ i : Nat, s21 = .int .i64 i ∧ i ≤ sn ∧ sn - i ≤ kx ∧ Hid (Below wa.heap.size wa wv))
              case atStart => exact ⟨0, rfl, Nat.zero_le _, by omega, BJ.out⟩
              case round =>
                rename_i i1
                obtain ⟨i, rfl, hin2, hg2, Y⟩ := hrel
                by_cases hlt3 : i < sn
                · have hlt5 : (i : Int) < (sn : Int) := by omega
                  obtain ⟨y, hy⟩ : ∃ y, T.items[i]? = some y := ⟨_, List.getElem?_eq_getElem (by rw [← HSN.out]; exact hlt3)⟩
                  obtain ⟨t, ht, hth, hti⟩ := get_last HO.out.has y.key y (by rw [HO.out.flat]; exact HX.out y (List.mem_of_getElem? hy))
                  have hyo : Oks T.items := fun x hx => by
                    obtain ⟨t, ht, _, hti⟩ := get_last HO.out.has x.key x (by rw [HO.out.flat]; exact HX.out x hx)
                    have h1 := HO.out.oks t ht
                    rw [hti] at h1
                    have := good_sizes h1.2
                    exact ⟨h1.1, by omega, by omega⟩
                  have HYO := hide hyo
                  obtain ⟨na', nc', hvn, hIN, _, _, _⟩ := (SRA.out.below Y.out).its hyo
                  simp only [Value.slice.injEq] at hvn
                  obtain ⟨rfl, hq9, rfl⟩ := hvn
                  clear hq9
                  obtain ⟨nb, no, rfl, hnb, hnc⟩ := hIN.cell i y hy
                  obtain ⟨c0, c1, c2, c3, c4⟩ := hnc.vals
                  have GY := hide (HA.out.below Y.out)
                  have cG := hide (get_some GY.out.lg y.key (Nat.le_trans (hyo y (List.mem_of_getElem? hy)).2.1 (by omega)) t (GY.out.lg.ths t ht) hth)
                  rw [hti, show y.val = .agg #[.string (txt y.key), .string (txt y.value), .int .u32 y.flags, .int .i64 y.exp, .int .u64 y.ver] from rfl] at cG
                  have XN0 : Hid (∀ w', Below wr.heap.size wr w' → OneIt w' nb (no + i * 5) y) := fun w' hb => hnc.below hb hnb
                  clear hy ht hth hti hyo hIN hnb hnc
                  go_wp2_with fail
                  refine cG.out.mono ?_
                  rintro e wg ⟨rfl, bg⟩
                  have hbx : Blk (wg.alloc (.cells #[.string (txt y.key), .string (txt y.value), .int .u32 y.flags, .int .i64 y.exp, .int .u64 y.ver] 36)) wg.heap.size (itCells y) 36 := Blk.new wg _ 36
                  have hbe : Below wg.heap.size wg (wg.alloc (.cells #[.string (txt y.key), .string (txt y.value), .int .u32 y.flags, .int .i64 y.exp, .int .u64 y.ver] 36)) := (Below.refl _ _).alloc (Nat.le_refl _) _
                  have BG : Hid (Below wr.heap.size wr (wg.alloc (.cells #[.string (txt y.key), .string (txt y.value), .int .u32 y.flags, .int .i64 y.exp, .int .u64 y.ver] 36))) := bg.trans (hbe.mono bg.size)
                  have HBX := hide hbx
                  clear hbx hbe bg cG c0 c1 c2 c3 c4
                  go_wp2_with fail
                  obtain ⟨wA, hwA⟩ : ∃ wA, wA = wg.alloc (.cells #[.string (txt y.key), .string (txt y.value), .int .u32 y.flags, .int .i64 y.exp, .int .u64 y.ver] 36) := ⟨_, rfl⟩
                  rw [← hwA] at BG HBX ⊢
                  obtain ⟨yb, hyb⟩ : ∃ yb, yb = wg.heap.size := ⟨_, rfl⟩
                  rw [← hyb] at HBX ⊢
                  clear hwA hyb
                  have XB : Hid (∀ w', Below wA.heap.size wA w' → OneIt w' yb 0 y) := fun w' hb => by
                    have h1 := HBX.out.same (hb.block yb HBX.out.lt)
                    exact ⟨h1.cell (i := 0) rfl, h1.cell (i := 1) rfl, h1.cell (i := 2) rfl, h1.cell (i := 3) rfl, h1.cell (i := 4) rfl⟩
                  have XN : Hid (∀ w', Below wA.heap.size wA w' → OneIt w' nb (no + i * 5) y) := fun w' hb => XN0.out w' (BG.out.trans (hb.mono BG.out.size))
                  have DR := hide (below_drew wA)
                  refine wp_region_guard (by kernel_rfl) (by kernel_rfl) (fun jx => ([.int .i64 0, .bool false, .bool false, .agg #[.string (txt y.key), .string (txt y.value), .int .u32 y.flags, .int .i64 y.exp, .int .u64 y.ver], .slice (some ⟨nb, no, none⟩) sn sc, .int .i64 (i : Int), .pointer (some ⟨nb, no + i * 5, none⟩), .agg #[.string (txt y.key), .string (txt y.value), .int .u32 y.flags, .int .i64 y.exp, .int .u64 y.ver], .bool false, .bool false] : List Value).getD jx undef) (fun W => Below wA.heap.size wA W) (size_of (n := 145) (by kernel_rfl) rfl) (DR.out) ?_ ?_
                  · intro jx ox hi w' ev hc hin hout hcst hfn
                    have hltx : jx < 10 := by
                      have := (Array.getElem?_eq_some_iff.1 hi).1
                      simpa using this
                    match jx, hltx with
                    | 0, _ =>
                      simp only [List.getElem?_toArray, List.getElem?_cons_zero, List.getElem?_cons_succ, Option.some.injEq] at hi
                      subst hi
                      rw [if_pos (by first | rfl | simp [wantV])]
                      have e0 : ev (.tmp 23) = .int .i64 0 := hout 23 (by kernel_rfl) (show (23 : Nat) < 145 by decide)
                      refine .inl ⟨w', ?_, hc⟩
                      show _ = Result.ok (Next.value (.int .i64 0)) w'
                      simp [execOp, e0, hcst, go_sem]
                    | 1, _ =>
                      simp only [List.getElem?_toArray, List.getElem?_cons_zero, List.getElem?_cons_succ, Option.some.injEq] at hi
                      subst hi
                      rw [if_pos (by first | rfl | simp [wantV])]
                      have e0 : ev (.tmp 135) = .int .i64 0 := hin 135 0 ⟨0, .data⟩ (by kernel_rfl) (by simp) rfl rfl (show (135 : Nat) < 145 by decide)
                      refine .inl ⟨w', ?_, hc⟩
                      show _ = Result.ok (Next.value (.bool false)) w'
                      simp [execOp, e0, hcst, go_sem]
                    | 2, _ =>
                      simp only [List.getElem?_toArray, List.getElem?_cons_zero, List.getElem?_cons_succ, Option.some.injEq] at hi
                      subst hi
                      rw [if_pos (by first | rfl | simp [wantV])]
                      have e0 : ev (.tmp 136) = .bool false := hin 136 1 ⟨1, .data⟩ (by kernel_rfl) (by simp) rfl rfl (show (136 : Nat) < 145 by decide)
                      refine .inl ⟨w', ?_, hc⟩
                      show _ = Result.ok (Next.value (.bool false)) w'
                      simp [execOp, e0, hcst, go_sem]
                    | 3, _ =>
                      simp only [List.getElem?_toArray, List.getElem?_cons_zero, List.getElem?_cons_succ, Option.some.injEq] at hi
                      subst hi
                      rw [if_pos (by first | rfl | simp [wantV])]
                      have e0 : ev (.tmp 22) = .pointer (some ⟨yb, 0, none⟩) := hout 22 (by kernel_rfl) (show (22 : Nat) < 145 by decide)
                      refine .inl ⟨w', ?_, hc⟩
                      show _ = Result.ok (Next.value (.agg #[.string (txt y.key), .string (txt y.value), .int .u32 y.flags, .int .i64 y.exp, .int .u64 y.ver])) w'
                      obtain ⟨y0, y1, y2, y3, y4⟩ := (XB.out w' hc).vals
                      simp only [execOp, e0]
                      go_simp
                    | 4, _ =>
                      simp only [List.getElem?_toArray, List.getElem?_cons_zero, List.getElem?_cons_succ, Option.some.injEq] at hi
                      subst hi
                      rw [if_pos (by first | rfl | simp [wantV])]
                      have e0 : ev (.tmp 14) = .slice (some ⟨nb, no, none⟩) sn sc := hout 14 (by kernel_rfl) (show (14 : Nat) < 145 by decide)
                      refine .inl ⟨w', ?_, hc⟩
                      show _ = Result.ok (Next.value (.slice (some ⟨nb, no, none⟩) sn sc)) w'
                      simp [execOp, e0, hcst, go_sem]
                    | 5, _ =>
                      simp only [List.getElem?_toArray, List.getElem?_cons_zero, List.getElem?_cons_succ, Option.some.injEq] at hi
                      subst hi
                      rw [if_pos (by first | rfl | simp [wantV])]
                      have e0 : ev (.tmp 21) = .int .i64 (i : Int) := hout 21 (by kernel_rfl) (show (21 : Nat) < 145 by decide)
                      refine .inl ⟨w', ?_, hc⟩
                      show _ = Result.ok (Next.value (.int .i64 (i : Int))) w'
                      simp [execOp, e0, hcst, go_sem]
                    | 6, _ =>
                      simp only [List.getElem?_toArray, List.getElem?_cons_zero, List.getElem?_cons_succ, Option.some.injEq] at hi
                      subst hi
                      rw [if_pos (by first | rfl | simp [wantV])]
                      have e0 : ev (.tmp 139) = .slice (some ⟨nb, no, none⟩) sn sc := hin 139 4 ⟨4, .data⟩ (by kernel_rfl) (by simp) rfl rfl (show (139 : Nat) < 145 by decide)
                      have e1 : ev (.tmp 140) = .int .i64 (i : Int) := hin 140 5 ⟨5, .data⟩ (by kernel_rfl) (by simp) rfl rfl (show (140 : Nat) < 145 by decide)
                      refine .inl ⟨w', ?_, hc⟩
                      show _ = Result.ok (Next.value (.pointer (some ⟨nb, no + i * 5, none⟩))) w'
                      simp only [execOp, e0, e1, hcst]
                      go_simp
                    | 7, _ =>
                      simp only [List.getElem?_toArray, List.getElem?_cons_zero, List.getElem?_cons_succ, Option.some.injEq] at hi
                      subst hi
                      rw [if_pos (by first | rfl | simp [wantV])]
                      have e0 : ev (.tmp 141) = .pointer (some ⟨nb, no + i * 5, none⟩) := hin 141 6 ⟨6, .data⟩ (by kernel_rfl) (by simp) rfl rfl (show (141 : Nat) < 145 by decide)
                      refine .inl ⟨w', ?_, hc⟩
                      show _ = Result.ok (Next.value (.agg #[.string (txt y.key), .string (txt y.value), .int .u32 y.flags, .int .i64 y.exp, .int .u64 y.ver])) w'
                      obtain ⟨y0, y1, y2, y3, y4⟩ := (XN.out w' hc).vals
                      simp only [execOp, e0]
                      go_simp
                    | 8, _ =>
                      simp only [List.getElem?_toArray, List.getElem?_cons_zero, List.getElem?_cons_succ, Option.some.injEq] at hi
                      subst hi
                      rw [if_pos (by first | rfl | simp [wantV])]
                      have e0 : ev (.tmp 138) = .agg #[.string (txt y.key), .string (txt y.value), .int .u32 y.flags, .int .i64 y.exp, .int .u64 y.ver] := hin 138 3 ⟨3, .data⟩ (by kernel_rfl) (by simp) rfl rfl (show (138 : Nat) < 145 by decide)
                      have e1 : ev (.tmp 142) = .agg #[.string (txt y.key), .string (txt y.value), .int .u32 y.flags, .int .i64 y.exp, .int .u64 y.ver] := hin 142 7 ⟨7, .data⟩ (by kernel_rfl) (by simp) rfl rfl (show (142 : Nat) < 145 by decide)
                      refine .inl ⟨w', ?_, hc⟩
                      show _ = Result.ok (Next.value (.bool false)) w'
                      simp [execOp, e0, e1, hcst, go_sem]
                    | 9, _ =>
                      simp only [List.getElem?_toArray, List.getElem?_cons_zero, List.getElem?_cons_succ, Option.some.injEq] at hi
                      subst hi
                      rw [if_pos (by first | rfl | simp [wantV])]
                      have e0 : ev (.tmp 137) = .bool false := hin 137 2 ⟨2, .data⟩ (by kernel_rfl) (by simp) rfl rfl (show (137 : Nat) < 145 by decide)
                      have e1 : ev (.tmp 143) = .bool false := hin 143 8 ⟨8, .data⟩ (by kernel_rfl) (by simp) rfl rfl (show (143 : Nat) < 145 by decide)
                      refine .inl ⟨w', ?_, hc⟩
                      show _ = Result.ok (Next.value (.bool false)) w'
                      simp [execOp, e0, e1, hcst, go_sem]
                  · intro w7 hc
                    simp only [lexF, Act.put, List.setIfInBounds_toArray, List.set_cons_succ, List.set_cons_zero, List.getD_cons_succ, List.getD_cons_zero]
                    have YE : Hid (Below wa.heap.size wa w7) := Y.out.trans ((BG.out.trans (hc.mono BG.out.size)).mono Y.out.size)
                    clear hc DR XB XN XN0
                    go_wp2
                    go_roundg (sn - (i + 1))
                    case measure => omega
                    case rel => exact ⟨i + 1, rfl, by omega, by omega, YE.out⟩
                · have hlt5 : ¬ (i : Int) < (sn : Int) := by omega
                  have BE : Hid (Below w.heap.size w wr) := HA.out.bel.trans (Y.out.mono HA.out.bel.size)
                  go_wp2
                  go_ret
                  exact ⟨rfl, BE.out⟩
      · have hq0 : (er == 0) = false := by simpa using he
        have CP : Hid (CutP R z1 [] z3 S []) := hDe.cutP (by omega) z3
        clear he hDe
        have cC := hide (crash_lg G6.out HP.out HPN.out HPL.out)
        go_wp2_with fail
        refine cC.out.mono ?_
        rintro e w7 ⟨rfl, F7, G7, M7⟩
        have cO := hide (on_lg G7)
        clear cC G7 M7 G6 hq0
        go_wp2_with fail
        refine cO.out.mono ?_
        rintro e w8 ⟨rfl, F8, G8, M8⟩
        obtain ⟨M, D, hM, hW, hX⟩ := CP.out
        have hW2 : Wk R M z1 [] (S.crash z3).on.cs D := by rw [on_cs]; exact hW
        have cP := hide (open_wk G8 rfl hW2 HN.out.1 (by have := HN.out; omega))
        have HX := hide hX
        have HFR := hide (from_nil hW2.frm)
        clear cO G8 M8 hM hW hW2 hX CP
        go_wp2_with fail
        refine cP.out.mono ?_
        rintro e w9 ⟨lh, mh, v5h, Th, S9, rfl, G9, _, hO, K9⟩
        have cI := hide (items_log G9.lg (by have := hO.all; have := HN.out; omega) (by have := hO.len; have := HN.out; omega))
        have HO := hide hO
        have H9 := hide G9
        clear cP G9 hO K9
        go_wp2_with fail
        refine cI.out.mono ?_
        rintro e wa ⟨xa, xn, xc, rfl, hxn, hrow, bA⟩
        have HA := hide (H9.out.below bA)
        have RA := hide hrow
        have HXN := hide hxn
        have HIT : Hid (∀ y ∈ Th.items, y ∈ z1) := fun y hy => HFR.out y (lastIt_mem ((HO.out.items y).1 hy)).1
        have HIO := hide HO.out.itemsOk
        have hxn200 : xn ≤ 200 := by rw [HXN.out]; have h1 := hadOf_length Th Th.all; have h2 := HO.out.all; have h3 := HN.out; exact Nat.le_trans h1 (by omega)
        clear cI hrow hxn bA H9 HFR
        go_wp2_with fail
        go_loopg [18] xn (fun kx s18 wv => ∃ i : Nat, s18 = .int .i64 i ∧ i ≤ xn ∧ xn - i ≤ kx ∧ Hid (Below wa.heap.size wa wv))
        case atStart => exact ⟨0, rfl, Nat.zero_le _, by omega, Below.refl _ _⟩
        case round =>
          rename_i i0
          obtain ⟨i, rfl, hin2, hg2, J⟩ := hrel
          by_cases hlt3 : i < xn
          · have hlt4 : (i : Int) < (xn : Int) := by omega
            obtain ⟨y, hy⟩ : ∃ y, Th.items[i]? = some y := ⟨_, List.getElem?_eq_getElem (by rw [← HXN.out]; exact hlt3)⟩
            have HYM := hide (HIT.out y (List.mem_of_getElem? hy))
            have HY := hide hy
            clear hy
            go_wp2_with fail
            go_loopg [19, 20] len1 (fun ky s19 s20 wv => ∃ (b : Bool) (k : Nat), s19 = .bool b ∧ s20 = .int .i64 k ∧ k ≤ len1 ∧ len1 - k ≤ ky ∧ Hid ((b = true ↔ ∃ j, j < k ∧ z1[j]? = some y) ∧ Below wa.heap.size wa wv))
            case atStart => exact ⟨false, 0, rfl, rfl, Nat.zero_le _, by omega, ⟨fun h => (by cases h), fun ⟨j, hj, _⟩ => by omega⟩, J.out⟩
            case round =>
              obtain ⟨b, k, rfl, rfl, hk1, hk2, V⟩ := hrel
              clear J
              by_cases hkl : k < len1
              · have hkl2 : (k : Int) < (len1 : Int) := by omega
                obtain ⟨z, hz⟩ : ∃ z, z1[k]? = some z := ⟨_, List.getElem?_eq_getElem (by rw [← HLEN.out]; exact hkl)⟩
                have HZ := hide hz
                have DR := hide (below_drew wr)
                cases b with
                | true =>
                  have E : Hid (∃ j, j < k + 1 ∧ z1[j]? = some y) := by
                    obtain ⟨j, h1, h2⟩ := V.out.1.1 rfl
                    exact ⟨j, by omega, h2⟩
                  have VB := hide V.out.2
                  clear V hz
                  go_wp2_with fail
                  refine wp_region_guardp (by kernel_rfl) (by kernel_rfl) (fun jx => ([.bool true, .bool true, undef, undef, undef, undef, undef, undef, undef, undef, undef, .bool true, .bool true] : List Value).getD jx undef) (fun W => Below wr.heap.size wr W) (size_of (n := 145) (by kernel_rfl) rfl) (DR.out) ?_ ?_
                  · intro jx ox hi w' ev hc hin hout hpre hcst hfn
                    have hltx : jx < 13 := by
                      have := (Array.getElem?_eq_some_iff.1 hi).1
                      simpa using this
                    match jx, hltx with
                    | 0, _ =>
                      simp only [List.getElem?_toArray, List.getElem?_cons_zero, List.getElem?_cons_succ, Option.some.injEq] at hi
                      subst hi
                      rw [if_pos (by first | rfl | simp [wantV])]
                      have e0 : ev (.tmp 19) = .bool true := hpre 19 12 (by kernel_rfl) (by kernel_rfl) (show (19 : Nat) < 145 by decide)
                      refine .inl ⟨w', ?_, hc⟩
                      show _ = Result.ok (Next.value (.bool true)) w'
                      simp [execOp, e0, hcst, go_sem]
                    | 1, _ =>
                      simp only [List.getElem?_toArray, List.getElem?_cons_zero, List.getElem?_cons_succ, Option.some.injEq] at hi
                      subst hi
                      rw [if_pos (by first | rfl | simp [wantV])]
                      have e0 : ev (.tmp 105) = .bool true := hin 105 0 ⟨0, .data⟩ (by kernel_rfl) (by simp) rfl rfl (show (105 : Nat) < 145 by decide)
                      refine .inl ⟨w', ?_, hc⟩
                      show _ = Result.ok (Next.value (.bool true)) w'
                      simp [execOp, e0, hcst, go_sem]
                    | 2, _ =>
                      simp only [List.getElem?_toArray, List.getElem?_cons_zero, List.getElem?_cons_succ, Option.some.injEq] at hi
                      subst hi
                      rw [if_neg (by first | (simp [wantV]; done) | (simp [wantV]; rfl))]
                      rfl
                    | 3, _ =>
                      simp only [List.getElem?_toArray, List.getElem?_cons_zero, List.getElem?_cons_succ, Option.some.injEq] at hi
                      subst hi
                      rw [if_neg (by first | (simp [wantV]; done) | (simp [wantV]; rfl))]
                      rfl
                    | 4, _ =>
                      simp only [List.getElem?_toArray, List.getElem?_cons_zero, List.getElem?_cons_succ, Option.some.injEq] at hi
                      subst hi
                      rw [if_neg (by first | (simp [wantV]; done) | (simp [wantV]; rfl))]
                      rfl
                    | 5, _ =>
                      simp only [List.getElem?_toArray, List.getElem?_cons_zero, List.getElem?_cons_succ, Option.some.injEq] at hi
                      subst hi
                      rw [if_neg (by first | (simp [wantV]; done) | (simp [wantV]; rfl))]
                      rfl
                    | 6, _ =>
                      simp only [List.getElem?_toArray, List.getElem?_cons_zero, List.getElem?_cons_succ, Option.some.injEq] at hi
                      subst hi
                      rw [if_neg (by first | (simp [wantV]; done) | (simp [wantV]; rfl))]
                      rfl
                    | 7, _ =>
                      simp only [List.getElem?_toArray, List.getElem?_cons_zero, List.getElem?_cons_succ, Option.some.injEq] at hi
                      subst hi
                      rw [if_neg (by first | (simp [wantV]; done) | (simp [wantV]; rfl))]
                      rfl
                    | 8, _ =>
                      simp only [List.getElem?_toArray, List.getElem?_cons_zero, List.getElem?_cons_succ, Option.some.injEq] at hi
                      subst hi
                      rw [if_neg (by first | (simp [wantV]; done) | (simp [wantV]; rfl))]
                      rfl
                    | 9, _ =>
                      simp only [List.getElem?_toArray, List.getElem?_cons_zero, List.getElem?_cons_succ, Option.some.injEq] at hi
                      subst hi
                      rw [if_neg (by first | (simp [wantV]; done) | (simp [wantV]; rfl))]
                      rfl
                    | 10, _ =>
                      simp only [List.getElem?_toArray, List.getElem?_cons_zero, List.getElem?_cons_succ, Option.some.injEq] at hi
                      subst hi
                      rw [if_neg (by first | (simp [wantV]; done) | (simp [wantV]; rfl))]
                      rfl
                    | 11, _ =>
                      simp only [List.getElem?_toArray, List.getElem?_cons_zero, List.getElem?_cons_succ, Option.some.injEq] at hi
                      subst hi
                      rw [if_pos (by first | rfl | simp [wantV])]
                      have e0 : ev (.tmp 106) = .bool true := hin 106 1 ⟨1, .data⟩ (by kernel_rfl) (by simp) rfl rfl (show (106 : Nat) < 145 by decide)
                      have e1 : ev (.tmp 115) = undef := hin 115 10 ⟨10, .data⟩ (by kernel_rfl) (by simp) rfl rfl (show (115 : Nat) < 145 by decide)
                      refine .inl ⟨w', ?_, hc⟩
                      show _ = Result.ok (Next.value (.bool true)) w'
                      simp [execOp, e0, e1, hcst, go_sem]
                    | 12, _ =>
                      simp only [List.getElem?_toArray, List.getElem?_cons_zero, List.getElem?_cons_succ, Option.some.injEq] at hi
                      subst hi
                      rw [if_pos (by first | rfl | simp [wantV])]
                      have e0 : ev (.tmp 116) = .bool true := hin 116 11 ⟨11, .data⟩ (by kernel_rfl) (by simp) rfl rfl (show (116 : Nat) < 145 by decide)
                      refine .inl ⟨w', ?_, hc⟩
                      show _ = Result.ok (Next.value (.bool true)) w'
                      simp [execOp, e0, hcst, go_sem]
                  · intro w7 hc
                    simp only [lexF, Act.put, List.setIfInBounds_toArray, List.set_cons_succ, List.set_cons_zero, List.getD_cons_succ, List.getD_cons_zero]
                    have VC := hide (VB.out.trans (hc.mono VB.out.size))
                    clear hc DR
                    go_wp2
                    go_roundg (len1 - (k + 1))
                    case measure => omega
                    case rel => exact ⟨true, k + 1, rfl, rfl, by omega, by omega, ⟨fun _ => E.out, fun _ => rfl⟩, VC.out⟩
                | false =>
                  obtain ⟨lb, lo, rfl, hlb, hlc⟩ := HW.out.cell k z hz
                  obtain ⟨xa', xc', hvn, hIN, _, _, _⟩ := RA.out.its HIO.out
                  simp only [Value.slice.injEq] at hvn
                  obtain ⟨rfl, hq9, rfl⟩ := hvn
                  clear hq9
                  obtain ⟨xb, xo, rfl, hxb, hxc⟩ := hIN.cell i y HY.out
                  have VB := hide V.out.2
                  have XL : Hid (∀ w', Below wr.heap.size wr w' → OneIt w' lb (lo + k * 5) z) := fun w' hb => hlc.below (HA.out.bel.trans ((VB.out.trans (hb.mono VB.out.size)).mono HA.out.bel.size)) hlb
                  have XA : Hid (∀ w', Below wr.heap.size wr w' → OneIt w' xb (xo + i * 5) y) := fun w' hb => hxc.below (VB.out.trans (hb.mono VB.out.size)) hxb
                  have E : Hid ((itEq z y = true) ↔ ∃ j, j < k + 1 ∧ z1[j]? = some y) := by
                    rw [itEq_iff]
                    constructor
                    · intro h; exact ⟨k, by omega, by rw [HZ.out, h]⟩
                    · rintro ⟨j, h1, h2⟩
                      rcases Nat.lt_or_ge j k with h3 | h3
                      · have := V.out.1.2 ⟨j, h3, h2⟩; cases this
                      · have e : j = k := by omega
                        rw [e, HZ.out] at h2
                        exact Option.some.inj h2
                  clear V hz hlb hlc hIN hxb hxc
                  go_wp2_with fail
                  refine wp_region_guardp (by kernel_rfl) (by kernel_rfl) (fun jx => ([.bool false, .bool false, .slice (some ⟨lb, lo, none⟩) len1 cap1, .int .i64 (k : Int), .pointer (some ⟨lb, lo + k * 5, none⟩), .agg #[.string (txt z.key), .string (txt z.value), .int .u32 z.flags, .int .i64 z.exp, .int .u64 z.ver], .slice (some ⟨xb, xo, none⟩) xn xc, .int .i64 (i : Int), .pointer (some ⟨xb, xo + i * 5, none⟩), .agg #[.string (txt y.key), .string (txt y.value), .int .u32 y.flags, .int .i64 y.exp, .int .u64 y.ver], .bool (itEq z y), .bool (itEq z y), .bool (itEq z y)] : List Value).getD jx undef) (fun W => Below wr.heap.size wr W) (size_of (n := 145) (by kernel_rfl) rfl) (DR.out) ?_ ?_
                  · intro jx ox hi w' ev hc hin hout hpre hcst hfn
                    have hltx : jx < 13 := by
                      have := (Array.getElem?_eq_some_iff.1 hi).1
                      simpa using this
                    match jx, hltx with
                    | 0, _ =>
                      simp only [List.getElem?_toArray, List.getElem?_cons_zero, List.getElem?_cons_succ, Option.some.injEq] at hi
                      subst hi
                      rw [if_pos (by first | rfl | simp [wantV])]
                      have e0 : ev (.tmp 19) = .bool false := hpre 19 12 (by kernel_rfl) (by kernel_rfl) (show (19 : Nat) < 145 by decide)
                      refine .inl ⟨w', ?_, hc⟩
                      show _ = Result.ok (Next.value (.bool false)) w'
                      simp [execOp, e0, hcst, go_sem]
                    | 1, _ =>
                      simp only [List.getElem?_toArray, List.getElem?_cons_zero, List.getElem?_cons_succ, Option.some.injEq] at hi
                      subst hi
                      rw [if_pos (by first | rfl | simp [wantV])]
                      have e0 : ev (.tmp 105) = .bool false := hin 105 0 ⟨0, .data⟩ (by kernel_rfl) (by simp) rfl rfl (show (105 : Nat) < 145 by decide)
                      refine .inl ⟨w', ?_, hc⟩
                      show _ = Result.ok (Next.value (.bool false)) w'
                      simp [execOp, e0, hcst, go_sem]
                    | 2, _ =>
                      simp only [List.getElem?_toArray, List.getElem?_cons_zero, List.getElem?_cons_succ, Option.some.injEq] at hi
                      subst hi
                      rw [if_pos (by first | rfl | simp [wantV])]
                      have e0 : ev (.tmp 1) = .slice (some ⟨lb, lo, none⟩) len1 cap1 := hout 1 (by kernel_rfl) (show (1 : Nat) < 145 by decide)
                      refine .inl ⟨w', ?_, hc⟩
                      show _ = Result.ok (Next.value (.slice (some ⟨lb, lo, none⟩) len1 cap1)) w'
                      simp [execOp, e0, hcst, go_sem]
                    | 3, _ =>
                      simp only [List.getElem?_toArray, List.getElem?_cons_zero, List.getElem?_cons_succ, Option.some.injEq] at hi
                      subst hi
                      rw [if_pos (by first | rfl | simp [wantV])]
                      have e0 : ev (.tmp 20) = .int .i64 (k : Int) := hout 20 (by kernel_rfl) (show (20 : Nat) < 145 by decide)
                      refine .inl ⟨w', ?_, hc⟩
                      show _ = Result.ok (Next.value (.int .i64 (k : Int))) w'
                      simp [execOp, e0, hcst, go_sem]
                    | 4, _ =>
                      simp only [List.getElem?_toArray, List.getElem?_cons_zero, List.getElem?_cons_succ, Option.some.injEq] at hi
                      subst hi
                      rw [if_pos (by first | rfl | simp [wantV])]
                      have e0 : ev (.tmp 107) = .slice (some ⟨lb, lo, none⟩) len1 cap1 := hin 107 2 ⟨2, .data⟩ (by kernel_rfl) (by simp) rfl rfl (show (107 : Nat) < 145 by decide)
                      have e1 : ev (.tmp 108) = .int .i64 (k : Int) := hin 108 3 ⟨3, .data⟩ (by kernel_rfl) (by simp) rfl rfl (show (108 : Nat) < 145 by decide)
                      refine .inl ⟨w', ?_, hc⟩
                      show _ = Result.ok (Next.value (.pointer (some ⟨lb, lo + k * 5, none⟩))) w'
                      simp only [execOp, e0, e1, hcst]
                      go_simp
                    | 5, _ =>
                      simp only [List.getElem?_toArray, List.getElem?_cons_zero, List.getElem?_cons_succ, Option.some.injEq] at hi
                      subst hi
                      rw [if_pos (by first | rfl | simp [wantV])]
                      have e0 : ev (.tmp 109) = .pointer (some ⟨lb, lo + k * 5, none⟩) := hin 109 4 ⟨4, .data⟩ (by kernel_rfl) (by simp) rfl rfl (show (109 : Nat) < 145 by decide)
                      refine .inl ⟨w', ?_, hc⟩
                      show _ = Result.ok (Next.value (.agg #[.string (txt z.key), .string (txt z.value), .int .u32 z.flags, .int .i64 z.exp, .int .u64 z.ver])) w'
                      obtain ⟨y0, y1, y2, y3, y4⟩ := (XL.out w' hc).vals
                      simp only [execOp, e0]
                      go_simp
                    | 6, _ =>
                      simp only [List.getElem?_toArray, List.getElem?_cons_zero, List.getElem?_cons_succ, Option.some.injEq] at hi
                      subst hi
                      rw [if_pos (by first | rfl | simp [wantV])]
                      have e0 : ev (.tmp 17) = .slice (some ⟨xb, xo, none⟩) xn xc := hout 17 (by kernel_rfl) (show (17 : Nat) < 145 by decide)
                      refine .inl ⟨w', ?_, hc⟩
                      show _ = Result.ok (Next.value (.slice (some ⟨xb, xo, none⟩) xn xc)) w'
                      simp [execOp, e0, hcst, go_sem]
                    | 7, _ =>
                      simp only [List.getElem?_toArray, List.getElem?_cons_zero, List.getElem?_cons_succ, Option.some.injEq] at hi
                      subst hi
                      rw [if_pos (by first | rfl | simp [wantV])]
                      have e0 : ev (.tmp 18) = .int .i64 (i : Int) := hout 18 (by kernel_rfl) (show (18 : Nat) < 145 by decide)
                      refine .inl ⟨w', ?_, hc⟩
                      show _ = Result.ok (Next.value (.int .i64 (i : Int))) w'
                      simp [execOp, e0, hcst, go_sem]
                    | 8, _ =>
                      simp only [List.getElem?_toArray, List.getElem?_cons_zero, List.getElem?_cons_succ, Option.some.injEq] at hi
                      subst hi
                      rw [if_pos (by first | rfl | simp [wantV])]
                      have e0 : ev (.tmp 111) = .slice (some ⟨xb, xo, none⟩) xn xc := hin 111 6 ⟨6, .data⟩ (by kernel_rfl) (by simp) rfl rfl (show (111 : Nat) < 145 by decide)
                      have e1 : ev (.tmp 112) = .int .i64 (i : Int) := hin 112 7 ⟨7, .data⟩ (by kernel_rfl) (by simp) rfl rfl (show (112 : Nat) < 145 by decide)
                      refine .inl ⟨w', ?_, hc⟩
                      show _ = Result.ok (Next.value (.pointer (some ⟨xb, xo + i * 5, none⟩))) w'
                      simp only [execOp, e0, e1, hcst]
                      go_simp
                    | 9, _ =>
                      simp only [List.getElem?_toArray, List.getElem?_cons_zero, List.getElem?_cons_succ, Option.some.injEq] at hi
                      subst hi
                      rw [if_pos (by first | rfl | simp [wantV])]
                      have e0 : ev (.tmp 113) = .pointer (some ⟨xb, xo + i * 5, none⟩) := hin 113 8 ⟨8, .data⟩ (by kernel_rfl) (by simp) rfl rfl (show (113 : Nat) < 145 by decide)
                      refine .inl ⟨w', ?_, hc⟩
                      show _ = Result.ok (Next.value (.agg #[.string (txt y.key), .string (txt y.value), .int .u32 y.flags, .int .i64 y.exp, .int .u64 y.ver])) w'
                      obtain ⟨y0, y1, y2, y3, y4⟩ := (XA.out w' hc).vals
                      simp only [execOp, e0]
                      go_simp
                    | 10, _ =>
                      simp only [List.getElem?_toArray, List.getElem?_cons_zero, List.getElem?_cons_succ, Option.some.injEq] at hi
                      subst hi
                      rw [if_pos (by first | rfl | simp [wantV])]
                      have e0 : ev (.tmp 110) = .agg #[.string (txt z.key), .string (txt z.value), .int .u32 z.flags, .int .i64 z.exp, .int .u64 z.ver] := hin 110 5 ⟨5, .data⟩ (by kernel_rfl) (by simp) rfl rfl (show (110 : Nat) < 145 by decide)
                      have e1 : ev (.tmp 114) = .agg #[.string (txt y.key), .string (txt y.value), .int .u32 y.flags, .int .i64 y.exp, .int .u64 y.ver] := hin 114 9 ⟨9, .data⟩ (by kernel_rfl) (by simp) rfl rfl (show (114 : Nat) < 145 by decide)
                      refine .inl ⟨w', ?_, hc⟩
                      show _ = Result.ok (Next.value (.bool (itEq z y))) w'
                      simp [execOp, e0, e1, hcst, go_sem]
                      exact ite_items z y w'
                    | 11, _ =>
                      simp only [List.getElem?_toArray, List.getElem?_cons_zero, List.getElem?_cons_succ, Option.some.injEq] at hi
                      subst hi
                      rw [if_pos (by first | rfl | simp [wantV])]
                      have e0 : ev (.tmp 106) = .bool false := hin 106 1 ⟨1, .data⟩ (by kernel_rfl) (by simp) rfl rfl (show (106 : Nat) < 145 by decide)
                      have e1 : ev (.tmp 115) = .bool (itEq z y) := hin 115 10 ⟨10, .data⟩ (by kernel_rfl) (by simp) rfl rfl (show (115 : Nat) < 145 by decide)
                      refine .inl ⟨w', ?_, hc⟩
                      show _ = Result.ok (Next.value (.bool (itEq z y))) w'
                      simp [execOp, e0, e1, hcst, go_sem]
                    | 12, _ =>
                      simp only [List.getElem?_toArray, List.getElem?_cons_zero, List.getElem?_cons_succ, Option.some.injEq] at hi
                      subst hi
                      rw [if_pos (by first | rfl | simp [wantV])]
                      have e0 : ev (.tmp 116) = .bool (itEq z y) := hin 116 11 ⟨11, .data⟩ (by kernel_rfl) (by simp) rfl rfl (show (116 : Nat) < 145 by decide)
                      refine .inl ⟨w', ?_, hc⟩
                      show _ = Result.ok (Next.value (.bool (itEq z y))) w'
                      simp [execOp, e0, hcst, go_sem]
                  · intro w7 hc
                    simp only [lexF, Act.put, List.setIfInBounds_toArray, List.set_cons_succ, List.set_cons_zero, List.getD_cons_succ, List.getD_cons_zero]
                    have VC := hide (VB.out.trans (hc.mono VB.out.size))
                    clear hc DR XL XA
                    go_wp2
                    go_roundg (len1 - (k + 1))
                    case measure => omega
                    case rel => exact ⟨itEq z y, k + 1, rfl, rfl, by omega, by omega, E.out, VC.out⟩
              · have hk0 : k = len1 := by omega
                have hb : b = true := V.out.1.2 (by
                  obtain ⟨j, hj⟩ := List.getElem?_of_mem HYM.out
                  have := (List.getElem?_eq_some_iff.1 hj).1
                  exact ⟨j, by rw [hk0, HLEN.out]; exact this, hj⟩)
                subst hb
                have hkl2 : ¬ (k : Int) < (len1 : Int) := by omega
                have VB := hide V.out.2
                clear V hk0
                go_wp2
                go_roundg (xn - (i + 1))
                case measure => omega
                case rel => exact ⟨i + 1, rfl, by omega, by omega, VB.out⟩
          · have hlt4 : ¬ (i : Int) < (xn : Int) := by omega
            have BJ := hide J.out
            clear J hin2 hg2 hlt3
            go_wp2_with fail
            go_loopg [21] 1 (fun kx s21 wv => s21 = .int .i64 0 ∧ Hid (Below wa.heap.size wa wv))
            case atStart => exact ⟨rfl, BJ.out⟩
            case round =>
              obtain ⟨rfl, Y⟩ := hrel
              have BE : Hid (Below w.heap.size w wr) := HA.out.bel.trans (Y.out.mono HA.out.bel.size)
              go_wp2
              go_ret
              exact ⟨rfl, BE.out⟩
end Go.Proofs.Ytbjkahdlejaheaa.regionSealed
