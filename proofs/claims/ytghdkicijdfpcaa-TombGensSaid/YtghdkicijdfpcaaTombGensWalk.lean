/-
  A journal of another generation is empty; begun anew it knows nothing of before: proof of the law 'TombGens'. No conditions.
-/
import Derived.WalkKit
import Derived.Below
import Derived.Test.YtghdkicijdfpcaaArgs
namespace Go.Proofs.Ytghdkicijdfpcaa.tombGens
open Go.RowKit Go.Deep Math
set_option linter.unusedVariables false
set_option linter.unusedSimpArgs false

theorem enter22 (args : Array Value) (w : World) : (callFunc 22 args).run Try.prog w = .ok (.enter 22 args) w := by go_simp
theorem enter13 (args : Array Value) (w : World) : (callFunc 13 args).run Try.prog w = .ok (.enter 13 args) w := by go_simp
/-- Behind the first Add. -/
def GenA (w : World) (d j gen : Nat) (xs : List Mk) (W : World) : Prop := ∃ F S m n J u M, Law w d F S W ∧ Sure S ∧ (S.pl = List.replicate 6 Pg.blank ∨ S.pl = (List.replicate 6 Pg.blank).set 1 (.whole (pgOf gen xs))) ∧ JH w W d F j m n J ∧ J.is S.losses 1 4 u gen M
set_option maxRecDepth 8000 in
set_option maxHeartbeats 4000000 in
theorem walk (a0 : Option Addr) (len0 cap0 : Nat) (z0 : List Mk) (a1 : Int) (a2 : Int) (w : World) (hw0 : MksAt w a0 len0 z0) (hw1 : (Lit.int .u64 a1).wf = true) (hw2 : (Lit.int .u64 a2).wf = true) :
    Calls Try.prog 6 #[.slice a0 len0 cap0, .int .u64 a1, .int .u64 a2] w fun e w' => e = .returned (.bool true) ∧ Below w.heap.size w w' := by
  have ca := hide' (awake_any w)
  obtain ⟨q1, q1'⟩ := wfu64 hw1
  obtain ⟨q2, q2'⟩ := wfu64 hw2
  obtain ⟨g1, hg1⟩ : ∃ g : Nat, a1 = (g : Int) := ⟨a1.toNat, by omega⟩
  obtain ⟨g2, hg2⟩ : ∃ g : Nat, a2 = (g : Int) := ⟨a2.toNat, by omega⟩
  subst hg1 hg2
  have HG1 : Hid (g1 < 18446744073709551616) := by show _ < _; omega
  have HG2 : Hid (g2 < 18446744073709551616) := by show _ < _; omega
  clear hw1 hw2 q1 q1' q2 q2'
  by_cases e1 : 23 < len0
  · have e1' : ((23 : Int) < (len0 : Int)) = True := eq_true (by omega)
    clear e1 hw0
    go_enter Try.func6, Try.ntmps6
    go_wp2_with fail
    refine ca.out.mono ?_
    rintro r w1 ⟨rfl, h1⟩
    have B1 := hide' h1
    clear h1 ca
    go_wp2
    go_ret
    exact ⟨rfl, B1.out⟩
  have e1' : ((23 : Int) < (len0 : Int)) = False := eq_false (by omega)
  by_cases e2 : g1 = g2
  · have e2' : ((g1 : Int) == (g2 : Int)) = true := by rw [e2]; simp
    clear e1 hw0 e2
    go_enter Try.func6, Try.ntmps6
    go_wp2_with fail
    refine ca.out.mono ?_
    rintro r w1 ⟨rfl, h1⟩
    have B1 := hide' h1
    clear h1 ca
    go_wp2
    go_ret
    exact ⟨rfl, B1.out⟩
  have e2' : ((g1 : Int) == (g2 : Int)) = false := by have : ¬ (g1 : Int) = (g2 : Int) := by omega
                                                      simpa using this
  have HE := hide' e2
  have HL := hide' (Nat.le_of_not_lt e1)
  have HW := hide' hw0
  clear e1 e2 hw0
  go_enter Try.func6, Try.ntmps6
  go_wp2_with fail
  refine ca.out.mono ?_
  rintro r w1 ⟨rfl, h1⟩
  have B1 := hide' h1
  clear h1 ca
  have cN := hide' (new_law B1.out 6 (by omega) (by omega))
  go_wp2_with fail
  refine cN.out.mono ?_
  rintro e w2 ⟨d, F2, rfl, hl2, _⟩
  have L2 := hide' hl2
  clear hl2 cN e1' e2'
  have hsc : scanP g1 ((Dv.fresh 6).pgs 1 4) = [] := by rw [pgs_pl, fresh_pl]; exact scan_none _ _ rfl
  have cO := hide' (open_is L2.out (Sure.fresh 6) 1 4 g1 (by omega) (by show 5 ≤ 6; omega) HG1.out [] hsc)
  clear hsc
  go_wp2_with fail
  refine cO.out.mono ?_
  rintro e w3 ⟨j, m, n, S3, J3, rfl, hl3, hlk, hj3, hi3, hn, _, _, _⟩
  have cA : Hid (Calls Try.prog 12 #[.pointer (some ⟨j, 0, none⟩), .slice a0 len0 cap0] w3 fun e W' => e = .returned (.int .i64 0) ∧ GenA w d j g1 z0 W') := by
    have hi3' := hi3
    rw [← hlk.losses] at hi3'
    have hpl : S3.pl = List.replicate 6 Pg.blank := by rw [like_pl hlk, fresh_pl]
    by_cases h0 : len0 = 0
    · subst h0
      refine (add_none j a0 cap0 w3).mono ?_
      rintro e W' ⟨rfl, rfl⟩
      exact ⟨rfl, F2, S3, m, n, J3, _, _, hl3, (Sure.fresh 6).like hlk, .inl hpl, hj3, hi3'⟩
    · have hmk : MkIn w3 j m F2 a0 len0 z0 := ⟨HW.out.below hl3.bel, fun b o e => by
        obtain ⟨x, hx⟩ : ∃ x, z0[0]? = some x := ⟨_, List.getElem?_eq_getElem (by rw [← HW.out.len]; omega)⟩
        obtain ⟨b', o', e', hb', _⟩ := HW.out.cell 0 x hx
        rw [e] at e'
        cases e'
        exact ⟨fun hf => by have := hl3.low b hf; omega, by have := hj3.lj; omega, by have := hj3.lm; omega⟩⟩
      have hlen : S3.cs.length = 6 := by rw [hlk.cs]; rfl
      refine (add_is hl3 ((Sure.fresh 6).like hlk) hj3 hi3' (by show 0 < 4; omega) (by rw [hlen]; omega) HG1.out cap0 hmk (by omega) HL.out (by omega)).mono ?_
      rintro e W' ⟨rfl, F', n', S', J', b1, b2, b3, b4, b5, _, _⟩
      rw [← b2.losses] at b4
      exact ⟨rfl, F', S', m, n', J', _, _, b1, b2.sure, .inr (by rw [b2.pl, hpl]; rfl), b3, b4⟩
  clear hl3 hlk hj3 hi3 hn cO L2
  go_wp2_with fail
  refine cA.out.mono ?_
  rintro e w4 ⟨rfl, F4, S4, m4, n4, J4, u4, M4, hl4, hs4, hp4, hj4, hi4⟩
  have L4 := hide' hl4
  have SU := hide' hs4
  have P4 := hide' hp4
  have J4h := hide' hj4
  have HI4 := hide' hi4
  have N4 : Hid (S4.cs.length = 6) := by
    show _ = _
    rw [← pl_length]
    rcases hp4 with e | e <;> rw [e] <;> simp
  clear hl4 hs4 hp4 hj4 hi4 cA
  have hsc : scanP g2 (S4.pgs 1 4) = [] := by
    rw [pgs_pl]
    rcases P4.out with e | e
    · rw [e]; exact scan_none _ _ rfl
    · rw [e]; exact scan_none _ _ (tk_other g1 g2 z0 HG1.out HE.out)
  have cO := hide' (open_is L4.out SU.out 1 4 g2 (by omega) (by rw [N4.out]; omega) HG2.out [] hsc)
  clear hsc
  go_wp2_with fail
  refine cO.out.mono ?_
  rintro e w5 ⟨k, mk, nk, S5, J5, rfl, hl5, hlk5, hk5, hik5, hnk, hkl, hkm, kp5⟩
  have L5 := hide' hl5
  have K5h := hide' hk5
  have HK5 := hide' hik5
  have J5h := hide' (J4h.out.move kp5 J4h.out.nj J4h.out.nm (fun x hx => .inl hx))
  have SU5 := hide' (SU.out.like hlk5)
  have LK5 := hide' hlk5
  have hnk' : nk ≤ 92 := by omega
  clear hl5 hlk5 hk5 hik5 hnk hkl hkm kp5 cO L4 J4h
  have cM := hide' (marks_one (k := 0) K5h.out (by omega) (fun y hy => by rw [HK5.out.M] at hy; simp [kM] at hy))
  go_wp2_with fail
  refine cM.out.mono ?_
  rintro e w6 ⟨g, cap, ys, rfl, ht, _, _, b6⟩
  have ey : ys = [] := told_none ht (fun y => by rw [HK5.out.M]; rfl)
  subst ey
  have L6 := hide' (L5.out.below b6)
  have K6h := hide' (K5h.out.below b6)
  have J6h := hide' (J5h.out.below b6)
  clear ht b6 cM L5 K5h J5h
  have cRk := hide' (room_is K6h.out HK5.out (by show 0 ≤ 4; omega) (by omega))
  go_wp2_with fail
  refine cRk.out.mono ?_
  rintro e w7 ⟨rfl, b7⟩
  have L7 := hide' (L6.out.below b7)
  have J7h := hide' (J6h.out.below b7)
  clear b7 cRk L6 K6h J6h
  have cBg := hide' (begin_l L7.out J7h.out g2)
  go_wp2_with fail
  refine cBg.out.mono ?_
  rintro e w8 ⟨rfl, m8, hl8, hj8, _, _⟩
  obtain ⟨J8, hJ8⟩ : ∃ J8 : Jr, J8 = { J4 with used := 0, gen := g2, M := fun _ => none } := ⟨_, rfl⟩
  rw [← hJ8] at hj8
  have HI7 : Hid (J8.is S5.losses 1 4 0 g2 (fun _ => none)) := by rw [hJ8, LK5.out.losses]; exact HI4.out.begin g2
  obtain ⟨St, hSt⟩ : ∃ St : World → Prop, St = fun W => Law w d F4 S5 W ∧ JH w W d F4 j m8 0 J8 := ⟨_, rfl⟩
  have HST := hide' hSt
  have DR : Hid (St { w8 with drawn := w8.drawn + 1 }) := by
    show St _
    rw [hSt]
    exact ⟨hl8.below ⟨rfl, rfl, rfl, Nat.le_refl _, fun _ _ => rfl⟩, hj8.below ⟨rfl, rfl, rfl, Nat.le_refl _, fun _ _ => rfl⟩⟩
  have P5 : Hid (S5.pl = List.replicate 6 Pg.blank ∨ S5.pl = (List.replicate 6 Pg.blank).set 1 (.whole (pgOf g1 z0))) := by show _ ∨ _; rw [like_pl LK5.out]; exact P4.out
  have N5 : Hid (S5.cs.length = 6) := by show _ = _; rw [LK5.out.cs]; exact N4.out
  clear hl8 hj8 hJ8 hSt cBg L7 J7h P4 N4 SU HI4 HK5
  by_cases h0 : len0 = 0
  · subst h0
    go_wp2_with fail
    refine wp_region_guard (by kernel_rfl) (by kernel_rfl) (fun i => ([.slice a0 0 cap0, .int .i64 0, .bool false, .bool false, undef, undef, undef, undef, undef, undef, undef, undef, undef, undef, undef, undef, undef, undef, undef, .bool false] : List Value).getD i undef) (fun W => St W) (size_of (n := 113) (by kernel_rfl) rfl) (DR.out) ?_ ?_
    · intro i o hi w' ev hc hin hout hcst hfn
      have hlt : i < 20 := by
        have := (Array.getElem?_eq_some_iff.1 hi).1
        simpa using this
      match i, hlt with
      | 0, _ =>
        simp only [List.getElem?_toArray, List.getElem?_cons_zero, List.getElem?_cons_succ, Option.some.injEq] at hi
        subst hi
        rw [if_pos (by first | rfl | simp [wantV])]
        have e0 : ev (.tmp 0) = .slice a0 0 cap0 := hout 0 (by kernel_rfl) (show (0 : Nat) < 113 by decide)
        refine .inl ⟨w', ?_, hc⟩
        show _ = Result.ok (Next.value (.slice a0 0 cap0)) w'
        simp [execOp, e0, hcst, go_sem]
      | 1, _ =>
        simp only [List.getElem?_toArray, List.getElem?_cons_zero, List.getElem?_cons_succ, Option.some.injEq] at hi
        subst hi
        rw [if_pos (by first | rfl | simp [wantV])]
        have e0 : ev (.tmp 65) = .slice a0 0 cap0 := hin 65 0 ⟨0, .data⟩ (by kernel_rfl) (by simp) rfl rfl (show (65 : Nat) < 113 by decide)
        refine .inl ⟨w', ?_, hc⟩
        show _ = Result.ok (Next.value (.int .i64 0)) w'
        simp [execOp, e0, hcst, go_sem]
      | 2, _ =>
        simp only [List.getElem?_toArray, List.getElem?_cons_zero, List.getElem?_cons_succ, Option.some.injEq] at hi
        subst hi
        rw [if_pos (by first | rfl | simp [wantV])]
        have e0 : ev (.tmp 66) = .int .i64 0 := hin 66 1 ⟨1, .data⟩ (by kernel_rfl) (by simp) rfl rfl (show (66 : Nat) < 113 by decide)
        refine .inl ⟨w', ?_, hc⟩
        show _ = Result.ok (Next.value (.bool false)) w'
        simp only [execOp, e0, hcst]
        go_simp
      | 3, _ =>
        simp only [List.getElem?_toArray, List.getElem?_cons_zero, List.getElem?_cons_succ, Option.some.injEq] at hi
        subst hi
        rw [if_pos (by first | rfl | simp [wantV])]
        have e0 : ev (.tmp 67) = .bool false := hin 67 2 ⟨2, .data⟩ (by kernel_rfl) (by simp) rfl rfl (show (67 : Nat) < 113 by decide)
        refine .inl ⟨w', ?_, hc⟩
        show _ = Result.ok (Next.value (.bool false)) w'
        simp [execOp, e0, hcst, go_sem]
      | 4, _ =>
        simp only [List.getElem?_toArray, List.getElem?_cons_zero, List.getElem?_cons_succ, Option.some.injEq] at hi
        subst hi
        rw [if_neg (by first | (simp [wantV]; done) | (simp [wantV]; rfl))]
        rfl
      | 5, _ =>
        simp only [List.getElem?_toArray, List.getElem?_cons_zero, List.getElem?_cons_succ, Option.some.injEq] at hi
        subst hi
        rw [if_neg (by first | (simp [wantV]; done) | (simp [wantV]; rfl))]
        rfl
      | 6, _ =>
        simp only [List.getElem?_toArray, List.getElem?_cons_zero, List.getElem?_cons_succ, Option.some.injEq] at hi
        subst hi
        rw [if_neg (by first | (simp [wantV]; done) | (simp [wantV]; rfl))]
        rfl
      | 7, _ =>
        simp only [List.getElem?_toArray, List.getElem?_cons_zero, List.getElem?_cons_succ, Option.some.injEq] at hi
        subst hi
        rw [if_neg (by first | (simp [wantV]; done) | (simp [wantV]; rfl))]
        rfl
      | 8, _ =>
        simp only [List.getElem?_toArray, List.getElem?_cons_zero, List.getElem?_cons_succ, Option.some.injEq] at hi
        subst hi
        rw [if_neg (by first | (simp [wantV]; done) | (simp [wantV]; rfl))]
        rfl
      | 9, _ =>
        simp only [List.getElem?_toArray, List.getElem?_cons_zero, List.getElem?_cons_succ, Option.some.injEq] at hi
        subst hi
        rw [if_neg (by first | (simp [wantV]; done) | (simp [wantV]; rfl))]
        rfl
      | 10, _ =>
        simp only [List.getElem?_toArray, List.getElem?_cons_zero, List.getElem?_cons_succ, Option.some.injEq] at hi
        subst hi
        rw [if_neg (by first | (simp [wantV]; done) | (simp [wantV]; rfl))]
        rfl
      | 11, _ =>
        simp only [List.getElem?_toArray, List.getElem?_cons_zero, List.getElem?_cons_succ, Option.some.injEq] at hi
        subst hi
        rw [if_neg (by first | (simp [wantV]; done) | (simp [wantV]; rfl))]
        rfl
      | 12, _ =>
        simp only [List.getElem?_toArray, List.getElem?_cons_zero, List.getElem?_cons_succ, Option.some.injEq] at hi
        subst hi
        rw [if_neg (by first | (simp [wantV]; done) | (simp [wantV]; rfl))]
        rfl
      | 13, _ =>
        simp only [List.getElem?_toArray, List.getElem?_cons_zero, List.getElem?_cons_succ, Option.some.injEq] at hi
        subst hi
        rw [if_neg (by first | (simp [wantV]; done) | (simp [wantV]; rfl))]
        rfl
      | 14, _ =>
        simp only [List.getElem?_toArray, List.getElem?_cons_zero, List.getElem?_cons_succ, Option.some.injEq] at hi
        subst hi
        rw [if_neg (by first | (simp [wantV]; done) | (simp [wantV]; rfl))]
        rfl
      | 15, _ =>
        simp only [List.getElem?_toArray, List.getElem?_cons_zero, List.getElem?_cons_succ, Option.some.injEq] at hi
        subst hi
        rw [if_neg (by first | (simp [wantV]; done) | (simp [wantV]; rfl))]
        rfl
      | 16, _ =>
        simp only [List.getElem?_toArray, List.getElem?_cons_zero, List.getElem?_cons_succ, Option.some.injEq] at hi
        subst hi
        rw [if_neg (by first | (simp [wantV]; done) | (simp [wantV]; rfl))]
        rfl
      | 17, _ =>
        simp only [List.getElem?_toArray, List.getElem?_cons_zero, List.getElem?_cons_succ, Option.some.injEq] at hi
        subst hi
        rw [if_neg (by first | (simp [wantV]; done) | (simp [wantV]; rfl))]
        rfl
      | 18, _ =>
        simp only [List.getElem?_toArray, List.getElem?_cons_zero, List.getElem?_cons_succ, Option.some.injEq] at hi
        subst hi
        rw [if_neg (by first | (simp [wantV]; done) | (simp [wantV]; rfl))]
        rfl
      | 19, _ =>
        simp only [List.getElem?_toArray, List.getElem?_cons_zero, List.getElem?_cons_succ, Option.some.injEq] at hi
        subst hi
        rw [if_pos (by first | rfl | simp [wantV])]
        have e0 : ev (.tmp 68) = .bool false := hin 68 3 ⟨3, .data⟩ (by kernel_rfl) (by simp) rfl rfl (show (68 : Nat) < 113 by decide)
        have e1 : ev (.tmp 83) = undef := hin 83 18 ⟨18, .data⟩ (by kernel_rfl) (by simp) rfl rfl (show (83 : Nat) < 113 by decide)
        refine .inl ⟨w', ?_, hc⟩
        show _ = Result.ok (Next.value (.bool false)) w'
        simp [execOp, e0, e1, hcst, go_sem]
    · intro w9x hc
      simp only [lexF, Act.put, List.setIfInBounds_toArray, List.set_cons_succ, List.set_cons_zero, List.getD_cons_succ, List.getD_cons_zero]
      have HC := hide' hc
      clear hc DR
      have HC' := HC.out
      rw [HST.out] at HC'
      obtain ⟨hl, hj⟩ := HC'
      have LA := hide' (hl.alloc (.cells #[.int .u64 ((1 : Nat) : Int), .int .u64 ((1 : Nat) : Int)] 48))
      have JA := hide' (hj.below ((Below.refl _ w9x).alloc (Nat.le_refl _) (.cells #[.int .u64 ((1 : Nat) : Int), .int .u64 ((1 : Nat) : Int)] 48)))
      have cA := hide' (add_is LA.out SU5.out JA.out HI7.out (by omega) (by rw [N5.out]; omega) HG2.out 1 (MkIn.built hl hj 1 1 (by decide) (by decide)) (by omega) (by omega) (by omega))
      clear hl hj HC
      go_wp2_with fail
      refine cA.out.mono ?_
      rintro e w8 ⟨rfl, F8, n8, S8, J8, y1, y2, y3, y4, y5, _, _⟩
      have L8 := hide' y1
      have SU8 := hide' y2.sure
      have P8 : Hid (S8.pl = (List.replicate 6 Pg.blank).set 1 (.whole (pgOf g2 [(1, 1)]))) := by
        show _ = _
        rw [y2.pl]
        rcases P5.out with e | e
        · rw [e]
        · rw [e]; rfl
      have N8 : Hid (S8.cs.length = 6) := by show _ = _; rw [← pl_length, P8.out]; simp
      clear y1 y2 y3 y4 y5 cA LA JA
      have hsc : scanP g2 (S8.pgs 1 4) = [[(1, 1)]] := by
        rw [pgs_pl, P8.out]
        show scanP g2 ([.whole (pgOf g2 [(1, 1)])] ++ [.blank, .blank, .blank]) = _
        rw [scan_append _ [.blank, .blank, .blank] [[(1, 1)]] (by simp [tk_page g2 [(1, 1)] HG2.out (by decide) (by simp [Mk.fits])]), scan_none _ _ rfl]
        rfl
      have cO := hide' (open_is L8.out SU8.out 1 4 g2 (by omega) (by rw [N8.out]; omega) HG2.out _ hsc)
      clear hsc
      go_wp2_with fail
      refine cO.out.mono ?_
      rintro e w9 ⟨jo, mo, no, S9, J9, rfl, hl9, _, hj9, hi9, hn9, _, _, _⟩
      have L9 := hide' hl9
      have J9h := hide' hj9
      have HI9 := hide' hi9
      have hn9' : no ≤ 92 := by omega
      clear hl9 hj9 hi9 hn9 cO L8 SU8
      have eM : Hid (J9.M = fun y => if y = 1 then some 1 else none) := by show _ = _; rw [HI9.out.M]; exact kM_one 1 1
      have cG9 := hide' (gone_l J9h.out 1 1 (by decide))
      have eg : J9.gone 1 1 = true := by unfold Jr.gone; rw [eM.out]; rfl
      rw [eg] at cG9
      clear eg
      go_wp2_with fail
      refine cG9.out.mono ?_
      rintro e w10 ⟨rfl, h10⟩
      obtain rfl : w9 = w10 := h10.symm
      clear h10 cG9
      have cM := hide' (marks_one (k := 1) J9h.out (by omega) (fun y hy => by rw [eM.out] at hy; by_cases e : y = 1 <;> simp [e] at hy; exact e))
      go_wp2_with fail
      refine cM.out.mono ?_
      rintro e w10 ⟨g, cap, ys, rfl, ht, _, _, b10⟩
      have ey : ys = [(1, 1)] := told_one ht (fun y => by rw [eM.out])
      subst ey
      have J10h := hide' (J9h.out.below b10)
      have B10 := hide' (L9.out.below b10).bel
      clear ht b10 cM
      have cR9 := hide' (room_is J10h.out HI9.out (by show 1 ≤ 4; omega) (by omega))
      go_wp2_with fail
      refine cR9.out.mono ?_
      rintro e w11 ⟨rfl, b11⟩
      have B11 := hide' (B10.out.trans (b11.mono B10.out.size))
      clear b11 cR9
      go_wp2
      go_ret
      exact ⟨rfl, B11.out⟩
  · have h1 : (0 < len0) = True := eq_true (by omega)
    obtain ⟨x, hx⟩ : ∃ x, z0[0]? = some x := ⟨_, List.getElem?_eq_getElem (by rw [← HW.out.len]; omega)⟩
    obtain ⟨b, o, rfl, hb, hc⟩ := HW.out.cell 0 x hx
    obtain ⟨k0, v0⟩ := x
    have hf := HW.out.fits _ (List.mem_of_getElem? hx)
    have CL : Hid (∀ W, St W → W.cell? ⟨b, o, none⟩ = some (.int .u64 (k0 : Int)) ∧ W.cell? ⟨b, o + 1, none⟩ = some (.int .u64 (v0 : Int))) := fun W hW => by
      rw [HST.out] at hW
      have e := hW.1.bel.block b hb
      have c0 := hc.c0
      have c1 := hc.c1
      rw [Nat.zero_mul, Nat.add_zero] at c0 c1
      exact ⟨(World.cell?_of_block e).trans c0, (World.cell?_of_block e).trans c1⟩
    have cG : Hid (∀ W, St W → Calls Try.prog 22 #[.pointer (some ⟨j, 0, none⟩), .int .u64 (k0 : Int), .int .u64 (v0 : Int)] W fun e W' => e = .returned (.bool false) ∧ St W') := fun W hW => by
      have hW' := hW
      rw [HST.out] at hW'
      refine (gone_l hW'.2 k0 v0 hf.1).mono ?_
      rintro e W' ⟨rfl, rfl⟩
      exact ⟨by rw [HI7.out.gone], hW⟩
    have cR : Hid (∀ W, St W → Calls Try.prog 13 #[.pointer (some ⟨j, 0, none⟩)] W fun e W' => e = .returned (.int .i64 4) ∧ St W') := fun W hW => by
      rw [HST.out] at hW
      refine (room_is hW.2 HI7.out (by omega) (by omega)).mono ?_
      rintro e W' ⟨rfl, bb⟩
      refine ⟨rfl, ?_⟩
      rw [HST.out]
      exact ⟨hW.1.below bb, hW.2.below bb⟩
    clear hx hc hf h0
    go_wp2_with fail
    refine wp_region_guard (by kernel_rfl) (by kernel_rfl) (fun i => ([.slice (some ⟨b, o, none⟩) len0 cap0, .int .i64 (len0 : Int), .bool true, .bool true, .pointer (some ⟨j, 0, none⟩), .slice (some ⟨b, o, none⟩) len0 cap0, .pointer (some ⟨b, o, none⟩), .pointer (some ⟨b, o, none⟩), .int .u64 (k0 : Int), .slice (some ⟨b, o, none⟩) len0 cap0, .pointer (some ⟨b, o, none⟩), .pointer (some ⟨b, o + 1, none⟩), .int .u64 (v0 : Int), .bool false, .bool false, .pointer (some ⟨j, 0, none⟩), .int .i64 4, .bool false, .bool false, .bool false] : List Value).getD i undef) (fun W => St W) (size_of (n := 113) (by kernel_rfl) rfl) (DR.out) ?_ ?_
    · intro i o hi w' ev hc hin hout hcst hfn
      have hlt : i < 20 := by
        have := (Array.getElem?_eq_some_iff.1 hi).1
        simpa using this
      match i, hlt with
      | 0, _ =>
        simp only [List.getElem?_toArray, List.getElem?_cons_zero, List.getElem?_cons_succ, Option.some.injEq] at hi
        subst hi
        rw [if_pos (by first | rfl | simp [wantV])]
        have e0 : ev (.tmp 0) = .slice (some ⟨b, o, none⟩) len0 cap0 := hout 0 (by kernel_rfl) (show (0 : Nat) < 113 by decide)
        refine .inl ⟨w', ?_, hc⟩
        show _ = Result.ok (Next.value (.slice (some ⟨b, o, none⟩) len0 cap0)) w'
        simp [execOp, e0, hcst, go_sem]
      | 1, _ =>
        simp only [List.getElem?_toArray, List.getElem?_cons_zero, List.getElem?_cons_succ, Option.some.injEq] at hi
        subst hi
        rw [if_pos (by first | rfl | simp [wantV])]
        have e0 : ev (.tmp 65) = .slice (some ⟨b, o, none⟩) len0 cap0 := hin 65 0 ⟨0, .data⟩ (by kernel_rfl) (by simp) rfl rfl (show (65 : Nat) < 113 by decide)
        refine .inl ⟨w', ?_, hc⟩
        show _ = Result.ok (Next.value (.int .i64 (len0 : Int))) w'
        simp [execOp, e0, hcst, go_sem]
      | 2, _ =>
        simp only [List.getElem?_toArray, List.getElem?_cons_zero, List.getElem?_cons_succ, Option.some.injEq] at hi
        subst hi
        rw [if_pos (by first | rfl | simp [wantV])]
        have e0 : ev (.tmp 66) = .int .i64 (len0 : Int) := hin 66 1 ⟨1, .data⟩ (by kernel_rfl) (by simp) rfl rfl (show (66 : Nat) < 113 by decide)
        refine .inl ⟨w', ?_, hc⟩
        show _ = Result.ok (Next.value (.bool true)) w'
        simp only [execOp, e0, hcst]
        go_simp
      | 3, _ =>
        simp only [List.getElem?_toArray, List.getElem?_cons_zero, List.getElem?_cons_succ, Option.some.injEq] at hi
        subst hi
        rw [if_pos (by first | rfl | simp [wantV])]
        have e0 : ev (.tmp 67) = .bool true := hin 67 2 ⟨2, .data⟩ (by kernel_rfl) (by simp) rfl rfl (show (67 : Nat) < 113 by decide)
        refine .inl ⟨w', ?_, hc⟩
        show _ = Result.ok (Next.value (.bool true)) w'
        simp [execOp, e0, hcst, go_sem]
      | 4, _ =>
        simp only [List.getElem?_toArray, List.getElem?_cons_zero, List.getElem?_cons_succ, Option.some.injEq] at hi
        subst hi
        rw [if_pos (by first | rfl | simp [wantV])]
        have e0 : ev (.tmp 9) = .pointer (some ⟨j, 0, none⟩) := hout 9 (by kernel_rfl) (show (9 : Nat) < 113 by decide)
        refine .inl ⟨w', ?_, hc⟩
        show _ = Result.ok (Next.value (.pointer (some ⟨j, 0, none⟩))) w'
        simp [execOp, e0, hcst, go_sem]
      | 5, _ =>
        simp only [List.getElem?_toArray, List.getElem?_cons_zero, List.getElem?_cons_succ, Option.some.injEq] at hi
        subst hi
        rw [if_pos (by first | rfl | simp [wantV])]
        have e0 : ev (.tmp 0) = .slice (some ⟨b, o, none⟩) len0 cap0 := hout 0 (by kernel_rfl) (show (0 : Nat) < 113 by decide)
        refine .inl ⟨w', ?_, hc⟩
        show _ = Result.ok (Next.value (.slice (some ⟨b, o, none⟩) len0 cap0)) w'
        simp [execOp, e0, hcst, go_sem]
      | 6, _ =>
        simp only [List.getElem?_toArray, List.getElem?_cons_zero, List.getElem?_cons_succ, Option.some.injEq] at hi
        subst hi
        rw [if_pos (by first | rfl | simp [wantV])]
        have e0 : ev (.tmp 70) = .slice (some ⟨b, o, none⟩) len0 cap0 := hin 70 5 ⟨5, .data⟩ (by kernel_rfl) (by simp) rfl rfl (show (70 : Nat) < 113 by decide)
        refine .inl ⟨w', ?_, hc⟩
        show _ = Result.ok (Next.value (.pointer (some ⟨b, o, none⟩))) w'
        simp only [execOp, e0, hcst]
        go_simp
      | 7, _ =>
        simp only [List.getElem?_toArray, List.getElem?_cons_zero, List.getElem?_cons_succ, Option.some.injEq] at hi
        subst hi
        rw [if_pos (by first | rfl | simp [wantV])]
        have e0 : ev (.tmp 71) = .pointer (some ⟨b, o, none⟩) := hin 71 6 ⟨6, .data⟩ (by kernel_rfl) (by simp) rfl rfl (show (71 : Nat) < 113 by decide)
        refine .inl ⟨w', ?_, hc⟩
        show _ = Result.ok (Next.value (.pointer (some ⟨b, o, none⟩))) w'
        simp only [execOp, e0, hcst]
        go_simp
      | 8, _ =>
        simp only [List.getElem?_toArray, List.getElem?_cons_zero, List.getElem?_cons_succ, Option.some.injEq] at hi
        subst hi
        rw [if_pos (by first | rfl | simp [wantV])]
        have e0 : ev (.tmp 72) = .pointer (some ⟨b, o, none⟩) := hin 72 7 ⟨7, .data⟩ (by kernel_rfl) (by simp) rfl rfl (show (72 : Nat) < 113 by decide)
        refine .inl ⟨w', ?_, hc⟩
        show _ = Result.ok (Next.value (.int .u64 (k0 : Int))) w'
        obtain ⟨y0, y1⟩ := CL.out w' hc
        simp only [execOp, e0]
        go_simp
      | 9, _ =>
        simp only [List.getElem?_toArray, List.getElem?_cons_zero, List.getElem?_cons_succ, Option.some.injEq] at hi
        subst hi
        rw [if_pos (by first | rfl | simp [wantV])]
        have e0 : ev (.tmp 0) = .slice (some ⟨b, o, none⟩) len0 cap0 := hout 0 (by kernel_rfl) (show (0 : Nat) < 113 by decide)
        refine .inl ⟨w', ?_, hc⟩
        show _ = Result.ok (Next.value (.slice (some ⟨b, o, none⟩) len0 cap0)) w'
        simp [execOp, e0, hcst, go_sem]
      | 10, _ =>
        simp only [List.getElem?_toArray, List.getElem?_cons_zero, List.getElem?_cons_succ, Option.some.injEq] at hi
        subst hi
        rw [if_pos (by first | rfl | simp [wantV])]
        have e0 : ev (.tmp 74) = .slice (some ⟨b, o, none⟩) len0 cap0 := hin 74 9 ⟨9, .data⟩ (by kernel_rfl) (by simp) rfl rfl (show (74 : Nat) < 113 by decide)
        refine .inl ⟨w', ?_, hc⟩
        show _ = Result.ok (Next.value (.pointer (some ⟨b, o, none⟩))) w'
        simp only [execOp, e0, hcst]
        go_simp
      | 11, _ =>
        simp only [List.getElem?_toArray, List.getElem?_cons_zero, List.getElem?_cons_succ, Option.some.injEq] at hi
        subst hi
        rw [if_pos (by first | rfl | simp [wantV])]
        have e0 : ev (.tmp 75) = .pointer (some ⟨b, o, none⟩) := hin 75 10 ⟨10, .data⟩ (by kernel_rfl) (by simp) rfl rfl (show (75 : Nat) < 113 by decide)
        refine .inl ⟨w', ?_, hc⟩
        show _ = Result.ok (Next.value (.pointer (some ⟨b, o + 1, none⟩))) w'
        simp only [execOp, e0, hcst]
        go_simp
      | 12, _ =>
        simp only [List.getElem?_toArray, List.getElem?_cons_zero, List.getElem?_cons_succ, Option.some.injEq] at hi
        subst hi
        rw [if_pos (by first | rfl | simp [wantV])]
        have e0 : ev (.tmp 76) = .pointer (some ⟨b, o + 1, none⟩) := hin 76 11 ⟨11, .data⟩ (by kernel_rfl) (by simp) rfl rfl (show (76 : Nat) < 113 by decide)
        refine .inl ⟨w', ?_, hc⟩
        show _ = Result.ok (Next.value (.int .u64 (v0 : Int))) w'
        obtain ⟨y0, y1⟩ := CL.out w' hc
        simp only [execOp, e0]
        go_simp
      | 13, _ =>
        simp only [List.getElem?_toArray, List.getElem?_cons_zero, List.getElem?_cons_succ, Option.some.injEq] at hi
        subst hi
        rw [if_pos (by first | rfl | simp [wantV])]
        have e0 : ev (.tmp 69) = .pointer (some ⟨j, 0, none⟩) := hin 69 4 ⟨4, .data⟩ (by kernel_rfl) (by simp) rfl rfl (show (69 : Nat) < 113 by decide)
        have e1 : ev (.tmp 73) = .int .u64 (k0 : Int) := hin 73 8 ⟨8, .data⟩ (by kernel_rfl) (by simp) rfl rfl (show (73 : Nat) < 113 by decide)
        have e2 : ev (.tmp 77) = .int .u64 (v0 : Int) := hin 77 12 ⟨12, .data⟩ (by kernel_rfl) (by simp) rfl rfl (show (77 : Nat) < 113 by decide)
        refine .inr (.inr ⟨22, #[.pointer (some ⟨j, 0, none⟩), .int .u64 (k0 : Int), .int .u64 (v0 : Int)], ?_, ?_⟩)
        · have ef := hfn 22
          simp [execOp, resolve, invoke, ef, hcst, e0, e1, e2, Result.andThen]
          exact enter22 _ _
        · exact cG.out w' hc
      | 14, _ =>
        simp only [List.getElem?_toArray, List.getElem?_cons_zero, List.getElem?_cons_succ, Option.some.injEq] at hi
        subst hi
        rw [if_pos (by first | rfl | simp [wantV])]
        have e0 : ev (.tmp 78) = .bool false := hin 78 13 ⟨13, .data⟩ (by kernel_rfl) (by simp) rfl rfl (show (78 : Nat) < 113 by decide)
        refine .inl ⟨w', ?_, hc⟩
        show _ = Result.ok (Next.value (.bool false)) w'
        simp [execOp, e0, hcst, go_sem]
      | 15, _ =>
        simp only [List.getElem?_toArray, List.getElem?_cons_zero, List.getElem?_cons_succ, Option.some.injEq] at hi
        subst hi
        rw [if_pos (by first | rfl | simp [wantV])]
        have e0 : ev (.tmp 9) = .pointer (some ⟨j, 0, none⟩) := hout 9 (by kernel_rfl) (show (9 : Nat) < 113 by decide)
        refine .inl ⟨w', ?_, hc⟩
        show _ = Result.ok (Next.value (.pointer (some ⟨j, 0, none⟩))) w'
        simp [execOp, e0, hcst, go_sem]
      | 16, _ =>
        simp only [List.getElem?_toArray, List.getElem?_cons_zero, List.getElem?_cons_succ, Option.some.injEq] at hi
        subst hi
        rw [if_pos (by first | rfl | simp [wantV])]
        have e0 : ev (.tmp 80) = .pointer (some ⟨j, 0, none⟩) := hin 80 15 ⟨15, .data⟩ (by kernel_rfl) (by simp) rfl rfl (show (80 : Nat) < 113 by decide)
        refine .inr (.inr ⟨13, #[.pointer (some ⟨j, 0, none⟩)], ?_, ?_⟩)
        · have ef := hfn 13
          simp [execOp, resolve, invoke, ef, hcst, e0, Result.andThen]
          exact enter13 _ _
        · exact cR.out w' hc
      | 17, _ =>
        simp only [List.getElem?_toArray, List.getElem?_cons_zero, List.getElem?_cons_succ, Option.some.injEq] at hi
        subst hi
        rw [if_pos (by first | rfl | simp [wantV])]
        have e0 : ev (.tmp 81) = .int .i64 4 := hin 81 16 ⟨16, .data⟩ (by kernel_rfl) (by simp) rfl rfl (show (81 : Nat) < 113 by decide)
        refine .inl ⟨w', ?_, hc⟩
        show _ = Result.ok (Next.value (.bool false)) w'
        simp [execOp, e0, hcst, go_sem]
      | 18, _ =>
        simp only [List.getElem?_toArray, List.getElem?_cons_zero, List.getElem?_cons_succ, Option.some.injEq] at hi
        subst hi
        rw [if_pos (by first | rfl | simp [wantV])]
        have e0 : ev (.tmp 79) = .bool false := hin 79 14 ⟨14, .data⟩ (by kernel_rfl) (by simp) rfl rfl (show (79 : Nat) < 113 by decide)
        have e1 : ev (.tmp 82) = .bool false := hin 82 17 ⟨17, .data⟩ (by kernel_rfl) (by simp) rfl rfl (show (82 : Nat) < 113 by decide)
        refine .inl ⟨w', ?_, hc⟩
        show _ = Result.ok (Next.value (.bool false)) w'
        simp [execOp, e0, e1, hcst, go_sem]
      | 19, _ =>
        simp only [List.getElem?_toArray, List.getElem?_cons_zero, List.getElem?_cons_succ, Option.some.injEq] at hi
        subst hi
        rw [if_pos (by first | rfl | simp [wantV])]
        have e0 : ev (.tmp 68) = .bool true := hin 68 3 ⟨3, .data⟩ (by kernel_rfl) (by simp) rfl rfl (show (68 : Nat) < 113 by decide)
        have e1 : ev (.tmp 83) = .bool false := hin 83 18 ⟨18, .data⟩ (by kernel_rfl) (by simp) rfl rfl (show (83 : Nat) < 113 by decide)
        refine .inl ⟨w', ?_, hc⟩
        show _ = Result.ok (Next.value (.bool false)) w'
        simp [execOp, e0, e1, hcst, go_sem]
    · intro w9x hc
      simp only [lexF, Act.put, List.setIfInBounds_toArray, List.set_cons_succ, List.set_cons_zero, List.getD_cons_succ, List.getD_cons_zero]
      have HC := hide' hc
      clear hc DR
      have HC' := HC.out
      rw [HST.out] at HC'
      obtain ⟨hl, hj⟩ := HC'
      have LA := hide' (hl.alloc (.cells #[.int .u64 ((1 : Nat) : Int), .int .u64 ((1 : Nat) : Int)] 48))
      have JA := hide' (hj.below ((Below.refl _ w9x).alloc (Nat.le_refl _) (.cells #[.int .u64 ((1 : Nat) : Int), .int .u64 ((1 : Nat) : Int)] 48)))
      have cA := hide' (add_is LA.out SU5.out JA.out HI7.out (by omega) (by rw [N5.out]; omega) HG2.out 1 (MkIn.built hl hj 1 1 (by decide) (by decide)) (by omega) (by omega) (by omega))
      clear hl hj HC
      go_wp2_with fail
      refine cA.out.mono ?_
      rintro e w8 ⟨rfl, F8, n8, S8, J8, y1, y2, y3, y4, y5, _, _⟩
      have L8 := hide' y1
      have SU8 := hide' y2.sure
      have P8 : Hid (S8.pl = (List.replicate 6 Pg.blank).set 1 (.whole (pgOf g2 [(1, 1)]))) := by
        show _ = _
        rw [y2.pl]
        rcases P5.out with e | e
        · rw [e]
        · rw [e]; rfl
      have N8 : Hid (S8.cs.length = 6) := by show _ = _; rw [← pl_length, P8.out]; simp
      clear y1 y2 y3 y4 y5 cA LA JA
      have hsc : scanP g2 (S8.pgs 1 4) = [[(1, 1)]] := by
        rw [pgs_pl, P8.out]
        show scanP g2 ([.whole (pgOf g2 [(1, 1)])] ++ [.blank, .blank, .blank]) = _
        rw [scan_append _ [.blank, .blank, .blank] [[(1, 1)]] (by simp [tk_page g2 [(1, 1)] HG2.out (by decide) (by simp [Mk.fits])]), scan_none _ _ rfl]
        rfl
      have cO := hide' (open_is L8.out SU8.out 1 4 g2 (by omega) (by rw [N8.out]; omega) HG2.out _ hsc)
      clear hsc
      go_wp2_with fail
      refine cO.out.mono ?_
      rintro e w9 ⟨jo, mo, no, S9, J9, rfl, hl9, _, hj9, hi9, hn9, _, _, _⟩
      have L9 := hide' hl9
      have J9h := hide' hj9
      have HI9 := hide' hi9
      have hn9' : no ≤ 92 := by omega
      clear hl9 hj9 hi9 hn9 cO L8 SU8
      have eM : Hid (J9.M = fun y => if y = 1 then some 1 else none) := by show _ = _; rw [HI9.out.M]; exact kM_one 1 1
      have cG9 := hide' (gone_l J9h.out 1 1 (by decide))
      have eg : J9.gone 1 1 = true := by unfold Jr.gone; rw [eM.out]; rfl
      rw [eg] at cG9
      clear eg
      go_wp2_with fail
      refine cG9.out.mono ?_
      rintro e w10 ⟨rfl, h10⟩
      obtain rfl : w9 = w10 := h10.symm
      clear h10 cG9
      have cM := hide' (marks_one (k := 1) J9h.out (by omega) (fun y hy => by rw [eM.out] at hy; by_cases e : y = 1 <;> simp [e] at hy; exact e))
      go_wp2_with fail
      refine cM.out.mono ?_
      rintro e w10 ⟨g, cap, ys, rfl, ht, _, _, b10⟩
      have ey : ys = [(1, 1)] := told_one ht (fun y => by rw [eM.out])
      subst ey
      have J10h := hide' (J9h.out.below b10)
      have B10 := hide' (L9.out.below b10).bel
      clear ht b10 cM
      have cR9 := hide' (room_is J10h.out HI9.out (by show 1 ≤ 4; omega) (by omega))
      go_wp2_with fail
      refine cR9.out.mono ?_
      rintro e w11 ⟨rfl, b11⟩
      have B11 := hide' (B10.out.trans (b11.mono B10.out.size))
      clear b11 cR9
      go_wp2
      go_ret
      exact ⟨rfl, B11.out⟩
end Go.Proofs.Ytghdkicijdfpcaa.tombGens
