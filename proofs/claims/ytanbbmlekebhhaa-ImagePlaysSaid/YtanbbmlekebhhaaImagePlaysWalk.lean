/-
  ImagePlays holds for every input.
-/
import Derived.WalkKit
import Derived.Below
import Derived.Test.YtanbbmlekebhhaaJ7
import Derived.Test.YtanbbmlekebhhaaLs
namespace Go.Proofs.Ytanbbmlekebhhaa.imagePlays
open Go.RowKit Go.Deep Math
set_option linter.unusedVariables false
set_option linter.unusedSimpArgs false

set_option maxRecDepth 8000 in
set_option maxHeartbeats 40000000 in
theorem walk (a0 : Int) (a1 : Int) (a2 : Option Addr) (len2 cap2 : Nat) (z2 : List It) (a3 : Option Addr) (len3 cap3 : Nat) (z3 : List ActI) (a4 : Int) (w : World) (hw0 : (Lit.int .i64 a0).wf = true) (hw1 : (Lit.int .i64 a1).wf = true) (hw2 : RawAt w a2 len2 z2 ∧ len2 ≤ cap2) (hw3 : ActsAt w a3 len3 z3) (hw4 : (Lit.int .i64 a4).wf = true) :
    Calls Try.prog 4 #[.int .i64 a0, .int .i64 a1, .slice a2 len2 cap2, .slice a3 len3 cap3, .int .i64 a4] w fun e w' => e = .returned (.bool true) ∧ Below w.heap.size w w' := by
  have ca := hide (awake_any w)
  have HA2 := hide hw2
  have HA3 := hide hw3
  have f1 := i64_wf hw0
  have f0 := i64_lo hw0
  have p1 := i64_wf hw1
  have p0 := i64_lo hw1
  have n1 := i64_wf hw4
  have n0 := i64_lo hw4
  have BD := hide (And.intro f1 (And.intro f0 (And.intro p1 (And.intro p0 (And.intro n1 n0)))))
  clear hw0 hw1 hw2 hw3 hw4 f1 f0 p1 p0 n1 n0
  go_enter Try.func4, Try.ntmps4
  go_wp2_with fail
  refine ca.out.mono ?_
  rintro e w1 ⟨rfl, b1⟩
  have B1 := hide b1
  clear b1 ca
  by_cases h40 : 40 < len2
  · have i40 : ((40 : Int) < (len2 : Int)) = True := eq_true (by omega)
    clear h40
    go_wp2
    go_ret
    exact ⟨rfl, B1.out⟩
  have i40 : ((40 : Int) < (len2 : Int)) = False := eq_false (by omega)
  by_cases h20 : 20 < len3
  · have i20 : ((20 : Int) < (len3 : Int)) = True := eq_true (by omega)
    clear h20 h40
    go_wp2
    go_ret
    exact ⟨rfl, B1.out⟩
  have i20 : ((20 : Int) < (len3 : Int)) = False := eq_false (by omega)
  have H40 := hide (show len2 ≤ 40 by omega)
  have H20 := hide (show len3 ≤ 20 by omega)
  clear h40 h20
  have cn := hide (new_at (w := w1) 8 (by omega) (by omega))
  go_wp2_with fail
  refine cn.out.mono ?_
  rintro e w2 ⟨d, F, rfl, h2, b2, f2⟩
  have Q2 : Hid (Since w.heap.size w w2 F) := ⟨B1.out.trans (b2.mono B1.out.size), Nat.le_trans B1.out.size b2.size, fun k hk => Nat.le_trans B1.out.size (f2 k hk)⟩
  have H2 := hide h2
  have cr := hide (rnew_at 8 (by omega) w2)
  clear cn h2 b2 f2 B1
  go_wp2_with fail
  refine cr.out.mono ?_
  rintro e w3 ⟨r, G, rfl, h3, g3, b3⟩
  have Q3 : Hid (Since w.heap.size w w3 (F ++ G)) := since2 (Q2.out.below b3) (fun k hk => Nat.le_trans Q2.out.2.1 (g3 k hk))
  have P3 : Hid (Pair w3 d r F G (Dv.fresh 8) (Dv.fresh 8)) := ⟨H2.out.below b3, h3, fun k hk => ⟨h3.lt k hk, fun hf => by have := H2.out.lt k hf; have := g3 k hk; omega⟩⟩
  have I0 : Hid (Inv w w3 d r 8) := ⟨F, G, _, P3.out, by simp [Dv.fresh], Q3.out⟩
  clear h3 g3 b3 H2 Q2 cr P3 Q3
  go_wp2_with fail
  go_loopg [14] len3 (fun kx s14 wr => ∃ i : Nat, s14 = .int .i64 i ∧ i ≤ len3 ∧ len3 - i ≤ kx ∧ Hid (Inv w wr d r 8))
  case atStart => exact ⟨0, rfl, Nat.zero_le _, by omega, I0.out⟩
  case round =>
    obtain ⟨i, rfl, hin, hg, I⟩ := hrel
    have hi20 : i ≤ 20 := by have := H20.out; omega
    by_cases hlt : i < len3
    · have hlt2 : (i : Int) < (len3 : Int) := by omega
      obtain ⟨F1, G1, S, hP, hSl, hQ⟩ := I.out
      obtain ⟨t, ht⟩ : ∃ t, z3[i]? = some t := ⟨_, List.getElem?_eq_getElem (by rw [HA3.out.1]; exact hlt)⟩
      have AO : ∃ b o, a3 = some ⟨b, o, none⟩ ∧ b < wr.heap.size ∧ OneAct wr b (o + i * 3) t ∧ OneAct w b (o + i * 3) t := by
        rcases HA3.out.2 with h0 | ⟨b, o, ha, hb, hc⟩
        · rw [h0] at ht; simp at ht
        · have h1 := hc i t ht
          exact ⟨b, o, ha, Nat.lt_of_lt_of_le hb hQ.1.size, h1.same hQ.1.size (fun k hk => hQ.1.block k hk), h1⟩
      obtain ⟨b, o, rfl, hbw, A1, A0⟩ := AO
      have c0 := A1.c0
      have c1 := A1.c1
      have c2 := A1.c2
      have cb := hide (both_any d r F1 G1 S S t wr hP A1.bytes A1.nil A1.small A1.page (bytes_apart A0 (fun k hk => hQ.2.2 k (by simp [hk]))) (bytes_apart A0 (fun k hk => hQ.2.2 k (by simp [hk]))))
      rw [bothOk_same] at cb
      have HQ := hide hQ
      have HSL := hide hSl
      clear A0 A1 hP hQ hSl ht
      obtain ⟨top, tpage, ta, tcap, tbb, tl⟩ := t
      simp only at c0 c1 c2 cb
      obtain ⟨tn, htn⟩ : ∃ tn, tn = tl.length := ⟨_, rfl⟩
      rw [← htn] at c2 cb
      have HTN := hide htn
      clear htn
      by_cases h5 : 500 < tn
      · have h5i : ((500 : Int) < (tn : Int)) = True := eq_true (by omega)
        clear h5
        go_wp2_with fail
        go_ret
        exact ⟨rfl, HQ.out.1⟩
      · have h5i : ((500 : Int) < (tn : Int)) = False := eq_false (by omega)
        clear h5
        go_wp2_with fail
        refine cb.out.mono ?_
        rintro e w4 ⟨rfl, F3, G3, p3, m3⟩
        have J : Hid (Inv w w4 d r 8) := ⟨F3, G3, _, p3, by rw [act_len]; exact HSL.out, HQ.out.moves m3⟩
        clear cb p3 m3 c0 c1 c2
        go_wp2_with fail
        go_roundg (len3 - (i + 1))
        case measure => omega
        case rel => exact ⟨i + 1, rfl, by omega, by omega, J.out⟩
    · obtain rfl : i = len3 := by omega
      have hlt2 : ¬ (i : Int) < (i : Int) := by omega
      have J := I
      clear hin hg hlt I I0 HA3
      go_wp2_with fail
      go_loopg [15] len2 (fun kx s15 wr2 => ∃ i : Nat, s15 = .int .i64 i ∧ i ≤ len2 ∧ len2 - i ≤ kx ∧ Hid (Below wr.heap.size wr wr2))
      case atStart => exact ⟨0, rfl, Nat.zero_le _, by omega, Below.refl _ _⟩
      case round =>
        obtain ⟨j, rfl, hjn, hjg, I⟩ := hrel
        have hj40 : j ≤ 40 := by have := H40.out; omega
        have J2 := hide (J.out.below I.out)
        by_cases hltj : j < len2
        · have hltj2 : (j : Int) < (len2 : Int) := by omega
          obtain ⟨x, hx⟩ : ∃ x, z2[j]? = some x := ⟨_, List.getElem?_eq_getElem (by rw [← HA2.out.1.len]; exact hltj)⟩
          obtain ⟨b, o, rfl, hb, hc⟩ := HA2.out.1.cell j x hx
          have hbel : Below w.heap.size w wr := by
            obtain ⟨F4, G4, S4, h4, h5, h6⟩ := J2.out
            exact h6.1
          have hc' := hc.below hbel hb
          have d0 := hc'.c0
          have d1 := hc'.c1
          have hbw : b < wr.heap.size := Nat.lt_of_lt_of_le hb hbel.size
          have HBL := hide hbel
          generalize txt x.key = kb at *
          generalize txt x.value = vb at *
          clear hx hc hc' hbel
          by_cases hk : 300 < kb.size
          · have hki : ((300 : Int) < (kb.size : Int)) = True := eq_true (by omega)
            clear hk
            go_wp2_with fail
            go_ret
            exact ⟨rfl, HBL.out⟩
          · have hki : ((300 : Int) < (kb.size : Int)) = False := eq_false (by omega)
            by_cases hv : 1200 < vb.size
            · have hvi : ((1200 : Int) < (vb.size : Int)) = True := eq_true (by omega)
              clear hk hv
              go_wp2_with fail
              go_ret
              exact ⟨rfl, HBL.out⟩
            · have hvi : ((1200 : Int) < (vb.size : Int)) = False := eq_false (by omega)
              clear hk hv
              go_wp2_with fail
              go_roundg (len2 - (j + 1))
              case measure => omega
              case rel => exact ⟨j + 1, rfl, by omega, by omega, I.out⟩
        · obtain rfl : j = len2 := by omega
          have hltj2 : ¬ (j : Int) < (j : Int) := by omega
          obtain ⟨F4, G4, S4, h4, h5, h6⟩ := J2.out
          obtain ⟨f1, f0, p1, p0, n1, n0⟩ := BD.out
          have R4 := hide (HA2.out.1.below h6.1)
          have cD : Hid (∀ (w5 : World) (v : Value), Below wr.heap.size wr w5 → w5.ownsRow wr.heap.size 32 5 v j (itsCells z2) → ∃ a5 c5, v = .slice a5 j c5 ∧ Calls Try.prog 11 #[.pointer (some ⟨d, 0, none⟩), .int .i64 a0, .int .i64 a1, .slice a5 j c5] w5 fun e w' => e = .returned (.tuple #[.int .i64 (S4.dumpP a0 a1 z2 : Nat), .int .i64 (S4.dumpN a0 a1 z2 : Nat), .int .i64 (S4.dumpErr a0 a1 z2)]) ∧ ∃ F', Pair w' d r F' G4 (S4.dumpDo a0 a1 z2) S4 ∧ Since w.heap.size w w' (F' ++ G4)) := fun w5 v hb ho => by
            obtain ⟨a5, c5, rfl, hc5, hr5⟩ := own_raw HA2.out.1.len HA2.out.1.fits ho
            refine ⟨a5, c5, rfl, (dump_both d r F4 G4 S4 a0 a1 p1 a5 j c5 z2 H40.out hc5 w5 hr5 (h4.below hb)).mono ?_⟩
            rintro e w' ⟨rfl, F', h1, m1⟩
            exact ⟨rfl, F', h1, (h6.below hb).moves m1⟩
          have cE : Hid (∀ (w6 : World) (F' : List Nat), Pair w6 d r F' G4 (S4.dumpDo a0 a1 z2) S4 → Since w.heap.size w w6 (F' ++ G4) → Calls Try.prog 15 #[.pointer (some ⟨r, 0, none⟩), .int .i64 a0, .int .i64 a1, .slice a2 j cap2] w6 fun e w' => e = .returned (.tuple #[.int .i64 (S4.dumpP a0 a1 z2 : Nat), .int .i64 (S4.dumpN a0 a1 z2 : Nat), .int .i64 (S4.dumpErr a0 a1 z2)]) ∧ Inv w w' d r 8 ∧ ∃ F2 G2, Pair w' d r F2 G2 (S4.dumpDo a0 a1 z2) (S4.dumpDo a0 a1 z2) ∧ Since w.heap.size w w' (F2 ++ G2)) := fun w6 F' h hs => by
            refine (dump_ref d r F' G4 S4 _ a0 a1 f1 p1 f0 p0 a2 j cap2 z2 H40.out w6 (HA2.out.1.below hs.1) h).mono ?_
            rintro e w' ⟨rfl, G', h1, m1⟩
            exact ⟨rfl, ⟨F', G', _, h1, by rw [dump_len]; exact h5, hs.moves m1⟩, F', G', h1, hs.moves m1⟩
          have HLEN : Hid ((S4.dumpDo a0 a1 z2).cs.length = 8) := by show _ = _; rw [dump_len]; exact h5
          clear h4 h5 h6 J2 J hjn hjg hltj
          generalize S4.dumpDo a0 a1 z2 = S5 at *
          generalize S4.dumpErr a0 a1 z2 = er at *
          generalize S4.dumpP a0 a1 z2 = pp at *
          generalize S4.dumpN a0 a1 z2 = nn at *
          have hjj : j ≤ 40 := H40.out
          have cA : Hid (∀ (w7 : World) (F2 G2 : List Nat), Pair w7 d r F2 G2 S5 S5 → Since w.heap.size w w7 (F2 ++ G2) → Calls Try.prog 16 #[.pointer (some ⟨d, 0, none⟩), .pointer (some ⟨r, 0, none⟩)] w7 fun e w' => e = .returned (.bool true) ∧ ∃ S6, S6.cs.length = 8 ∧ Pair w' d r F2 G2 S6 S6 ∧ Since w.heap.size w w' (F2 ++ G2)) := fun w7 F2 G2 h hs => by
            refine (alike_at d r F2 G2 S5 w7 h).mono ?_
            rintro e w' ⟨rfl, h1, m1⟩
            exact ⟨rfl, _, by rw [readN_len]; exact HLEN.out, h1, hs.moves m1⟩
          go_wp2_with (first
            | (at_builtin; refine wpList_app_items rfl _ _ rfl rfl rfl rfl R4.out H40.out ?_; intro v' w5 ho hb; obtain ⟨a5, c5, rfl, cd⟩ := cD.out w5 v' hb ho; have CD := hide cd; clear cd ho hb)
            | (go_at_call 11; refine CD.out.mono ?_; rintro e w6 ⟨rfl, F', h1, s1⟩; have CE := hide (cE.out w6 F' h1 s1); clear h1 s1 CD)
            | (go_at_call 15; refine CE.out.mono ?_; rintro e w7 ⟨rfl, J7, F2, G2, h2, s2⟩; have CA := hide (cA.out w7 F2 G2 h2 s2); clear J7 h2 s2 CE)
            | (go_at_call 16; refine CA.out.mono ?_; rintro e w8 ⟨rfl, S6, l6, h3, s3⟩; have L6 := hide l6; have H8 := hide h3; have S8 := hide s3; clear l6 h3 s3 CA)
            | (go_at_call 12; refine (load15 d F2 S6 a0 a4 n1 w8 H8.out.dev).mono ?_; rintro e w9 ⟨v9, rfl, o9, k9, S9, lk9, d9⟩; have O9 := hide o9; have K9 := hide k9; have G9 := hide (H8.out.step1 d9 (Moves.of_keep k9)); have T9 := hide (S8.out.moves (Moves.of_keep k9).left); clear o9 k9 lk9 d9)
            | (go_at_call 17; refine (rload_at r G2 S6 a0 a4 f1 n1 f0 n0 w9 G9.out.ref (by rw [L6.out]; omega)).mono ?_; rintro e w10 ⟨v10, rfl, o10, k10⟩; obtain ⟨a9, c9, rfl, hc9, r9⟩ := own_raw rfl (loadIts_fits S6 a0 a4) (own_keepF O9.out (fun k hk => H8.out.ref.lt k hk) k10); obtain ⟨a10, c10, rfl, hc10, r10⟩ := own_raw rfl (loadIts_fits S6 a0 a4) o10; have CI := hide (items_same a9 a10 _ c9 c10 _ (by have := loadIts_len S6 a0 a4; have := L6.out; omega) w10 r9 r10); have T10 := hide (T9.out.moves (Moves.of_keep k10).right); clear o10 k10 r9 r10 hc9 hc10; generalize (S6.loadIts a0 a4).length = yn at *; generalize S6.loadErr a0 a4 = le at *)
            | (go_at_call 18; refine CI.out.mono ?_; rintro e w11 ⟨rfl, b11⟩; have T11 := hide (T10.out.below b11); clear b11 CI))
          go_ret
          exact ⟨rfl, T11.out.1⟩
end Go.Proofs.Ytanbbmlekebhhaa.imagePlays
