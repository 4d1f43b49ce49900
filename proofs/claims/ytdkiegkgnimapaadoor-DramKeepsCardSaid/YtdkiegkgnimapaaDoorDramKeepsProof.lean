/-
  DramKeeps at its seat: a tied card.
-/
import Derived.Test.YtdkiegkgnimapaaDoorCards
import Derived.Test.YtdkiegkgnimapaaDoorTie
import Derived.WalkKit
import Derived.ProofKit
import Derived.OpenShut
import Derived.ShutString
import Derived.ChangeOld
import Derived.Deep.DeepHandedRow
import Derived.Lib.LaidTab
import Derived.Stop.LaidErr
import Derived.LaidMore
import Derived.Test.YtdkiegkgnimapaaDoorKp
namespace Go.Proofs.YtdkiegkgnimapaaDoor.dramKeeps
open Go.ChangeShapes Go.WideShapes Go.ChangeAt Go.RowKit Go.Deep Go.Shelf Drm
open Tbl (txt)
open Slb (size_of)
set_option linter.unusedVariables false
set_option linter.unusedSimpArgs false


set_option maxHeartbeats 4000000 in
set_option maxRecDepth 8000 in
/-- The walk: the Go text returns true, and writes nothing that was there. -/
theorem walk (w : World) (a0 : Int) (w0 : (Lit.int .i64 a0).wf = true) (a1 : Option Addr) (len1 cap1 : Nat) (z1 : List It) (w1 : ItsAt w a1 len1 z1) (htab : Slb.Tab w) :
    Calls Tryd.prog 5 #[.int .i64 a0, .slice a1 len1 cap1] w fun e w' => e = .returned (.bool true) ∧ Below w.heap.size w w' := by
  have ca := hide (awake_any w htab)
  by_cases x0 : a0 < 1
  · clear w0 w1
    go_enter Tryd.func5, Tryd.ntmps5
    go_wp2_with fail
    refine ca.out.mono ?_
    rintro e W1 ⟨rfl, h1⟩
    have B1 := hide h1
    clear h1 ca
    go_wp2
    go_ret
    exact ⟨rfl, B1.out⟩
  by_cases x1 : 6 < a0
  · clear w0 w1
    go_enter Tryd.func5, Tryd.ntmps5
    go_wp2_with fail
    refine ca.out.mono ?_
    rintro e W1 ⟨rfl, h1⟩
    have B1 := hide h1
    clear h1 ca
    go_wp2
    go_ret
    exact ⟨rfl, B1.out⟩
  by_cases x2 : (60 : Int) < (len1 : Int)
  · clear w0 w1
    go_enter Tryd.func5, Tryd.ntmps5
    go_wp2_with fail
    refine ca.out.mono ?_
    rintro e W1 ⟨rfl, h1⟩
    have B1 := hide h1
    clear h1 ca
    go_wp2
    go_ret
    exact ⟨rfl, B1.out⟩
  obtain ⟨n, rfl⟩ : ∃ n : Nat, a0 = (n : Int) := ⟨a0.toNat, by omega⟩
  have HW := hide w1
  have HT := hide htab
  have HN : Hid (1 ≤ n ∧ n ≤ 6) := by show _ ∧ _; omega
  have hnP : n ≤ 6 := by omega
  have hlM : len1 ≤ 60 := by omega
  clear w0 w1 htab
  go_enter Tryd.func5, Tryd.ntmps5
  go_wp2_with fail
  refine ca.out.mono ?_
  rintro e W1 ⟨rfl, b1⟩
  have cN := hide (new_d b1 HT.out n HN.out.1 (by have := HN.out.2; omega))
  clear ca b1
  go_wp2_with fail
  refine cN.out.mono ?_
  rintro e W2 ⟨c, rfl, h2, -, -⟩
  have H2 := hide h2
  clear cN h2 x0 x1 x2
  go_wp2
  go_loopg [7, 8] len1 (fun kx s7 s8 wr => ∃ (i : Nat) (d : Dm) (na : Option Addr) (nm nc : Nat), s8 = .int .i64 i ∧ s7 = .slice na nm nc ∧ Hid (i ≤ len1 ∧ len1 - i ≤ kx ∧ DL w c d wr ∧ d.it.length ≤ i ∧ nm = d.it.length ∧ GR itK w.heap.size (.slice na nm nc) (nowOf d) wr))
  case atStart => exact ⟨0, _, none, 0, 0, rfl, rfl, Nat.zero_le _, Nat.le_refl _, H2.out, Nat.le_refl _, rfl, GR.nil _ _ _⟩
  case round =>
    clear H2
    obtain ⟨i, d, na, nm, nc, rfl, rfl, I⟩ := hrel
    by_cases hlt : i < len1
    · have hlt2 : (i : Int) < (len1 : Int) := by omega
      have hx := List.getElem?_eq_getElem (l := z1) (i := i) (by rw [← HW.out.len]; exact hlt)
      obtain ⟨x, hxe⟩ : ∃ x, x = z1[i]'(by rw [← HW.out.len]; exact hlt) := ⟨_, rfl⟩
      rw [← hxe] at hx
      have hraw := HW.out.fits x (List.mem_of_getElem? hx)
      obtain ⟨b, o, rfl, hb, h0⟩ := HW.out.cell i x hx
      obtain ⟨k, v, fl, ex, ve⟩ := x
      obtain ⟨kb, hkb⟩ : ∃ kb, kb = txt k := ⟨_, rfl⟩
      obtain ⟨vb, hvb⟩ : ∃ vb, vb = txt v := ⟨_, rfl⟩
      have HO : Hid (∀ W, Below w.heap.size w W → W.cell? ⟨b, o + i * 5, none⟩ = some (.string kb) ∧ W.cell? ⟨b, o + i * 5 + 1, none⟩ = some (.string vb) ∧ W.cell? ⟨b, o + i * 5 + 2, none⟩ = some (.int .u32 fl) ∧ W.cell? ⟨b, o + i * 5 + 3, none⟩ = some (.int .i64 ex) ∧ W.cell? ⟨b, o + i * 5 + 4, none⟩ = some (.int .u64 ve)) := fun W q => by
        obtain ⟨c0, c1, c2, c3, c4⟩ := h0.below q hb
        rw [hkb, hvb]
        exact ⟨c0, c1, c2, c3, c4⟩
      have HKB := hide hkb
      have HVB := hide hvb
      have HR := hide hraw
      have HIV := hide I.out.2.2.1.iv
      obtain ⟨q0, q1, q2, q3, q4⟩ := HO.out wr I.out.2.2.1.bel
      clear hx hxe hraw hb h0 hkb hvb
      cases hmb : mayBe k.length v.length ve.toNat with
      | false =>
        have cT := hide (put_bad I.out.2.2.1 kb vb fl ex ve.toNat false (by rw [HKB.out, HVB.out, txt_sz, txt_sz]; exact hmb))
        rw [show ((ve.toNat : Nat) : Int) = ve from Int.toNat_of_nonneg HR.out.2.2.2.2.1] at cT
        unfold iV at cT
        clear hmb
        go_wp2_with fail
        refine cT.out.mono ?_
        rintro e W5 ⟨rfl, h5, o5⟩
        have H5 : Hid (DL w c d W5 ∧ d.it.length ≤ i + 1 ∧ nm = d.it.length ∧ GR itK w.heap.size (.slice na nm nc) (nowOf d) W5) := ⟨h5, Nat.le_trans I.out.2.2.2.1 (Nat.le_succ _), I.out.2.2.2.2.1, I.out.2.2.2.2.2.offD o5 rfl⟩
        have HK := hide I.out.2.1
        clear cT h5 o5 q0 q1 q2 q3 q4 I
        go_wp2
        go_roundg (len1 - (i + 1))
        case measure => have := HK.out; omega
        case rel => exact ⟨i + 1, d, na, nm, nc, rfl, rfl, by omega, Nat.le_refl _, H5.out⟩
      | true =>
        have hok : It.ok ⟨k, v, fl, ex, ve⟩ := ok_of HR.out hmb
        have hk6 := (kls_ok hok).1
        have cT := hide (put_ok I.out.2.2.1 ⟨⟨k, v, fl, ex, ve⟩, false⟩ hok)
        obtain ⟨s1, s2⟩ := put_now HIV.out hk6 ⟨⟨k, v, fl, ex, ve⟩, false⟩
        obtain ⟨d2, hd2⟩ : ∃ d2, d2 = putD (kls ⟨k, v, fl, ex, ve⟩) ⟨⟨k, v, fl, ex, ve⟩, false⟩ d := ⟨_, rfl⟩
        obtain ⟨G, hG⟩ : ∃ G, G = putG (kls ⟨k, v, fl, ex, ve⟩) ⟨⟨k, v, fl, ex, ve⟩, false⟩ d := ⟨_, rfl⟩
        obtain ⟨L0, hL0⟩ : ∃ L, L = wo k (nowOf d) := ⟨_, rfl⟩
        simp only at s1 s2
        rw [← hL0, ← hG] at s1
        rw [← hL0, ← hG, ← hd2] at s2
        have HL0 := hide hL0
        have HS1 := hide s1
        have HS2 := hide s2
        have hLl : L0.length ≤ i := by
          rw [hL0]
          refine Nat.le_trans (wo_len _ _) ?_
          rw [now_len]
          exact I.out.2.2.2.1
        have HLl := hide hLl
        have hql : G.length ≤ 60 := by
          have := s1.len
          have := I.out.1
          omega
        have HD2 := hide hd2
        have HG := hide hG
        have HQL := hide hql
        unfold itV at cT
        simp only at cT
        rw [← HKB.out, ← HVB.out] at cT
        clear hmb hok hk6 hd2 hG hL0 s1 s2 hLl hql
        go_wp2_with fail
        refine cT.out.mono ?_
        rintro e W3 ⟨va, q, vc, rfl, hq, h3, g3, o3⟩
        simp only [← HD2.out] at h3
        simp only [← HG.out] at hq g3
        have gI := I.out.2.2.2.2.2.offD o3 rfl
        have cW := hide (without_any gI k (by rw [now_len]; have := I.out.1; have := I.out.2.2.2.1; omega))
        unfold WoP at cW
        rw [← HL0.out, ← HKB.out] at cW
        have HQ := hide hq
        have H3 := hide h3
        have G3 := hide g3
        have HWS : Hid (w.heap.size ≤ wr.heap.size ∧ w.heap.size ≤ W3.heap.size) := ⟨I.out.2.2.1.bel.size, h3.bel.size⟩
        have hq60 : q ≤ 60 := by have := HQL.out; omega
        have HK := hide I.out.2.1
        have HI1 := hide I.out.1
        clear q0 q1 q2 q3 q4
        obtain ⟨q0, q1, q2, q3, q4⟩ := HO.out W3 h3.bel
        clear cT h3 g3 o3 hq gI I
        go_wp2_with fail
        refine cW.out.mono ?_
        rintro e W4 ⟨wa, wc, rfl, g4, b4⟩
        have H4 : Hid (DL w c d2 W4 ∧ GR itK w.heap.size (.slice wa L0.length wc) L0 W4 ∧ GR ouK wr.heap.size (.slice va q vc) G W4) := ⟨H3.out.on b4, g4.base HWS.out.2, G3.out.below b4⟩
        obtain ⟨wo', hwo'⟩ : ∃ wo', wo' = wr := ⟨_, rfl⟩
        subst hwo'
        obtain ⟨lm, hlm⟩ : ∃ lm, lm = L0.length := ⟨_, rfl⟩
        rw [← hlm] at H4 ⊢
        have HLM := hide hlm
        clear cW g4 b4 H3 G3 q0 q1 q2 q3 q4 hlm
        go_wp2
        go_loopg [7, 11] q (fun kx s7 s11 wr => ∃ (j : Nat) (na : Option Addr) (nm nc : Nat), s11 = .int .i64 (j : Int) ∧ s7 = .slice na nm nc ∧ Hid (j ≤ q ∧ q - j ≤ kx ∧ DL w c d2 wr ∧ nm = (goL L0 (G.take j)).length ∧ GR itK w.heap.size (.slice na nm nc) (goL L0 (G.take j)) wr ∧ GR ouK wo'.heap.size (.slice va q vc) G wr))
        case atStart => exact ⟨0, wa, lm, wc, rfl, rfl, Nat.zero_le _, Nat.le_refl _, H4.out.1, HLM.out, H4.out.2.1, H4.out.2.2⟩
        case round =>
          clear H4
          obtain ⟨j, ya, ym, yc, rfl, rfl, J⟩ := hrel
          obtain ⟨j1, j2, j3, j4, j5, j6⟩ := J.out
          by_cases hjl : j < q
          · have hjl2 : (j : Int) < (q : Int) := by omega
            have hy := List.getElem?_eq_getElem (l := G) (i := j) (by rw [← HQ.out]; exact hjl)
            obtain ⟨y, hye⟩ : ∃ y, y = G[j]'(by rw [← HQ.out]; exact hjl) := ⟨_, rfl⟩
            rw [← hye] at hy
            obtain ⟨gg, rfl, r0, -, -, -, -, -⟩ := gr_at j6 hy
            rw [Nat.add_zero] at r0
            have hst := HS1.out.at hy
            have hgl := goL_len (G.take j) L0
            have cW := hide (without_any j5 y.x.k (by have := HLl.out; have := HI1.out; omega))
            unfold WoP at cW
            rw [← goL_take hy] at cW hst
            obtain ⟨yl, hyl⟩ : ∃ yl, yl = (goL L0 (G.take (j + 1))).length := ⟨_, rfl⟩
            rw [← hyl] at cW hst
            obtain rfl : ym = yl + 1 := by omega
            have hyl60 : yl ≤ 60 := by have := HLl.out; have := HI1.out; omega
            have HYL := hide hyl
            have HWZ := hide j3.bel.size
            have hsub : ((yl + 1 : Nat) : Int) - 1 = (yl : Int) := by omega
            clear hy hye hst hgl hyl j1 j2 j3 j4 j5 j6
            generalize txt y.x.k = ty at *
            go_wp2_with fail
            refine cW.out.mono ?_
            rintro e W6 ⟨ua, uc, rfl, g6, b6⟩
            have HS : Hid (DL w c d2 W6 ∧ yl = (goL L0 (G.take (j + 1))).length ∧ GR itK w.heap.size (.slice ua yl uc) (goL L0 (G.take (j + 1))) W6 ∧ GR ouK wo'.heap.size (.slice (some ⟨gg, 0, none⟩) q vc) G W6) := ⟨J.out.2.2.1.on b6, HYL.out, g6.base HWZ.out, J.out.2.2.2.2.2.below b6⟩
            have HKJ := hide J.out.2.1
            clear cW g6 b6 J r0
            go_wp2
            go_roundg (q - (j + 1))
            case measure => have := HKJ.out; omega
            case rel => exact ⟨j + 1, ua, yl, uc, rfl, rfl, by omega, Nat.le_refl _, HS.out⟩
          · have hjl2 : ¬ (j : Int) < (q : Int) := by omega
            rw [show j = G.length by rw [← HQ.out]; omega, List.take_length] at j4 j5
            obtain ⟨q0, q1, q2, q3, q4⟩ := HO.out wr j3.bel
            have hgl := goL_len G L0
            obtain ⟨va2, vc2, W7, hrun, hS, hK, hO⟩ := snoc_g j5 j3.bel.size (⟨k, v, fl, ex, ve⟩ : It) (by have := HLl.out; have := HI1.out; omega)
            rw [← j4] at hrun hS hO
            have HS : Hid (DL w c d2 W7 ∧ d2.it.length ≤ i + 1 ∧ ym + 1 = d2.it.length ∧ GR itK w.heap.size (.slice va2 (ym + 1) vc2) (nowOf d2) W7) := by
              have e1 : ym + 1 = d2.it.length := by rw [← now_len, HS2.out, List.length_append, ← j4]; rfl
              refine ⟨j3.row j5 rfl (Nat.le_refl _) hK, ?_, e1, by rw [HS2.out]; exact hS⟩
              have := HLl.out
              omega
            have HRN : Hid (∀ ty, (Builtin.append_ #[47, 47] ty #[.slice ya ym yc, .slice (some ⟨wr.heap.size, 0, none⟩) 1 1]).run Tryd.prog (wr.alloc (.cells #[.string kb, .string vb, .int .u32 fl, .int .i64 ex, .int .u64 ve] 33)) = .ok (.slice va2 (ym + 1) vc2) W7) := by
              intro ty
              have := hrun ty
              rw [HKB.out, HVB.out]
              exact this
            clear j1 j2 j3 j4 j5 j6 hgl hrun hS hK hO J
            go_wp2_with (at_builtin; refine Lib.wpList_append_run _ rfl _ _ _ _ rfl _ _ rfl rfl _ _ (HRN.out _) ?_)
            go_roundg (len1 - (i + 1))
            case measure => have := HK.out; omega
            case rel => exact ⟨i + 1, d2, va2, ym + 1, vc2, rfl, rfl, by omega, Nat.le_refl _, HS.out⟩
    · have hlt2 : ¬ (i : Int) < (len1 : Int) := by omega
      obtain ⟨i1, -, i3, i4, i5, i6⟩ := I.out
      have hnm : nm ≤ 60 := by omega
      have HNM := hide i5
      have HD := hide (And.intro i3 i6)
      clear i1 i3 i4 i5 i6 I
      go_wp2
      go_loopg [13] nm (fun kx s13 wr => ∃ (j : Nat), s13 = .int .i64 (j : Int) ∧ Hid (j ≤ nm ∧ nm - j ≤ kx ∧ DL w c d wr ∧ GR itK w.heap.size (.slice na nm nc) (nowOf d) wr))
      case atStart => exact ⟨0, rfl, Nat.zero_le _, Nat.le_refl _, HD.out⟩
      case round =>
        obtain ⟨j, rfl, J⟩ := hrel
        obtain ⟨j1, j2, j3, j4⟩ := J.out
        by_cases hjl : j < nm
        · have hjl2 : (j : Int) < (nm : Int) := by omega
          have hy := List.getElem?_eq_getElem (l := nowOf d) (i := j) (by rw [now_len, ← HNM.out]; exact hjl)
          obtain ⟨y, hye⟩ : ∃ y, y = (nowOf d)[j]'(by rw [now_len, ← HNM.out]; exact hjl) := ⟨_, rfl⟩
          rw [← hye] at hy
          obtain ⟨gg, rfl, r0, r1, r2, r3, r4⟩ := it_at j4 hy
          obtain ⟨jj, jc, f1, f2, fo⟩ := now_at j3.iv hy
          have cP := hide (peek_some j3 (by have := fo.2.1; omega) f1 f2)
          unfold ouV at cP
          simp only at cP
          obtain ⟨kb, hkb⟩ : ∃ kb, kb = txt y.k := ⟨_, rfl⟩
          obtain ⟨vb, hvb⟩ : ∃ vb, vb = txt y.v := ⟨_, rfl⟩
          obtain ⟨fl, hfl⟩ : ∃ z, z = y.fl := ⟨_, rfl⟩
          obtain ⟨ex, hex⟩ : ∃ z, z = y.ex := ⟨_, rfl⟩
          obtain ⟨ve, hve⟩ : ∃ z, z = y.ve := ⟨_, rfl⟩
          rw [← hkb, ← hvb, ← hfl, ← hex, ← hve] at cP
          rw [← hkb] at r0
          have HY := hide hy
          have HEQ := hide (And.intro hkb (And.intro hvb (And.intro hfl (And.intro hex hve))))
          have hnq := nq_q kb vb fl ex ve
          clear hy hye f1 f2 fo j1 j2 j3 j4 r1 r2 r3 r4 hkb hvb hfl hex hve
          go_wp2_with fail
          refine cP.out.mono ?_
          rintro e W6 ⟨rfl, h6, o6⟩
          obtain ⟨X6, hX6⟩ : ∃ X, X = W6.alloc (.cells #[.string kb, .string vb, .int .u32 fl, .int .i64 ex, .int .u64 ve, .bool jc] 42) := ⟨_, rfl⟩
          have b6 : Below W6.heap.size W6 X6 := by rw [hX6]; exact (Below.refl _ W6).alloc (Nat.le_refl _) _
          have g6 := (J.out.2.2.2.offD o6 rfl).below b6
          have H6 := hide (h6.on b6)
          have G6 := hide g6
          have HKJ := hide J.out.2.1
          obtain ⟨gg', hgg, r0', r1, r2, r3, r4⟩ := it_at g6 HY.out
          obtain rfl : gg = gg' := by simpa using hgg
          obtain ⟨e1, e2, e3, e4, e5⟩ := HEQ.out
          rw [← e1] at r0'
          rw [← e2] at r1
          rw [← e3] at r2
          rw [← e4] at r3
          rw [← e5] at r4
          have HX6 := hide hX6
          have hlt6 := block_lt_of_cell r0'
          have k6 : Blk X6 W6.heap.size (L6 kb vb fl ex ve jc) 42 := by rw [hX6]; exact Blk.new W6 _ 42
          have HC1 : Hid (∀ W', AwC X6 W' → W'.cell? ⟨gg, j * 5, none⟩ = some (.string kb) ∧ W'.cell? ⟨gg, j * 5 + 1, none⟩ = some (.string vb) ∧ W'.cell? ⟨gg, j * 5 + 2, none⟩ = some (.int .u32 fl) ∧ W'.cell? ⟨gg, j * 5 + 3, none⟩ = some (.int .i64 ex) ∧ W'.cell? ⟨gg, j * 5 + 4, none⟩ = some (.int .u64 ve)) := fun W' b =>
            ⟨(Below.cell b (p := ⟨gg, j * 5, none⟩) hlt6).trans r0', (Below.cell b (p := ⟨gg, j * 5 + 1, none⟩) hlt6).trans r1, (Below.cell b (p := ⟨gg, j * 5 + 2, none⟩) hlt6).trans r2, (Below.cell b (p := ⟨gg, j * 5 + 3, none⟩) hlt6).trans r3, (Below.cell b (p := ⟨gg, j * 5 + 4, none⟩) hlt6).trans r4⟩
          obtain ⟨P6, hP6⟩ : ∃ P, P = W6.heap.size := ⟨_, rfl⟩
          rw [← hP6] at k6
          have HC2 : Hid (∀ W', AwC X6 W' → Blk W' P6 (L6 kb vb fl ex ve jc) 42) := fun W' b => k6.same (Below.block b _ k6.lt)
          have HA : Hid (AwC X6 { X6 with drawn := X6.drawn + 1 }) := (⟨rfl, rfl, rfl, Nat.le_refl _, fun _ _ => rfl⟩ : Below X6.heap.size X6 { X6 with drawn := X6.drawn + 1 })
          have HP6 := hide hP6
          have HD6 := hide (And.intro H6.out G6.out)
          clear cP h6 o6 b6 g6 hgg hX6 H6 G6 HEQ HY J e1 e2 e3 e4 e5 r0 r0' r1 r2 r3 r4 hlt6 k6 hP6
          go_wp2
          rw [← HX6.out, ← HP6.out]
          refine wp_region_guard (by kernel_rfl) (by kernel_rfl) (fun jx => ([.bool true, .bool false, .bool false, .pointer (some ⟨P6, 0, none⟩), .agg #[.string kb, .string vb, .int .u32 fl, .int .i64 ex, .int .u64 ve], .slice (some ⟨gg, 0, none⟩) nm nc, .int .i64 (j : Int), .pointer (some ⟨gg, j * 5, none⟩), .agg #[.string kb, .string vb, .int .u32 fl, .int .i64 ex, .int .u64 ve], .bool false, .bool false] : List Value).getD jx undef) (AwC X6) (size_of (n := 120) (by kernel_rfl) rfl) (HA.out) ?_ ?_
          · intro jx ox hi w' ev hc hin hout hcst hfn
            have hltx : jx < 11 := by
              have := (Array.getElem?_eq_some_iff.1 hi).1
              simpa using this
            match jx, hltx with
            | 0, _ =>
              simp only [List.getElem?_toArray, List.getElem?_cons_zero, List.getElem?_cons_succ, Option.some.injEq] at hi
              subst hi
              rw [if_pos (by first | rfl | simp [wantV])]
              have e0 : ev (.tmp 15) = .bool true := hout 15 (by kernel_rfl) (show (15 : Nat) < 120 by decide)
              refine .inl ⟨w', ?_, hc⟩
              show _ = Result.ok (Next.value (.bool true)) w'
              simp [execOp, e0, hcst, go_sem]
            | 1, _ =>
              simp only [List.getElem?_toArray, List.getElem?_cons_zero, List.getElem?_cons_succ, Option.some.injEq] at hi
              subst hi
              rw [if_pos (by first | rfl | simp [wantV])]
              have e0 : ev (.tmp 104) = .bool true := hin 104 0 ⟨0, .data⟩ (by kernel_rfl) (by simp) rfl rfl (show (104 : Nat) < 120 by decide)
              refine .inl ⟨w', ?_, hc⟩
              show _ = Result.ok (Next.value (.bool false)) w'
              simp [execOp, e0, hcst, go_sem]
            | 2, _ =>
              simp only [List.getElem?_toArray, List.getElem?_cons_zero, List.getElem?_cons_succ, Option.some.injEq] at hi
              subst hi
              rw [if_pos (by first | rfl | simp [wantV])]
              have e0 : ev (.tmp 105) = .bool false := hin 105 1 ⟨1, .data⟩ (by kernel_rfl) (by simp) rfl rfl (show (105 : Nat) < 120 by decide)
              refine .inl ⟨w', ?_, hc⟩
              show _ = Result.ok (Next.value (.bool false)) w'
              simp [execOp, e0, hcst, go_sem]
            | 3, _ =>
              simp only [List.getElem?_toArray, List.getElem?_cons_zero, List.getElem?_cons_succ, Option.some.injEq] at hi
              subst hi
              rw [if_pos (by first | rfl | simp [wantV])]
              have e0 : ev (.tmp 14) = .pointer (some ⟨P6, 0, none⟩) := hout 14 (by kernel_rfl) (show (14 : Nat) < 120 by decide)
              refine .inl ⟨w', ?_, hc⟩
              show _ = Result.ok (Next.value (.pointer (some ⟨P6, 0, none⟩))) w'
              simp [execOp, e0, hcst, go_sem]
            | 4, _ =>
              simp only [List.getElem?_toArray, List.getElem?_cons_zero, List.getElem?_cons_succ, Option.some.injEq] at hi
              subst hi
              rw [if_pos (by first | rfl | simp [wantV])]
              have e0 : ev (.tmp 107) = .pointer (some ⟨P6, 0, none⟩) := hin 107 3 ⟨3, .data⟩ (by kernel_rfl) (by simp) rfl rfl (show (107 : Nat) < 120 by decide)
              refine .inl ⟨w', ?_, hc⟩
              show _ = Result.ok (Next.value (.agg #[.string kb, .string vb, .int .u32 fl, .int .i64 ex, .int .u64 ve])) w'
              obtain ⟨q0, q1, q2, q3, q4, -⟩ := cells6 (HC2.out w' hc)
              simp [execOp, e0, hcst, go_sem, q0, q1, q2, q3, q4]
            | 5, _ =>
              simp only [List.getElem?_toArray, List.getElem?_cons_zero, List.getElem?_cons_succ, Option.some.injEq] at hi
              subst hi
              rw [if_pos (by first | rfl | simp [wantV])]
              have e0 : ev (.tmp 7) = .slice (some ⟨gg, 0, none⟩) nm nc := hout 7 (by kernel_rfl) (show (7 : Nat) < 120 by decide)
              refine .inl ⟨w', ?_, hc⟩
              show _ = Result.ok (Next.value (.slice (some ⟨gg, 0, none⟩) nm nc)) w'
              simp [execOp, e0, hcst, go_sem]
            | 6, _ =>
              simp only [List.getElem?_toArray, List.getElem?_cons_zero, List.getElem?_cons_succ, Option.some.injEq] at hi
              subst hi
              rw [if_pos (by first | rfl | simp [wantV])]
              have e0 : ev (.tmp 13) = .int .i64 (j : Int) := hout 13 (by kernel_rfl) (show (13 : Nat) < 120 by decide)
              refine .inl ⟨w', ?_, hc⟩
              show _ = Result.ok (Next.value (.int .i64 (j : Int))) w'
              simp [execOp, e0, hcst, go_sem]
            | 7, _ =>
              simp only [List.getElem?_toArray, List.getElem?_cons_zero, List.getElem?_cons_succ, Option.some.injEq] at hi
              subst hi
              rw [if_pos (by first | rfl | simp [wantV])]
              have e0 : ev (.tmp 109) = .slice (some ⟨gg, 0, none⟩) nm nc := hin 109 5 ⟨5, .data⟩ (by kernel_rfl) (by simp) rfl rfl (show (109 : Nat) < 120 by decide)
              have e1 : ev (.tmp 110) = .int .i64 (j : Int) := hin 110 6 ⟨6, .data⟩ (by kernel_rfl) (by simp) rfl rfl (show (110 : Nat) < 120 by decide)
              refine .inl ⟨w', ?_, hc⟩
              show _ = Result.ok (Next.value (.pointer (some ⟨gg, j * 5, none⟩))) w'
              simp [execOp, e0, e1, hcst, go_sem, hjl, hjl2]
            | 8, _ =>
              simp only [List.getElem?_toArray, List.getElem?_cons_zero, List.getElem?_cons_succ, Option.some.injEq] at hi
              subst hi
              rw [if_pos (by first | rfl | simp [wantV])]
              have e0 : ev (.tmp 111) = .pointer (some ⟨gg, j * 5, none⟩) := hin 111 7 ⟨7, .data⟩ (by kernel_rfl) (by simp) rfl rfl (show (111 : Nat) < 120 by decide)
              refine .inl ⟨w', ?_, hc⟩
              show _ = Result.ok (Next.value (.agg #[.string kb, .string vb, .int .u32 fl, .int .i64 ex, .int .u64 ve])) w'
              obtain ⟨q0, q1, q2, q3, q4⟩ := HC1.out w' hc
              simp [execOp, e0, hcst, go_sem, q0, q1, q2, q3, q4]
            | 9, _ =>
              simp only [List.getElem?_toArray, List.getElem?_cons_zero, List.getElem?_cons_succ, Option.some.injEq] at hi
              subst hi
              rw [if_pos (by first | rfl | simp [wantV])]
              have e0 : ev (.tmp 108) = .agg #[.string kb, .string vb, .int .u32 fl, .int .i64 ex, .int .u64 ve] := hin 108 4 ⟨4, .data⟩ (by kernel_rfl) (by simp) rfl rfl (show (108 : Nat) < 120 by decide)
              have e1 : ev (.tmp 112) = .agg #[.string kb, .string vb, .int .u32 fl, .int .i64 ex, .int .u64 ve] := hin 112 8 ⟨8, .data⟩ (by kernel_rfl) (by simp) rfl rfl (show (112 : Nat) < 120 by decide)
              refine .inl ⟨w', ?_, hc⟩
              show _ = Result.ok (Next.value (.bool false)) w'
              have q := hnq w'
              simp [execOp, e0, e1, hcst, eqGuard, q, Result.andThen, pure, Sem.run]
            | 10, _ =>
              simp only [List.getElem?_toArray, List.getElem?_cons_zero, List.getElem?_cons_succ, Option.some.injEq] at hi
              subst hi
              rw [if_pos (by first | rfl | simp [wantV])]
              have e0 : ev (.tmp 106) = .bool false := hin 106 2 ⟨2, .data⟩ (by kernel_rfl) (by simp) rfl rfl (show (106 : Nat) < 120 by decide)
              have e1 : ev (.tmp 113) = .bool false := hin 113 9 ⟨9, .data⟩ (by kernel_rfl) (by simp) rfl rfl (show (113 : Nat) < 120 by decide)
              refine .inl ⟨w', ?_, hc⟩
              show _ = Result.ok (Next.value (.bool false)) w'
              simp [execOp, e0, e1, hcst, go_sem]
          · intro w7 hc
            simp only [lexF, Act.put, List.setIfInBounds_toArray, List.set_cons_succ, List.set_cons_zero, List.getD_cons_succ, List.getD_cons_zero]
            have HE7 : Hid (DL w c d w7 ∧ GR itK w.heap.size (.slice (some ⟨gg, 0, none⟩) nm nc) (nowOf d) w7) := ⟨HD6.out.1.on hc, HD6.out.2.below hc⟩
            clear hc HA HC1 HC2 HX6 HP6 HD6
            go_wp2
            go_roundg (nm - (j + 1))
            case measure => have := HKJ.out; omega
            case rel => exact ⟨j + 1, rfl, by omega, Nat.le_refl _, HE7.out⟩
        · have hjl2 : ¬ (j : Int) < (nm : Int) := by omega
          have cL := hide (len_d j3)
          rw [← HNM.out] at cL
          have HE := hide j3.bel
          clear j1 j2 j3 j4 J
          go_wp2_with fail
          refine cL.out.mono ?_
          rintro e wx ⟨rfl, hx⟩
          obtain rfl : wr = wx := hx.symm
          clear hx cL
          go_wp2
          go_ret
          exact ⟨rfl, HE.out⟩

theorem laidOut : laidOutB Tryd.prog = true := by kernel_rfl
theorem own : ownKnob Tryd.prog.godebug = none := by kernel_rfl
/-- What the row lists: the table of trailing zeros. -/
theorem table {W : World} (h : laidMetH Tryd.prog Rows.dramKeepsRow.laid W) : Slb.Tab W :=
  Slb.Tab.of (Lib.tabIs_of_head (rest := []) (g := 0) (t := 147) (e := 5) (n := 64) (by kernel_rfl) (by kernel_rfl) (by kernel_rfl) (by kernel_rfl) (by kernel_rfl) (by kernel_rfl) (show laidMet Tryd.prog Rows.dramKeepsRow.laid W from h))
set_option maxRecDepth 100000 in
/-- What the walk gives, for every argument and every world that holds the table. -/
theorem contract (H : Type) (enc : TypeId × Value → H) (W : World) (base : Nat) (args : Array Value) (ds gs : List (DataW H)) (before : List MemPlace)
    (hval : ∀ (j : Nat) t v, Tryd.f5.params[j]? = some t → args[j]? = some v → Value.okWide Tryd.prog W .any base t v)
    (hW : DataW.Whole enc Tryd.prog Tryd.f5.params.toList Rows.dramKeepsSpec.vars false W args.toList ds gs before) (hsz : (DataW.weightsEach Tryd.prog (Tryd.f5.params.toList ++ (OpenSpec.ofChange Rows.dramKeepsSpec).bare.plain.varTypes Tryd.prog) (ds ++ gs)).all (· ≤ reachBytes) = true) (hL : laidMetH Tryd.prog Rows.dramKeepsRow.laid W) :
    Calls Tryd.prog 5 args W fun e W' => ∃ v, e = .returned v ∧ Rows.dramKeepsSpec.post enc Tryd.prog Tryd.f5 false true false false W args v W' := by
  have hW' := hW
  obtain ⟨p, q, hA0, hV, rfl, hfz, hnd⟩ := hW
  have hA : DataW.TrodAll enc Tryd.prog W 0 (fun _ => true) true Tryd.f5.params.toList args.toList ds p := hA0
  rw [Tryd.params5] at hA hval hsz
  obtain ⟨v0, vs0, d0, ds0, p0, q0, hargs, rfl, rfl, h0, r0⟩ := trodAll_cons hA
  obtain ⟨v1, vs1, d1, ds1, p1, q1, rfl, rfl, rfl, h1, r1⟩ := trodAll_cons r0
  obtain ⟨rfl, rfl, rfl⟩ := trodAll_nil r1
  obtain rfl : args = #[v0, v1] := by cases args; simp_all
  obtain ⟨rfl, rfl⟩ := trodVars_none hV
  obtain ⟨a0, rfl, rfl, rfl, w0⟩ := open_int Tryd.underlying3 (hval 0 3 v0 rfl rfl) h0
  obtain ⟨a1, len1, cap1, rfl⟩ := okWide_slice Tryd.underlying47 (hval 1 47 v1 rfl rfl)
  have k1 := h1
  have lt1 : ∀ x ∈ p1, x.block < W.heap.size := by obtain ⟨m, hm⟩ := k1; exact DataW.trod_lt m _ _ _ hm
  obtain ⟨z1, w1⟩ : ∃ xs, ItsAt W a1 len1 xs := by
    obtain ⟨fuel, hf⟩ := h1
    exact its_open hf (fun n hn => by
      have := List.all_eq_true.1 hsz n (DataW.weights_mem_each (j := 1) (t := 47) rfl rfl n hn)
      simpa using this)
  clear hA0
  try simp only [List.append_nil] at hW'
  refine (walk W a0 w0 a1 len1 cap1 z1 w1 (table hL)).mono fun e W' ⟨he, bel⟩ => ?_
  subst he
  exact ⟨_, rfl, _, _, _, [], _, [], hW', trodAll_mk1 (shut_bool Tryd.underlying4 _), (trodAll_cons_mk (shut_int Tryd.underlying3 w0) (trodAll_cons_mk (Below.trod laidOut (by kernel_rfl) (of_decide_eq_true (by kernel_rfl)) k1 bel lt1) trodAll_mk0)), rfl, bel.frame _, fun h => by cases h⟩

/-- The witness: what the initialisers leave is met. -/
theorem laid_met (os : Os) : laidMet Tryd.prog Rows.dramKeepsRow.laid ((World.doorLaid Tryd.prog 14 os).forCall (fun _ _ => 0) ⟨#[], #[.int .i64 0, .slice none 0 0], []⟩).memory :=
  laidMet_of_run' 8 (by kernel_rfl) (by kernel_rfl)
theorem reads (os : Os) {H : Type} (enc : TypeId × Value → H) : ∃ xs places, DataW.whole enc Tryd.prog ((World.doorLaid Tryd.prog 14 os).forCall (fun _ _ => 0) ⟨#[], #[.int .i64 0, .slice none 0 0], []⟩).memory Tryd.f5.params.toList Rows.dramKeepsSpec.vars false (#[.int .i64 0, .slice none 0 0] : Array Value).toList 8 = some (xs, [], places) :=
  by
  have h : (DataW.whole enc Tryd.prog ((World.doorLaid Tryd.prog 14 os).forCall (fun _ _ => 0) ⟨#[], #[.int .i64 0, .slice none 0 0], []⟩).memory Tryd.f5.params.toList Rows.dramKeepsSpec.vars false (#[.int .i64 0, .slice none 0 0] : Array Value).toList 8).map (fun r => r.2.1.isEmpty) = some true := by kernel_rfl
  obtain ⟨⟨xs, gs, pl⟩, h1, h2⟩ := Option.map_eq_some_iff.1 h
  have h3 : gs = [] := List.isEmpty_iff.1 h2
  subst h3
  exact ⟨xs, pl, h1⟩

set_option maxRecDepth 100000 in
theorem lifted (os : Os) (started : os.Started) (H : Type) (enc : TypeId × Value → H) (F : Stop.Interp) :
    ReturnsInHanded {} Tryd.checked os 5 .any ((OpenSpec.ofChange Rows.dramKeepsSpec).preRow enc Tryd.prog Tryd.f5 Rows.dramKeepsRow.domain false Rows.dramKeepsRow.laid) (((OpenSpec.ofChange Rows.dramKeepsSpec).at F).post enc Tryd.prog Tryd.f5 false true false false) := by
  obtain ⟨xs, places, hx⟩ := reads os enc
  refine returnsInHanded_of_row (C := Tryd.checked) (s := OpenSpec.ofChange Rows.dramKeepsSpec) own started (by kernel_rfl) Tryd.func5
    (witness_row_at (enc := enc) (C := Tryd.checked) false (World.doorLaid Tryd.prog 14 os) #[.int .i64 0, .slice none 0 0] rfl (by kernel_rfl) (by kernel_rfl) (by kernel_rfl)
      (OpenSpec.preRow_of_cond 8 hx (by kernel_rfl) (fun k hk => by cases hk) (by kernel_rfl) (laid_met os))) ?_
  intro W base args ds gs before hval hW _ _ hsz hL _ _
  exact contract H enc W base args ds gs before hval hW hsz hL

theorem said : Rows.DramKeepsSaid :=
  OpenClaim.holds_of_cond 5 Tryd.f5 rfl rfl rfl rfl rfl rfl rfl ⟨rfl, rfl, rfl, rfl, rfl⟩ rfl rfl rfl rfl rfl (by kernel_rfl) Tryd.func5 (by kernel_rfl)
    (of_decide_eq_true (by kernel_rfl)) (by unfold Func.isWrapper; first | (rw [if_pos (by decide +kernel)]; kernel_rfl) | (rw [if_neg (by decide +kernel)]; exact ⟨rfl, rfl⟩))
    (fun os started H enc _ F => by rw [OpenClaim.pre_eq_preRow]; exact lifted os started H enc F)

theorem plain (f : FuncId) (fn : Func) (hf : Tryd.pinned.checked.prog.funcNamed Rows.dramKeepsRow.func = some f) (hfn : Tryd.pinned.checked.prog.funcs[f]? = some fn) :
    false = Tryd.pinned.checked.prog.looks [] ∧ ∀ (j : Nat) t, fn.params[j]? = some t → Tryd.pinned.checked.prog.wantsStandIn t = false := by
  obtain rfl : f = 5 := Option.some.inj ((show Tryd.prog.funcNamed Rows.dramKeepsRow.func = some 5 by kernel_rfl).symm.trans hf) |>.symm
  obtain rfl : fn = Tryd.f5 := (Option.some.inj (Tryd.func5.symm.trans hfn)).symm
  refine ⟨by kernel_rfl, fun j t ht => ?_⟩
  rw [Tryd.params5] at ht
  have hm : t ∈ [3, 47] := by simpa using Array.mem_of_getElem? ht
  have hall : ([3, 47].all fun u => !Tryd.prog.wantsStandIn u) = true := by kernel_rfl
  exact (show Tryd.prog.wantsStandIn t = false by simpa using List.all_eq_true.1 hall t hm)

theorem card : Rows.DramKeepsCardSaid :=
  Claim7.holds_tied_plain_at .later [] _ _ _ _ said (fun _ h => by cases h) (by kernel_rfl) (fun _ h => by cases h) dramKeeps_row_tie rfl ⟨rfl, rfl⟩ (by kernel_rfl) rfl plain (by kernel_rfl)
end Go.Proofs.YtdkiegkgnimapaaDoor.dramKeeps
namespace Go.Proofs.YtdkiegkgnimapaaDoor
theorem dramKeeps_holds : Rows.DramKeepsCardSaid := dramKeeps.card
#print axioms dramKeeps_holds
end Go.Proofs.YtdkiegkgnimapaaDoor
