/-
  DramRoom at its seat: a tied card.
-/
import Derived.Test.YtdkiegkgnimapaaDoorCards
import Derived.Test.YtdkiegkgnimapaaDoorTie
import Derived.WalkKit
import Derived.ProofKit
import Derived.OpenShut
import Derived.ShutString
import Derived.ChangeOld
import Derived.Deep.DeepHandedRow
import Derived.Lib.LaidTab
import Derived.Stop.LaidErr
import Derived.LaidMore
import Derived.Test.YtdkiegkgnimapaaDoorLw
namespace Go.Proofs.YtdkiegkgnimapaaDoor.dramRoom
open Go.ChangeShapes Go.WideShapes Go.ChangeAt Go.RowKit Go.Deep Go.Shelf Drm
open Tbl (txt)
open Slb (size_of)
set_option linter.unusedVariables false
set_option linter.unusedSimpArgs false


set_option maxHeartbeats 4000000 in
set_option maxRecDepth 8000 in
/-- The walk: the Go text returns true, and writes nothing that was there. -/
theorem walk (w : World) (a0 : Int) (w0 : (Lit.int .i64 a0).wf = true) (a1 : Option Addr) (len1 cap1 : Nat) (z1 : List ActI) (w1 : ActsAt w a1 len1 z1) (htab : Slb.Tab w) :
    Calls Tryd.prog 4 #[.int .i64 a0, .slice a1 len1 cap1] w fun e w' => e = .returned (.bool true) ∧ Below w.heap.size w w' := by
  have ca := hide (awake_any w htab)
  have hlI : (len1 : Int) = (len1 : Int) := rfl
  by_cases x0 : a0 < 1
  · clear w0 w1
    go_enter Tryd.func4, Tryd.ntmps4
    go_wp2_with fail
    refine ca.out.mono ?_
    rintro e W1 ⟨rfl, h1⟩
    have B1 := hide h1
    clear h1 ca
    go_wp2
    go_ret
    exact ⟨rfl, B1.out⟩
  by_cases x1 : 12 < a0
  · clear w0 w1
    go_enter Tryd.func4, Tryd.ntmps4
    go_wp2_with fail
    refine ca.out.mono ?_
    rintro e W1 ⟨rfl, h1⟩
    have B1 := hide h1
    clear h1 ca
    go_wp2
    go_ret
    exact ⟨rfl, B1.out⟩
  by_cases x2 : (80 : Int) < (len1 : Int)
  · clear w0 w1
    go_enter Tryd.func4, Tryd.ntmps4
    go_wp2_with fail
    refine ca.out.mono ?_
    rintro e W1 ⟨rfl, h1⟩
    have B1 := hide h1
    clear h1 ca
    go_wp2
    go_ret
    exact ⟨rfl, B1.out⟩
  obtain ⟨n, rfl⟩ : ∃ n : Nat, a0 = (n : Int) := ⟨a0.toNat, by omega⟩
  have HW := hide w1
  have HT := hide htab
  have HN : Hid (1 ≤ n ∧ n ≤ 12) := by show _ ∧ _; omega
  have hn12 : n ≤ 12 := by omega
  have hl80 : len1 ≤ 80 := by omega
  clear w0 w1 htab hlI
  go_enter Tryd.func4, Tryd.ntmps4
  go_wp2_with fail
  refine ca.out.mono ?_
  rintro e W1 ⟨rfl, b1⟩
  have cN := hide (new_d b1 HT.out n HN.out.1 (by have := HN.out.2; omega))
  clear ca b1
  go_wp2_with fail
  refine cN.out.mono ?_
  rintro e W2 ⟨c, rfl, h2, -, -⟩
  have H2 := hide h2
  clear cN h2 x0 x1 x2
  go_wp2
  go_loopg [7] len1 (fun kx s7 wr => ∃ (i : Nat) (d : Dm), s7 = .int .i64 i ∧ Hid (i ≤ len1 ∧ len1 - i ≤ kx ∧ DL w c d wr ∧ d.it.length ≤ n ∧ d.pg.length = n))
  case atStart => exact ⟨0, _, rfl, Nat.zero_le _, Nat.le_refl _, H2.out, Nat.zero_le _, by simp [new0]⟩
  case round =>
    clear H2
    obtain ⟨i, d, rfl, I⟩ := hrel
    by_cases hlt : i < len1
    · have hlt2 : (i : Int) < (len1 : Int) := by omega
      obtain ⟨b, o, ⟨op, ⟨k, v, fl, ex, ve⟩, cl, key, now⟩, rfl, hx, hf, ⟨q0, q1, q2, q3, q4, q5, q6, q7, q8⟩⟩ := HW.out.at I.out.2.2.1.bel i hlt
      simp only at q0 q1 q2 q3 q4 q5 q6 q7 q8
      have HF := hide hf
      have HIV := hide I.out.2.2.1.iv
      obtain ⟨kb, hkb⟩ : ∃ kb, kb = txt k := ⟨_, rfl⟩
      obtain ⟨vb, hvb⟩ : ∃ vb, vb = txt v := ⟨_, rfl⟩
      obtain ⟨yb, hyb⟩ : ∃ yb, yb = txt key := ⟨_, rfl⟩
      rw [← hkb] at q1
      rw [← hvb] at q2
      rw [← hyb] at q7
      have HKB := hide hkb
      have HVB := hide hvb
      have HYB := hide hyb
      obtain ⟨X0, hX0⟩ : ∃ X, X = wr.alloc (.cells #[.int .i64 op, .string kb, .string vb, .int .u32 fl, .int .i64 ex, .int .u64 ve, .bool cl, .string yb, .int .i64 now] 40) := ⟨_, rfl⟩
      have b0 : Below wr.heap.size wr X0 := by rw [hX0]; exact (Below.refl _ wr).alloc (Nat.le_refl _) _
      obtain ⟨B, hB⟩ : ∃ B, B = wr.heap.size := ⟨_, rfl⟩
      have k0 : Blk X0 B (L9 op kb vb fl ex ve cl yb now) 40 := by rw [hX0, hB]; exact Blk.new wr _ 40
      have H0 := hide (I.out.2.2.1.on b0)
      have K0 := hide k0
      have HX0 := hide hX0
      have HB := hide hB
      have HK : Hid (len1 - i ≤ _) := I.out.2.1
      have HL : Hid (d.it.length ≤ n ∧ d.pg.length = n) := I.out.2.2.2
      have hkl : k.length ≤ 281474976710656 := by have := hf.2.1.1; simp only at this; omega
      have hyl : key.length ≤ 281474976710656 := by have := hf.2.2.1; simp only at this; omega
      have HKL := hide hkl
      clear I hx hf hkb hvb hyb b0 k0 hB hkl
      by_cases hop : op = 2
      · subst hop
        have cD := hide (delete_d H0.out hyl)
        rw [hX0, ← HYB.out] at cD
        clear K0 H0 hX0 hyl
        go_wp2_with fail
        refine cD.out.mono ?_
        rintro e W3 ⟨rfl, h3, -⟩
        have H3 := hide h3
        clear cD h3 q0 q1 q2 q3 q4 q5 q6 q7 q8
        go_wp2
        go_roundg (len1 - (i + 1))
        case measure => have := HK.out; omega
        case rel => exact ⟨i + 1, _, rfl, by omega, Nat.le_refl _, H3.out, Nat.le_trans (HIV.out.del key).2.2.1.length_le HL.out.1, (HIV.out.del key).2.2.2.trans HL.out.2⟩
      · have hop' : (op == 2) = false := by simpa using hop
        have hnq := nq_q kb vb fl ex ve
        clear hop hyl
        cases hkf : kfd k d.it with
        | none =>
          have cP := hide (peek_none H0.out HKL.out hkf)
          unfold ouV zOu zIt at cP
          simp only [← HKB.out, txt_nil] at cP
          rw [hX0] at cP
          have y1 := (act_cells K0.out).2.1
          rw [hX0] at y1
          clear hX0
          go_wp2_with fail
          refine cP.out.mono ?_
          rintro e W4 ⟨rfl, h4, o4⟩
          rw [← HX0.out] at o4
          rw [← HB.out]
          obtain ⟨X4, hX4⟩ : ∃ X, X = W4.alloc (.cells #[.string ⟨#[]⟩, .string ⟨#[]⟩, .int .u32 0, .int .i64 0, .int .u64 0, .bool false] 42) := ⟨_, rfl⟩
          have b4 : Below W4.heap.size W4 X4 := by rw [hX4]; exact (Below.refl _ W4).alloc (Nat.le_refl _) _
          have H4 := hide (h4.on b4)
          have K4 := hide ((K0.out.offD o4 rfl).same (b4.block _ (K0.out.offD o4 rfl).lt))
          have HX4 := hide hX4
          clear cP h4 o4 b4 H0 K0 y1 q0 q1 q2 q3 q4 q5 q6 q7 q8
          have cL := hide (len_d H4.out)
          obtain ⟨m, hm⟩ : ∃ m, m = d.it.length := ⟨_, rfl⟩
          rw [← hm] at cL
          have hmn : m ≤ n := by have := HL.out.1; omega
          have HM := hide hm
          have HKF := hide hkf
          clear hm hkf
          rw [hX4] at cL
          by_cases hge : n ≤ m
          · have hge2 : (n : Int) ≤ (m : Int) := by omega
            clear hX4
            go_wp2_with fail
            refine cL.out.mono ?_
            rintro e wx ⟨rfl, hxx⟩
            subst hxx
            have HD : Hid (DL w c d (W4.alloc (.cells #[.string ⟨#[]⟩, .string ⟨#[]⟩, .int .u32 0, .int .i64 0, .int .u64 0, .bool false] 42))) := by rw [← HX4.out]; exact H4.out
            clear cL
            go_wp2
            go_roundg (len1 - (i + 1))
            case measure => have := HK.out; omega
            case rel => exact ⟨i + 1, d, rfl, by omega, Nat.le_refl _, HD.out, HL.out⟩
          · have hge2 : ¬ (n : Int) ≤ (m : Int) := by omega
            have cL2 := cL
            go_wp2_with fail
            refine cL.out.mono ?_
            rintro e wx ⟨rfl, hxx⟩
            subst hxx
            clear cL
            go_wp2_with fail
            refine cL2.out.mono ?_
            rintro e wx ⟨rfl, hxx⟩
            subst hxx
            clear cL2
            have hl4 : Hid ((delD k d).it.length < d.pg.length) := by
              show _ < _
              have h1 := del_len HIV.out k
              rw [HKF.out] at h1
              have h2 := HL.out.2
              have h3 := HM.out
              have h4 := HN.out.1
              simp at h1
              omega
            obtain ⟨z0, z1, z2, z3, z4, z5, z7⟩ := act_cells K4.out
            rw [hX4] at z0 z1 z2 z3 z4 z5 z7
            cases hmb : mayBe k.length v.length ve.toNat with
            | false =>
              have cT := hide (put_bad H4.out kb vb fl ex ve.toNat false (by rw [HKB.out, HVB.out, txt_sz, txt_sz]; exact hmb))
              rw [show ((ve.toNat : Nat) : Int) = ve from Int.toNat_of_nonneg HF.out.2.1.2.2.2.2.1] at cT
              unfold iV at cT
              rw [hX4] at cT
              clear hmb hX4 hl4
              go_wp2_with fail
              refine cT.out.mono ?_
              rintro e W5 ⟨rfl, h5, -⟩
              have H5 := hide h5
              clear cT h5 z0 z1 z2 z3 z4 z5 z7
              go_wp2
              go_roundg (len1 - (i + 1))
              case measure => have := HK.out; omega
              case rel => exact ⟨i + 1, d, rfl, by omega, Nat.le_refl _, H5.out, HL.out⟩
            | true =>
              have hok : It.ok ⟨k, v, fl, ex, ve⟩ := ok_of HF.out.2.1 hmb
              have hk6 := (kls_ok hok).1
              obtain ⟨j2, hj1, hj2⟩ := put_it HIV.out hk6 (o := ⟨⟨k, v, fl, ex, ve⟩, false⟩) hok
              obtain ⟨hg0, hg1⟩ := put_few HIV.out hk6 ⟨⟨k, v, fl, ex, ve⟩, false⟩ hl4.out
              have hpg := (HIV.out.put hk6 (o := ⟨⟨k, v, fl, ex, ve⟩, false⟩) hok).2
              have cT := hide (put_ok H4.out ⟨⟨k, v, fl, ex, ve⟩, false⟩ hok)
              obtain ⟨d2, hd2⟩ : ∃ d2, d2 = putD (kls ⟨k, v, fl, ex, ve⟩) ⟨⟨k, v, fl, ex, ve⟩, false⟩ d := ⟨_, rfl⟩
              rw [← hd2] at hj1 hj2 hg1 hpg
              have hlen : d2.it.length = m + 1 := by
                have h1 := del_len HIV.out k
                rw [HKF.out] at h1
                have h3 := HM.out
                simp at h1 hg1
                omega
              have HD2 := hide hd2
              have HJ1 := hide hj1
              have HJ2 := hide hj2
              have HG0 := hide hg0
              have HLN := hide hlen
              have HPG := hide hpg
              unfold itV at cT
              simp only at cT
              rw [← HKB.out, ← HVB.out, hX4] at cT
              clear hmb hX4 hok hk6 hj1 hj2 hg0 hg1 hpg hd2 hlen hl4
              go_wp2_with fail
              refine cT.out.mono ?_
              rintro e W5 ⟨va, nn, vc, rfl, hn, h5, -, o5⟩
              rw [← HX4.out] at o5
              rw [HG0.out] at hn
              obtain rfl : nn = 0 := hn
              simp only [← HD2.out] at h5
              have H5 := hide h5
              have K5 := hide (K4.out.offD o5 rfl)
              clear cT h5 o5 z0 z1 z2 z3 z4 z5 z7 H4 K4 HX4
              have cQ := hide (peek_some H5.out HKL.out HJ1.out HJ2.out)
              unfold ouV at cQ
              simp only at cQ
              rw [← HKB.out, ← HVB.out] at cQ
              have z1 := (act_cells K5.out).2.1
              go_wp2_with fail
              refine cQ.out.mono ?_
              rintro e W6 ⟨rfl, h6, o6⟩
              obtain ⟨X6, hX6⟩ : ∃ X, X = W6.alloc (.cells #[.string kb, .string vb, .int .u32 fl, .int .i64 ex, .int .u64 ve, .bool false] 42) := ⟨_, rfl⟩
              have b6 : Below W6.heap.size W6 X6 := by rw [hX6]; exact (Below.refl _ W6).alloc (Nat.le_refl _) _
              have H6 := hide (h6.on b6)
              have k6 := (K5.out.offD o6 rfl).same (b6.block _ (K5.out.offD o6 rfl).lt)
              have cM := hide (len_d H6.out)
              rw [HLN.out] at cM
              have HX6 := hide hX6
              rw [hX6] at k6 cM
              obtain ⟨z0, z1', z2, z3, z4, z5, z7⟩ := act_cells k6
              clear cQ h6 o6 b6 hX6 k6 z1 H5 K5
              go_wp2_with fail
              refine cM.out.mono ?_
              rintro e wx ⟨rfl, hxx⟩
              subst hxx
              have HD : Hid (DL w c d2 (W6.alloc (.cells #[.string kb, .string vb, .int .u32 fl, .int .i64 ex, .int .u64 ve, .bool false] 42))) := by rw [← HX6.out]; exact H6.out
              clear cM H6 HX6
              go_wp2
              go_roundg (len1 - (i + 1))
              case measure => have := HK.out; omega
              case rel => exact ⟨i + 1, d2, rfl, by omega, Nat.le_refl _, HD.out, by have := HLN.out; omega, HPG.out.trans HL.out.2⟩
        | some j =>
          obtain ⟨oo, -, -, hlo, -⟩ := HIV.out.key hkf
          have cP := hide (peek_some H0.out HKL.out hkf hlo)
          unfold ouV at cP
          obtain ⟨⟨k', v', f', e', n'⟩, c'⟩ := oo
          simp only at cP
          obtain ⟨kb', hkb'⟩ : ∃ kb, kb = txt k' := ⟨_, rfl⟩
          obtain ⟨vb', hvb'⟩ : ∃ vb, vb = txt v' := ⟨_, rfl⟩
          rw [← hkb', ← hvb'] at cP
          rw [← HKB.out] at cP
          clear hlo hkb' hvb'
          rw [hX0] at cP
          have y1 := (act_cells K0.out).2.1
          rw [hX0] at y1
          clear hX0
          go_wp2_with fail
          refine cP.out.mono ?_
          rintro e W4 ⟨rfl, h4, o4⟩
          rw [← HX0.out] at o4
          rw [← HB.out]
          obtain ⟨X4, hX4⟩ : ∃ X, X = W4.alloc (.cells #[.string kb', .string vb', .int .u32 f', .int .i64 e', .int .u64 n', .bool c'] 42) := ⟨_, rfl⟩
          have b4 : Below W4.heap.size W4 X4 := by rw [hX4]; exact (Below.refl _ W4).alloc (Nat.le_refl _) _
          have H4 := hide (h4.on b4)
          have K4 := hide ((K0.out.offD o4 rfl).same (b4.block _ (K0.out.offD o4 rfl).lt))
          have HX4 := hide hX4
          clear cP h4 o4 b4 H0 K0 y1 q0 q1 q2 q3 q4 q5 q6 q7 q8
          have cL := hide (len_d H4.out)
          obtain ⟨m, hm⟩ : ∃ m, m = d.it.length := ⟨_, rfl⟩
          rw [← hm] at cL
          have hmn : m ≤ n := by have := HL.out.1; omega
          have HM := hide hm
          have HKF := hide hkf
          clear hm hkf
          rw [hX4] at cL
          go_wp2_with fail
          refine cL.out.mono ?_
          rintro e wx ⟨rfl, hxx⟩
          subst hxx
          clear cL
          have hl4 : Hid ((delD k d).it.length < d.pg.length) := by
            show _ < _
            have h1 := del_len HIV.out k
            rw [HKF.out] at h1
            have h2 := HL.out.2
            have h3 := HM.out
            have h4 := HN.out.1
            simp at h1
            omega
          obtain ⟨z0, z1, z2, z3, z4, z5, z7⟩ := act_cells K4.out
          rw [hX4] at z0 z1 z2 z3 z4 z5 z7
          cases hmb : mayBe k.length v.length ve.toNat with
          | false =>
            have cT := hide (put_bad H4.out kb vb fl ex ve.toNat false (by rw [HKB.out, HVB.out, txt_sz, txt_sz]; exact hmb))
            rw [show ((ve.toNat : Nat) : Int) = ve from Int.toNat_of_nonneg HF.out.2.1.2.2.2.2.1] at cT
            unfold iV at cT
            rw [hX4] at cT
            clear hmb hX4 hl4
            go_wp2_with fail
            refine cT.out.mono ?_
            rintro e W5 ⟨rfl, h5, -⟩
            have H5 := hide h5
            clear cT h5 z0 z1 z2 z3 z4 z5 z7
            go_wp2
            go_roundg (len1 - (i + 1))
            case measure => have := HK.out; omega
            case rel => exact ⟨i + 1, d, rfl, by omega, Nat.le_refl _, H5.out, HL.out⟩
          | true =>
            have hok : It.ok ⟨k, v, fl, ex, ve⟩ := ok_of HF.out.2.1 hmb
            have hk6 := (kls_ok hok).1
            obtain ⟨j2, hj1, hj2⟩ := put_it HIV.out hk6 (o := ⟨⟨k, v, fl, ex, ve⟩, false⟩) hok
            obtain ⟨hg0, hg1⟩ := put_few HIV.out hk6 ⟨⟨k, v, fl, ex, ve⟩, false⟩ hl4.out
            have hpg := (HIV.out.put hk6 (o := ⟨⟨k, v, fl, ex, ve⟩, false⟩) hok).2
            have cT := hide (put_ok H4.out ⟨⟨k, v, fl, ex, ve⟩, false⟩ hok)
            obtain ⟨d2, hd2⟩ : ∃ d2, d2 = putD (kls ⟨k, v, fl, ex, ve⟩) ⟨⟨k, v, fl, ex, ve⟩, false⟩ d := ⟨_, rfl⟩
            rw [← hd2] at hj1 hj2 hg1 hpg
            have hlen : d2.it.length = m := by
              have h1 := del_len HIV.out k
              rw [HKF.out] at h1
              have h3 := HM.out
              simp at h1 hg1
              omega
            have HD2 := hide hd2
            have HJ1 := hide hj1
            have HJ2 := hide hj2
            have HG0 := hide hg0
            have HLN := hide hlen
            have HPG := hide hpg
            unfold itV at cT
            simp only at cT
            rw [← HKB.out, ← HVB.out, hX4] at cT
            clear hmb hX4 hok hk6 hj1 hj2 hg0 hg1 hpg hd2 hlen hl4
            go_wp2_with fail
            refine cT.out.mono ?_
            rintro e W5 ⟨va, nn, vc, rfl, hn, h5, -, o5⟩
            rw [← HX4.out] at o5
            rw [HG0.out] at hn
            obtain rfl : nn = 0 := hn
            simp only [← HD2.out] at h5
            have H5 := hide h5
            have K5 := hide (K4.out.offD o5 rfl)
            clear cT h5 o5 z0 z1 z2 z3 z4 z5 z7 H4 K4 HX4
            have cQ := hide (peek_some H5.out HKL.out HJ1.out HJ2.out)
            unfold ouV at cQ
            simp only at cQ
            rw [← HKB.out, ← HVB.out] at cQ
            have z1 := (act_cells K5.out).2.1
            go_wp2_with fail
            refine cQ.out.mono ?_
            rintro e W6 ⟨rfl, h6, o6⟩
            obtain ⟨X6, hX6⟩ : ∃ X, X = W6.alloc (.cells #[.string kb, .string vb, .int .u32 fl, .int .i64 ex, .int .u64 ve, .bool false] 42) := ⟨_, rfl⟩
            have b6 : Below W6.heap.size W6 X6 := by rw [hX6]; exact (Below.refl _ W6).alloc (Nat.le_refl _) _
            have H6 := hide (h6.on b6)
            have k6 := (K5.out.offD o6 rfl).same (b6.block _ (K5.out.offD o6 rfl).lt)
            have cM := hide (len_d H6.out)
            rw [HLN.out] at cM
            have HX6 := hide hX6
            rw [hX6] at k6 cM
            obtain ⟨z0, z1', z2, z3, z4, z5, z7⟩ := act_cells k6
            clear cQ h6 o6 b6 hX6 k6 z1 H5 K5
            go_wp2_with fail
            refine cM.out.mono ?_
            rintro e wx ⟨rfl, hxx⟩
            subst hxx
            have HD : Hid (DL w c d2 (W6.alloc (.cells #[.string kb, .string vb, .int .u32 fl, .int .i64 ex, .int .u64 ve, .bool false] 42))) := by rw [← HX6.out]; exact H6.out
            clear cM H6 HX6
            go_wp2
            go_roundg (len1 - (i + 1))
            case measure => have := HK.out; omega
            case rel => exact ⟨i + 1, d2, rfl, by omega, Nat.le_refl _, HD.out, by have := HLN.out; omega, HPG.out.trans HL.out.2⟩
    · have hlt2 : ¬ (i : Int) < (len1 : Int) := by omega
      have HE := hide I.out.2.2.1.bel
      clear I
      go_wp2
      go_ret
      exact ⟨rfl, HE.out⟩

theorem laidOut : laidOutB Tryd.prog = true := by kernel_rfl
theorem own : ownKnob Tryd.prog.godebug = none := by kernel_rfl
/-- What the row lists: the table of trailing zeros. -/
theorem table {W : World} (h : laidMetH Tryd.prog Rows.dramRoomRow.laid W) : Slb.Tab W :=
  Slb.Tab.of (Lib.tabIs_of_head (rest := []) (g := 0) (t := 147) (e := 5) (n := 64) (by kernel_rfl) (by kernel_rfl) (by kernel_rfl) (by kernel_rfl) (by kernel_rfl) (by kernel_rfl) (show laidMet Tryd.prog Rows.dramRoomRow.laid W from h))
set_option maxRecDepth 100000 in
/-- What the walk gives, for every argument and every world that holds the table. -/
theorem contract (H : Type) (enc : TypeId × Value → H) (W : World) (base : Nat) (args : Array Value) (ds gs : List (DataW H)) (before : List MemPlace)
    (hval : ∀ (j : Nat) t v, Tryd.f4.params[j]? = some t → args[j]? = some v → Value.okWide Tryd.prog W .any base t v)
    (hW : DataW.Whole enc Tryd.prog Tryd.f4.params.toList Rows.dramRoomSpec.vars false W args.toList ds gs before) (hsz : (DataW.weightsEach Tryd.prog (Tryd.f4.params.toList ++ (OpenSpec.ofChange Rows.dramRoomSpec).bare.plain.varTypes Tryd.prog) (ds ++ gs)).all (· ≤ reachBytes) = true) (hL : laidMetH Tryd.prog Rows.dramRoomRow.laid W) :
    Calls Tryd.prog 4 args W fun e W' => ∃ v, e = .returned v ∧ Rows.dramRoomSpec.post enc Tryd.prog Tryd.f4 false true false false W args v W' := by
  have hW' := hW
  obtain ⟨p, q, hA0, hV, rfl, hfz, hnd⟩ := hW
  have hA : DataW.TrodAll enc Tryd.prog W 0 (fun _ => true) true Tryd.f4.params.toList args.toList ds p := hA0
  rw [Tryd.params4] at hA hval hsz
  obtain ⟨v0, vs0, d0, ds0, p0, q0, hargs, rfl, rfl, h0, r0⟩ := trodAll_cons hA
  obtain ⟨v1, vs1, d1, ds1, p1, q1, rfl, rfl, rfl, h1, r1⟩ := trodAll_cons r0
  obtain ⟨rfl, rfl, rfl⟩ := trodAll_nil r1
  obtain rfl : args = #[v0, v1] := by cases args; simp_all
  obtain ⟨rfl, rfl⟩ := trodVars_none hV
  obtain ⟨a0, rfl, rfl, rfl, w0⟩ := open_int Tryd.underlying3 (hval 0 3 v0 rfl rfl) h0
  obtain ⟨a1, len1, cap1, rfl⟩ := okWide_slice Tryd.underlying38 (hval 1 38 v1 rfl rfl)
  have k1 := h1
  have lt1 : ∀ x ∈ p1, x.block < W.heap.size := by obtain ⟨m, hm⟩ := k1; exact DataW.trod_lt m _ _ _ hm
  obtain ⟨z1, w1⟩ : ∃ xs, ActsAt W a1 len1 xs := by
    obtain ⟨fuel, hf⟩ := h1
    exact acts_open hf (fun n hn => by
      have := List.all_eq_true.1 hsz n (DataW.weights_mem_each (j := 1) (t := 38) rfl rfl n hn)
      simpa using this)
  clear hA0
  try simp only [List.append_nil] at hW'
  refine (walk W a0 w0 a1 len1 cap1 z1 w1 (table hL)).mono fun e W' ⟨he, bel⟩ => ?_
  subst he
  exact ⟨_, rfl, _, _, _, [], _, [], hW', trodAll_mk1 (shut_bool Tryd.underlying4 _), (trodAll_cons_mk (shut_int Tryd.underlying3 w0) (trodAll_cons_mk (Below.trod laidOut (by kernel_rfl) (of_decide_eq_true (by kernel_rfl)) k1 bel lt1) trodAll_mk0)), rfl, bel.frame _, fun h => by cases h⟩

/-- The witness: what the initialisers leave is met. -/
theorem laid_met (os : Os) : laidMet Tryd.prog Rows.dramRoomRow.laid ((World.doorLaid Tryd.prog 14 os).forCall (fun _ _ => 0) ⟨#[], #[.int .i64 0, .slice none 0 0], []⟩).memory :=
  laidMet_of_run' 8 (by kernel_rfl) (by kernel_rfl)
theorem reads (os : Os) {H : Type} (enc : TypeId × Value → H) : ∃ xs places, DataW.whole enc Tryd.prog ((World.doorLaid Tryd.prog 14 os).forCall (fun _ _ => 0) ⟨#[], #[.int .i64 0, .slice none 0 0], []⟩).memory Tryd.f4.params.toList Rows.dramRoomSpec.vars false (#[.int .i64 0, .slice none 0 0] : Array Value).toList 8 = some (xs, [], places) :=
  by
  have h : (DataW.whole enc Tryd.prog ((World.doorLaid Tryd.prog 14 os).forCall (fun _ _ => 0) ⟨#[], #[.int .i64 0, .slice none 0 0], []⟩).memory Tryd.f4.params.toList Rows.dramRoomSpec.vars false (#[.int .i64 0, .slice none 0 0] : Array Value).toList 8).map (fun r => r.2.1.isEmpty) = some true := by kernel_rfl
  obtain ⟨⟨xs, gs, pl⟩, h1, h2⟩ := Option.map_eq_some_iff.1 h
  have h3 : gs = [] := List.isEmpty_iff.1 h2
  subst h3
  exact ⟨xs, pl, h1⟩

set_option maxRecDepth 100000 in
theorem lifted (os : Os) (started : os.Started) (H : Type) (enc : TypeId × Value → H) (F : Stop.Interp) :
    ReturnsInHanded {} Tryd.checked os 4 .any ((OpenSpec.ofChange Rows.dramRoomSpec).preRow enc Tryd.prog Tryd.f4 Rows.dramRoomRow.domain false Rows.dramRoomRow.laid) (((OpenSpec.ofChange Rows.dramRoomSpec).at F).post enc Tryd.prog Tryd.f4 false true false false) := by
  obtain ⟨xs, places, hx⟩ := reads os enc
  refine returnsInHanded_of_row (C := Tryd.checked) (s := OpenSpec.ofChange Rows.dramRoomSpec) own started (by kernel_rfl) Tryd.func4
    (witness_row_at (enc := enc) (C := Tryd.checked) false (World.doorLaid Tryd.prog 14 os) #[.int .i64 0, .slice none 0 0] rfl (by kernel_rfl) (by kernel_rfl) (by kernel_rfl)
      (OpenSpec.preRow_of_cond 8 hx (by kernel_rfl) (fun k hk => by cases hk) (by kernel_rfl) (laid_met os))) ?_
  intro W base args ds gs before hval hW _ _ hsz hL _ _
  exact contract H enc W base args ds gs before hval hW hsz hL

theorem said : Rows.DramRoomSaid :=
  OpenClaim.holds_of_cond 4 Tryd.f4 rfl rfl rfl rfl rfl rfl rfl ⟨rfl, rfl, rfl, rfl, rfl⟩ rfl rfl rfl rfl rfl (by kernel_rfl) Tryd.func4 (by kernel_rfl)
    (of_decide_eq_true (by kernel_rfl)) (by unfold Func.isWrapper; first | (rw [if_pos (by decide +kernel)]; kernel_rfl) | (rw [if_neg (by decide +kernel)]; exact ⟨rfl, rfl⟩))
    (fun os started H enc _ F => by rw [OpenClaim.pre_eq_preRow]; exact lifted os started H enc F)

theorem plain (f : FuncId) (fn : Func) (hf : Tryd.pinned.checked.prog.funcNamed Rows.dramRoomRow.func = some f) (hfn : Tryd.pinned.checked.prog.funcs[f]? = some fn) :
    false = Tryd.pinned.checked.prog.looks [] ∧ ∀ (j : Nat) t, fn.params[j]? = some t → Tryd.pinned.checked.prog.wantsStandIn t = false := by
  obtain rfl : f = 4 := Option.some.inj ((show Tryd.prog.funcNamed Rows.dramRoomRow.func = some 4 by kernel_rfl).symm.trans hf) |>.symm
  obtain rfl : fn = Tryd.f4 := (Option.some.inj (Tryd.func4.symm.trans hfn)).symm
  refine ⟨by kernel_rfl, fun j t ht => ?_⟩
  rw [Tryd.params4] at ht
  have hm : t ∈ [3, 38] := by simpa using Array.mem_of_getElem? ht
  have hall : ([3, 38].all fun u => !Tryd.prog.wantsStandIn u) = true := by kernel_rfl
  exact (show Tryd.prog.wantsStandIn t = false by simpa using List.all_eq_true.1 hall t hm)

theorem card : Rows.DramRoomCardSaid :=
  Claim7.holds_tied_plain_at .later [] _ _ _ _ said (fun _ h => by cases h) (by kernel_rfl) (fun _ h => by cases h) dramRoom_row_tie rfl ⟨rfl, rfl⟩ (by kernel_rfl) rfl plain (by kernel_rfl)
end Go.Proofs.YtdkiegkgnimapaaDoor.dramRoom
namespace Go.Proofs.YtdkiegkgnimapaaDoor
theorem dramRoom_holds : Rows.DramRoomCardSaid := dramRoom.card
#print axioms dramRoom_holds
end Go.Proofs.YtdkiegkgnimapaaDoor
