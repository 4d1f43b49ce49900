/-
  TableGrows answers true for every number and every list of texts: buckets grow by doubling, just when a key more makes more than one and a half a bucket and nothing is left to move.
-/
import Derived.WalkKit
import Derived.Below
import Derived.Test.YtkjfildnemgbiabAwake
namespace Go.Proofs.Ytkjfildnemgbiab.tableGrows
open Go.RowKit Go.Deep Go.Shelf Math Tab Go.Sort
set_option linter.unusedVariables false
set_option linter.unusedSimpArgs false

set_option maxRecDepth 8000 in
set_option maxHeartbeats 40000000 in
theorem walk (a0 : Int) (a1 : Option Addr) (len1 cap1 : Nat) (z1 : List (List UInt8)) (w : World) (hw0 : (Lit.int .i64 a0).wf = true) (hw1 : StrsAt w a1 len1 z1) :
    Calls Try.prog 3 #[.int .i64 a0, .slice a1 len1 cap1] w fun e w' => e = .returned (.bool true) ∧ Below w.heap.size w w' := by
  have c0 := hide (awake_any w)
  have HW := hide hw1
  cases hpw : pw a0 with
  | false =>
    have cN := hide (fun W => new_bad a0 W hpw)
    clear hw0 hw1 hpw
    go_enter Try.func3, Try.ntmps3
    go_wp2_with fail
    refine c0.out.mono ?_
    rintro e w1 ⟨rfl, B1⟩
    have c1 := hide (cN.out w1)
    have B := hide B1
    clear c0 B1 cN
    go_wp2_with fail
    refine c1.out.mono ?_
    rintro e wx ⟨rfl, hx⟩
    obtain rfl : w1 = wx := hx.symm
    clear hx c1
    go_wp2
    go_ret
    exact ⟨rfl, B.out⟩
  | true =>
  obtain ⟨n0, hn0⟩ : ∃ n0 : Nat, a0 = (n0 : Int) := ⟨a0.toNat, by have := pw_range hpw; omega⟩
  subst hn0
  by_cases hlen : 120 < len1
  · have hl : (120 : Int) < (len1 : Int) := by omega
    have cN := hide (fun W (B : Below w.heap.size w W) => new_l B n0 hpw)
    clear hw0 hw1 hlen hpw
    go_enter Try.func3, Try.ntmps3
    go_wp2_with fail
    refine c0.out.mono ?_
    rintro e w1 ⟨rfl, B1⟩
    have c1 := hide (cN.out w1 B1)
    clear c0 B1 cN
    go_wp2_with fail
    refine c1.out.mono ?_
    rintro e w2 ⟨f, rfl, h2⟩
    have B := hide h2.bel
    clear c1 h2
    go_wp2
    go_ret
    exact ⟨rfl, B.out⟩
  have hl : ¬ (120 : Int) < (len1 : Int) := by omega
  have hl2 : len1 ≤ 120 := by omega
  have cN := hide (fun W (B : Below w.heap.size w W) => new_l B n0 hpw)
  clear hw0 hw1 hlen hpw
  go_enter Try.func3, Try.ntmps3
  go_wp2_with fail
  refine c0.out.mono ?_
  rintro e w1 ⟨rfl, B1⟩
  have c1 := hide (cN.out w1 B1)
  clear c0 B1 cN
  go_wp2_with fail
  refine c1.out.mono ?_
  rintro e w2 ⟨f, rfl, h2⟩
  have H2 := hide h2
  clear c1 h2
  go_wp2
  go_loopg [7] len1 (fun kx s7 wr => ∃ (i : Nat) (t : Tb), s7 = .int .i64 i ∧ Hid (i ≤ len1 ∧ len1 - i ≤ kx ∧ TL w f t wr ∧ t.all.length ≤ i))
  case atStart => exact ⟨0, _, rfl, Nat.zero_le _, Nat.le_refl _, H2.out, by rw [mk0_all]; simp⟩
  case round =>
    obtain ⟨i, t, rfl, I⟩ := hrel
    by_cases hlt : i < len1
    · have hlt2 : (i : Int) < (len1 : Int) := by omega
      obtain ⟨b, o, x, rfl, hx, hxl, hc⟩ := HW.out.key I.out.2.2.1.bel i hlt
      have hg := I.out.2.2.1.good
      have c2 := hide (set_l I.out.2.2.1 x hxl (i : Int) (by have := I.out.2.2.2; omega))
      have cB := hide (buckets_l I.out.2.2.1)
      have cL := hide (left_l I.out.2.2.1)
      have hle : (t.setT hsh x (i : Int)).all.length ≤ i + 1 := by
        rw [hg.len_setT]
        have := I.out.2.2.2
        split <;> omega
      have hsh2 := hg.shape x (i : Int)
      have n9 := hg.n9
      have m9 : t.od.length ≤ 131072 := by have h1 := hg.ol; unfold Tb.half at h1; omega
      have HK : Hid (len1 - i ≤ _) := I.out.2.1
      unfold grows at hsh2
      clear I hx hxl hg
      generalize t.setT hsh x (i : Int) = t2 at *
      generalize t.isNew hsh x = fr at *
      generalize txt x = tx at *
      have cE : Hid (∀ W, TL w f t2 W → Calls Try.prog 9 #[.pointer (some ⟨f, 0, none⟩)] W fun e W' => e = .returned (.int .i64 (t2.all.length : Int)) ∧ W' = W) := fun W hW => len_l hW
      have cB2 : Hid (∀ W, TL w f t2 W → Calls Try.prog 6 #[.pointer (some ⟨f, 0, none⟩)] W fun e W' => e = .returned (.int .i64 (t2.nw.length : Int)) ∧ W' = W) := fun W hW => buckets_l hW
      have cL2 : Hid (∀ W, TL w f t2 W → Calls Try.prog 7 #[.pointer (some ⟨f, 0, none⟩)] W fun e W' => e = .returned (.int .i64 (t2.od.length : Int)) ∧ W' = W) := fun W hW => left_l hW
      have HLe := hide (show t2.all.length ≤ i + 1 from hle)
      generalize hN : t.nw.length = n at *
      generalize hM : t.od.length = m at *
      generalize hL : t2.all.length = le at *
      generalize hN2 : t2.nw.length = n2 at *
      generalize hM2 : t2.od.length = m2 at *
      clear hN hM hN2 hM2
      have HL := hide hL
      clear hL
      have le9 : le ≤ 121 := by omega
      clear hle
      rcases hsh2 with ⟨hcond, hsz⟩ | ⟨hcond, hsz⟩
      · simp only [Bool.and_eq_true, decide_eq_true_eq] at hcond
        obtain ⟨⟨⟨rfl, h3n⟩, hm0⟩, h65⟩ := hcond
        by_cases hm : m = 0
        · have hcond := hm
          obtain rfl : m = 0 := by omega
          have q1 : (3 * (n : Int) < 2 * (le : Int)) = True := eq_true (by omega)
          obtain ⟨rfl, rfl⟩ := hsz
          clear hcond
          go_wp2_with fail
          refine cB.out.mono ?_
          rintro e wx ⟨rfl, hx⟩
          obtain rfl : wr = wx := hx.symm
          clear hx cB
          go_wp2_with fail
          refine cL.out.mono ?_
          rintro e wx ⟨rfl, hx⟩
          obtain rfl : wr = wx := hx.symm
          clear hx cL
          go_wp2_with fail
          refine c2.out.mono ?_
          rintro e w3 ⟨rfl, h3⟩
          have H3 := hide h3
          have cE' := hide (cE.out w3 h3)
          have cB' := hide (cB2.out w3 h3)
          have cL' := hide (cL2.out w3 h3)
          clear c2 h3 cE cB2 cL2
          go_wp2_with fail
          refine cE'.out.mono ?_
          rintro e wx ⟨rfl, hx⟩
          obtain rfl : w3 = wx := hx.symm
          clear hx
          go_wp2_with fail
          refine cB'.out.mono ?_
          rintro e wx ⟨rfl, hx⟩
          obtain rfl : w3 = wx := hx.symm
          clear hx
          go_wp2_with fail
          refine cL'.out.mono ?_
          rintro e wx ⟨rfl, hx⟩
          obtain rfl : w3 = wx := hx.symm
          clear hx
          clear cE' cB' cL'
          go_wp2
          go_roundg (len1 - (i + 1))
          case measure => have := HK.out; omega
          case rel => exact ⟨i + 1, t2, rfl, by omega, Nat.le_refl _, H3.out, by rw [HL.out]; exact HLe.out⟩
        · have hcond := hm
          have mp : (0 : Int) < (m : Int) := by omega
          obtain rfl : m = 1 := by omega
          have q1 : (3 * (n : Int) < 2 * (le : Int)) = True := eq_true (by omega)
          obtain ⟨rfl, rfl⟩ := hsz
          clear hcond
          go_wp2_with fail
          refine cB.out.mono ?_
          rintro e wx ⟨rfl, hx⟩
          obtain rfl : wr = wx := hx.symm
          clear hx cB
          go_wp2_with fail
          refine cL.out.mono ?_
          rintro e wx ⟨rfl, hx⟩
          obtain rfl : wr = wx := hx.symm
          clear hx cL
          go_wp2_with fail
          refine c2.out.mono ?_
          rintro e w3 ⟨rfl, h3⟩
          have H3 := hide h3
          have cE' := hide (cE.out w3 h3)
          have cB' := hide (cB2.out w3 h3)
          have cL' := hide (cL2.out w3 h3)
          clear c2 h3 cE cB2 cL2
          go_wp2_with fail
          refine cE'.out.mono ?_
          rintro e wx ⟨rfl, hx⟩
          obtain rfl : w3 = wx := hx.symm
          clear hx
          go_wp2_with fail
          refine cB'.out.mono ?_
          rintro e wx ⟨rfl, hx⟩
          obtain rfl : w3 = wx := hx.symm
          clear hx
          go_wp2_with fail
          refine cL'.out.mono ?_
          rintro e wx ⟨rfl, hx⟩
          obtain rfl : w3 = wx := hx.symm
          clear hx
          clear cE' cB' cL'
          go_wp2
          go_roundg (len1 - (i + 1))
          case measure => have := HK.out; omega
          case rel => exact ⟨i + 1, t2, rfl, by omega, Nat.le_refl _, H3.out, by rw [HL.out]; exact HLe.out⟩
      · cases fr with
        | false =>
          by_cases hm : m = 0
          · subst hm
            rw [show 0 - 1 = 0 from rfl] at hsz
            skip
            obtain ⟨rfl, rfl⟩ := hsz
            clear hcond
            go_wp2_with fail
            refine cB.out.mono ?_
            rintro e wx ⟨rfl, hx⟩
            obtain rfl : wr = wx := hx.symm
            clear hx cB
            go_wp2_with fail
            refine cL.out.mono ?_
            rintro e wx ⟨rfl, hx⟩
            obtain rfl : wr = wx := hx.symm
            clear hx cL
            go_wp2_with fail
            refine c2.out.mono ?_
            rintro e w3 ⟨rfl, h3⟩
            have H3 := hide h3
            have cE' := hide (cE.out w3 h3)
            have cB' := hide (cB2.out w3 h3)
            have cL' := hide (cL2.out w3 h3)
            clear c2 h3 cE cB2 cL2
            go_wp2_with fail
            refine cB'.out.mono ?_
            rintro e wx ⟨rfl, hx⟩
            obtain rfl : w3 = wx := hx.symm
            clear hx
            go_wp2_with fail
            refine cL'.out.mono ?_
            rintro e wx ⟨rfl, hx⟩
            obtain rfl : w3 = wx := hx.symm
            clear hx
            clear cE' cB' cL'
            go_wp2
            go_roundg (len1 - (i + 1))
            case measure => have := HK.out; omega
            case rel => exact ⟨i + 1, t2, rfl, by omega, Nat.le_refl _, H3.out, by rw [HL.out]; exact HLe.out⟩
          ·
            have mp : (0 : Int) < (m : Int) := by omega
            obtain ⟨m1, hm1⟩ : ∃ m1, m = m1 + 1 := ⟨m - 1, by omega⟩
            subst hm1
            rw [Nat.add_sub_cancel] at hsz
            obtain ⟨rfl, rfl⟩ := hsz
            clear hcond
            go_wp2_with fail
            refine cB.out.mono ?_
            rintro e wx ⟨rfl, hx⟩
            obtain rfl : wr = wx := hx.symm
            clear hx cB
            go_wp2_with fail
            refine cL.out.mono ?_
            rintro e wx ⟨rfl, hx⟩
            obtain rfl : wr = wx := hx.symm
            clear hx cL
            go_wp2_with fail
            refine c2.out.mono ?_
            rintro e w3 ⟨rfl, h3⟩
            have H3 := hide h3
            have cE' := hide (cE.out w3 h3)
            have cB' := hide (cB2.out w3 h3)
            have cL' := hide (cL2.out w3 h3)
            clear c2 h3 cE cB2 cL2
            go_wp2_with fail
            refine cB'.out.mono ?_
            rintro e wx ⟨rfl, hx⟩
            obtain rfl : w3 = wx := hx.symm
            clear hx
            go_wp2_with fail
            refine cL'.out.mono ?_
            rintro e wx ⟨rfl, hx⟩
            obtain rfl : w3 = wx := hx.symm
            clear hx
            clear cE' cB' cL'
            go_wp2
            go_roundg (len1 - (i + 1))
            case measure => have := HK.out; omega
            case rel => exact ⟨i + 1, t2, rfl, by omega, Nat.le_refl _, H3.out, by rw [HL.out]; exact HLe.out⟩
        | true =>
          by_cases h3n : 3 * n < 2 * le
          · have h65 : n < 65536 := by omega
            have hm1 : ¬ m - 1 = 0 := by
              intro hz
              simp [h3n, hz, h65] at hcond
            have hm : ¬ m = 0 := by omega
            have mp : (0 : Int) < (m : Int) := by omega
            obtain ⟨m1, hmm⟩ : ∃ m1, m = m1 + 1 := ⟨m - 1, by omega⟩
            subst hmm
            rw [Nat.add_sub_cancel] at hsz
            obtain ⟨rfl, rfl⟩ := hsz
            have q1 : (3 * (n2 : Int) < 2 * (le : Int)) = True := eq_true (by omega)
            have q2 : ((m2 : Int) == 0) = false := by simp; omega
            have q3 : ¬ (m2 : Int) = 0 := by omega
            clear hcond
            go_wp2_with fail
            refine cB.out.mono ?_
            rintro e wx ⟨rfl, hx⟩
            obtain rfl : wr = wx := hx.symm
            clear hx cB
            go_wp2_with fail
            refine cL.out.mono ?_
            rintro e wx ⟨rfl, hx⟩
            obtain rfl : wr = wx := hx.symm
            clear hx cL
            go_wp2_with fail
            refine c2.out.mono ?_
            rintro e w3 ⟨rfl, h3⟩
            have H3 := hide h3
            have cE' := hide (cE.out w3 h3)
            have cB' := hide (cB2.out w3 h3)
            have cL' := hide (cL2.out w3 h3)
            clear c2 h3 cE cB2 cL2
            go_wp2_with fail
            refine cE'.out.mono ?_
            rintro e wx ⟨rfl, hx⟩
            obtain rfl : w3 = wx := hx.symm
            clear hx
            go_wp2_with fail
            refine cB'.out.mono ?_
            rintro e wx ⟨rfl, hx⟩
            obtain rfl : w3 = wx := hx.symm
            clear hx
            go_wp2_with fail
            refine cL'.out.mono ?_
            rintro e wx ⟨rfl, hx⟩
            obtain rfl : w3 = wx := hx.symm
            clear hx
            clear cE' cB' cL'
            go_wp2
            go_roundg (len1 - (i + 1))
            case measure => have := HK.out; omega
            case rel => exact ⟨i + 1, t2, rfl, by omega, Nat.le_refl _, H3.out, by rw [HL.out]; exact HLe.out⟩
          · by_cases hm : m = 0
            · subst hm
              rw [show 0 - 1 = 0 from rfl] at hsz
              skip
              obtain ⟨rfl, rfl⟩ := hsz
              have q1 : (3 * (n2 : Int) < 2 * (le : Int)) = False := eq_false (by omega)
              clear hcond
              go_wp2_with fail
              refine cB.out.mono ?_
              rintro e wx ⟨rfl, hx⟩
              obtain rfl : wr = wx := hx.symm
              clear hx cB
              go_wp2_with fail
              refine cL.out.mono ?_
              rintro e wx ⟨rfl, hx⟩
              obtain rfl : wr = wx := hx.symm
              clear hx cL
              go_wp2_with fail
              refine c2.out.mono ?_
              rintro e w3 ⟨rfl, h3⟩
              have H3 := hide h3
              have cE' := hide (cE.out w3 h3)
              have cB' := hide (cB2.out w3 h3)
              have cL' := hide (cL2.out w3 h3)
              clear c2 h3 cE cB2 cL2
              go_wp2_with fail
              refine cE'.out.mono ?_
              rintro e wx ⟨rfl, hx⟩
              obtain rfl : w3 = wx := hx.symm
              clear hx
              go_wp2_with fail
              refine cB'.out.mono ?_
              rintro e wx ⟨rfl, hx⟩
              obtain rfl : w3 = wx := hx.symm
              clear hx
              go_wp2_with fail
              refine cL'.out.mono ?_
              rintro e wx ⟨rfl, hx⟩
              obtain rfl : w3 = wx := hx.symm
              clear hx
              clear cE' cB' cL'
              go_wp2
              go_roundg (len1 - (i + 1))
              case measure => have := HK.out; omega
              case rel => exact ⟨i + 1, t2, rfl, by omega, Nat.le_refl _, H3.out, by rw [HL.out]; exact HLe.out⟩
            ·
              have mp : (0 : Int) < (m : Int) := by omega
              obtain ⟨m1, hm1⟩ : ∃ m1, m = m1 + 1 := ⟨m - 1, by omega⟩
              subst hm1
              rw [Nat.add_sub_cancel] at hsz
              obtain ⟨rfl, rfl⟩ := hsz
              have q1 : (3 * (n2 : Int) < 2 * (le : Int)) = False := eq_false (by omega)
              clear hcond
              go_wp2_with fail
              refine cB.out.mono ?_
              rintro e wx ⟨rfl, hx⟩
              obtain rfl : wr = wx := hx.symm
              clear hx cB
              go_wp2_with fail
              refine cL.out.mono ?_
              rintro e wx ⟨rfl, hx⟩
              obtain rfl : wr = wx := hx.symm
              clear hx cL
              go_wp2_with fail
              refine c2.out.mono ?_
              rintro e w3 ⟨rfl, h3⟩
              have H3 := hide h3
              have cE' := hide (cE.out w3 h3)
              have cB' := hide (cB2.out w3 h3)
              have cL' := hide (cL2.out w3 h3)
              clear c2 h3 cE cB2 cL2
              go_wp2_with fail
              refine cE'.out.mono ?_
              rintro e wx ⟨rfl, hx⟩
              obtain rfl : w3 = wx := hx.symm
              clear hx
              go_wp2_with fail
              refine cB'.out.mono ?_
              rintro e wx ⟨rfl, hx⟩
              obtain rfl : w3 = wx := hx.symm
              clear hx
              go_wp2_with fail
              refine cL'.out.mono ?_
              rintro e wx ⟨rfl, hx⟩
              obtain rfl : w3 = wx := hx.symm
              clear hx
              clear cE' cB' cL'
              go_wp2
              go_roundg (len1 - (i + 1))
              case measure => have := HK.out; omega
              case rel => exact ⟨i + 1, t2, rfl, by omega, Nat.le_refl _, H3.out, by rw [HL.out]; exact HLe.out⟩
    · have hlt2 : ¬ (i : Int) < (len1 : Int) := by omega
      have HB := hide I.out.2.2.1.bel
      clear I
      go_wp2
      go_ret
      exact ⟨rfl, HB.out⟩
end Go.Proofs.Ytkjfildnemgbiab.tableGrows
