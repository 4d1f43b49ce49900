/-
  SegShares answers true for every list of calls: behind each Add hot has at most a fifth, warm at most two fifths of all.
-/
import Derived.WalkKit
import Derived.Below
import Derived.Test.YtgjgdhjnkbbceaaAwake
import Derived.Test.YtgjgdhjnkbbceaaMa2
namespace Go.Proofs.Ytgjgdhjnkbbceaa.segShares
open Go.RowKit Go.Deep Sgm
set_option linter.unusedVariables false
set_option linter.unusedSimpArgs false

set_option maxRecDepth 8000 in
set_option maxHeartbeats 40000000 in
theorem walk (a0 : Option Addr) (len0 cap0 : Nat) (z0 : List ActI) (w : World) (hw0 : ActsAt w a0 len0 z0) :
    Calls Try.prog 8 #[.slice a0 len0 cap0] w fun e w' => e = .returned (.bool true) ∧ Below w.heap.size w w' := by
  have c0 := hide (awake_any w)
  have HW := hide hw0
  by_cases hlen : 120 < len0
  · have hl : (120 : Int) < (len0 : Int) := by omega
    clear hw0 hlen
    skip
    go_enter Try.func8, Try.ntmps8
    go_wp2_with fail
    refine c0.out.mono ?_
    rintro e w1 ⟨rfl, B1⟩
    have B := hide B1
    clear c0 B1
    go_wp2
    go_ret
    exact ⟨rfl, B.out⟩
  have hl : ¬ (120 : Int) < (len0 : Int) := by omega
  have hl2 : len0 ≤ 120 := by omega
  clear hw0 hlen
  go_enter Try.func8, Try.ntmps8
  go_wp2_with fail
  refine c0.out.mono ?_
  rintro e w1 ⟨rfl, B1⟩
  have cN := hide (new_l B1)
  clear c0 B1
  go_wp2_with fail
  refine cN.out.mono ?_
  rintro e w2 ⟨f, rfl, h2, _⟩
  have H2 := hide h2
  clear cN h2
  go_wp2
  go_loopg [4, 5, 6, 7, 8] len0 (fun kx s4 s5 s6 s7 s8 wr => ∃ (i : Nat) (s : St), s4 = .int .i64 i ∧ Hid (i ≤ len0 ∧ len0 - i ≤ kx ∧ SL w f s wr ∧ s.all.length ≤ i))
  case atStart => exact ⟨0, _, rfl, Nat.zero_le _, Nat.le_refl _, H2.out, by simp [St0, St.all]⟩
  case round =>
    obtain ⟨i, s, rfl, I⟩ := hrel
    by_cases hlt : i < len0
    · have hlt2 : (i : Int) < (len0 : Int) := by omega
      obtain ⟨b, o, x, rfl, hx, hxf, hc⟩ := HW.out.at I.out.2.2.1.bel i hlt
      have k0 := hc.c0
      have k1 := hc.c1
      obtain ⟨i1, hi1⟩ : ∃ i1, i1 = i + 1 := ⟨_, rfl⟩
      have e1 : (i : Int) + 1 = (i1 : Int) := by omega
      have HK : Hid (len0 - i ≤ _) := I.out.2.1
      have HI1 := hide hi1
      have Hlt := hide hlt
      have hal : s.all.length ≤ i := I.out.2.2.2
      by_cases o0 : x.op = 0
      · have c2 := hide (add_l I.out.2.2.1 (i := x.id) hxf.2 (by omega))
        have HL : Hid ((addS x.id s).all.length ≤ i1) := by have := add_le x.id s; unfold Hid; omega
        have HSH : Hid (s.has x.id = false → (addS x.id s).h.length ≤ ((addS x.id s).all.length + 4) / 5 ∧ (addS x.id s).w.length ≤ 2 * (addS x.id s).all.length / 5) := fun h => add_shares h
        have hal2 : (addS x.id s).all.length ≤ 100000 := by have := add_le x.id s; omega
        rw [o0] at k0
        clear I hx hxf hc hi1 hlt hal o0
        generalize addS x.id s = s2 at *
        generalize x.id = id at *
        cases hh : s.has id with
        | true =>
          rw [hh] at c2
          simp only [Bool.not_true] at c2
          clear hh HSH hal2
          go_wp2_with fail
          refine c2.out.mono ?_
          rintro e w3 ⟨rfl, h3, _⟩
          have H3 := hide h3
          clear c2 h3
          go_wp2
          go_roundg (len0 - i1)
          case measure => have := HK.out; have := HI1.out; have := Hlt.out; omega
          case rel => exact ⟨i1, s2, rfl, by have := HI1.out; have := Hlt.out; omega, Nat.le_refl _, H3.out, HL.out⟩
        | false =>
          rw [hh] at c2
          simp only [Bool.not_false] at c2
          obtain ⟨q1, q2⟩ := HSH.out hh
          obtain ⟨n, hn⟩ : ∃ n, n = s2.all.length := ⟨_, rfl⟩
          obtain ⟨nh, hnh⟩ : ∃ nh, nh = s2.h.length := ⟨_, rfl⟩
          obtain ⟨nw, hnw⟩ : ∃ nw, nw = s2.w.length := ⟨_, rfl⟩
          have g1 : ¬ ((n : Int) + 4) / 5 < (nh : Int) := by rw [← hn, ← hnh] at q1; omega
          have g2 : ¬ 2 * (n : Int) / 5 < (nw : Int) := by rw [← hn, ← hnw] at q2; omega
          have n9 : n ≤ 100000 := by omega
          have Hn := hide hn
          have Hnh := hide hnh
          have Hnw := hide hnw
          have Hal := hide hal2
          clear hh HSH q1 q2 hn hnh hnw hal2
          go_wp2_with fail
          refine c2.out.mono ?_
          rintro e w3 ⟨rfl, h3, _⟩
          have c3 := hide (lists_l h3 Hal.out)
          simp only [rwV] at c3
          rw [← Hnh.out, ← Hnw.out] at c3
          clear c2 h3
          generalize s2.c.length = nc at *
          generalize w3.heap.size + 1 + nh + 1 + nw = b2 at *
          generalize w3.heap.size + 1 + nh = b1 at *
          generalize w3.heap.size = b0 at *
          go_wp2_with fail
          refine c3.out.mono ?_
          rintro e w4 ⟨rfl, _, h4⟩
          have c4 := hide (len_l h4)
          rw [← Hn.out] at c4
          have H4 := hide h4
          clear c3 h4
          go_wp2_with fail
          refine c4.out.mono ?_
          rintro e wx ⟨rfl, hx⟩
          obtain rfl : w4 = wx := hx.symm
          clear hx c4
          go_wp2
          go_roundg (len0 - i1)
          case measure => have := HK.out; have := HI1.out; have := Hlt.out; omega
          case rel => exact ⟨i1, s2, rfl, by have := HI1.out; have := Hlt.out; omega, Nat.le_refl _, H4.out, HL.out⟩
      have n0 : (x.op == 0) = false := by simpa using o0
      by_cases o1 : x.op = 1
      · have c2 := hide (touch_l I.out.2.2.1 (i := x.id) hxf.2)
        have HL : Hid ((tchS x.id s).all.length ≤ i1) := by have := tch_len x.id s; unfold Hid; omega
        rw [o1] at k0
        clear I hx hxf hc hi1 hlt hal o1 n0 o0
        generalize tchS x.id s = s2 at *
        generalize s.has x.id = fr at *
        generalize x.id = id at *
        go_wp2_with fail
        refine c2.out.mono ?_
        rintro e w3 ⟨rfl, h3, _⟩
        have H3 := hide h3
        clear c2 h3
        go_wp2
        go_roundg (len0 - i1)
        case measure => have := HK.out; have := HI1.out; have := Hlt.out; omega
        case rel => exact ⟨i1, s2, rfl, by have := HI1.out; have := Hlt.out; omega, Nat.le_refl _, H3.out, HL.out⟩
      have n1 : (x.op == 1) = false := by simpa using o1
      by_cases o2 : x.op = 2
      · have c2 := hide (remove_l I.out.2.2.1 (i := x.id) hxf.2 (by omega))
        have HL : Hid ((rmvS x.id s).all.length ≤ i1) := by have := rmv_le x.id s; unfold Hid; omega
        rw [o2] at k0
        clear I hx hxf hc hi1 hlt hal o2 n0 o0 n1 o1
        generalize rmvS x.id s = s2 at *
        generalize s.has x.id = fr at *
        generalize x.id = id at *
        go_wp2_with fail
        refine c2.out.mono ?_
        rintro e w3 ⟨rfl, h3, _⟩
        have H3 := hide h3
        clear c2 h3
        go_wp2
        go_roundg (len0 - i1)
        case measure => have := HK.out; have := HI1.out; have := Hlt.out; omega
        case rel => exact ⟨i1, s2, rfl, by have := HI1.out; have := Hlt.out; omega, Nat.le_refl _, H3.out, HL.out⟩
      have n2 : (x.op == 2) = false := by simpa using o2
      have c2 := hide (evict_l I.out.2.2.1 (by omega))
      have HL : Hid ((eviS s).all.length ≤ i1) := by have := eviS_le s; unfold Hid; omega
      clear I hx hxf hc hi1 hlt hal
      generalize eviS s = s2 at *
      generalize (evi s).getD 0 = gd at *
      generalize (evi s).isSome = gs at *
      generalize x.op = xo at *
      generalize x.id = id at *
      go_wp2_with fail
      refine c2.out.mono ?_
      rintro e w3 ⟨rfl, h3, _⟩
      have H3 := hide h3
      clear c2 h3
      go_wp2
      go_roundg (len0 - i1)
      case measure => have := HK.out; have := HI1.out; have := Hlt.out; omega
      case rel => exact ⟨i1, s2, rfl, by have := HI1.out; have := Hlt.out; omega, Nat.le_refl _, H3.out, HL.out⟩
    · have hlt2 : ¬ (i : Int) < (len0 : Int) := by omega
      have BB := hide I.out.2.2.1.bel
      clear I hlt
      go_wp2
      go_ret
      exact ⟨rfl, BB.out⟩
end Go.Proofs.Ytgjgdhjnkbbceaa.segShares
