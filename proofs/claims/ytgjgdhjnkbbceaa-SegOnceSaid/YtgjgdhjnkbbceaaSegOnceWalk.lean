/-
  SegOnce answers true for every list of calls: each number that was added, and not removed or let go, stands in just one list.
-/
import Derived.WalkKit
import Derived.Below
import Derived.Test.YtgjgdhjnkbbceaaAwake
import Derived.Test.YtgjgdhjnkbbceaaMa2
namespace Go.Proofs.Ytgjgdhjnkbbceaa.segOnce
open Go.RowKit Go.Deep Sgm
set_option linter.unusedVariables false
set_option linter.unusedSimpArgs false

theorem one_evi {s : St} {j : Int} {xs : List Int} (h : evi s = some j) (hp : xs.Perm (ids s.all)) : (outL j xs).Perm (ids (eviS s).all) := by
  have e : ids (eviS s).all = (ids (spr s).all).filter fun x => decide (x ≠ j) := by
    unfold eviS
    rw [h]
    exact rmv_ids j (spr s)
  rw [e]
  exact (hp.trans (spr_perm s).symm).filter _
theorem one_rmv {s : St} {j : Int} {xs : List Int} (hp : xs.Perm (ids s.all)) : (outL j xs).Perm (ids (rmvS j s).all) := by
  rw [rmv_ids]
  exact hp.filter _
theorem one_add {s : St} {j : Int} {xs : List Int} (h : s.has j = false) (hp : xs.Perm (ids s.all)) : (xs ++ [j]).Perm (ids (addS j s).all) :=
  (List.perm_append_comm.trans (hp.cons j)).trans (add_perm h).symm
theorem perm_len {s : St} {xs : List Int} (hp : xs.Perm (ids s.all)) : xs.length = s.all.length := by
  have := hp.length_eq
  simpa [ids] using this
theorem row_lt1 {B : Nat} {W : World} {a : Option Addr} {n c : Nat} {xs : List Int} (h : GR intK B (.slice a n c) xs W) : ∀ b o, a = some ⟨b, o, none⟩ → b < W.heap.size := fun b o e => by
  subst e
  exact (h.lt b (by simp [ownB, Value.ownBlock])).2
set_option maxRecDepth 8000 in
set_option maxHeartbeats 40000000 in
theorem walk (a0 : Option Addr) (len0 cap0 : Nat) (z0 : List ActI) (w : World) (hw0 : ActsAt w a0 len0 z0) :
    Calls Try.prog 5 #[.slice a0 len0 cap0] w fun e w' => e = .returned (.bool true) ∧ Below w.heap.size w w' := by
  have c0 := hide (awake_any w)
  have HW := hide hw0
  by_cases hlen : 150 < len0
  · have hl : (150 : Int) < (len0 : Int) := by omega
    clear hw0 hlen
    skip
    go_enter Try.func5, Try.ntmps5
    go_wp2_with fail
    refine c0.out.mono ?_
    rintro e w1 ⟨rfl, B1⟩
    have B := hide B1
    clear c0 B1
    go_wp2
    go_ret
    exact ⟨rfl, B.out⟩
  have hl : ¬ (150 : Int) < (len0 : Int) := by omega
  have hl2 : len0 ≤ 150 := by omega
  clear hw0 hlen
  go_enter Try.func5, Try.ntmps5
  go_wp2_with fail
  refine c0.out.mono ?_
  rintro e w1 ⟨rfl, B1⟩
  have cN := hide (new_l B1)
  clear c0 B1
  go_wp2_with fail
  refine cN.out.mono ?_
  rintro e w2 ⟨f, rfl, h2, _⟩
  have H2 := hide h2
  clear cN h2
  go_wp2
  go_loopg [4, 5] len0 (fun kx s4 s5 wr => ∃ (i : Nat) (s : St) (va : Option Addr) (xs : List Int) (n vc : Nat), s5 = .int .i64 i ∧ s4 = .slice va n vc ∧ Hid (i ≤ len0 ∧ len0 - i ≤ kx ∧ SL w f s wr ∧ GR intK w.heap.size (.slice va n vc) xs wr ∧ (s.all.length ≤ i ∧ xs.Perm (ids s.all) ∧ n = xs.length)))
  case atStart => exact ⟨0, _, none, [], 0, 0, rfl, rfl, Nat.zero_le _, Nat.le_refl _, H2.out, GR.nil _ _ _, by simp [St0, St.all], by simp [St0, St.all, ids], rfl⟩
  case round =>
    obtain ⟨i, s, va, xs, n, vc, rfl, rfl, I⟩ := hrel
    by_cases hlt : i < len0
    · have hlt2 : (i : Int) < (len0 : Int) := by omega
      obtain ⟨b, o, x, rfl, hx, hxf, hc⟩ := HW.out.at I.out.2.2.1.bel i hlt
      have k0 := hc.c0
      have k1 := hc.c1
      have hbl : b < w.heap.size := by
        obtain ⟨b', o', hbo, hb, _⟩ := HW.out.cell i x hx
        simp at hbo
        rw [hbo.1]; exact hb
      have FF : Hid (∀ W, Below w.heap.size w W → W.cell? ⟨b, o + i * 2 + 1, none⟩ = some (.int .i64 x.id)) := fun W hW => by
        obtain ⟨b', o', y, hbo, hy, _, hc2⟩ := HW.out.at hW i hlt
        simp at hbo
        obtain ⟨rfl, rfl⟩ := hbo
        rw [hx] at hy
        obtain rfl := Option.some.inj hy
        exact hc2.c1
      obtain ⟨i1, hi1⟩ : ∃ i1, i1 = i + 1 := ⟨_, rfl⟩
      have e1 : (i : Int) + 1 = (i1 : Int) := by omega
      have HK : Hid (len0 - i ≤ _) := I.out.2.1
      have HI1 := hide hi1
      have Hlt := hide hlt
      have hal : s.all.length ≤ i := I.out.2.2.2.2.1
      have hpl := perm_len I.out.2.2.2.2.2.1
      have hnx := I.out.2.2.2.2.2.2
      have HR := hide I.out.2.2.2.1
      have HP := hide I.out.2.2.2.2
      by_cases o0 : x.op = 0
      · have c2 := hide (add_l I.out.2.2.1 (i := x.id) hxf.2 (by omega))
        have hal2 : (addS x.id s).all.length ≤ i1 := by have := add_le x.id s; omega
        have Hal := hide hal2
        rw [o0] at k0
        cases hh : s.has x.id with
        | true =>
          rw [hh] at c2
          simp only [Bool.not_true] at c2
          have HL : Hid ((addS x.id s).all.length ≤ i1 ∧ xs.Perm (ids (addS x.id s).all) ∧ n = xs.length) := ⟨hal2, by rw [add_same hh]; exact HP.out.2.1, HP.out.2.2⟩
          clear I hx hxf hc hi1 hlt hal o0 hh hal2 hpl hnx hbl
          generalize addS x.id s = s2 at *
          generalize x.id = id at *
          go_wp2_with fail
          refine c2.out.mono ?_
          rintro e w3 ⟨rfl, h3, o3⟩
          have H3 := hide h3
          have R3 := hide (HR.out.off o3 (by decide) (by decide))
          clear c2 h3 o3
          go_wp2
          go_roundg (len0 - i1)
          case measure => have := HK.out; have := HI1.out; have := Hlt.out; omega
          case rel => exact ⟨i1, s2, va, _, n, vc, rfl, rfl, by have := HI1.out; have := Hlt.out; omega, Nat.le_refl _, H3.out, R3.out, HL.out⟩
        | false =>
          rw [hh] at c2
          simp only [Bool.not_false] at c2
          have HL : Hid ((addS x.id s).all.length ≤ i1 ∧ (xs ++ [x.id]).Perm (ids (addS x.id s).all) ∧ n + 1 = (xs ++ [x.id]).length) := ⟨hal2, one_add hh HP.out.2.1, by rw [hnx]; simp⟩
          have hn9 : xs.length + 1 ≤ 1048576 := by omega
          have Hnx := hide hnx
          have Hn9 := hide hn9
          clear I hx hxf hc hi1 hlt hal o0 hh hal2 hpl hnx hbl hn9
          generalize addS x.id s = s2 at *
          generalize x.id = id at *
          go_wp2_with fail
          refine c2.out.mono ?_
          rintro e w3 ⟨rfl, h3, o3⟩
          have r3 := HR.out.off o3 (by decide) (by decide)
          obtain ⟨va2, vc2, w4, hrun, hS, hKp, _⟩ := snoc_g r3 h3.bel.size id Hn9.out
          rw [← Hnx.out] at hrun hS
          have H4 := hide (h3.keepRow r3 (by decide) (by decide) (Nat.le_refl _) hKp)
          have R4 := hide hS
          have kk := FF.out w3 h3.bel
          have HRN : Hid (∀ ty, (Builtin.append_ #[36, 36] ty #[.slice va n vc, .slice (some ⟨w3.heap.size, 0, none⟩) 1 1]).run Try.prog (w3.alloc (.cells #[.int .i64 id] 3)) = .ok (.slice va2 (n + 1) vc2) w4) := hrun
          clear c2 h3 o3 r3 hrun hS hKp k0 k1
          go_wp2_with (at_builtin; refine Lib.wpList_append_run _ rfl _ _ _ _ rfl _ _ rfl rfl _ _ (HRN.out _) ?_)
          go_roundg (len0 - i1)
          case measure => have := HK.out; have := HI1.out; have := Hlt.out; omega
          case rel => exact ⟨i1, s2, va2, _, n + 1, vc2, rfl, rfl, by have := HI1.out; have := Hlt.out; omega, Nat.le_refl _, H4.out, R4.out, HL.out⟩
      have n0 : (x.op == 0) = false := by simpa using o0
      by_cases o1 : x.op = 1
      · have c2 := hide (touch_l I.out.2.2.1 (i := x.id) hxf.2)
        have HL : Hid ((tchS x.id s).all.length ≤ i1 ∧ xs.Perm (ids (tchS x.id s).all) ∧ n = xs.length) := ⟨by have := tch_len x.id s; omega, by rw [tch_ids]; exact HP.out.2.1, HP.out.2.2⟩
        rw [o1] at k0
        clear I hx hxf hc hi1 hlt hal o1 n0 o0 hpl hnx hbl
        generalize tchS x.id s = s2 at *
        generalize s.has x.id = fr at *
        generalize x.id = id at *
        go_wp2_with fail
        refine c2.out.mono ?_
        rintro e w3 ⟨rfl, h3, o3⟩
        have H3 := hide h3
        have R3 := hide (HR.out.off o3 (by decide) (by decide))
        clear c2 h3 o3
        go_wp2
        go_roundg (len0 - i1)
        case measure => have := HK.out; have := HI1.out; have := Hlt.out; omega
        case rel => exact ⟨i1, s2, va, _, n, vc, rfl, rfl, by have := HI1.out; have := Hlt.out; omega, Nat.le_refl _, H3.out, R3.out, HL.out⟩
      have n1 : (x.op == 1) = false := by simpa using o1
      by_cases o2 : x.op = 2
      · have c2 := hide (remove_l I.out.2.2.1 (i := x.id) hxf.2 (by omega))
        have hal2 : (rmvS x.id s).all.length ≤ i1 := by have := rmv_le x.id s; omega
        rw [o2] at k0
        cases hh : s.has x.id with
        | false =>
          rw [hh] at c2
          have HL : Hid ((rmvS x.id s).all.length ≤ i1 ∧ xs.Perm (ids (rmvS x.id s).all) ∧ n = xs.length) := ⟨hal2, by rw [rmv_same hh]; exact HP.out.2.1, HP.out.2.2⟩
          clear I hx hxf hc hi1 hlt hal o2 n0 o0 n1 o1 hh hal2 hpl hnx hbl
          generalize rmvS x.id s = s2 at *
          generalize x.id = id at *
          go_wp2_with fail
          refine c2.out.mono ?_
          rintro e w3 ⟨rfl, h3, o3⟩
          have H3 := hide h3
          have R3 := hide (HR.out.off o3 (by decide) (by decide))
          clear c2 h3 o3
          go_wp2
          go_roundg (len0 - i1)
          case measure => have := HK.out; have := HI1.out; have := Hlt.out; omega
          case rel => exact ⟨i1, s2, va, _, n, vc, rfl, rfl, by have := HI1.out; have := Hlt.out; omega, Nat.le_refl _, H3.out, R3.out, HL.out⟩
        | true =>
          rw [hh] at c2
          have HL : Hid ((rmvS x.id s).all.length ≤ i1 ∧ (outL x.id xs).Perm (ids (rmvS x.id s).all) ∧ (outL x.id xs).length = (outL x.id xs).length) := ⟨hal2, one_rmv HP.out.2.1, rfl⟩
          have hn9 : xs.length ≤ 100000 := by omega
          have CO : Hid (∀ w3, SL w f (rmvS x.id s) w3 → OffT wr w3 → Calls Try.prog 24 #[.slice va n vc, .int .i64 x.id] w3 fun e w4 => ∃ va2 vc2, e = .returned (.slice va2 (outL x.id xs).length vc2) ∧ SL w f (rmvS x.id s) w4 ∧ GR intK w.heap.size (.slice va2 (outL x.id xs).length vc2) (outL x.id xs) w4) := fun w3 h3 o3 => by
            have r3 := HR.out.off o3 (by decide) (by decide)
            have := out_any va vc xs x.id w3 r3.rd (row_lt1 r3) hn9
            rw [← hnx] at this
            refine this.mono ?_
            rintro e w4 ⟨va2, vc2, rfl, g4, b4⟩
            exact ⟨va2, vc2, rfl, h3.on b4, g4.base h3.bel.size⟩
          clear I hx hxf hc hi1 hlt hal o2 n0 o0 n1 o1 hh hal2 hpl hnx hbl hn9
          generalize rmvS x.id s = s2 at *
          obtain ⟨ys, hys⟩ : ∃ ys, ys = outL x.id xs := ⟨_, rfl⟩
          rw [← hys] at CO HL
          clear hys
          generalize x.id = id at *
          obtain ⟨m, hm⟩ : ∃ m, m = ys.length := ⟨_, rfl⟩
          rw [← hm] at CO
          have HL2 : Hid (s2.all.length ≤ i1 ∧ ys.Perm (ids s2.all) ∧ m = ys.length) := ⟨HL.out.1, HL.out.2.1, hm⟩
          clear hm HL
          go_wp2_with fail
          refine c2.out.mono ?_
          rintro e w3 ⟨rfl, h3, o3⟩
          have c3 := hide (CO.out w3 h3 o3)
          have kk := FF.out w3 h3.bel
          clear c2 h3 o3 CO k0 k1
          go_wp2_with fail
          refine c3.out.mono ?_
          rintro e w4 ⟨va2, vc2, rfl, h4, r4⟩
          have H4 := hide h4
          have R4 := hide r4
          clear c3 h4 r4
          go_wp2
          go_roundg (len0 - i1)
          case measure => have := HK.out; have := HI1.out; have := Hlt.out; omega
          case rel => exact ⟨i1, s2, va2, _, m, vc2, rfl, rfl, by have := HI1.out; have := Hlt.out; omega, Nat.le_refl _, H4.out, R4.out, HL2.out⟩
      have n2 : (x.op == 2) = false := by simpa using o2
      have H3 := hide I.out.2.2.1
      have HL : Hid (s.all.length ≤ i1 ∧ xs.Perm (ids s.all) ∧ n = xs.length) := ⟨by omega, HP.out.2.1, HP.out.2.2⟩
      clear I hx hxf hc hi1 hlt hal hpl hnx hbl
      generalize x.op = xo at *
      generalize x.id = id at *
      go_wp2
      go_roundg (len0 - i1)
      case measure => have := HK.out; have := HI1.out; have := Hlt.out; omega
      case rel => exact ⟨i1, s, va, _, n, vc, rfl, rfl, by have := HI1.out; have := Hlt.out; omega, Nat.le_refl _, H3.out, HR.out, HL.out⟩
    · have hlt2 : ¬ (i : Int) < (len0 : Int) := by omega
      have hpl := perm_len I.out.2.2.2.2.2.1
      have c3 := hide (len_l I.out.2.2.1)
      have hn : s.all.length = n := by rw [I.out.2.2.2.2.2.2]; exact hpl.symm
      rw [hn] at c3
      have HT : Hid (SL w f s wr ∧ GR intK w.heap.size (.slice va n vc) xs wr ∧ xs.Perm (ids s.all) ∧ n = xs.length ∧ n ≤ 150) := ⟨I.out.2.2.1, I.out.2.2.2.1, I.out.2.2.2.2.2.1, I.out.2.2.2.2.2.2, by have := I.out.1; have := I.out.2.2.2.2.1; omega⟩
      have hn9 : n ≤ 150 := HT.out.2.2.2.2
      clear I hlt hpl hn
      go_wp2_with fail
      refine c3.out.mono ?_
      rintro e wx ⟨rfl, hx⟩
      obtain rfl : wr = wx := hx.symm
      clear hx c3
      obtain ⟨wo, hwo⟩ : ∃ wo, wo = wr := ⟨_, rfl⟩
      subst hwo
      go_wp2
      go_loopg [4, 6, 7, 8] n (fun kx s4 s6 s7 s8 wr => ∃ (s : St) (va : Option Addr) (xs : List Int) (n vc : Nat), s4 = .slice va n vc ∧ Hid (SL w f s wr ∧ GR intK w.heap.size (.slice va n vc) xs wr ∧ xs.Perm (ids s.all) ∧ n = xs.length ∧ n ≤ 150 ∧ n ≤ kx))
      case atStart => exact ⟨s, va, xs, n, vc, rfl, HT.out.1, HT.out.2.1, HT.out.2.2.1, HT.out.2.2.2.1, HT.out.2.2.2.2, Nat.le_refl _⟩
      case round =>
        clear HT hn9
        obtain ⟨s, va, xs, n, vc, rfl, I⟩ := hrel
        have hpl := perm_len I.out.2.2.1
        have hnx := I.out.2.2.2.1
        have hn9 : n ≤ 150 := I.out.2.2.2.2.1
        by_cases hz : n = 0
        · subst hz
          have hev : evi s = none := evi_none.2 (by omega)
          have c4 := hide (evict_l I.out.1 (by omega))
          rw [hev] at c4
          simp only [Option.getD_none, Option.isSome_none] at c4
          clear I hpl hnx hn9 hev
          generalize eviS s = s2 at *
          go_wp2_with fail
          refine c4.out.mono ?_
          rintro e w5 ⟨rfl, h5, _⟩
          have BB := hide h5.bel
          clear c4 h5
          go_wp2
          go_ret
          exact ⟨rfl, BB.out⟩
        · have hz2 : (0 : Int) < (n : Int) := by omega
          have hev : ∃ j, evi s = some j := by
            cases he : evi s with
            | some j => exact ⟨j, rfl⟩
            | none => have := evi_none.1 he; omega
          obtain ⟨j, hj⟩ := hev
          have c4 := hide (evict_l I.out.1 (by omega))
          rw [hj] at c4
          simp only [Option.getD_some, Option.isSome_some] at c4
          have hp2 := one_evi hj I.out.2.2.1
          have hl2 := perm_len hp2
          have hl3 := eviS_len I.out.1.nd hj
          obtain ⟨m, hm⟩ : ∃ m, m = (outL j xs).length := ⟨_, rfl⟩
          have hmn : m + 1 = n := by omega
          have CO : Hid (∀ w3, SL w f (eviS s) w3 → OffT wr w3 → Calls Try.prog 24 #[.slice va n vc, .int .i64 j] w3 fun e w4 => ∃ va2 vc2, e = .returned (.slice va2 m vc2) ∧ SL w f (eviS s) w4 ∧ GR intK w.heap.size (.slice va2 m vc2) (outL j xs) w4) := fun w3 h3 o3 => by
            have r3 := I.out.2.1.off o3 (by decide) (by decide)
            have := out_any va vc xs j w3 r3.rd (row_lt1 r3) (by omega)
            rw [← hnx] at this
            refine this.mono ?_
            rintro e w4 ⟨va2, vc2, rfl, g4, b4⟩
            rw [← hm] at g4 ⊢
            exact ⟨va2, vc2, rfl, h3.on b4, g4.base h3.bel.size⟩
          have CN : Hid (∀ w4, SL w f (eviS s) w4 → Calls Try.prog 14 #[.pointer (some ⟨f, 0, none⟩)] w4 fun e W' => e = .returned (.int .i64 (m : Int)) ∧ W' = w4) := fun w4 h4 => by
            have := len_l h4
            rw [show (eviS s).all.length = m by omega] at this
            exact this
          have HP2 : Hid ((outL j xs).Perm (ids (eviS s).all) ∧ m = (outL j xs).length ∧ m ≤ 150) := ⟨hp2, hm, by omega⟩
          have ed : (n : Int) - 1 = (m : Int) := by omega
          have HK : Hid (n ≤ _) := I.out.2.2.2.2.2
          have Hmn := hide hmn
          clear I hpl hnx hj hp2 hl2 hl3 hm hmn hz
          generalize eviS s = s2 at *
          generalize outL j xs = ys at *
          go_wp2_with fail
          refine c4.out.mono ?_
          rintro e w3 ⟨rfl, h3, o3⟩
          have c5 := hide (CO.out w3 h3 o3)
          clear c4 h3 o3 CO
          go_wp2_with fail
          refine c5.out.mono ?_
          rintro e w4 ⟨va2, vc2, rfl, h4, r4⟩
          have c6 := hide (CN.out w4 h4)
          have H4 := hide h4
          have R4 := hide r4
          clear c5 h4 r4 CN
          go_wp2_with fail
          refine c6.out.mono ?_
          rintro e wx ⟨rfl, hx⟩
          obtain rfl : w4 = wx := hx.symm
          clear hx c6
          go_wp2
          go_roundg m
          case measure => have := HK.out; have := Hmn.out; omega
          case rel => exact ⟨s2, va2, ys, m, vc2, rfl, H4.out, R4.out, HP2.out.1, HP2.out.2.1, HP2.out.2.2, Nat.le_refl _⟩
end Go.Proofs.Ytgjgdhjnkbbceaa.segOnce
