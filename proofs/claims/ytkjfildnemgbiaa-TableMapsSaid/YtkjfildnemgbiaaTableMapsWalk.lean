/-
  TableMaps answers true for every list of calls: whatever is moved when, it is the map.
-/
import Derived.WalkKit
import Derived.Below
import Derived.Test.YtkjfildnemgbiaaRem
namespace Go.Proofs.Ytkjfildnemgbiaa.tableMaps
open Go.RowKit Go.Deep Go.Shelf Math Tab Go.Sort
set_option linter.unusedVariables false
set_option linter.unusedSimpArgs false

set_option maxRecDepth 8000 in
set_option maxHeartbeats 40000000 in
theorem walk (a0 : Option Addr) (len0 cap0 : Nat) (z0 : List ActI) (w : World) (hw0 : ActsAt w a0 len0 z0) :
    Calls Try.prog 5 #[.slice a0 len0 cap0] w fun e w' => e = .returned (.bool true) ∧ Below w.heap.size w w' := by
  have c0 := hide (awake_any w)
  have HW := hide hw0
  by_cases hlen : 150 < len0
  · have hl : (150 : Int) < (len0 : Int) := by omega
    clear hw0 hlen
    go_enter Try.func5, Try.ntmps5
    go_wp2_with fail
    refine c0.out.mono ?_
    rintro e w1 ⟨rfl, B1⟩
    have B := hide B1
    clear c0 B1
    go_wp2
    go_ret
    exact ⟨rfl, B.out⟩
  have hl : ¬ (150 : Int) < (len0 : Int) := by omega
  have hl2 : len0 ≤ 150 := by omega
  clear hw0 hlen
  go_enter Try.func5, Try.ntmps5
  go_wp2_with fail
  refine c0.out.mono ?_
  rintro e w1 ⟨rfl, B1⟩
  have c1 : Hid (Calls Try.prog 10 #[.int .i64 1] w1 fun e W' => ∃ f, e = .returned (.tuple #[.pointer (some ⟨f, 0, none⟩), .int .i64 0]) ∧ TL w f (Tb.mk0 1) W') := new_l B1 1 rfl
  clear c0 B1
  go_wp2_with fail
  refine c1.out.mono ?_
  rintro e w2 ⟨f, rfl, h2⟩
  have H2 := hide h2
  clear c1 h2
  go_wp2
  go_loopg [5] len0 (fun kx s5 wr => ∃ (i : Nat) (t : Tb), s5 = .int .i64 i ∧ Hid (i ≤ len0 ∧ len0 - i ≤ kx ∧ TL w f t wr ∧ t.all.length ≤ i ∧ t.all.Perm (rem (z0.take i))))
  case atStart => exact ⟨0, _, rfl, Nat.zero_le _, Nat.le_refl _, H2.out, by rw [mk0_all]; simp, by rw [mk0_all]; exact List.Perm.refl _⟩
  case round =>
    obtain ⟨i, t, rfl, I⟩ := hrel
    by_cases hlt : i < len0
    · have hlt2 : (i : Int) < (len0 : Int) := by omega
      obtain ⟨b, o, x, rfl, hx, hxl, hcc⟩ := HW.out.at2 i hlt
      have hc := hcc wr I.out.2.2.1.bel
      have FF : Hid (∀ W, Below w.heap.size w W → W.cell? ⟨b, o + i * 3 + 1, none⟩ = some (.int .i64 x.v) ∧ W.cell? ⟨b, o + i * 3 + 2, none⟩ = some (.string (txt x.k))) := fun W hW => ⟨(hcc W hW).c1, (hcc W hW).c2⟩
      clear hcc
      have hg := I.out.2.2.1.good
      have HS : Hid ((stepT t x).all.length ≤ i + 1 ∧ (stepT t x).all.Perm (rem (z0.take (i + 1)))) := by
        refine ⟨by have := stepT_len hg x; have := I.out.2.2.2.1; omega, ?_⟩
        obtain ⟨h1, h2⟩ := List.getElem?_eq_some_iff.1 hx
        rw [List.take_succ_eq_append_getElem h1, h2]
        exact stepT_perm hg x I.out.2.2.2.2
      have HK : Hid (len0 - i ≤ _) := I.out.2.1
      have hall : t.all.length ≤ 100000 := by have := I.out.2.2.2.1; omega
      have k0 := hc.c0
      have k1 := hc.c1
      have k2 := hc.c2
      by_cases hop : x.op = 1
      · have c2 := hide (delete_l I.out.2.2.1 x.k hxl.2.2 hall)
        have es : stepT t x = t.delT hsh x.k := by unfold stepT; rw [if_pos hop]
        rw [es] at HS
        rw [hop] at k0
        clear I hx hxl es hg hop hc k1 hall
        generalize t.delT hsh x.k = t2 at *
        generalize (fnd x.k t.all).isSome = fr at *
        generalize txt x.k = tx at *
        go_wp2_with fail
        refine c2.out.mono ?_
        rintro e w3 ⟨rfl, h3⟩
        have H3 := hide h3
        clear c2 h3
        go_wp2
        go_roundg (len0 - (i + 1))
        case measure => have := HK.out; omega
        case rel => exact ⟨i + 1, t2, rfl, by omega, Nat.le_refl _, H3.out, HS.out⟩
      · have es : stepT t x = t.setT hsh x.k x.v := by unfold stepT; rw [if_neg hop]
        rw [es] at HS
        have c2 : Hid (∀ q, Calls Try.prog 15 #[.pointer (some ⟨f, 0, none⟩), .string (txt x.k), .int .i64 x.v] (wr.drewN q) fun e W' => e = .returned (.bool (t.isNew hsh x.k)) ∧ TL w f (t.setT hsh x.k x.v) W') := fun q => set_l (I.out.2.2.1.drewN q) x.k hxl.2.2 x.v hall
        have hop1 : (x.op == 1) = false := by simpa using hop
        clear I hx hxl es hg hc hall
        generalize t.setT hsh x.k x.v = t2 at *
        generalize t.isNew hsh x.k = fr at *
        generalize txt x.k = tx at *
        generalize x.op = xo at *
        generalize x.v = xv at *
        go_wp2
        go_region_held (fun W => W.cell? ⟨b, o + i * 3 + 1, none⟩ = some (.int .i64 xv) ∧ W.cell? ⟨b, o + i * 3 + 2, none⟩ = some (.string tx))
          (first | exact ⟨k1, k2⟩ | exact FF.out _ h3.bel)
          (first | (go_at_call 15; refine (c2.out _).mono ?_; rintro e w3 ⟨rfl, h3⟩))
        have H3 := hide h3
        clear c2 h3
        go_wp2
        go_roundg (len0 - (i + 1))
        case measure => have := HK.out; omega
        case rel => exact ⟨i + 1, t2, rfl, by omega, Nat.le_refl _, H3.out, HS.out⟩
    · have hlt2 : ¬ (i : Int) < (len0 : Int) := by omega
      have HT : Hid (TL w f t wr ∧ t.all.length ≤ 150 ∧ t.all.Perm (rem z0)) := by
        have h1 := I.out.2.2
        have h2 := I.out.1
        rw [show i = z0.length by rw [← HW.out.len]; omega, List.take_length] at h1
        exact ⟨h1.1, by rw [← HW.out.len] at h1; omega, h1.2.2⟩
      have HG : Hid (∀ x, fnd x t.all = fnd x (rem z0)) := fun x => fnd_perm HT.out.2.2 HT.out.1.good.nd
      have HLen := hide HT.out.2.2.length_eq
      clear I hlt
      obtain ⟨wo, hwo⟩ : ∃ wo, wo = wr := ⟨_, rfl⟩
      subst hwo
      go_wp2
      go_loopg [6, 7] len0 (fun kx s6 s7 wr => ∃ (i n : Nat), s6 = .int .i64 n ∧ s7 = .int .i64 i ∧ Hid (i ≤ len0 ∧ len0 - i ≤ kx ∧ TL w f t wr ∧ n + (rem (z0.drop i)).length = (rem z0).length))
      case atStart => exact ⟨0, 0, rfl, rfl, Nat.zero_le _, Nat.le_refl _, HT.out.1, by simp⟩
      case round =>
        obtain ⟨i, n, rfl, rfl, I⟩ := hrel
        have hn9 : n ≤ 150 := by have h1 := I.out.2.2.2; have h2 := HT.out.2.1; have h3 := HLen.out; omega
        by_cases hlt : i < len0
        · have hlt2 : (i : Int) < (len0 : Int) := by omega
          obtain ⟨b, o, x, rfl, hx, hxl, hcc⟩ := HW.out.at2 i hlt
          have FX : Hid (∀ W, TL w f t W → W.cell? ⟨b, o + i * 3 + 2, none⟩ = some (.string (txt x.k))) := fun W hW => (hcc W hW.bel).c2
          have k2 := FX.out wr I.out.2.2.1
          have cG := hide (get_l I.out.2.2.1 x.k hxl.2.2)
          rw [HG.out x.k] at cG
          have HX := hide hx
          have HI : Hid (len0 - i ≤ _ ∧ n + (rem (z0.drop i)).length = (rem z0).length) := ⟨I.out.2.1, I.out.2.2.2⟩
          clear I hcc hx
          obtain ⟨wp, hwp⟩ : ∃ wp, wp = wr := ⟨_, rfl⟩
          subst hwp
          obtain ⟨g0, hg0⟩ : ∃ g0, g0 = fnd x.k (rem z0) := ⟨_, rfl⟩
          rw [← hg0] at cG
          have HG0 := hide hg0
          clear hg0
          obtain ⟨tx, htx⟩ : ∃ tx, tx = txt x.k := ⟨_, rfl⟩
          rw [← htx] at cG k2
          have HTX := hide htx
          clear htx
          go_wp2_with fail
          refine cG.out.mono ?_
          rintro e w4 ⟨rfl, h4⟩
          have H4 := hide h4
          clear cG h4 k2
          go_wp2
          go_loopg [10, 11] len0 (fun kx s10 s11 wr => ∃ (last k : Nat), s10 = .int .i64 last ∧ s11 = .int .i64 k ∧ Hid (i < k ∧ k ≤ len0 ∧ len0 - k ≤ kx ∧ TL w f t wr ∧ i ≤ last ∧ last < k ∧ (∃ y, z0[last]? = some y ∧ y.k = x.k) ∧ ∀ j y, last < j → j < k → z0[j]? = some y → y.k ≠ x.k))
          case atStart => exact ⟨i, i + 1, rfl, rfl, by omega, by omega, by omega, H4.out, Nat.le_refl _, by omega, ⟨x, HX.out, rfl⟩, fun j y h1 h2 => by omega⟩
          case round =>
            obtain ⟨last, k, rfl, rfl, J⟩ := hrel
            by_cases hk : k < len0
            · have hk2 : (k : Int) < (len0 : Int) := by omega
              obtain ⟨b', o', y, hbo, hy, hyl, hcy⟩ := HW.out.at2 k hk
              obtain ⟨rfl, rfl⟩ : b = b' ∧ o = o' := by simpa using hbo
              have k1 := (hcy wr J.out.2.2.2.1.bel).c2
              have k2 := FX.out wr J.out.2.2.2.1
              rw [← HTX.out] at k2
              have HY := hide hy
              have he := txt_eq y.k x.k
              rw [← HTX.out] at he
              have HJ := J
              clear J hbo hcy hy hyl
              by_cases hxy : y.k = x.k
              · rw [decide_eq_true hxy] at he
                have HXY := hide hxy
                clear hxy
                generalize txt y.k = ty at *
                go_wp2
                go_quiet (fail)
                go_wp2
                go_roundg (len0 - (k + 1))
                case measure => have := HJ.out.2.2.1; omega
                case rel =>
                  obtain ⟨j1, j2, j3, j4, j5, j6, j7, j8⟩ := HJ.out
                  exact ⟨k, k + 1, rfl, rfl, by omega, by omega, Nat.le_refl _, j4.drewN _, by omega, by omega, ⟨y, HY.out, HXY.out⟩, fun j y h1 h2 => by omega⟩
              · rw [decide_eq_false hxy] at he
                have HXY := hide hxy
                clear hxy
                generalize txt y.k = ty at *
                go_wp2
                go_quiet (fail)
                go_wp2
                go_roundg (len0 - (k + 1))
                case measure => have := HJ.out.2.2.1; omega
                case rel =>
                  obtain ⟨j1, j2, j3, j4, j5, j6, j7, j8⟩ := HJ.out
                  refine ⟨last, k + 1, rfl, rfl, by omega, by omega, Nat.le_refl _, j4.drewN _, j5, by omega, j7, fun j y' h1 h2 h3 => ?_⟩
                  rcases Nat.lt_or_ge j k with h4 | h4
                  · exact j8 j y' h1 h4 h3
                  · obtain rfl : j = k := by omega
                    rw [HY.out] at h3
                    rw [← Option.some.inj h3]
                    exact HXY.out
            · have hk2 : ¬ (k : Int) < (len0 : Int) := by omega
              obtain ⟨j1, j2, j3, j4, j5, j6, ⟨y, hy, hyk⟩, j8⟩ := J.out
              obtain ⟨b', o', y', hbo, hy', hyl, hcy⟩ := HW.out.at2 last (by omega)
              obtain ⟨rfl, rfl⟩ : b = b' ∧ o = o' := by simpa using hbo
              obtain rfl : y = y' := by rw [hy] at hy'; exact Option.some.inj hy'
              have hfr : fnd x.k (rem z0) = if y.op = 1 then none else some y.v := by
                rw [← hyk]
                refine fnd_rem z0 last y hy (fun j z h1 h2 => ?_)
                rw [hyk]
                refine j8 j z h1 ?_ h2
                have := (List.getElem?_eq_some_iff.1 h2).1
                have := HW.out.len
                omega
              have k0 := (hcy wr j4.bel).c0
              have k1 := (hcy wr j4.bel).c1
              have hst := rem_step HX.out
              have hmem : (x.k ∈ (z0.drop (i + 1)).map ActI.k) ↔ last ≠ i := by
                constructor
                · intro hm he
                  subst he
                  obtain ⟨z, hz, hzk⟩ := List.mem_map.1 hm
                  obtain ⟨j, hj⟩ := List.getElem?_of_mem hz
                  rw [List.getElem?_drop] at hj
                  have := (List.getElem?_eq_some_iff.1 hj).1
                  have := HW.out.len
                  exact j8 _ z (by omega) (by omega) hj hzk
                · intro hne
                  refine List.mem_map.2 ⟨y, ?_, hyk⟩
                  refine List.mem_of_getElem? (i := last - (i + 1)) ?_
                  rw [List.getElem?_drop, show i + 1 + (last - (i + 1)) = last by omega]
                  exact hy
              have H4' := hide j4
              have hla : last < len0 := by omega
              rw [hfr] at HG0
              by_cases hop : y.op = 1
              · rw [if_pos hop] at HG0
                obtain rfl : g0 = none := HG0.out
                rw [hop] at k0
                have HN : Hid (n + (rem (z0.drop (i + 1))).length = (rem z0).length) := by
                  have h1 := HI.out.2
                  have h0 : x.k ∈ (z0.drop (i + 1)).map ActI.k ∨ x.op = 1 := by
                    by_cases he : last = i
                    · right
                      subst he
                      rw [HX.out] at hy
                      rw [Option.some.inj hy]; exact hop
                    · exact .inl (hmem.2 he)
                  rw [hst, if_pos h0] at h1
                  exact h1
                clear hst hmem hfr j1 j2 j3 j4 j5 j8 hy hy' hyk hyl hcy hbo hop J
                simp only [Option.getD_none, Option.isSome_none]
                by_cases he : last = i
                · subst he
                  have e1 : ((last : Int) == (last : Int)) = true := by simp
                  go_wp2
                  go_roundg (len0 - (last + 1))
                  case measure => have := HI.out.1; omega
                  case rel => exact ⟨last + 1, n, rfl, rfl, by omega, Nat.le_refl _, H4'.out, HN.out⟩
                · have e1 : ((last : Int) == (i : Int)) = false := by simp; omega
                  have e2 : ¬ (last : Int) = (i : Int) := by omega
                  go_wp2
                  go_roundg (len0 - (i + 1))
                  case measure => have := HI.out.1; omega
                  case rel => exact ⟨i + 1, n, rfl, rfl, by omega, Nat.le_refl _, H4'.out, HN.out⟩
              · rw [if_neg hop] at HG0
                obtain rfl : g0 = some y.v := HG0.out
                have hop1 : (y.op == 1) = false := by simpa using hop
                have hop2 : (y.op != 1) = true := by simpa using hop
                have HN : Hid ((if last = i then n + 1 else n) + (rem (z0.drop (i + 1))).length = (rem z0).length) := by
                  have h1 := HI.out.2
                  unfold Hid
                  by_cases he : last = i
                  · have h0 : ¬ (x.k ∈ (z0.drop (i + 1)).map ActI.k ∨ x.op = 1) := by
                      intro h
                      rcases h with h | h
                      · exact hmem.1 h he
                      · subst he
                        rw [HX.out] at hy
                        rw [Option.some.inj hy] at h
                        exact hop h
                    rw [hst, if_neg h0] at h1
                    rw [if_pos he]; omega
                  · rw [hst, if_pos (.inl (hmem.2 he))] at h1
                    rw [if_neg he]; omega
                clear hst hmem hfr j1 j2 j3 j4 j5 j8 hy hy' hyk hyl hcy hbo J
                simp only [Option.getD_some, Option.isSome_some]
                generalize y.v = yv at *
                generalize y.op = yo at *
                by_cases he : last = i
                · subst he
                  rw [if_pos rfl] at HN
                  have e1 : ((last : Int) == (last : Int)) = true := by simp
                  go_wp2
                  go_roundg (len0 - (last + 1))
                  case measure => have := HI.out.1; omega
                  case rel => exact ⟨last + 1, n + 1, rfl, rfl, by omega, Nat.le_refl _, H4'.out, HN.out⟩
                · rw [if_neg he] at HN
                  have e1 : ((last : Int) == (i : Int)) = false := by simp; omega
                  have e2 : ¬ (last : Int) = (i : Int) := by omega
                  go_wp2
                  go_roundg (len0 - (i + 1))
                  case measure => have := HI.out.1; omega
                  case rel => exact ⟨i + 1, n, rfl, rfl, by omega, Nat.le_refl _, H4'.out, HN.out⟩
        · have hlt2 : ¬ (i : Int) < (len0 : Int) := by omega
          have hnn : n = t.all.length := by
            have h1 := I.out.2.2.2
            rw [List.drop_of_length_le (by rw [← HW.out.len]; omega)] at h1
            have := HLen.out
            simp only [rem, List.length_nil] at h1
            omega
          have cL := hide (len_l I.out.2.2.1)
          have cK := hide (keys_l I.out.2.2.1 (by have := HT.out.2.1; omega))
          rw [← hnn] at cL cK
          clear hnn I HG
          go_wp2_with fail
          refine cL.out.mono ?_
          rintro e wx ⟨rfl, hx⟩
          obtain rfl : wr = wx := hx.symm
          clear hx cL
          go_wp2_with fail
          refine cK.out.mono ?_
          rintro e w6 ⟨g, cap, rfl, _, h6⟩
          have HB := hide h6.bel
          clear cK h6
          go_wp2
          go_ret
          exact ⟨rfl, HB.out⟩
end Go.Proofs.Ytkjfildnemgbiaa.tableMaps
