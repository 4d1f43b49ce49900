/-
  BucketKeeps holds: what was put last, and not left out since, is told.
-/
import Derived.WalkKit
import Derived.Below
import Derived.Test.YtbccnfbombgdmaaLaw8
import Derived.Test.YtbccnfbombgdmaaRItems
import Derived.Test.YtbccnfbombgdmaaRSmall
namespace Go.Proofs.Ytbccnfbombgdmaa.bucketKeeps
open Go.RowKit Go.Deep Math
set_option linter.unusedVariables false
set_option linter.unusedSimpArgs false

theorem refGood_it (x : It) (w : World) : Calls Try.prog 13 #[.agg #[.string (txt x.key), .string (txt x.value), .int .u32 x.flags, .int .i64 x.exp, .int .u64 x.ver]] w fun r w' => r = .returned (.bool x.good) ∧ Below w.heap.size w w' := by
  have := refGood_any (txt x.key) (txt x.value) x.flags x.exp x.ver w
  rw [← It.good_mayBe] at this
  exact this
theorem refSize_it (x : It) (hk : x.key.length ≤ 140737488351232) (hv : x.value.length ≤ 140737488351232) (w : World) : Calls Try.prog 14 #[.agg #[.string (txt x.key), .string (txt x.value), .int .u32 x.flags, .int .i64 x.exp, .int .u64 x.ver]] w fun r w' => r = .returned (.int .i64 (x.size : Nat)) ∧ Below w.heap.size w w' := by
  have := refSize_any (txt x.key) (txt x.value) x.flags x.exp x.ver (by rw [txt_size]; exact hk) (by rw [txt_size]; exact hv) w
  rw [txt_size, txt_size] at this
  exact this
/-- The store, and the law's own list beside it. -/
def KS (w : World) (d s n : Nat) (W : World) (v : Value) (nn : Nat) : Prop := ∃ S f bs G cur, Bu w W d s 0 n S f bs G ∧ Inv n f cur ∧ nn = cur.length ∧ Row W w.heap.size v cur
theorem cur_le {w W : World} {d s n : Nat} {S : Dv} {f : Nat → List It} {bs : List (List Bool)} {G : List Nat} {cur : List It} (h : Bu w W d s 0 n S f bs G) (hi : Inv n f cur) (hn : n ≤ 5) : cur.length ≤ 60 ∧ Oks cur := by
  have h1 := h.oks
  have h2 := total_len (allF n f)
  have h3 := hi.perm.length_eq
  refine ⟨?_, fun x hx => h1.1 x (hi.perm.mem_iff.1 hx)⟩
  have : total (allF n f) ≤ 5 * 384 := Nat.le_trans h1.2 (Nat.mul_le_mul_right _ hn)
  omega
set_option maxRecDepth 8000 in
set_option maxHeartbeats 40000000 in
theorem walk (a0 : Int) (a1 : Option Addr) (len1 cap1 : Nat) (z1 : List It) (w : World) (hw0 : (Lit.int .i64 a0).wf = true) (hw1 : RawAt w a1 len1 z1) :
    Calls Try.prog 4 #[.int .i64 a0, .slice a1 len1 cap1] w fun e w' => e = .returned (.bool true) ∧ Below w.heap.size w w' := by
  have ca := hide (awake_any w)
  have HW := hide hw1
  have HLEN := hide hw1.len
  clear hw0 hw1
  by_cases hpre : a0 < 1 ∨ 5 < a0 ∨ 60 < len1
  · go_enter Try.func4, Try.ntmps4
    by_cases e1 : a0 < 1
    · have e1' : (a0 < 1) = True := eq_true e1
      clear e1 hpre
      go_wp2_with fail
      refine ca.out.mono ?_
      rintro r w1 ⟨rfl, h1⟩
      have B1 := hide h1
      clear h1 ca
      go_wp2
      go_ret
      exact ⟨rfl, B1.out⟩
    · have e1' : (a0 < 1) = False := eq_false e1
      by_cases e2 : 5 < a0
      · have e2' : (5 < a0) = True := eq_true e2
        clear e1 e2 hpre
        go_wp2_with fail
        refine ca.out.mono ?_
        rintro r w1 ⟨rfl, h1⟩
        have B1 := hide h1
        clear h1 ca
        go_wp2
        go_ret
        exact ⟨rfl, B1.out⟩
      · have e2' : (5 < a0) = False := eq_false e2
        have e3' : ((60 : Int) < (len1 : Int)) = True := eq_true (by omega)
        clear e1 e2 hpre
        go_wp2_with fail
        refine ca.out.mono ?_
        rintro r w1 ⟨rfl, h1⟩
        have B1 := hide h1
        clear h1 ca
        go_wp2
        go_ret
        exact ⟨rfl, B1.out⟩
  obtain ⟨n, rfl⟩ : ∃ n : Nat, a0 = (n : Int) := ⟨a0.toNat, by omega⟩
  have e1' : ((n : Int) < 1) = False := eq_false (by omega)
  have e2' : ((5 : Int) < (n : Int)) = False := eq_false (by omega)
  have e3' : ((60 : Int) < (len1 : Int)) = False := eq_false (by omega)
  have HN : Hid (1 ≤ n ∧ n ≤ 5 ∧ len1 ≤ 60) := ⟨by omega, by omega, by omega⟩
  clear hpre
  go_enter Try.func4, Try.ntmps4
  go_wp2_with fail
  refine ca.out.mono ?_
  rintro r w1 ⟨rfl, h1⟩
  have B1 := hide h1
  clear h1 ca
  have cN := hide (new_law B1.out 5 (by omega) (by omega))
  go_wp2_with fail
  refine cN.out.mono ?_
  rintro e w2 ⟨d, F2, rfl, hl2, _⟩
  have L2 := hide hl2
  clear hl2 cN e1' e2' e3' B1
  have cO := hide (bu_open L2.out (Sure.fresh 5) 0 n HN.out.1 (by have := HN.out.2.1; omega) (by show 0 + n ≤ 5; have := HN.out.2.1; omega))
  go_wp2_with fail
  refine cO.out.mono ?_
  rintro e w3 ⟨s, S3, G3, rfl, hb3, _, _⟩
  obtain ⟨f3, hf3⟩ : ∃ f3, f3 = (fun k => (Dv.fresh 5).its (0 + k)) := ⟨_, rfl⟩
  obtain ⟨t3, ht3⟩ : ∃ t3, t3 = ((List.range n).map (fun k => toldB ((Dv.fresh 5).its (0 + k)))) := ⟨_, rfl⟩
  rw [← hf3, ← ht3] at hb3
  have hf0 : ∀ k, k < n → f3 k = [] := fun k hk => by
    rw [hf3]
    have hn5 := HN.out.2.1
    have hk5 : k < 5 := by omega
    match k, hk5 with
    | 0, _ => rfl
    | 1, _ => rfl
    | 2, _ => rfl
    | 3, _ => rfl
    | 4, _ => rfl
  have hall : allF n f3 = [] := by
    unfold allF
    rw [List.flatMap_eq_nil_iff]
    exact fun k hk => hf0 k (List.mem_range.1 hk)
  have U3 : Hid (KS w d s n w3 (.slice none 0 0) 0) := ⟨S3, f3, t3, G3, [], hb3, ⟨(fun k hk x hx => (by rw [hf0 k hk] at hx; cases hx)), (by rw [hall]; exact List.nodup_nil), (by rw [hall])⟩, rfl, Row.nil _ _⟩
  clear hb3 hf3 ht3 hf0 hall cO L2
  go_wp2_with fail
  have hl60 : len1 ≤ 60 := HN.out.2.2
  go_loopg [9, 10] len1 (fun kx s9 s10 wr => ∃ (i : Nat) (na : Option Addr) (nn nc : Nat), s9 = .slice na nn nc ∧ s10 = .int .i64 i ∧ i ≤ len1 ∧ len1 - i ≤ kx ∧ Hid (KS w d s n wr (.slice na nn nc) nn))
  case atStart => exact ⟨0, none, 0, 0, rfl, rfl, Nat.zero_le _, by omega, U3.out⟩
  case round =>
    obtain ⟨i, na, nn, nc, rfl, rfl, hin, hg, I⟩ := hrel
    obtain ⟨S, f, bs, G, cur, hbu, hinv, hnn, hrow⟩ := I.out
    have U := hide hbu
    have HI := hide hinv
    have HNN := hide hnn
    have R := hide hrow
    clear I hbu hinv hnn hrow U3
    by_cases hlt : i < len1
    · have hlt2 : (i : Int) < (len1 : Int) := by omega
      obtain ⟨x, hx⟩ : ∃ x, z1[i]? = some x := ⟨_, List.getElem?_eq_getElem (by rw [← HLEN.out]; exact hlt)⟩
      have HXF := hide (HW.out.fits x (List.mem_of_getElem? hx))
      obtain ⟨b, o, rfl, hb, hc⟩ := HW.out.cell i x hx
      have XW : Hid (∀ w', Below w.heap.size w w' → OneIt w' b (o + i * 5) x) := fun w' hb' => hc.below hb' hb
      clear hx hb hc
      obtain ⟨c0, c1, c2, c3, c4⟩ := (XW.out wr U.out.bel).vals
      have cP := hide (bu_any U.out x HXF.out)
      go_wp2_with fail
      refine cP.out.mono ?_
      rintro e w4 ⟨oa, on, oc, er, rfl, S4, f4, bs4, G4, hb4, mv4, _, _, hor⟩
      clear c0 c1 c2 c3 c4 cP
      have R4 := hide ((RowA.of U.out R.out).move mv4).row
      clear mv4 R
      obtain ⟨c0, c1, c2, c3, c4⟩ := (XW.out w4 hb4.bel).vals
      rcases hor with ⟨rfl, rfl, _, rfl, rfl, rfl, hbad⟩ | ⟨rfl, hxg, hxs, rfl, _, hon, hro⟩
      · have U4 := hide hb4
        have cG := hide (refGood_it x w4)
        cases hgd : x.good with
        | false =>
          rw [hgd] at cG
          clear hb4 hbad hgd
          go_wp2_with fail
          refine cG.out.mono ?_
          rintro e w5 ⟨rfl, b5⟩
          have KE : Hid (KS w d s n w5 (.slice na nn nc) nn) := ⟨_, _, _, _, _, U4.out.below b5, HI.out, HNN.out, R4.out.below b5⟩
          clear b5 cG
          go_wp2
          go_roundg (len1 - (i + 1))
          case measure => omega
          case rel => exact ⟨i + 1, na, nn, nc, rfl, rfl, by omega, by omega, KE.out⟩
        | true =>
          rw [hgd] at cG hbad
          obtain ⟨hxk, hxv⟩ := good_sizes hgd
          have cZ := hide (refSize_it x (by omega) (by omega))
          obtain ⟨sz, hsz⟩ : ∃ sz, sz = x.size := ⟨_, rfl⟩
          rw [← hsz] at cZ hbad
          have h120 : ((sz : Int) ≤ 120) = False := eq_false (by
            rcases hbad with h | h
            · cases h
            · omega)
          clear hb4 hbad hgd hsz hxk hxv
          go_wp2_with fail
          refine cG.out.mono ?_
          rintro e w5 ⟨rfl, b5⟩
          have U5 := hide (U4.out.below b5)
          have R5 := hide (R4.out.below b5)
          clear c0 c1 c2 c3 c4 b5 cG
          obtain ⟨c0, c1, c2, c3, c4⟩ := (XW.out w5 U5.out.bel).vals
          go_wp2_with fail
          refine (cZ.out _).mono ?_
          rintro e w6 ⟨rfl, b6⟩
          have KE : Hid (KS w d s n w6 (.slice na nn nc) nn) := ⟨_, _, _, _, _, U5.out.below b6, HI.out, HNN.out, R5.out.below b6⟩
          clear b6 cZ c0 c1 c2 c3 c4
          go_wp2
          go_roundg (len1 - (i + 1))
          case measure => omega
          case rel => exact ⟨i + 1, na, nn, nc, rfl, rfl, by omega, by omega, KE.out⟩
      · obtain ⟨fl, rest, ov, hpi⟩ := HI.out.put HN.out.1 x hxs
        have hov : on = ov := by rw [hon, hpi.out, List.length_take]; have := hpi.ho; omega
        subst hov
        rw [hpi.out] at hro
        have PI := hide hpi
        have hcl := cur_le U.out HI.out HN.out.2.1
        have HCO := hide hcl.2
        have hpl : Hid (fl.length + rest.length ≤ 60 ∧ nn ≤ 60) := ⟨by
          have h1 := hpi.perm.length_eq
          have h2 := List.length_filter_le (notKey x.key) cur
          rw [List.length_append, List.drop_zero] at h1
          have := hcl.1
          omega, by have := HNN.out; have := hcl.1; omega⟩
        have hon60 : on ≤ 60 := by have := hpi.ho; have := hpl.out.1; omega
        have U4 := hide hb4
        have RO := hide hro
        have HXG := hide hxg
        have hfb : Oks fl := fun z hz => by
          have hzm := hpi.perm.mem_iff.2 (List.mem_append.2 (.inl (by rw [List.drop_zero]; exact hz)))
          exact hcl.2 z (List.mem_filter.1 hzm).1
        have HFB := hide hfb
        obtain ⟨na', nc', hvn, hIN, _, _, _⟩ := R4.out.its hcl.2
        simp only [Value.slice.injEq] at hvn
        obtain ⟨rfl, hq9, rfl⟩ := hvn
        clear hq9
        rw [← HNN.out] at hIN
        have cW := hide (without_any na nn nc cur x.key (by have := hpl.out.2; omega) w4 hIN)
        clear hb4 hxg hxs hon hro hpi hcl hfb hIN R4 U
        go_wp2_with fail
        refine cW.out.mono ?_
        rintro e w5 ⟨ma, mn, mc, rfl, hmn, hrm, b5⟩
        have U5 := hide (U4.out.below b5)
        have HMN := hide hmn
        have RM := hide (hrm.mono (Nat.le_trans (Nat.le_refl _) U4.out.bel.size))
        obtain ⟨oa', oc', hvo, hIQ, _, _, _⟩ := (RO.out.below b5).its (fun z hz => HFB.out z (List.mem_of_mem_take hz))
        simp only [Value.slice.injEq] at hvo
        obtain ⟨rfl, hq9, rfl⟩ := hvo
        clear hq9
        have hol : (fl.take on).length = on := by rw [List.length_take]; have := PI.out.ho; omega
        rw [hol] at hIQ
        have IQ := hide hIQ
        clear hmn hrm b5 cW hIQ hol c0 c1 c2 c3 c4 U4 RO
        go_wp2_with fail
        go_loopg [9, 13] on (fun kx s9 s13 wv => ∃ (k : Nat) (pa : Option Addr) (pn pc : Nat), s9 = .slice pa pn pc ∧ s13 = .int .i64 k ∧ k ≤ on ∧ on - k ≤ kx ∧ Hid (∃ cu, Row wv w.heap.size (.slice pa pn pc) cu ∧ pn = cu.length ∧ cu.Perm (fl.drop k ++ rest) ∧ Oks cu ∧ Below w5.heap.size w5 wv))
        case atStart => exact ⟨0, ma, mn, mc, rfl, rfl, Nat.zero_le _, by omega, _, RM.out, HMN.out, PI.out.perm, fun z hz => HCO.out z (List.mem_filter.1 hz).1, Below.refl _ _⟩
        case round =>
          obtain ⟨k, pa, pn, pc, rfl, rfl, hkn, hg2, J⟩ := hrel
          obtain ⟨cu, hru, hpn, hpm, hoku, hbl⟩ := J.out
          have RU := hide hru
          have HPN := hide hpn
          have HPM := hide hpm
          have HOKU := hide hoku
          have HBL := hide hbl
          have hpn60 : Hid (pn ≤ 60) := by
            have h1 := hpm.length_eq
            rw [List.length_append, List.length_drop] at h1
            have := hpl.out.1
            show pn ≤ 60
            omega
          clear J hru hpn hpm hoku hbl
          by_cases hkl : k < on
          · have hkl2 : (k : Int) < (on : Int) := by omega
            obtain ⟨y, hy⟩ : ∃ y, fl[k]? = some y := ⟨_, List.getElem?_eq_getElem (by have := PI.out.ho; omega)⟩
            have hyo : (fl.take on)[k]? = some y := by rw [List.getElem?_take, if_pos hkl]; exact hy
            obtain ⟨ob, oo, rfl, hob, hoc⟩ := (IQ.out.below HBL.out).cell k y hyo
            obtain ⟨c0, c1, c2, c3, c4⟩ := hoc.vals
            have KO := hide (keepOut k y hy PI.out.nd HPM.out)
            obtain ⟨pa', pc', hvp, hIP, _, _, _⟩ := RU.out.its HOKU.out
            simp only [Value.slice.injEq] at hvp
            obtain ⟨rfl, hq9, rfl⟩ := hvp
            clear hq9
            rw [← HPN.out] at hIP
            have cW := hide (without_any pa pn pc cu y.key (by have := hpn60.out; omega) wr hIP)
            clear hy hyo hob hoc hIP
            go_wp2_with fail
            refine cW.out.mono ?_
            rintro e w6 ⟨qa, qn, qc, rfl, hqn, hrq, b6⟩
            have hq : ((qn : Int) == (pn : Int)) = false := by
              have h1 := KO.out.2
              rw [← hqn, ← HPN.out] at h1
              simp
              omega
            have KE : Hid (∃ cu, Row w6 w.heap.size (.slice qa qn qc) cu ∧ qn = cu.length ∧ cu.Perm (fl.drop (k + 1) ++ rest) ∧ Oks cu ∧ Below w5.heap.size w5 w6) := ⟨_, hrq.mono (Nat.le_trans U5.out.bel.size HBL.out.size), hqn, KO.out.1, fun z hz => HOKU.out z (List.mem_filter.1 hz).1, HBL.out.trans (b6.mono HBL.out.size)⟩
            clear hqn hrq b6 cW c0 c1 c2 c3 c4
            go_wp2
            go_roundg (on - (k + 1))
            case measure => omega
            case rel => exact ⟨k + 1, qa, qn, qc, rfl, rfl, by omega, by omega, KE.out⟩
          · obtain rfl : k = on := by omega
            have hkl2 : ¬ (k : Int) < (k : Int) := by omega
            have U6 := hide (U5.out.below HBL.out)
            obtain ⟨c0, c1, c2, c3, c4⟩ := (XW.out wr U6.out.bel).vals
            have hxok : Oks [x] := fun z hz => by
              simp at hz
              have := good_sizes HXG.out
              rw [hz]
              exact ⟨HXF.out, by omega, by omega⟩
            obtain ⟨ua, un, uc, w7, hrun, hun, hrow, hkp⟩ := app_one RU.out x hxok (by have := hpn60.out; have := HPN.out; omega) U6.out.bel.size
            have HR := hide hrun
            have KE : Hid (KS w d s n w7 (.slice ua un uc) un) := by
              refine ⟨_, _, _, _, _, U6.out.keep hkp (fun q hq => ?_), PI.out.next cu HPM.out, by rw [hun]; simp, hrow⟩
              have hq' : (Value.slice pa pn pc).ownBlock = some q := by simpa using hq
              exact ⟨row_off U6.out RU.out q hq', (RU.out.lt q hq').1⟩
            clear hxok hrun hun hrow hkp
            go_wp2_with (at_builtin; refine Lib.wpList_append_run _ rfl _ _ _ _ rfl _ _ rfl rfl _ _ HR.out ?_)
            go_roundg (len1 - (i + 1))
            case measure => omega
            case rel => exact ⟨i + 1, ua, un, uc, rfl, rfl, by omega, by omega, KE.out⟩
    · obtain rfl : i = len1 := by omega
      have hlt2 : ¬ (i : Int) < (i : Int) := by omega
      have hcl := cur_le U.out HI.out HN.out.2.1
      have hnn60 : nn ≤ 60 := by have := HNN.out; have := hcl.1; omega
      have HCO := hide hcl.2
      clear hcl
      obtain ⟨ii, hii⟩ : ∃ ii : Nat, ii = i := ⟨_, rfl⟩
      clear hii
      go_wp2_with fail
      go_loopg [15] nn (fun kx s15 wv => ∃ i : Nat, s15 = .int .i64 i ∧ i ≤ nn ∧ nn - i ≤ kx ∧ Hid (∃ S, Bu w wv d s 0 n S f bs G ∧ Row wv w.heap.size (.slice na nn nc) cur))
      case atStart => exact ⟨0, rfl, Nat.zero_le _, by omega, S, U.out, R.out⟩
      case round =>
        rename_i i0
        obtain ⟨i, rfl, hin2, hg2, J⟩ := hrel
        obtain ⟨S8, hb8, hr8⟩ := J.out
        have U8 := hide hb8
        have R8 := hide hr8
        clear J hb8 hr8
        by_cases hlt3 : i < nn
        · have hlt4 : (i : Int) < (nn : Int) := by omega
          obtain ⟨y, hy⟩ : ∃ y, cur[i]? = some y := ⟨_, List.getElem?_eq_getElem (by rw [← HNN.out]; exact hlt3)⟩
          obtain ⟨na', nc', hvn, hIN, _, _, _⟩ := R8.out.its HCO.out
          simp only [Value.slice.injEq] at hvn
          obtain ⟨rfl, hq9, rfl⟩ := hvn
          clear hq9
          obtain ⟨nb, no, rfl, hnb, hnc⟩ := hIN.cell i y hy
          obtain ⟨c0, c1, c2, c3, c4⟩ := hnc.vals
          have FD := hide (HI.out.find y (List.mem_of_getElem? hy))
          have hyk : Hid (y.key.length ≤ maxLen) := Nat.le_trans (HCO.out y (List.mem_of_getElem? hy)).2.1 (by unfold maxLen; omega)
          have cG := hide (bu_get U8.out y.key hyk.out)
          rw [FD.out.2.2] at cG
          have HY := hide hy
          have HNB := hide (And.intro hnb hnc)
          clear hy hIN hnb hnc
          go_wp2_with fail
          refine cG.out.mono ?_
          rintro e w9 ⟨rfl, S9, hb9, _, mv9⟩
          have hgv : getV (some y) = .tuple #[.agg #[.string (txt y.key), .string (txt y.value), .int .u32 y.flags, .int .i64 y.exp, .int .u64 y.ver], .int .i64 0] := rfl
          rw [hgv]
          have hr9 := ((RowA.of U8.out R8.out).move mv9).row
          have hbx : Blk (w9.alloc (.cells #[.string (txt y.key), .string (txt y.value), .int .u32 y.flags, .int .i64 y.exp, .int .u64 y.ver] 36)) w9.heap.size (itCells y) 36 := Blk.new w9 _ 36
          have hbe : Below w9.heap.size w9 (w9.alloc (.cells #[.string (txt y.key), .string (txt y.value), .int .u32 y.flags, .int .i64 y.exp, .int .u64 y.ver] 36)) := (Below.refl _ _).alloc (Nat.le_refl _) _
          have UA := hide (hb9.below hbe)
          have RA := hide (hr9.below hbe)
          have HBX := hide hbx
          clear hgv hb9 mv9 hr9 hbx hbe cG c0 c1 c2 c3 c4
          go_wp2_with fail
          obtain ⟨wA, hwA⟩ : ∃ wA, wA = w9.alloc (.cells #[.string (txt y.key), .string (txt y.value), .int .u32 y.flags, .int .i64 y.exp, .int .u64 y.ver] 36) := ⟨_, rfl⟩
          rw [← hwA] at UA RA HBX ⊢
          obtain ⟨xb, hxb⟩ : ∃ xb, xb = w9.heap.size := ⟨_, rfl⟩
          rw [← hxb] at HBX ⊢
          clear hwA hxb
          have XB : Hid (∀ w', Below wA.heap.size wA w' → OneIt w' xb 0 y) := fun w' hb => by
            have h1 := HBX.out.same (hb.block xb HBX.out.lt)
            exact ⟨h1.cell (i := 0) rfl, h1.cell (i := 1) rfl, h1.cell (i := 2) rfl, h1.cell (i := 3) rfl, h1.cell (i := 4) rfl⟩
          obtain ⟨na'', nc'', hvn, hIN, _, _, _⟩ := RA.out.its HCO.out
          simp only [Value.slice.injEq] at hvn
          obtain ⟨rfl, hq9, rfl⟩ := hvn
          clear hq9
          obtain ⟨nb', no', hnn', hnb, hnc⟩ := hIN.cell i y HY.out
          simp only [Option.some.injEq, Addr.mk.injEq] at hnn'
          obtain ⟨rfl, rfl, _⟩ := hnn'
          have XN : Hid (∀ w', Below wA.heap.size wA w' → OneIt w' nb (no + i * 5) y) := fun w' hb => hnc.below hb hnb
          have cM : Hid (∀ W, Below wA.heap.size wA W → Calls Try.prog 17 #[.pointer (some ⟨s, 0, none⟩), .string (txt y.key)] W fun e w' => e = .returned (.bool true) ∧ Below wA.heap.size wA w') := fun W hW => by
            refine (bu_told (UA.out.below hW) y hyk.out FD.out.2.1).mono ?_
            rintro e w' ⟨rfl, b⟩
            exact ⟨rfl, hW.trans (b.mono hW.size)⟩
          have DR : Hid (Below wA.heap.size wA { wA with drawn := wA.drawn + 1 }) := ⟨rfl, rfl, rfl, Nat.le_refl _, fun _ _ => rfl⟩
          clear hIN hnb hnc
          refine wp_region_guard (by kernel_rfl) (by kernel_rfl) (fun jx => ([.int .i64 0, .bool false, .bool false, .agg #[.string (txt y.key), .string (txt y.value), .int .u32 y.flags, .int .i64 y.exp, .int .u64 y.ver], .slice (some ⟨nb, no, none⟩) nn nc, .int .i64 (i : Int), .pointer (some ⟨nb, no + i * 5, none⟩), .agg #[.string (txt y.key), .string (txt y.value), .int .u32 y.flags, .int .i64 y.exp, .int .u64 y.ver], .bool false, .bool false, .bool false, .pointer (some ⟨s, 0, none⟩), .pointer (some ⟨xb, 0, none⟩), .string (txt y.key), .bool true, .bool false, .bool false] : List Value).getD jx undef) (fun W => Below wA.heap.size wA W) (size_of (n := 154) (by kernel_rfl) rfl) (DR.out) ?_ ?_
          · intro jx ox hi w' ev hc hin hout hcst hfn
            have hltx : jx < 17 := by
              have := (Array.getElem?_eq_some_iff.1 hi).1
              simpa using this
            match jx, hltx with
            | 0, _ =>
              simp only [List.getElem?_toArray, List.getElem?_cons_zero, List.getElem?_cons_succ, Option.some.injEq] at hi
              subst hi
              rw [if_pos (by first | rfl | simp [wantV])]
              have e0 : ev (.tmp 17) = .int .i64 0 := hout 17 (by kernel_rfl) (show (17 : Nat) < 154 by decide)
              refine .inl ⟨w', ?_, hc⟩
              show _ = Result.ok (Next.value (.int .i64 0)) w'
              simp [execOp, e0, hcst, go_sem]
            | 1, _ =>
              simp only [List.getElem?_toArray, List.getElem?_cons_zero, List.getElem?_cons_succ, Option.some.injEq] at hi
              subst hi
              rw [if_pos (by first | rfl | simp [wantV])]
              have e0 : ev (.tmp 123) = .int .i64 0 := hin 123 0 ⟨0, .data⟩ (by kernel_rfl) (by simp) rfl rfl (show (123 : Nat) < 154 by decide)
              refine .inl ⟨w', ?_, hc⟩
              show _ = Result.ok (Next.value (.bool false)) w'
              simp [execOp, e0, hcst, go_sem]
            | 2, _ =>
              simp only [List.getElem?_toArray, List.getElem?_cons_zero, List.getElem?_cons_succ, Option.some.injEq] at hi
              subst hi
              rw [if_pos (by first | rfl | simp [wantV])]
              have e0 : ev (.tmp 124) = .bool false := hin 124 1 ⟨1, .data⟩ (by kernel_rfl) (by simp) rfl rfl (show (124 : Nat) < 154 by decide)
              refine .inl ⟨w', ?_, hc⟩
              show _ = Result.ok (Next.value (.bool false)) w'
              simp [execOp, e0, hcst, go_sem]
            | 3, _ =>
              simp only [List.getElem?_toArray, List.getElem?_cons_zero, List.getElem?_cons_succ, Option.some.injEq] at hi
              subst hi
              rw [if_pos (by first | rfl | simp [wantV])]
              have e0 : ev (.tmp 16) = .pointer (some ⟨xb, 0, none⟩) := hout 16 (by kernel_rfl) (show (16 : Nat) < 154 by decide)
              refine .inl ⟨w', ?_, hc⟩
              show _ = Result.ok (Next.value (.agg #[.string (txt y.key), .string (txt y.value), .int .u32 y.flags, .int .i64 y.exp, .int .u64 y.ver])) w'
              obtain ⟨y0, y1, y2, y3, y4⟩ := (XB.out w' hc).vals
              simp only [execOp, e0]
              go_simp
            | 4, _ =>
              simp only [List.getElem?_toArray, List.getElem?_cons_zero, List.getElem?_cons_succ, Option.some.injEq] at hi
              subst hi
              rw [if_pos (by first | rfl | simp [wantV])]
              have e0 : ev (.tmp 9) = .slice (some ⟨nb, no, none⟩) nn nc := hout 9 (by kernel_rfl) (show (9 : Nat) < 154 by decide)
              refine .inl ⟨w', ?_, hc⟩
              show _ = Result.ok (Next.value (.slice (some ⟨nb, no, none⟩) nn nc)) w'
              simp [execOp, e0, hcst, go_sem]
            | 5, _ =>
              simp only [List.getElem?_toArray, List.getElem?_cons_zero, List.getElem?_cons_succ, Option.some.injEq] at hi
              subst hi
              rw [if_pos (by first | rfl | simp [wantV])]
              have e0 : ev (.tmp 15) = .int .i64 (i : Int) := hout 15 (by kernel_rfl) (show (15 : Nat) < 154 by decide)
              refine .inl ⟨w', ?_, hc⟩
              show _ = Result.ok (Next.value (.int .i64 (i : Int))) w'
              simp [execOp, e0, hcst, go_sem]
            | 6, _ =>
              simp only [List.getElem?_toArray, List.getElem?_cons_zero, List.getElem?_cons_succ, Option.some.injEq] at hi
              subst hi
              rw [if_pos (by first | rfl | simp [wantV])]
              have e0 : ev (.tmp 127) = .slice (some ⟨nb, no, none⟩) nn nc := hin 127 4 ⟨4, .data⟩ (by kernel_rfl) (by simp) rfl rfl (show (127 : Nat) < 154 by decide)
              have e1 : ev (.tmp 128) = .int .i64 (i : Int) := hin 128 5 ⟨5, .data⟩ (by kernel_rfl) (by simp) rfl rfl (show (128 : Nat) < 154 by decide)
              refine .inl ⟨w', ?_, hc⟩
              show _ = Result.ok (Next.value (.pointer (some ⟨nb, no + i * 5, none⟩))) w'
              simp only [execOp, e0, e1, hcst]
              go_simp
            | 7, _ =>
              simp only [List.getElem?_toArray, List.getElem?_cons_zero, List.getElem?_cons_succ, Option.some.injEq] at hi
              subst hi
              rw [if_pos (by first | rfl | simp [wantV])]
              have e0 : ev (.tmp 129) = .pointer (some ⟨nb, no + i * 5, none⟩) := hin 129 6 ⟨6, .data⟩ (by kernel_rfl) (by simp) rfl rfl (show (129 : Nat) < 154 by decide)
              refine .inl ⟨w', ?_, hc⟩
              show _ = Result.ok (Next.value (.agg #[.string (txt y.key), .string (txt y.value), .int .u32 y.flags, .int .i64 y.exp, .int .u64 y.ver])) w'
              obtain ⟨y0, y1, y2, y3, y4⟩ := (XN.out w' hc).vals
              simp only [execOp, e0]
              go_simp
            | 8, _ =>
              simp only [List.getElem?_toArray, List.getElem?_cons_zero, List.getElem?_cons_succ, Option.some.injEq] at hi
              subst hi
              rw [if_pos (by first | rfl | simp [wantV])]
              have e0 : ev (.tmp 126) = .agg #[.string (txt y.key), .string (txt y.value), .int .u32 y.flags, .int .i64 y.exp, .int .u64 y.ver] := hin 126 3 ⟨3, .data⟩ (by kernel_rfl) (by simp) rfl rfl (show (126 : Nat) < 154 by decide)
              have e1 : ev (.tmp 130) = .agg #[.string (txt y.key), .string (txt y.value), .int .u32 y.flags, .int .i64 y.exp, .int .u64 y.ver] := hin 130 7 ⟨7, .data⟩ (by kernel_rfl) (by simp) rfl rfl (show (130 : Nat) < 154 by decide)
              refine .inl ⟨w', ?_, hc⟩
              show _ = Result.ok (Next.value (.bool false)) w'
              simp [execOp, e0, e1, hcst, go_sem]
            | 9, _ =>
              simp only [List.getElem?_toArray, List.getElem?_cons_zero, List.getElem?_cons_succ, Option.some.injEq] at hi
              subst hi
              rw [if_pos (by first | rfl | simp [wantV])]
              have e0 : ev (.tmp 125) = .bool false := hin 125 2 ⟨2, .data⟩ (by kernel_rfl) (by simp) rfl rfl (show (125 : Nat) < 154 by decide)
              have e1 : ev (.tmp 131) = .bool false := hin 131 8 ⟨8, .data⟩ (by kernel_rfl) (by simp) rfl rfl (show (131 : Nat) < 154 by decide)
              refine .inl ⟨w', ?_, hc⟩
              show _ = Result.ok (Next.value (.bool false)) w'
              simp [execOp, e0, e1, hcst, go_sem]
            | 10, _ =>
              simp only [List.getElem?_toArray, List.getElem?_cons_zero, List.getElem?_cons_succ, Option.some.injEq] at hi
              subst hi
              rw [if_pos (by first | rfl | simp [wantV])]
              have e0 : ev (.tmp 132) = .bool false := hin 132 9 ⟨9, .data⟩ (by kernel_rfl) (by simp) rfl rfl (show (132 : Nat) < 154 by decide)
              refine .inl ⟨w', ?_, hc⟩
              show _ = Result.ok (Next.value (.bool false)) w'
              simp [execOp, e0, hcst, go_sem]
            | 11, _ =>
              simp only [List.getElem?_toArray, List.getElem?_cons_zero, List.getElem?_cons_succ, Option.some.injEq] at hi
              subst hi
              rw [if_pos (by first | rfl | simp [wantV])]
              have e0 : ev (.tmp 7) = .pointer (some ⟨s, 0, none⟩) := hout 7 (by kernel_rfl) (show (7 : Nat) < 154 by decide)
              refine .inl ⟨w', ?_, hc⟩
              show _ = Result.ok (Next.value (.pointer (some ⟨s, 0, none⟩))) w'
              simp [execOp, e0, hcst, go_sem]
            | 12, _ =>
              simp only [List.getElem?_toArray, List.getElem?_cons_zero, List.getElem?_cons_succ, Option.some.injEq] at hi
              subst hi
              rw [if_pos (by first | rfl | simp [wantV])]
              have e0 : ev (.tmp 16) = .pointer (some ⟨xb, 0, none⟩) := hout 16 (by kernel_rfl) (show (16 : Nat) < 154 by decide)
              refine .inl ⟨w', ?_, hc⟩
              show _ = Result.ok (Next.value (.pointer (some ⟨xb, 0, none⟩))) w'
              simp only [execOp, e0, hcst]
              go_simp
            | 13, _ =>
              simp only [List.getElem?_toArray, List.getElem?_cons_zero, List.getElem?_cons_succ, Option.some.injEq] at hi
              subst hi
              rw [if_pos (by first | rfl | simp [wantV])]
              have e0 : ev (.tmp 135) = .pointer (some ⟨xb, 0, none⟩) := hin 135 12 ⟨12, .data⟩ (by kernel_rfl) (by simp) rfl rfl (show (135 : Nat) < 154 by decide)
              refine .inl ⟨w', ?_, hc⟩
              show _ = Result.ok (Next.value (.string (txt y.key))) w'
              obtain ⟨y0, y1, y2, y3, y4⟩ := (XB.out w' hc).vals
              simp only [execOp, e0]
              go_simp
            | 14, _ =>
              simp only [List.getElem?_toArray, List.getElem?_cons_zero, List.getElem?_cons_succ, Option.some.injEq] at hi
              subst hi
              rw [if_pos (by first | rfl | simp [wantV])]
              have e0 : ev (.tmp 134) = .pointer (some ⟨s, 0, none⟩) := hin 134 11 ⟨11, .data⟩ (by kernel_rfl) (by simp) rfl rfl (show (134 : Nat) < 154 by decide)
              have e1 : ev (.tmp 136) = .string (txt y.key) := hin 136 13 ⟨13, .data⟩ (by kernel_rfl) (by simp) rfl rfl (show (136 : Nat) < 154 by decide)
              refine .inr (.inr ⟨17, #[.pointer (some ⟨s, 0, none⟩), .string (txt y.key)], ?_, ?_⟩)
              · have ef := hfn 17
                simp [execOp, resolve, invoke, ef, hcst, e0, e1, Result.andThen]
                exact enter17 _ _
              · exact cM.out w' hc
            | 15, _ =>
              simp only [List.getElem?_toArray, List.getElem?_cons_zero, List.getElem?_cons_succ, Option.some.injEq] at hi
              subst hi
              rw [if_pos (by first | rfl | simp [wantV])]
              have e0 : ev (.tmp 137) = .bool true := hin 137 14 ⟨14, .data⟩ (by kernel_rfl) (by simp) rfl rfl (show (137 : Nat) < 154 by decide)
              refine .inl ⟨w', ?_, hc⟩
              show _ = Result.ok (Next.value (.bool false)) w'
              simp [execOp, e0, hcst, go_sem]
            | 16, _ =>
              simp only [List.getElem?_toArray, List.getElem?_cons_zero, List.getElem?_cons_succ, Option.some.injEq] at hi
              subst hi
              rw [if_pos (by first | rfl | simp [wantV])]
              have e0 : ev (.tmp 133) = .bool false := hin 133 10 ⟨10, .data⟩ (by kernel_rfl) (by simp) rfl rfl (show (133 : Nat) < 154 by decide)
              have e1 : ev (.tmp 138) = .bool false := hin 138 15 ⟨15, .data⟩ (by kernel_rfl) (by simp) rfl rfl (show (138 : Nat) < 154 by decide)
              refine .inl ⟨w', ?_, hc⟩
              show _ = Result.ok (Next.value (.bool false)) w'
              simp [execOp, e0, e1, hcst, go_sem]
          · intro w7 hc
            simp only [lexF, Act.put, List.setIfInBounds_toArray, List.set_cons_succ, List.set_cons_zero, List.getD_cons_succ, List.getD_cons_zero]
            have UE := hide (UA.out.below hc)
            have RE := hide (RA.out.below hc)
            clear hc DR cM
            go_wp2
            go_roundg (nn - (i + 1))
            case measure => omega
            case rel => exact ⟨i + 1, rfl, by omega, by omega, S9, UE.out, RE.out⟩
        · obtain rfl : i = nn := by omega
          have hlt4 : ¬ (i : Int) < (i : Int) := by omega
          have cI := hide (bu_items U8.out)
          go_wp2_with fail
          refine cI.out.mono ?_
          rintro e w9 ⟨v, rfl, hr, S9, hb9, _, _⟩
          obtain ⟨la, lc, rfl⟩ := hr.sl
          have hlen : (allF n f).length = i := by rw [HNN.out]; exact HI.out.perm.length_eq.symm
          rw [hlen]
          have BU := hide hb9.bel
          clear hr hb9 hlen cI
          go_wp2
          go_ret
          exact ⟨rfl, BU.out⟩
end Go.Proofs.Ytbccnfbombgdmaa.bucketKeeps
