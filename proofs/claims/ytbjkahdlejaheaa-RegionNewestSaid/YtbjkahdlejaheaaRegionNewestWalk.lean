/-
  Of each key the log tells what was put last, as long as it is not lost: for every input the call returns true; no condition.
-/
import Derived.WalkKit
import Derived.Below
import Derived.Test.YtbjkahdlejaheaaNx9
import Derived.Test.YtbjkahdlejaheaaRItems
import Derived.Test.YtbjkahdlejaheaaRRow
namespace Go.Proofs.Ytbjkahdlejaheaa.regionNewest
open Go.RowKit Go.Deep Math
set_option linter.unusedVariables false
set_option linter.unusedSimpArgs false

theorem enter21 (args : Array Value) (w : World) : (callFunc 21 args).run Try.prog w = .ok (.enter 21 args) w := enters_of Try.func21 (by kernel_rfl) rfl args w
theorem below_drew (w : World) : Below w.heap.size w { w with drawn := w.drawn + 1 } := ⟨rfl, rfl, rfl, Nat.le_refl _, fun _ _ => rfl⟩
theorem run_mono {R k : Nat} {S : Dv} {T : Lg} (h : Run9 R k S T) : Run9 R (k + 1) S T :=
  ⟨h.calm, h.losses, h.room, h.first', h.regions', Nat.le_succ_of_le h.num, Nat.le_succ_of_le h.cap, Nat.le_succ_of_le h.regs, Nat.le_succ_of_le h.all, h.cont, h.oks, h.pos⟩
theorem refGood_it (x : It) (w : World) : Calls Try.prog 19 #[.agg #[.string (txt x.key), .string (txt x.value), .int .u32 x.flags, .int .i64 x.exp, .int .u64 x.ver]] w fun r w' => r = .returned (.bool x.good) ∧ Below w.heap.size w w' := by
  have := refGood_any (txt x.key) (txt x.value) x.flags x.exp x.ver w
  rw [← It.good_mayBe] at this
  exact this
/-- The log, and the law's own list beside it. -/
def NQ (w : World) (d l m R k : Nat) (W : World) (v : Value) (nn : Nat) : Prop := ∃ F S v5 v6 v7 T cur, LG w W d F S l m v5 v6 v7 T ∧ Run9 R k S T ∧ nn = cur.length ∧ Row W w.heap.size v cur ∧ cur.Perm T.items
theorem items_oks {R k : Nat} {S : Dv} {T : Lg} (h : Run9 R k S T) : Oks T.items ∧ T.items.length ≤ k := by
  refine ⟨fun x hx => ?_, Nat.le_trans (hadOf_length T T.all) h.all⟩
  unfold Lg.items Lg.hadOf at hx
  obtain ⟨t, ht, rfl⟩ := List.mem_map.1 hx
  have h1 := h.oks t (List.mem_filter.1 ht).1
  have := good_sizes h1.2
  exact ⟨h1.1, by omega, by omega⟩
theorem perm_oks {cur xs : List It} (hp : cur.Perm xs) (h : Oks xs) : Oks cur := fun x hx => h x (hp.mem_iff.1 hx)
set_option maxRecDepth 8000 in
set_option maxHeartbeats 40000000 in
theorem walk (a0 : Int) (a1 : Option Addr) (len1 cap1 : Nat) (z1 : List It) (w : World) (hw0 : (Lit.int .i64 a0).wf = true) (hw1 : RawAt w a1 len1 z1) :
    Calls Try.prog 5 #[.int .i64 a0, .slice a1 len1 cap1] w fun e w' => e = .returned (.bool true) ∧ Below w.heap.size w w' := by
  have ca := hide (awake_any w)
  have HW := hide hw1
  have HLEN := hide hw1.len
  clear hw0 hw1
  by_cases hpre : a0 < 1 ∨ 3 < a0 ∨ 40 < len1
  · go_enter Try.func5, Try.ntmps5
    by_cases q0 : a0 < 1
    · have e1' : (a0 < 1) = True := eq_true (by omega)
      clear hpre q0
      go_wp2_with fail
      refine ca.out.mono ?_
      rintro r w1 ⟨rfl, h1⟩
      have B1 := hide h1
      clear h1 ca
      go_wp2
      go_ret
      exact ⟨rfl, B1.out⟩
    have e1' : (a0 < 1) = False := eq_false (by omega)
    by_cases q1 : 3 < a0
    · have e2' : (3 < a0) = True := eq_true (by omega)
      clear hpre q0 q1
      go_wp2_with fail
      refine ca.out.mono ?_
      rintro r w1 ⟨rfl, h1⟩
      have B1 := hide h1
      clear h1 ca
      go_wp2
      go_ret
      exact ⟨rfl, B1.out⟩
    have e2' : (3 < a0) = False := eq_false (by omega)
    have e3' : ((40 : Int) < (len1 : Int)) = True := eq_true (by omega)
    clear hpre q0 q1
    go_wp2_with fail
    refine ca.out.mono ?_
    rintro r w1 ⟨rfl, h1⟩
    have B1 := hide h1
    clear h1 ca
    go_wp2
    go_ret
    exact ⟨rfl, B1.out⟩
  obtain ⟨R, rfl⟩ : ∃ n : Nat, a0 = (n : Int) := ⟨a0.toNat, by omega⟩
  have e1' : ((R : Int) < 1) = False := eq_false (by omega)
  have e2' : (3 < (R : Int)) = False := eq_false (by omega)
  have e3' : ((40 : Int) < (len1 : Int)) = False := eq_false (by omega)
  have HN : Hid (1 ≤ R ∧ R ≤ 3 ∧ len1 ≤ 40) := ⟨by omega, by omega, by omega⟩
  have hl40 : len1 ≤ 40 := by omega
  clear hpre
  go_enter Try.func5, Try.ntmps5
  go_wp2_with fail
  refine ca.out.mono ?_
  rintro r w1 ⟨rfl, h1⟩
  have B1 := hide h1
  clear h1 ca
  have cN := hide (new_law B1.out 12 (by omega) (by omega))
  go_wp2_with fail
  refine cN.out.mono ?_
  rintro e w2 ⟨d, F2, rfl, hl2, _⟩
  have cO := hide (open_new hl2 0 R HN.out.1 (by have := HN.out; omega) (by have := HN.out; omega))
  clear hl2 cN e1' e2' e3' B1
  go_wp2_with fail
  refine cO.out.mono ?_
  rintro e w4 ⟨l, m, v5, T, S, rfl, G4, hN, _⟩
  have U4 : Hid (NQ w d l m R 0 w4 (.slice none 0 0) 0) := ⟨F2, S, v5, _, _, T, [], G4, Run9.new hN (by have := HN.out; omega), rfl, Row.nil _ _, by unfold Lg.items Lg.all; rw [hN.regs, hN.opn]; exact List.Perm.refl _⟩
  clear cO G4 hN
  go_wp2_with fail
  go_loopg [9, 10] len1 (fun kx s9 s10 wr => ∃ (i : Nat) (na : Option Addr) (nn nc : Nat), s9 = .slice na nn nc ∧ s10 = .int .i64 i ∧ i ≤ len1 ∧ len1 - i ≤ kx ∧ Hid (NQ w d l m R i wr (.slice na nn nc) nn))
  case atStart => exact ⟨0, none, 0, 0, rfl, rfl, Nat.zero_le _, by omega, U4.out⟩
  case round =>
    obtain ⟨i, na, nn, nc, rfl, rfl, hin, hg, I⟩ := hrel
    obtain ⟨F, S, v5, v6, v7, T, cur, hG, hR, hnn, hrw, hpm⟩ := I.out
    have G := hide hG
    have RR := hide hR
    have HNN := hide hnn
    have RW := hide hrw
    have HPM := hide hpm
    clear I hG hR hnn hrw hpm U4
    by_cases hlt : i < len1
    · have hlt2 : (i : Int) < (len1 : Int) := by omega
      obtain ⟨x, hx⟩ : ∃ x, z1[i]? = some x := ⟨_, List.getElem?_eq_getElem (by rw [← HLEN.out]; exact hlt)⟩
      have HXF := hide (HW.out.fits x (List.mem_of_getElem? hx))
      obtain ⟨b, o, rfl, hb, hc⟩ := HW.out.cell i x hx
      have XW : Hid (∀ w', Below w.heap.size w w' → OneIt w' b (o + i * 5) x) := fun w' hb' => hc.below hb' hb
      clear hx hb hc
      obtain ⟨c0, c1, c2, c3, c4⟩ := (XW.out wr G.out.bel).vals
      have cP := hide (put_runk G.out RR.out HN.out.1 (by have := HN.out; omega) (by omega) x HXF.out)
      rw [show x.val = .agg #[.string (txt x.key), .string (txt x.value), .int .u32 x.flags, .int .i64 x.exp, .int .u64 x.ver] from rfl] at cP
      go_wp2_with fail
      refine cP.out.mono ?_
      rintro e w5 (⟨hgd, rfl, b5⟩ | ⟨hgd, va, vn, vc, v5', v6', v7', F', S', T', ls, rfl, hvn, hlr, G5, R5, K5, hcs⟩)
      · have UE : Hid (∀ W, Below w5.heap.size w5 W → NQ w d l m R (i + 1) W (.slice na nn nc) nn) := fun W b => by
          have bb := b5.trans (b.mono b5.size)
          exact ⟨F, S, v5, v6, v7, T, cur, G.out.below bb, run_mono RR.out, HNN.out, RW.out.below bb, HPM.out⟩
        have BW5 : Hid (Below w.heap.size w w5) := (G.out.below b5).bel
        have cG := hide (refGood_it x w5)
        rw [hgd] at cG
        obtain ⟨d0, d1, d2, d3, d4⟩ := (XW.out w5 BW5.out).vals
        clear cP c0 c1 c2 c3 c4 b5 hgd
        go_wp2_with fail
        refine cG.out.mono ?_
        rintro e w6 ⟨rfl, b6⟩
        have KE := hide (UE.out w6 b6)
        clear cG b6 d0 d1 d2 d3 d4
        go_wp2
        go_roundg (len1 - (i + 1))
        case measure => omega
        case rel => exact ⟨i + 1, na, nn, nc, rfl, rfl, by omega, by omega, KE.out⟩
      · have G5h := hide G5
        have R5h := hide R5
        have RW5 : Hid (Row w5 w.heap.size (.slice na nn nc) cur) := RW.out.keep (fun q hq => K5.block q (RW.out.lt q hq).2 (row_off9 G.out RW.out q hq))
        have LR : Hid (Row w5 w.heap.size (.slice va vn vc) ls) := hlr.mono G.out.bel.size
        have HVN := hide hvn
        have HRS : Hid (∃ rest, T.items.Perm (ls ++ rest) ∧ T'.items = rest.filter (notKey x.key) ++ [x]) := by
          have hnew : ∀ u ∈ T.all, u.pos ≠ (⟨wr.heap.size, 0, x⟩ : Th).pos := fun u hu e => by
            have h1 := (G.out.lg.ths u hu).lt
            have h2 : u.blk = wr.heap.size := congrArg Prod.fst e
            omega
          rcases hcs with ⟨_, rfl, rfl, _⟩ | ⟨_, rfl, rfl, _⟩
          · exact ⟨T.items, List.Perm.refl _, items_put T _ hnew⟩
          · obtain ⟨h1, h2⟩ := items_cut T v6 RR.out.pos ⟨wr.heap.size, 0, x⟩ hnew
            exact ⟨_, h1, h2⟩
        obtain ⟨rest, hrest1, hrest2⟩ := HRS.out
        have HP0 : Hid (cur.Perm (ls ++ rest)) := HPM.out.trans hrest1
        have HR2 := hide hrest2
        have HND : Hid ((keysOf (ls ++ rest)).Nodup) := by
          have := items_keys RR.out.pos
          unfold keysOf at this ⊢
          exact (hrest1.map _).nodup_iff.1 this
        have hio := items_oks RR.out
        have HOK : Hid (Oks (ls ++ rest)) := perm_oks hrest1.symm hio.1
        have hln : ls.length + rest.length ≤ 40 := by
          have := hrest1.length_eq
          rw [List.length_append] at this
          have := hio.2
          omega
        have HLN := hide hln
        have hvn40 : vn ≤ 40 := by rw [hvn]; omega
        have hnn40 : nn ≤ 40 := by have h1 := HNN.out; have h2 := HPM.out.length_eq; have h3 := hio.2; omega
        clear cP c0 c1 c2 c3 c4 hgd hvn hlr G5 R5 K5 hcs hrest1 hrest2 HRS hio hln G RR RW HPM
        go_wp2_with fail
        go_loopg [9, 13] vn (fun ky s9 s13 wv => ∃ (k : Nat) (ua : Option Addr) (un uc : Nat), s9 = .slice ua un uc ∧ s13 = .int .i64 k ∧ k ≤ vn ∧ vn - k ≤ ky ∧ Hid (∃ cu, Row wv w.heap.size (.slice ua un uc) cu ∧ un = cu.length ∧ cu.Perm (ls.drop k ++ rest) ∧ Below w5.heap.size w5 wv))
        case atStart => exact ⟨0, na, nn, nc, rfl, rfl, Nat.zero_le _, by omega, cur, RW5.out, HNN.out, HP0.out, Below.refl _ _⟩
        case round =>
          obtain ⟨k, ua, un, uc, rfl, rfl, hk1, hk2, J⟩ := hrel
          obtain ⟨cu, hru, hun, hpu, hbu⟩ := J.out
          have RU := hide hru
          have HUN := hide hun
          have HPU := hide hpu
          have HBL := hide hbu
          have hcl : cu.length ≤ 40 := by
            have := hpu.length_eq
            rw [List.length_append, List.length_drop] at this
            have := HLN.out
            omega
          have HCL := hide hcl
          have HCO : Hid (Oks cu) := perm_oks hpu (fun y hy => HOK.out y (by
            rcases List.mem_append.1 hy with h1 | h1
            · exact List.mem_append.2 (.inl (List.mem_of_mem_drop h1))
            · exact List.mem_append.2 (.inr h1)))
          have hun40 : un ≤ 40 := by rw [hun]; exact hcl
          clear J hru hun hpu hbu hcl
          by_cases hkl : k < vn
          · have hkl2 : (k : Int) < (vn : Int) := by omega
            obtain ⟨y, hy⟩ : ∃ y, ls[k]? = some y := ⟨_, List.getElem?_eq_getElem (by rw [← HVN.out]; exact hkl)⟩
            obtain ⟨va', vc', hvv, hIV, _, _, _⟩ := (LR.out.below HBL.out).its (fun z hz => HOK.out z (List.mem_append.2 (.inl hz)))
            simp only [Value.slice.injEq] at hvv
            obtain ⟨rfl, hq9, rfl⟩ := hvv
            clear hq9
            obtain ⟨ob, oo, rfl, hob, hoc⟩ := hIV.cell k y hy
            obtain ⟨c0, c1, c2, c3, c4⟩ := hoc.vals
            obtain ⟨ua', uc', hvu, hIU, _, _, _⟩ := RU.out.its HCO.out
            simp only [Value.slice.injEq] at hvu
            obtain ⟨rfl, hq8, rfl⟩ := hvu
            rw [← hq8] at hIU
            have cW := hide (without_any ua un uc cu y.key (by omega) wr hIU)
            have KO := hide (keepOut k y hy HND.out HPU.out)
            clear hy hIV hob hoc hIU hq8
            go_wp2_with fail
            refine cW.out.mono ?_
            rintro e w6 ⟨qa, qn, qc, rfl, hqn, hrq, b6⟩
            have KE : Hid (∃ cu, Row w6 w.heap.size (.slice qa qn qc) cu ∧ qn = cu.length ∧ cu.Perm (ls.drop (k + 1) ++ rest) ∧ Below w5.heap.size w5 w6) := ⟨_, hrq.mono (Nat.le_trans G5h.out.bel.size HBL.out.size), hqn, KO.out.1, HBL.out.trans (b6.mono HBL.out.size)⟩
            clear hqn hrq b6 cW c0 c1 c2 c3 c4
            go_wp2
            go_roundg (vn - (k + 1))
            case measure => omega
            case rel => exact ⟨k + 1, qa, qn, qc, rfl, rfl, by omega, by omega, KE.out⟩
          · have hkl2 : ¬ (k : Int) < (vn : Int) := by omega
            have hkv : k = ls.length := by rw [← HVN.out]; omega
            have HPR : Hid (cu.Perm rest) := by
              have := HPU.out
              rw [hkv, List.drop_length] at this
              exact this
            have HB : Hid (Below w.heap.size w wr) := (G5h.out.below HBL.out).bel
            obtain ⟨fl, hfl⟩ : ∃ fl, fl = cu.filter (notKey x.key) := ⟨_, rfl⟩
            have HFL := hide hfl.symm
            have HFLL : Hid (fl.length ≤ 40) := by show fl.length ≤ 40; rw [hfl]; exact Nat.le_trans (List.length_filter_le _ _) HCL.out
            clear hfl hkl hkv hk1 hk2
            go_wp2_with fail
            obtain ⟨KF, hKF⟩ : ∃ KF : Nat → Option Value, KF = (fun j => ([some (.slice ua un uc), some (.slice (some ⟨b, o, none⟩) len1 cap1), some (.int .i64 (i : Int)), some (.pointer (some ⟨b, o + i * 5, none⟩)), some (.pointer (some ⟨b, o + i * 5, none⟩)), some (.string (txt x.key)), none, some (.slice (some ⟨b, o, none⟩) len1 cap1), some (.int .i64 (i : Int)), some (.pointer (some ⟨b, o + i * 5, none⟩)), some (.agg #[.string (txt x.key), .string (txt x.value), .int .u32 x.flags, .int .i64 x.exp, .int .u64 x.ver]), none, none, none] : List (Option Value)).getD j none) := ⟨_, rfl⟩
            refine wp_region_ex (by kernel_rfl) (by kernel_rfl) (fun listed V W => Known KF listed V ∧ ND wr fl x listed V W) ⟨fun j u _ hl => (by rw [repl9] at hl; cases hl), ND.start _⟩ ?_ ?_
            · intro jx ox hi listed V w' ev hs hJ hfr hdir hin hout hold hcst hfn
              obtain ⟨hK, hJ⟩ := hJ
              have hltx : jx < 14 := by
                have := (Array.getElem?_eq_some_iff.1 hi).1
                simpa using this
              have hs14 : listed.size = 14 := hs.trans rfl
              have hc : Below wr.heap.size wr w' := hJ.bel
              match jx, hltx with
              | 0, _ =>
                simp only [List.getElem?_toArray, List.getElem?_cons_zero, List.getElem?_cons_succ, Option.some.injEq] at hi
                subst hi
                have h13 : listed.getD 13 false = false := by
                  cases hq : listed.getD 13 false with
                  | false => rfl
                  | true => have h1 := (hJ.c13 hq).1; have h2 := (hJ.c12 h1).1; have h3 := hJ.c6 h2; rw [hfr] at h3; cases h3
                have e0 : ev (.tmp 9) = .slice ua un uc := hold 9 13 (by kernel_rfl) h13 (show (9 : Nat) < 130 by decide)
                refine .inl ⟨.slice ua un uc, w', ?_, hK.step 0 (by rw [hs14]; decide) _ (fun u hu => (by rw [hKF] at hu; exact Option.some.inj hu)), hJ.pure 0 (by rw [hs14]; decide) _ (by decide) (by decide) (by decide) (by decide)⟩
                simp [execOp, e0, hcst, go_sem]
              | 1, _ =>
                simp only [List.getElem?_toArray, List.getElem?_cons_zero, List.getElem?_cons_succ, Option.some.injEq] at hi
                subst hi
                have e0 : ev (.tmp 1) = .slice (some ⟨b, o, none⟩) len1 cap1 := hout 1 (by kernel_rfl) (show (1 : Nat) < 130 by decide)
                refine .inl ⟨.slice (some ⟨b, o, none⟩) len1 cap1, w', ?_, hK.step 1 (by rw [hs14]; decide) _ (fun u hu => (by rw [hKF] at hu; exact Option.some.inj hu)), hJ.pure 1 (by rw [hs14]; decide) _ (by decide) (by decide) (by decide) (by decide)⟩
                simp [execOp, e0, hcst, go_sem]
              | 2, _ =>
                simp only [List.getElem?_toArray, List.getElem?_cons_zero, List.getElem?_cons_succ, Option.some.injEq] at hi
                subst hi
                have e0 : ev (.tmp 10) = .int .i64 (i : Int) := hout 10 (by kernel_rfl) (show (10 : Nat) < 130 by decide)
                refine .inl ⟨.int .i64 (i : Int), w', ?_, hK.step 2 (by rw [hs14]; decide) _ (fun u hu => (by rw [hKF] at hu; exact Option.some.inj hu)), hJ.pure 2 (by rw [hs14]; decide) _ (by decide) (by decide) (by decide) (by decide)⟩
                simp [execOp, e0, hcst, go_sem]
              | 3, _ =>
                simp only [List.getElem?_toArray, List.getElem?_cons_zero, List.getElem?_cons_succ, Option.some.injEq] at hi
                subst hi
                have e0 : ev (.tmp 86) = .slice (some ⟨b, o, none⟩) len1 cap1 := (hin 86 1 ⟨1, .data⟩ (by kernel_rfl) (by simp) rfl rfl (show (86 : Nat) < 130 by decide)).trans (hK 1 _ (by rw [hKF]; rfl) (hdir 1 (by kernel_rfl)))
                have e1 : ev (.tmp 87) = .int .i64 (i : Int) := (hin 87 2 ⟨2, .data⟩ (by kernel_rfl) (by simp) rfl rfl (show (87 : Nat) < 130 by decide)).trans (hK 2 _ (by rw [hKF]; rfl) (hdir 2 (by kernel_rfl)))
                refine .inl ⟨.pointer (some ⟨b, o + i * 5, none⟩), w', ?_, hK.step 3 (by rw [hs14]; decide) _ (fun u hu => (by rw [hKF] at hu; exact Option.some.inj hu)), hJ.pure 3 (by rw [hs14]; decide) _ (by decide) (by decide) (by decide) (by decide)⟩
                simp only [execOp, e0, e1, hcst]
                go_simp
              | 4, _ =>
                simp only [List.getElem?_toArray, List.getElem?_cons_zero, List.getElem?_cons_succ, Option.some.injEq] at hi
                subst hi
                have e0 : ev (.tmp 88) = .pointer (some ⟨b, o + i * 5, none⟩) := (hin 88 3 ⟨3, .data⟩ (by kernel_rfl) (by simp) rfl rfl (show (88 : Nat) < 130 by decide)).trans (hK 3 _ (by rw [hKF]; rfl) (hdir 3 (by kernel_rfl)))
                refine .inl ⟨.pointer (some ⟨b, o + i * 5, none⟩), w', ?_, hK.step 4 (by rw [hs14]; decide) _ (fun u hu => (by rw [hKF] at hu; exact Option.some.inj hu)), hJ.pure 4 (by rw [hs14]; decide) _ (by decide) (by decide) (by decide) (by decide)⟩
                simp [execOp, e0, hcst, go_sem]
              | 5, _ =>
                simp only [List.getElem?_toArray, List.getElem?_cons_zero, List.getElem?_cons_succ, Option.some.injEq] at hi
                subst hi
                have e0 : ev (.tmp 89) = .pointer (some ⟨b, o + i * 5, none⟩) := (hin 89 4 ⟨4, .data⟩ (by kernel_rfl) (by simp) rfl rfl (show (89 : Nat) < 130 by decide)).trans (hK 4 _ (by rw [hKF]; rfl) (hdir 4 (by kernel_rfl)))
                refine .inl ⟨.string (txt x.key), w', ?_, hK.step 5 (by rw [hs14]; decide) _ (fun u hu => (by rw [hKF] at hu; exact Option.some.inj hu)), hJ.pure 5 (by rw [hs14]; decide) _ (by decide) (by decide) (by decide) (by decide)⟩
                obtain ⟨y0, y1, y2, y3, y4⟩ := (XW.out w' (HB.out.trans (hc.mono HB.out.size))).vals
                simp only [execOp, e0]
                go_simp
              | 6, _ =>
                simp only [List.getElem?_toArray, List.getElem?_cons_zero, List.getElem?_cons_succ, Option.some.injEq] at hi
                subst hi
                have e0 : ev (.tmp 85) = .slice ua un uc := (hin 85 0 ⟨0, .data⟩ (by kernel_rfl) (by simp) rfl rfl (show (85 : Nat) < 130 by decide)).trans (hK 0 _ (by rw [hKF]; rfl) (hdir 0 (by kernel_rfl)))
                have e1 : ev (.tmp 90) = .string (txt x.key) := (hin 90 5 ⟨5, .data⟩ (by kernel_rfl) (by simp) rfl rfl (show (90 : Nat) < 130 by decide)).trans (hK 5 _ (by rw [hKF]; rfl) (hdir 5 (by kernel_rfl)))
                refine .inr ⟨21, #[.slice ua un uc, .string (txt x.key)], ?_, ?_⟩
                · have ef := hfn 21
                  simp [execOp, resolve, invoke, ef, hcst, e0, e1, Result.andThen]
                  exact enter21 _ _
                · obtain ⟨ua', uc', hvu, hIU, _, _, _⟩ := (RU.out.below hc).its HCO.out
                  simp only [Value.slice.injEq] at hvu
                  obtain ⟨rfl, hun, rfl⟩ := hvu
                  rw [← hun] at hIU
                  refine (without_any ua un uc cu x.key (by have := HUN.out; have := HCL.out; omega) w' hIU).mono ?_
                  rintro e w2 ⟨va, vn, vc, rfl, hvn, hrow, b2⟩
                  have hvn2 : vn = fl.length := by rw [hvn, HFL.out]
                  subst hvn2
                  refine ⟨_, rfl, hK.step 6 (by rw [hs14]; decide) _ (fun u hu => (by rw [hKF] at hu; cases hu)), hJ.without (by rw [hs14]; decide) hfr (hdir 0 (by kernel_rfl)) (by rw [HFL.out] at hrow; exact hrow) b2⟩
              | 7, _ =>
                simp only [List.getElem?_toArray, List.getElem?_cons_zero, List.getElem?_cons_succ, Option.some.injEq] at hi
                subst hi
                have e0 : ev (.tmp 1) = .slice (some ⟨b, o, none⟩) len1 cap1 := hout 1 (by kernel_rfl) (show (1 : Nat) < 130 by decide)
                refine .inl ⟨.slice (some ⟨b, o, none⟩) len1 cap1, w', ?_, hK.step 7 (by rw [hs14]; decide) _ (fun u hu => (by rw [hKF] at hu; exact Option.some.inj hu)), hJ.pure 7 (by rw [hs14]; decide) _ (by decide) (by decide) (by decide) (by decide)⟩
                simp [execOp, e0, hcst, go_sem]
              | 8, _ =>
                simp only [List.getElem?_toArray, List.getElem?_cons_zero, List.getElem?_cons_succ, Option.some.injEq] at hi
                subst hi
                have e0 : ev (.tmp 10) = .int .i64 (i : Int) := hout 10 (by kernel_rfl) (show (10 : Nat) < 130 by decide)
                refine .inl ⟨.int .i64 (i : Int), w', ?_, hK.step 8 (by rw [hs14]; decide) _ (fun u hu => (by rw [hKF] at hu; exact Option.some.inj hu)), hJ.pure 8 (by rw [hs14]; decide) _ (by decide) (by decide) (by decide) (by decide)⟩
                simp [execOp, e0, hcst, go_sem]
              | 9, _ =>
                simp only [List.getElem?_toArray, List.getElem?_cons_zero, List.getElem?_cons_succ, Option.some.injEq] at hi
                subst hi
                have e0 : ev (.tmp 92) = .slice (some ⟨b, o, none⟩) len1 cap1 := (hin 92 7 ⟨7, .data⟩ (by kernel_rfl) (by simp) rfl rfl (show (92 : Nat) < 130 by decide)).trans (hK 7 _ (by rw [hKF]; rfl) (hdir 7 (by kernel_rfl)))
                have e1 : ev (.tmp 93) = .int .i64 (i : Int) := (hin 93 8 ⟨8, .data⟩ (by kernel_rfl) (by simp) rfl rfl (show (93 : Nat) < 130 by decide)).trans (hK 8 _ (by rw [hKF]; rfl) (hdir 8 (by kernel_rfl)))
                refine .inl ⟨.pointer (some ⟨b, o + i * 5, none⟩), w', ?_, hK.step 9 (by rw [hs14]; decide) _ (fun u hu => (by rw [hKF] at hu; exact Option.some.inj hu)), hJ.pure 9 (by rw [hs14]; decide) _ (by decide) (by decide) (by decide) (by decide)⟩
                simp only [execOp, e0, e1, hcst]
                go_simp
              | 10, _ =>
                simp only [List.getElem?_toArray, List.getElem?_cons_zero, List.getElem?_cons_succ, Option.some.injEq] at hi
                subst hi
                have e0 : ev (.tmp 94) = .pointer (some ⟨b, o + i * 5, none⟩) := (hin 94 9 ⟨9, .data⟩ (by kernel_rfl) (by simp) rfl rfl (show (94 : Nat) < 130 by decide)).trans (hK 9 _ (by rw [hKF]; rfl) (hdir 9 (by kernel_rfl)))
                refine .inl ⟨.agg #[.string (txt x.key), .string (txt x.value), .int .u32 x.flags, .int .i64 x.exp, .int .u64 x.ver], w', ?_, hK.step 10 (by rw [hs14]; decide) _ (fun u hu => (by rw [hKF] at hu; exact Option.some.inj hu)), hJ.pure 10 (by rw [hs14]; decide) _ (by decide) (by decide) (by decide) (by decide)⟩
                obtain ⟨y0, y1, y2, y3, y4⟩ := (XW.out w' (HB.out.trans (hc.mono HB.out.size))).vals
                simp only [execOp, e0]
                go_simp
              | 11, _ =>
                simp only [List.getElem?_toArray, List.getElem?_cons_zero, List.getElem?_cons_succ, Option.some.injEq] at hi
                subst hi
                have e0 : ev (.tmp 95) = .agg #[.string (txt x.key), .string (txt x.value), .int .u32 x.flags, .int .i64 x.exp, .int .u64 x.ver] := (hin 95 10 ⟨10, .data⟩ (by kernel_rfl) (by simp) rfl rfl (show (95 : Nat) < 130 by decide)).trans (hK 10 _ (by rw [hKF]; rfl) (hdir 10 (by kernel_rfl)))
                refine .inl ⟨.slice (some ⟨w'.heap.size, 0, none⟩) 1 1, w'.alloc (.cells (itCells x).toArray 36), ?_, hK.step 11 (by rw [hs14]; decide) _ (fun u hu => (by rw [hKF] at hu; cases hu)), hJ.build (by rw [hs14]; decide) hfr⟩
                simp [execOp, e0, hcst, go_sem, itCells]
              | 12, _ =>
                simp only [List.getElem?_toArray, List.getElem?_cons_zero, List.getElem?_cons_succ, Option.some.injEq] at hi
                subst hi
                have e0 : ev (.tmp 91) = V 6 := hin 91 6 ⟨6, .data⟩ (by kernel_rfl) (by simp) rfl rfl (show (91 : Nat) < 130 by decide)
                have e1 : ev (.tmp 96) = V 11 := hin 96 11 ⟨11, .data⟩ (by kernel_rfl) (by simp) rfl rfl (show (96 : Nat) < 130 by decide)
                obtain ⟨v', w2, hrun, hnd⟩ := hJ.append (by rw [hs14]; decide) hfr (hdir 6 (by kernel_rfl)) (hdir 11 (by kernel_rfl)) (by have := HFLL.out; omega)
                refine .inl ⟨v', w2, ?_, hK.step 12 (by rw [hs14]; decide) _ (fun u hu => (by rw [hKF] at hu; cases hu)), hnd⟩
                unfold execOp
                simp only [resolve, invoke, builtin, Sem.run_bind, Sem.run_pure, Result.andThen_ok, List.map_toArray, List.map_cons, List.map_nil, e0, e1, hrun]
              | 13, _ =>
                simp only [List.getElem?_toArray, List.getElem?_cons_zero, List.getElem?_cons_succ, Option.some.injEq] at hi
                subst hi
                have e0 : ev (.tmp 97) = V 12 := hin 97 12 ⟨12, .data⟩ (by kernel_rfl) (by simp) rfl rfl (show (97 : Nat) < 130 by decide)
                refine .inl ⟨V 12, w', ?_, hK.step 13 (by rw [hs14]; decide) _ (fun u hu => (by rw [hKF] at hu; cases hu)), hJ.assign (by rw [hs14]; decide) (hdir 12 (by kernel_rfl))⟩
                simp [execOp, e0, hcst, go_sem]
            · intro V w7 hJ7
              obtain ⟨hK7, hN7⟩ := hJ7
              simp only [lexF, Act.put, List.setIfInBounds_toArray, List.set_cons_succ, List.set_cons_zero, List.getD_cons_succ, List.getD_cons_zero]
              obtain ⟨pa, pc, hv12, hrow7⟩ := hN7.r12 (by rfl)
              have hv13 := (hN7.c13 (by rfl)).2
              rw [hv13, hv12]
              have KE : Hid (NQ w d l m R (i + 1) w7 (.slice pa (fl.length + 1) pc) (fl.length + 1)) := ⟨F', S', v5', v6', v7', T', fl ++ [x], (G5h.out.below HBL.out).below hN7.bel, R5h.out, by rw [List.length_append]; rfl, hrow7.mono HB.out.size, by
                rw [HR2.out, ← HFL.out]
                exact (HPR.out.filter _).append_right _⟩
              clear hK7 hN7 hv12 hv13 hrow7
              go_wp2
              go_roundg (len1 - (i + 1))
              case measure => omega
              case rel => exact ⟨i + 1, pa, fl.length + 1, pc, rfl, rfl, by omega, by omega, KE.out⟩
    · have hil : len1 = i := by omega
      subst hil
      have hlt2 : ¬ (len1 : Int) < (len1 : Int) := by omega
      have hio := items_oks RR.out
      have HCO : Hid (Oks cur) := perm_oks HPM.out hio.1
      have hnn40 : nn ≤ 40 := by have h1 := HNN.out; have h2 := HPM.out.length_eq; have h3 := hio.2; omega
      obtain ⟨wO, hwO⟩ : ∃ wO : World, wO = wr := ⟨_, rfl⟩
      have GO : Hid (LG w wO d F S l m v5 v6 v7 T) := by rw [hwO]; exact G.out
      have RWO : Hid (Row wO w.heap.size (.slice na nn nc) cur) := by rw [hwO]; exact RW.out
      have BO : Hid (Below wO.heap.size wO wr) := by rw [hwO]; exact Below.refl _ _
      clear hg hin hlt hio hwO
      go_wp2_with fail
      go_loopg [14] nn (fun kx s14 wv => ∃ i : Nat, s14 = .int .i64 i ∧ i ≤ nn ∧ nn - i ≤ kx ∧ Hid (Below wO.heap.size wO wv))
      case atStart => exact ⟨0, rfl, Nat.zero_le _, by omega, BO.out⟩
      case round =>
        obtain ⟨i, rfl, hin2, hg2, Y⟩ := hrel
        by_cases hlt3 : i < nn
        · have hlt4 : (i : Int) < (nn : Int) := by omega
          obtain ⟨y, hy⟩ : ∃ y, cur[i]? = some y := ⟨_, List.getElem?_eq_getElem (by rw [← HNN.out]; exact hlt3)⟩
          obtain ⟨t, ht, hth, hti⟩ : ∃ t ∈ T.all, T.has y.key = some t.pos ∧ t.it = y := by
            have h1 := HPM.out.mem_iff.1 (List.mem_of_getElem? hy)
            unfold Lg.items Lg.hadOf at h1
            obtain ⟨t, ht, rfl⟩ := List.mem_map.1 h1
            obtain ⟨h2, h3⟩ := List.mem_filter.1 ht
            exact ⟨t, h2, of_decide_eq_true h3, rfl⟩
          obtain ⟨na', nc', hvn, hIN, _, _, _⟩ := (RWO.out.below Y.out).its HCO.out
          simp only [Value.slice.injEq] at hvn
          obtain ⟨rfl, hq9, rfl⟩ := hvn
          clear hq9
          obtain ⟨nb, no, rfl, hnb, hnc⟩ := hIN.cell i y hy
          obtain ⟨c0, c1, c2, c3, c4⟩ := hnc.vals
          have GY := hide (GO.out.below Y.out)
          have cG := hide (get_some GY.out.lg y.key (Nat.le_trans (HCO.out y (List.mem_of_getElem? hy)).2.1 (by omega)) t (GY.out.lg.ths t ht) hth)
          rw [hti, show y.val = .agg #[.string (txt y.key), .string (txt y.value), .int .u32 y.flags, .int .i64 y.exp, .int .u64 y.ver] from rfl] at cG
          have XN0 : Hid (∀ w', Below wr.heap.size wr w' → OneIt w' nb (no + i * 5) y) := fun w' hb => hnc.below hb hnb
          clear hy ht hth hti hIN hnb hnc
          go_wp2_with fail
          refine cG.out.mono ?_
          rintro e wg ⟨rfl, bg⟩
          have hbx : Blk (wg.alloc (.cells #[.string (txt y.key), .string (txt y.value), .int .u32 y.flags, .int .i64 y.exp, .int .u64 y.ver] 36)) wg.heap.size (itCells y) 36 := Blk.new wg _ 36
          have hbe : Below wg.heap.size wg (wg.alloc (.cells #[.string (txt y.key), .string (txt y.value), .int .u32 y.flags, .int .i64 y.exp, .int .u64 y.ver] 36)) := (Below.refl _ _).alloc (Nat.le_refl _) _
          have BG : Hid (Below wr.heap.size wr (wg.alloc (.cells #[.string (txt y.key), .string (txt y.value), .int .u32 y.flags, .int .i64 y.exp, .int .u64 y.ver] 36))) := bg.trans (hbe.mono bg.size)
          have HBX := hide hbx
          clear hbx hbe bg cG c0 c1 c2 c3 c4
          go_wp2_with fail
          obtain ⟨wA, hwA⟩ : ∃ wA, wA = wg.alloc (.cells #[.string (txt y.key), .string (txt y.value), .int .u32 y.flags, .int .i64 y.exp, .int .u64 y.ver] 36) := ⟨_, rfl⟩
          rw [← hwA] at BG HBX ⊢
          obtain ⟨yb, hyb⟩ : ∃ yb, yb = wg.heap.size := ⟨_, rfl⟩
          rw [← hyb] at HBX ⊢
          clear hwA hyb
          have XB : Hid (∀ w', Below wA.heap.size wA w' → OneIt w' yb 0 y) := fun w' hb => by
            have h1 := HBX.out.same (hb.block yb HBX.out.lt)
            exact ⟨h1.cell (i := 0) rfl, h1.cell (i := 1) rfl, h1.cell (i := 2) rfl, h1.cell (i := 3) rfl, h1.cell (i := 4) rfl⟩
          have XN : Hid (∀ w', Below wA.heap.size wA w' → OneIt w' nb (no + i * 5) y) := fun w' hb => XN0.out w' (BG.out.trans (hb.mono BG.out.size))
          have DR := hide (below_drew wA)
          refine wp_region_guard (by kernel_rfl) (by kernel_rfl) (fun jx => ([.int .i64 0, .bool false, .bool false, .agg #[.string (txt y.key), .string (txt y.value), .int .u32 y.flags, .int .i64 y.exp, .int .u64 y.ver], .slice (some ⟨nb, no, none⟩) nn nc, .int .i64 (i : Int), .pointer (some ⟨nb, no + i * 5, none⟩), .agg #[.string (txt y.key), .string (txt y.value), .int .u32 y.flags, .int .i64 y.exp, .int .u64 y.ver], .bool false, .bool false] : List Value).getD jx undef) (fun W => Below wA.heap.size wA W) (size_of (n := 130) (by kernel_rfl) rfl) (DR.out) ?_ ?_
          · intro jx ox hi w' ev hc hin hout hcst hfn
            have hltx : jx < 10 := by
              have := (Array.getElem?_eq_some_iff.1 hi).1
              simpa using this
            match jx, hltx with
            | 0, _ =>
              simp only [List.getElem?_toArray, List.getElem?_cons_zero, List.getElem?_cons_succ, Option.some.injEq] at hi
              subst hi
              rw [if_pos (by first | rfl | simp [wantV])]
              have e0 : ev (.tmp 16) = .int .i64 0 := hout 16 (by kernel_rfl) (show (16 : Nat) < 130 by decide)
              refine .inl ⟨w', ?_, hc⟩
              show _ = Result.ok (Next.value (.int .i64 0)) w'
              simp [execOp, e0, hcst, go_sem]
            | 1, _ =>
              simp only [List.getElem?_toArray, List.getElem?_cons_zero, List.getElem?_cons_succ, Option.some.injEq] at hi
              subst hi
              rw [if_pos (by first | rfl | simp [wantV])]
              have e0 : ev (.tmp 114) = .int .i64 0 := hin 114 0 ⟨0, .data⟩ (by kernel_rfl) (by simp) rfl rfl (show (114 : Nat) < 130 by decide)
              refine .inl ⟨w', ?_, hc⟩
              show _ = Result.ok (Next.value (.bool false)) w'
              simp [execOp, e0, hcst, go_sem]
            | 2, _ =>
              simp only [List.getElem?_toArray, List.getElem?_cons_zero, List.getElem?_cons_succ, Option.some.injEq] at hi
              subst hi
              rw [if_pos (by first | rfl | simp [wantV])]
              have e0 : ev (.tmp 115) = .bool false := hin 115 1 ⟨1, .data⟩ (by kernel_rfl) (by simp) rfl rfl (show (115 : Nat) < 130 by decide)
              refine .inl ⟨w', ?_, hc⟩
              show _ = Result.ok (Next.value (.bool false)) w'
              simp [execOp, e0, hcst, go_sem]
            | 3, _ =>
              simp only [List.getElem?_toArray, List.getElem?_cons_zero, List.getElem?_cons_succ, Option.some.injEq] at hi
              subst hi
              rw [if_pos (by first | rfl | simp [wantV])]
              have e0 : ev (.tmp 15) = .pointer (some ⟨yb, 0, none⟩) := hout 15 (by kernel_rfl) (show (15 : Nat) < 130 by decide)
              refine .inl ⟨w', ?_, hc⟩
              show _ = Result.ok (Next.value (.agg #[.string (txt y.key), .string (txt y.value), .int .u32 y.flags, .int .i64 y.exp, .int .u64 y.ver])) w'
              obtain ⟨y0, y1, y2, y3, y4⟩ := (XB.out w' hc).vals
              simp only [execOp, e0]
              go_simp
            | 4, _ =>
              simp only [List.getElem?_toArray, List.getElem?_cons_zero, List.getElem?_cons_succ, Option.some.injEq] at hi
              subst hi
              rw [if_pos (by first | rfl | simp [wantV])]
              have e0 : ev (.tmp 9) = .slice (some ⟨nb, no, none⟩) nn nc := hout 9 (by kernel_rfl) (show (9 : Nat) < 130 by decide)
              refine .inl ⟨w', ?_, hc⟩
              show _ = Result.ok (Next.value (.slice (some ⟨nb, no, none⟩) nn nc)) w'
              simp [execOp, e0, hcst, go_sem]
            | 5, _ =>
              simp only [List.getElem?_toArray, List.getElem?_cons_zero, List.getElem?_cons_succ, Option.some.injEq] at hi
              subst hi
              rw [if_pos (by first | rfl | simp [wantV])]
              have e0 : ev (.tmp 14) = .int .i64 (i : Int) := hout 14 (by kernel_rfl) (show (14 : Nat) < 130 by decide)
              refine .inl ⟨w', ?_, hc⟩
              show _ = Result.ok (Next.value (.int .i64 (i : Int))) w'
              simp [execOp, e0, hcst, go_sem]
            | 6, _ =>
              simp only [List.getElem?_toArray, List.getElem?_cons_zero, List.getElem?_cons_succ, Option.some.injEq] at hi
              subst hi
              rw [if_pos (by first | rfl | simp [wantV])]
              have e0 : ev (.tmp 118) = .slice (some ⟨nb, no, none⟩) nn nc := hin 118 4 ⟨4, .data⟩ (by kernel_rfl) (by simp) rfl rfl (show (118 : Nat) < 130 by decide)
              have e1 : ev (.tmp 119) = .int .i64 (i : Int) := hin 119 5 ⟨5, .data⟩ (by kernel_rfl) (by simp) rfl rfl (show (119 : Nat) < 130 by decide)
              refine .inl ⟨w', ?_, hc⟩
              show _ = Result.ok (Next.value (.pointer (some ⟨nb, no + i * 5, none⟩))) w'
              simp only [execOp, e0, e1, hcst]
              go_simp
            | 7, _ =>
              simp only [List.getElem?_toArray, List.getElem?_cons_zero, List.getElem?_cons_succ, Option.some.injEq] at hi
              subst hi
              rw [if_pos (by first | rfl | simp [wantV])]
              have e0 : ev (.tmp 120) = .pointer (some ⟨nb, no + i * 5, none⟩) := hin 120 6 ⟨6, .data⟩ (by kernel_rfl) (by simp) rfl rfl (show (120 : Nat) < 130 by decide)
              refine .inl ⟨w', ?_, hc⟩
              show _ = Result.ok (Next.value (.agg #[.string (txt y.key), .string (txt y.value), .int .u32 y.flags, .int .i64 y.exp, .int .u64 y.ver])) w'
              obtain ⟨y0, y1, y2, y3, y4⟩ := (XN.out w' hc).vals
              simp only [execOp, e0]
              go_simp
            | 8, _ =>
              simp only [List.getElem?_toArray, List.getElem?_cons_zero, List.getElem?_cons_succ, Option.some.injEq] at hi
              subst hi
              rw [if_pos (by first | rfl | simp [wantV])]
              have e0 : ev (.tmp 117) = .agg #[.string (txt y.key), .string (txt y.value), .int .u32 y.flags, .int .i64 y.exp, .int .u64 y.ver] := hin 117 3 ⟨3, .data⟩ (by kernel_rfl) (by simp) rfl rfl (show (117 : Nat) < 130 by decide)
              have e1 : ev (.tmp 121) = .agg #[.string (txt y.key), .string (txt y.value), .int .u32 y.flags, .int .i64 y.exp, .int .u64 y.ver] := hin 121 7 ⟨7, .data⟩ (by kernel_rfl) (by simp) rfl rfl (show (121 : Nat) < 130 by decide)
              refine .inl ⟨w', ?_, hc⟩
              show _ = Result.ok (Next.value (.bool false)) w'
              simp [execOp, e0, e1, hcst, go_sem]
            | 9, _ =>
              simp only [List.getElem?_toArray, List.getElem?_cons_zero, List.getElem?_cons_succ, Option.some.injEq] at hi
              subst hi
              rw [if_pos (by first | rfl | simp [wantV])]
              have e0 : ev (.tmp 116) = .bool false := hin 116 2 ⟨2, .data⟩ (by kernel_rfl) (by simp) rfl rfl (show (116 : Nat) < 130 by decide)
              have e1 : ev (.tmp 122) = .bool false := hin 122 8 ⟨8, .data⟩ (by kernel_rfl) (by simp) rfl rfl (show (122 : Nat) < 130 by decide)
              refine .inl ⟨w', ?_, hc⟩
              show _ = Result.ok (Next.value (.bool false)) w'
              simp [execOp, e0, e1, hcst, go_sem]
          · intro w7 hc
            simp only [lexF, Act.put, List.setIfInBounds_toArray, List.set_cons_succ, List.set_cons_zero, List.getD_cons_succ, List.getD_cons_zero]
            have YE : Hid (Below wO.heap.size wO w7) := Y.out.trans ((BG.out.trans (hc.mono BG.out.size)).mono Y.out.size)
            clear hc DR XB XN XN0
            go_wp2
            go_roundg (nn - (i + 1))
            case measure => omega
            case rel => exact ⟨i + 1, rfl, by omega, by omega, YE.out⟩
        · have hlt4 : ¬ (i : Int) < (nn : Int) := by omega
          have GY := hide (GO.out.below Y.out)
          have cI := hide (items_log GY.out.lg (by have := RR.out.all; omega) (by have := RR.out.regs; omega))
          go_wp2_with fail
          refine cI.out.mono ?_
          rintro e wz ⟨xa, xn, xc, rfl, hxn, hrow, bA⟩
          have hxe : xn = nn := by rw [hxn, HNN.out]; exact HPM.out.length_eq.symm
          subst hxe
          have BE := hide (GY.out.below bA).bel
          clear cI hxn hrow bA
          go_wp2
          go_ret
          exact ⟨rfl, BE.out⟩
end Go.Proofs.Ytbjkahdlejaheaa.regionNewest
