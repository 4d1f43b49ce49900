/-
  A region of which any page is torn, or blank, does not count: for every input the call returns true; no condition.
-/
import Derived.WalkKit
import Derived.Below
import Derived.Test.YtbjkahdlejaheabHf9
import Derived.Test.YtbjkahdlejaheabRItems
import Derived.Test.YtbjkahdlejaheabRRow
namespace Go.Proofs.Ytbjkahdlejaheab.regionHalf
open Go.RowKit Go.Deep Math
set_option linter.unusedVariables false
set_option linter.unusedSimpArgs false

theorem run_mono {R k : Nat} {S : Dv} {T : Lg} (h : Run9 R k S T) : Run9 R (k + 1) S T :=
  ⟨h.calm, h.losses, h.room, h.first', h.regions', Nat.le_succ_of_le h.num, Nat.le_succ_of_le h.cap, Nat.le_succ_of_le h.regs, Nat.le_succ_of_le h.all, h.cont, h.oks, h.pos⟩
def NS (w : World) (d l m k : Nat) (W : World) : Prop := ∃ F S v5 v6 v7 T, LG w W d F S l m v5 v6 v7 T ∧ Run9 1 k S T ∧ (T.opn = [] → T.num = 0)
set_option maxRecDepth 8000 in
set_option maxHeartbeats 40000000 in
theorem walk (a0 : Option Addr) (len0 cap0 : Nat) (z0 : List It) (a1 : Int) (a2 : Int) (w : World) (hw0 : RawAt w a0 len0 z0) (hw1 : (Lit.int .i64 a1).wf = true) (hw2 : (Lit.int .i64 a2).wf = true) :
    Calls Try.prog 3 #[.slice a0 len0 cap0, .int .i64 a1, .int .i64 a2] w fun e w' => e = .returned (.bool true) ∧ Below w.heap.size w w' := by
  have ca := hide (awake_any w)
  have HW := hide hw0
  have HLEN := hide hw0.len
  clear hw0 hw1 hw2
  by_cases hpre : len0 = 0 ∨ 20 < len0 ∨ a1 < 0 ∨ 3 < a1
  · go_enter Try.func3, Try.ntmps3
    by_cases q0 : len0 = 0
    · have e1' : ((len0 : Int) == 0) = true := by simp; omega
      clear hpre q0
      go_wp2_with fail
      refine ca.out.mono ?_
      rintro r w1 ⟨rfl, h1⟩
      have B1 := hide h1
      clear h1 ca
      go_wp2
      go_ret
      exact ⟨rfl, B1.out⟩
    have e1' : ((len0 : Int) == 0) = false := by simp; omega
    by_cases q1 : 20 < len0
    · have e2' : ((20 : Int) < (len0 : Int)) = True := eq_true (by omega)
      clear hpre q0 q1
      go_wp2_with fail
      refine ca.out.mono ?_
      rintro r w1 ⟨rfl, h1⟩
      have B1 := hide h1
      clear h1 ca
      go_wp2
      go_ret
      exact ⟨rfl, B1.out⟩
    have e2' : ((20 : Int) < (len0 : Int)) = False := eq_false (by omega)
    by_cases q2 : a1 < 0
    · have e3' : (a1 < 0) = True := eq_true (by omega)
      clear hpre q0 q1 q2
      go_wp2_with fail
      refine ca.out.mono ?_
      rintro r w1 ⟨rfl, h1⟩
      have B1 := hide h1
      clear h1 ca
      go_wp2
      go_ret
      exact ⟨rfl, B1.out⟩
    have e3' : (a1 < 0) = False := eq_false (by omega)
    have e4' : (3 < a1) = True := eq_true (by omega)
    clear hpre q0 q1 q2
    go_wp2_with fail
    refine ca.out.mono ?_
    rintro r w1 ⟨rfl, h1⟩
    have B1 := hide h1
    clear h1 ca
    go_wp2
    go_ret
    exact ⟨rfl, B1.out⟩
  obtain ⟨P, rfl⟩ : ∃ n : Nat, a1 = (n : Int) := ⟨a1.toNat, by omega⟩

  have e1' : ((len0 : Int) == 0) = false := by simp; omega
  have e2' : ((20 : Int) < (len0 : Int)) = False := eq_false (by omega)
  have e3' : ((P : Int) < 0) = False := eq_false (by omega)
  have e4' : (3 < (P : Int)) = False := eq_false (by omega)
  have HN : Hid (1 ≤ len0 ∧ len0 ≤ 20 ∧ P < 4) := ⟨by omega, by omega, by omega⟩
  have hP4 : (P : Int) < 4 := by omega
  have hl20 : len0 ≤ 20 := by omega
  clear hpre
  go_enter Try.func3, Try.ntmps3
  go_wp2_with fail
  refine ca.out.mono ?_
  rintro r w1 ⟨rfl, h1⟩
  have B1 := hide h1
  clear h1 ca
  have cN := hide (new_law B1.out 4 (by omega) (by omega))
  go_wp2_with fail
  refine cN.out.mono ?_
  rintro e w2 ⟨d, F2, rfl, hl2, _⟩
  have cO := hide (open_new hl2 0 1 (by omega) (by omega) (by omega))
  clear hl2 cN e1' e2' e3' e4' B1
  go_wp2_with fail
  refine cO.out.mono ?_
  rintro e w4 ⟨l, m, v5, T, S, rfl, G4, hN, _⟩
  have U4 : Hid (NS w d l m 0 w4) := ⟨F2, S, v5, _, _, T, G4, Run9.new hN (by omega), fun _ => hN.num⟩
  clear cO G4 hN
  go_wp2_with fail
  go_loopg [11] len0 (fun kx s11 wr => ∃ i : Nat, s11 = .int .i64 i ∧ i ≤ len0 ∧ len0 - i ≤ kx ∧ Hid (NS w d l m i wr))
  case atStart => exact ⟨0, rfl, Nat.zero_le _, by omega, U4.out⟩
  case round =>
    obtain ⟨i, rfl, hin, hg, I⟩ := hrel
    obtain ⟨F, S, v5, v6, v7, T, hG, hR, h0⟩ := I.out
    have G := hide hG
    have R := hide hR
    have H0 := hide h0
    clear I hG hR h0 U4
    by_cases hlt : i < len0
    · have hlt2 : (i : Int) < (len0 : Int) := by omega
      obtain ⟨x, hx⟩ : ∃ x, z0[i]? = some x := ⟨_, List.getElem?_eq_getElem (by rw [← HLEN.out]; exact hlt)⟩
      have HXF := hide (HW.out.fits x (List.mem_of_getElem? hx))
      obtain ⟨b, o, rfl, hb, hc⟩ := HW.out.cell i x hx
      have XW : Hid (∀ w', Below w.heap.size w w' → OneIt w' b (o + i * 5) x) := fun w' hb' => hc.below hb' hb
      clear hx hb hc
      obtain ⟨c0, c1, c2, c3, c4⟩ := (XW.out wr G.out.bel).vals
      have cP := hide (put_run G.out R.out (by omega) (by omega) (by omega) x HXF.out)
      rw [show x.val = .agg #[.string (txt x.key), .string (txt x.value), .int .u32 x.flags, .int .i64 x.exp, .int .u64 x.ver] from rfl] at cP
      go_wp2_with fail
      refine cP.out.mono ?_
      rintro e w5 hor
      have KE : Hid (NS w d l m (i + 1) w5 ∧ ∃ v, e = .returned v) := by
        rcases hor with ⟨_, rfl, b5⟩ | ⟨_, va, vn, vc, v5', v6', v7', F', S', T', ls, rfl, _, _, G5, R5, hcs⟩
        · exact ⟨⟨F, S, v5, v6, v7, T, G.out.below b5, run_mono R.out, H0.out⟩, _, rfl⟩
        · refine ⟨⟨F', S', v5', v6', v7', T', G5, R5, fun h => ?_⟩, _, rfl⟩
          rcases hcs with ⟨_, _, rfl, _⟩ | ⟨_, _, rfl, _⟩
          · exact absurd h (by show _ ++ [_] ≠ []; simp)
          · exact absurd h (by show _ ++ [_] ≠ []; simp)
      obtain ⟨v, rfl⟩ := KE.out.2
      clear hor cP c0 c1 c2 c3 c4
      go_wp2
      go_roundg (len0 - (i + 1))
      case measure => omega
      case rel => exact ⟨i + 1, rfl, by omega, by omega, KE.out.1⟩
    · obtain rfl : i = len0 := by omega
      have hlt2 : ¬ (i : Int) < (i : Int) := by omega
      have cS := hide (seal_run G.out R.out (by omega) (by omega) (by omega))
      go_wp2_with fail
      refine cS.out.mono ?_
      rintro e w5 (⟨ho, rfl, h5⟩ | ⟨ho, va, vn, vc, v5', F', S', rfl, hvn, hrow, G5, hcs5, hcalm5, hlos5⟩)
      · obtain rfl : w5 = wr := h5
        have cNu := hide (number_log G.out.lg)
        rw [H0.out ho] at cNu
        have BE := hide G.out.bel
        clear cS ho G R H0
        go_wp2_with fail
        refine cNu.out.mono ?_
        rintro e w6 ⟨rfl, h6⟩
        subst h6
        clear cNu
        go_wp2
        go_ret
        exact ⟨rfl, BE.out⟩
      · have hnx : T.next = 0 := by unfold Lg.next; rw [R.out.regions', Nat.mod_one]
        rw [hnx] at hcs5
        have cNu := hide (number_log G5.lg)
        obtain ⟨n, hn⟩ : ∃ n, n = T.num + 1 := ⟨_, rfl⟩
        rw [show (T.cut v6).num = n from hn.symm] at cNu
        rw [← hn] at hcs5
        have hn1 : 1 ≤ n ∧ n ≤ 21 := by have := R.out.num; omega
        have hnb : ((n : Int) == 0) = false := by simp; omega
        have hroom : 4 ≤ S.cs.length := by have := R.out.room; omega
        have PF : Hid (∀ k, k < 4 → ∃ l, fmAt S'.cs k = some l ∧ fmPlace l = k ∧ fmNum l = n) := fun k hk => by
          have := put4_form S.cs 0 n T.cont (by omega) (by omega) k hk
          rw [Nat.zero_add] at this
          rw [hcs5]; exact this
        have HL4 : Hid (4 ≤ S'.cs.length) := by show _ ≤ _; rw [hcs5, put4_length]; exact hroom
        have HNN := hide hn1
        have HTN : Hid ((T.cut v6).num = n) := hn.symm
        have LST : Hid (∀ c ∈ S'.cs, c.last = none) := by rw [hcs5]; exact put4_last _ _ _ _
        have HG5 := hide G5
        have HCALM5 := hide hcalm5
        clear cS ho hvn hrow G5 hcs5 hcalm5 hlos5 hnx hn hn1 hroom G R H0
        generalize T.cut v6 = T5 at *
        go_wp2_with fail
        refine cNu.out.mono ?_
        rintro e w6 ⟨rfl, h6⟩
        obtain rfl : w6 = w5 := h6
        clear cNu
        have HLP : Hid (P < S'.cs.length) := by have := HL4.out; have := HN.out.2.2; exact Nat.lt_of_lt_of_le this HL4.out
        by_cases hb : bits .and .i64 a2 1 = 0
        · have hb' : (bits .and .i64 a2 1 == 0) = true := by rw [hb]; rfl
          have cE := hide (erase_lg HG5.out HCALM5.out P HLP.out)
          clear hb
          go_wp2_with fail
          refine cE.out.mono ?_
          rintro e w7 ⟨rfl, F7, S7, G7, hcs7, hcalm7⟩
          have cF := hide (flush_lg G7 hcalm7)
          have HC7 := hide hcs7
          clear cE G7 hcs7 hcalm7 hb'
          go_wp2_with fail
          refine cF.out.mono ?_
          rintro e w8 ⟨rfl, F8, S8, G8, hcs8, hcalm8⟩
          have hH : Hole n P S'.cs S8.cs := by
            rw [hcs8, HC7.out]
            refine ⟨by rw [List.length_map, putAt_length], by rw [fm_blank, if_pos rfl], fun j hj => by rw [fm_blank, if_neg hj]⟩
          have HH := hide (hole_cnt hH HN.out.2.2 PF.out)
          have cO := hide (open_none G8 hcalm8 (by rw [hH.1]; exact HL4.out) HH.out.1)
          clear cF G8 hcs8 hcalm8 HC7 hH
          go_wp2_with fail
          refine cO.out.mono ?_
          rintro e wa ⟨lh, mh, v5h, v6h, v7h, Th, Sh, rfl, hLh, hit, hall, hregs, hnum, Gh⟩
          have cI := hide (items_log hLh (by rw [hall]; simp) (by rw [hregs]; simp))
          rw [hit] at cI
          have HNU : Hid (Th.num = n) := by show _ = _; rw [hnum]; exact HH.out.2
          have HLH := hide hLh
          have HGH := hide Gh
          clear cO hLh hit hall hregs hnum Gh
          go_wp2_with fail
          refine cI.out.mono ?_
          rintro e wb ⟨xa, xn, xc, rfl, hxn, hrw, bb⟩
          have hxn0 : xn = 0 := hxn
          subst hxn0
          have cN1 := hide (number_log (HLH.out.below bb))
          rw [HNU.out] at cN1
          have cN2 := hide (number_log (HGH.out.below bb).lg)
          rw [HTN.out] at cN2
          have BE := hide (HGH.out.below bb).bel
          clear cI hxn hrw bb
          go_wp2_with fail
          refine cN1.out.mono ?_
          rintro e wc ⟨rfl, hc1⟩
          obtain rfl : wc = wb := hc1
          clear cN1
          go_wp2_with fail
          refine cN2.out.mono ?_
          rintro e wd ⟨rfl, hd1⟩
          obtain rfl : wd = wc := hd1
          clear cN2
          go_wp2
          go_ret
          exact ⟨rfl, BE.out⟩
        · have hb' : (bits .and .i64 a2 1 == 0) = false := by simpa using hb
          have cW := hide (write_nil HG5.out HCALM5.out P HLP.out)
          clear hb
          go_wp2_with fail
          refine cW.out.mono ?_
          rintro e w7 ⟨rfl, F7, S7, G7, hcs7, hcalm7⟩
          have G7a := G7.below ((Below.refl w7.heap.size w7).alloc (Nat.le_refl _) (.cells #[.int .u8 2] 5))
          have hbs : BSlice (w7.alloc (.cells #[.int .u8 2] 5)) (some ⟨w7.heap.size, 0, none⟩) [2] w7.heap.size := by
            refine .inr ⟨by rw [nblk_alloc]; omega, 0, rfl, fun j hj => ?_⟩
            have hj0 : j = 0 := by simp at hj; omega
            subst hj0
            exact (Blk.new w7 [.int .u8 2] 5).cell (i := 0) rfl
          have cC := hide (crash_lg G7a (some ⟨w7.heap.size, 0, none⟩) 1 1 w7.heap.size [2] rfl (by omega) hbs (fun _ hm => by have := G7.dev.lt _ hm; omega))
          have HC7 := hide hcs7
          clear cW G7 hcs7 hcalm7 hb' G7a hbs
          go_wp2_with fail
          refine cC.out.mono ?_
          rintro e w8 ⟨rfl, F8, G8⟩
          have cN1 := hide (on_lg G8)
          clear cC G8
          go_wp2_with fail
          refine cN1.out.mono ?_
          rintro e w9 ⟨rfl, F9, G9⟩
          have hcs9 : (S7.crash [2]).on.cs = S'.cs.set P ⟨.torn, none⟩ := by
            show settle (settle S7.cs [2]) [] = _
            rw [HC7.out, settle_torn S'.cs P _ LST.out HLP.out]
            refine settle_still _ _ (fun x hx => ?_)
            rcases List.mem_or_eq_of_mem_set hx with h1 | h1
            · exact LST.out x h1
            · rw [h1]
          have hH : Hole n P S'.cs (S7.crash [2]).on.cs := by
            rw [hcs9]
            refine ⟨by rw [List.length_set], by rw [fm_torn, if_pos rfl], fun j hj => by rw [fm_torn, if_neg hj]⟩
          have HH := hide (hole_cnt hH HN.out.2.2 PF.out)
          have cO := hide (open_none G9 ⟨rfl, rfl⟩ (by rw [hH.1]; exact HL4.out) HH.out.1)
          clear cN1 G9 hcs9 HC7 hH
          go_wp2_with fail
          refine cO.out.mono ?_
          rintro e wa ⟨lh, mh, v5h, v6h, v7h, Th, Sh, rfl, hLh, hit, hall, hregs, hnum, Gh⟩
          have cI := hide (items_log hLh (by rw [hall]; simp) (by rw [hregs]; simp))
          rw [hit] at cI
          have HNU : Hid (Th.num = n) := by show _ = _; rw [hnum]; exact HH.out.2
          have HLH := hide hLh
          have HGH := hide Gh
          clear cO hLh hit hall hregs hnum Gh
          go_wp2_with fail
          refine cI.out.mono ?_
          rintro e wb ⟨xa, xn, xc, rfl, hxn, hrw, bb⟩
          have hxn0 : xn = 0 := hxn
          subst hxn0
          have cN1 := hide (number_log (HLH.out.below bb))
          rw [HNU.out] at cN1
          have cN2 := hide (number_log (HGH.out.below bb).lg)
          rw [HTN.out] at cN2
          have BE := hide (HGH.out.below bb).bel
          clear cI hxn hrw bb
          go_wp2_with fail
          refine cN1.out.mono ?_
          rintro e wc ⟨rfl, hc1⟩
          obtain rfl : wc = wb := hc1
          clear cN1
          go_wp2_with fail
          refine cN2.out.mono ?_
          rintro e wd ⟨rfl, hd1⟩
          obtain rfl : wd = wc := hd1
          clear cN2
          go_wp2
          go_ret
          exact ⟨rfl, BE.out⟩
end Go.Proofs.Ytbjkahdlejaheab.regionHalf
