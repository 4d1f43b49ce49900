/-
  A region of which two pages stand in each other's place does not count: for every input the call returns true; no condition.
-/
import Derived.WalkKit
import Derived.Below
import Derived.Test.YtbjkahdlejaheabSw9
import Derived.Test.YtbjkahdlejaheabRItems
import Derived.Test.YtbjkahdlejaheabRRow
namespace Go.Proofs.Ytbjkahdlejaheab.regionSwaps
open Go.RowKit Go.Deep Math
set_option linter.unusedVariables false
set_option linter.unusedSimpArgs false

theorem run_mono {R k : Nat} {S : Dv} {T : Lg} (h : Run9 R k S T) : Run9 R (k + 1) S T :=
  ⟨h.calm, h.losses, h.room, h.first', h.regions', Nat.le_succ_of_le h.num, Nat.le_succ_of_le h.cap, Nat.le_succ_of_le h.regs, Nat.le_succ_of_le h.all, h.cont, h.oks, h.pos⟩
def NS (w : World) (d l m k : Nat) (W : World) : Prop := ∃ F S v5 v6 v7 T, LG w W d F S l m v5 v6 v7 T ∧ Run9 1 k S T ∧ (T.opn = [] → T.num = 0) ∧ HasI T
set_option maxRecDepth 8000 in
set_option maxHeartbeats 40000000 in
theorem walk (a0 : Option Addr) (len0 cap0 : Nat) (z0 : List It) (a1 : Int) (a2 : Int) (w : World) (hw0 : RawAt w a0 len0 z0) (hw1 : (Lit.int .i64 a1).wf = true) (hw2 : (Lit.int .i64 a2).wf = true) :
    Calls Try.prog 4 #[.slice a0 len0 cap0, .int .i64 a1, .int .i64 a2] w fun e w' => e = .returned (.bool true) ∧ Below w.heap.size w w' := by
  have ca := hide (awake_any w)
  have HW := hide hw0
  have HLEN := hide hw0.len
  clear hw0 hw1 hw2
  by_cases hpre : len0 = 0 ∨ 20 < len0 ∨ a1 < 0 ∨ 3 < a1 ∨ a2 < 0 ∨ 3 < a2
  · go_enter Try.func4, Try.ntmps4
    by_cases q0 : len0 = 0
    · have e1' : ((len0 : Int) == 0) = true := by simp; omega
      clear hpre q0
      go_wp2_with fail
      refine ca.out.mono ?_
      rintro r w1 ⟨rfl, h1⟩
      have B1 := hide h1
      clear h1 ca
      go_wp2
      go_ret
      exact ⟨rfl, B1.out⟩
    have e1' : ((len0 : Int) == 0) = false := by simp; omega
    by_cases q1 : 20 < len0
    · have e2' : ((20 : Int) < (len0 : Int)) = True := eq_true (by omega)
      clear hpre q0 q1
      go_wp2_with fail
      refine ca.out.mono ?_
      rintro r w1 ⟨rfl, h1⟩
      have B1 := hide h1
      clear h1 ca
      go_wp2
      go_ret
      exact ⟨rfl, B1.out⟩
    have e2' : ((20 : Int) < (len0 : Int)) = False := eq_false (by omega)
    by_cases q2 : a1 < 0
    · have e3' : (a1 < 0) = True := eq_true (by omega)
      clear hpre q0 q1 q2
      go_wp2_with fail
      refine ca.out.mono ?_
      rintro r w1 ⟨rfl, h1⟩
      have B1 := hide h1
      clear h1 ca
      go_wp2
      go_ret
      exact ⟨rfl, B1.out⟩
    have e3' : (a1 < 0) = False := eq_false (by omega)
    by_cases q3 : 3 < a1
    · have e4' : (3 < a1) = True := eq_true (by omega)
      clear hpre q0 q1 q2 q3
      go_wp2_with fail
      refine ca.out.mono ?_
      rintro r w1 ⟨rfl, h1⟩
      have B1 := hide h1
      clear h1 ca
      go_wp2
      go_ret
      exact ⟨rfl, B1.out⟩
    have e4' : (3 < a1) = False := eq_false (by omega)
    by_cases q4 : a2 < 0
    · have e5' : (a2 < 0) = True := eq_true (by omega)
      clear hpre q0 q1 q2 q3 q4
      go_wp2_with fail
      refine ca.out.mono ?_
      rintro r w1 ⟨rfl, h1⟩
      have B1 := hide h1
      clear h1 ca
      go_wp2
      go_ret
      exact ⟨rfl, B1.out⟩
    have e5' : (a2 < 0) = False := eq_false (by omega)
    have e6' : (3 < a2) = True := eq_true (by omega)
    clear hpre q0 q1 q2 q3 q4
    go_wp2_with fail
    refine ca.out.mono ?_
    rintro r w1 ⟨rfl, h1⟩
    have B1 := hide h1
    clear h1 ca
    go_wp2
    go_ret
    exact ⟨rfl, B1.out⟩
  obtain ⟨P, rfl⟩ : ∃ n : Nat, a1 = (n : Int) := ⟨a1.toNat, by omega⟩
  obtain ⟨P2, rfl⟩ : ∃ n : Nat, a2 = (n : Int) := ⟨a2.toNat, by omega⟩

  have e1' : ((len0 : Int) == 0) = false := by simp; omega
  have e2' : ((20 : Int) < (len0 : Int)) = False := eq_false (by omega)
  have e3' : ((P : Int) < 0) = False := eq_false (by omega)
  have e4' : (3 < (P : Int)) = False := eq_false (by omega)
  have e5' : ((P2 : Int) < 0) = False := eq_false (by omega)
  have e6' : (3 < (P2 : Int)) = False := eq_false (by omega)
  have HN : Hid (1 ≤ len0 ∧ len0 ≤ 20 ∧ P < 4 ∧ P2 < 4) := ⟨by omega, by omega, by omega, by omega⟩
  have hP4 : (P : Int) < 4 := by omega
  have hl20 : len0 ≤ 20 := by omega
  clear hpre
  go_enter Try.func4, Try.ntmps4
  go_wp2_with fail
  refine ca.out.mono ?_
  rintro r w1 ⟨rfl, h1⟩
  have B1 := hide h1
  clear h1 ca
  have cN := hide (new_law B1.out 4 (by omega) (by omega))
  go_wp2_with fail
  refine cN.out.mono ?_
  rintro e w2 ⟨d, F2, rfl, hl2, _⟩
  have cO := hide (open_new hl2 0 1 (by omega) (by omega) (by omega))
  clear hl2 cN e1' e2' e3' e4' e5' e6' B1
  go_wp2_with fail
  refine cO.out.mono ?_
  rintro e w4 ⟨l, m, v5, T, S, rfl, G4, hN, _⟩
  have U4 : Hid (NS w d l m 0 w4) := ⟨F2, S, v5, _, _, T, G4, Run9.new hN (by omega), fun _ => hN.num, ⟨by rw [hN.has]; unfold Lg.all; rw [hN.regs, hN.opn]; rfl, fun r hr => (by rw [hN.regs] at hr; cases hr), by rw [hN.regs]; simp⟩⟩
  clear cO G4 hN
  go_wp2_with fail
  go_loopg [11] len0 (fun kx s11 wr => ∃ i : Nat, s11 = .int .i64 i ∧ i ≤ len0 ∧ len0 - i ≤ kx ∧ Hid (NS w d l m i wr))
  case atStart => exact ⟨0, rfl, Nat.zero_le _, by omega, U4.out⟩
  case round =>
    obtain ⟨i, rfl, hin, hg, I⟩ := hrel
    obtain ⟨F, S, v5, v6, v7, T, hG, hR, h0, hI⟩ := I.out
    have G := hide hG
    have R := hide hR
    have H0 := hide h0
    have HI := hide hI
    clear I hG hR h0 U4 hI
    by_cases hlt : i < len0
    · have hlt2 : (i : Int) < (len0 : Int) := by omega
      obtain ⟨x, hx⟩ : ∃ x, z0[i]? = some x := ⟨_, List.getElem?_eq_getElem (by rw [← HLEN.out]; exact hlt)⟩
      have HXF := hide (HW.out.fits x (List.mem_of_getElem? hx))
      obtain ⟨b, o, rfl, hb, hc⟩ := HW.out.cell i x hx
      have XW : Hid (∀ w', Below w.heap.size w w' → OneIt w' b (o + i * 5) x) := fun w' hb' => hc.below hb' hb
      clear hx hb hc
      obtain ⟨c0, c1, c2, c3, c4⟩ := (XW.out wr G.out.bel).vals
      have cP := hide (put_run G.out R.out (by omega) (by omega) (by omega) x HXF.out)
      rw [show x.val = .agg #[.string (txt x.key), .string (txt x.value), .int .u32 x.flags, .int .i64 x.exp, .int .u64 x.ver] from rfl] at cP
      go_wp2_with fail
      refine cP.out.mono ?_
      rintro e w5 hor
      have KE : Hid (NS w d l m (i + 1) w5 ∧ ∃ v, e = .returned v) := by
        rcases hor with ⟨_, rfl, b5⟩ | ⟨_, va, vn, vc, v5', v6', v7', F', S', T', ls, rfl, _, _, G5, R5, hcs⟩
        · exact ⟨⟨F, S, v5, v6, v7, T, G.out.below b5, run_mono R.out, H0.out, HI.out⟩, _, rfl⟩
        · refine ⟨⟨F', S', v5', v6', v7', T', G5, R5, fun h => ?_, ?_⟩, _, rfl⟩
          · rcases hcs with ⟨_, _, rfl, _⟩ | ⟨_, _, rfl, _⟩
            · exact absurd h (by show _ ++ [_] ≠ []; simp)
            · exact absurd h (by show _ ++ [_] ≠ []; simp)
          · rcases hcs with ⟨_, _, rfl, _⟩ | ⟨_, _, rfl, _⟩
            · exact HI.out.put _
            · exact (HI.out.cut R.out.pos v6 (by unfold Lg.next; rw [R.out.regions', Nat.mod_one])).1.put _
      obtain ⟨v, rfl⟩ := KE.out.2
      clear hor cP c0 c1 c2 c3 c4
      go_wp2
      go_roundg (len0 - (i + 1))
      case measure => omega
      case rel => exact ⟨i + 1, rfl, by omega, by omega, KE.out.1⟩
    · obtain rfl : i = len0 := by omega
      have hlt2 : ¬ (i : Int) < (i : Int) := by omega
      have cS := hide (seal_run G.out R.out (by omega) (by omega) (by omega))
      go_wp2_with fail
      refine cS.out.mono ?_
      rintro e w5 (⟨ho, rfl, h5⟩ | ⟨ho, va, vn, vc, v5', F', S', rfl, hvn, hrow, G5, hcs5, hcalm5, hlos5⟩)
      · obtain rfl : w5 = wr := h5
        have cNu := hide (number_log G.out.lg)
        rw [H0.out ho] at cNu
        have BE := hide G.out.bel
        clear cS ho G R H0 HI
        go_wp2_with fail
        refine cNu.out.mono ?_
        rintro e w6 ⟨rfl, h6⟩
        subst h6
        clear cNu
        go_wp2
        go_ret
        exact ⟨rfl, BE.out⟩
      · have hnx : T.next = 0 := by unfold Lg.next; rw [R.out.regions', Nat.mod_one]
        rw [hnx] at hcs5
        have cNu := hide (number_log G5.lg)
        obtain ⟨n, hn⟩ : ∃ n, n = T.num + 1 := ⟨_, rfl⟩
        rw [show (T.cut v6).num = n from hn.symm] at cNu
        rw [← hn] at hcs5
        have hn1 : 1 ≤ n ∧ n ≤ 21 := by have := R.out.num; omega
        have hnb : ((n : Int) == 0) = false := by simp; omega
        have hroom : 4 ≤ S.cs.length := by have := R.out.room; omega
        have PF : Hid (∀ k, k < 4 → ∃ l, fmAt S'.cs k = some l ∧ fmPlace l = k ∧ fmNum l = n) := fun k hk => by
          have := put4_form S.cs 0 n T.cont (by omega) (by omega) k hk
          rw [Nat.zero_add] at this
          rw [hcs5]; exact this
        have HL4 : Hid (4 ≤ S'.cs.length) := by show _ ≤ _; rw [hcs5, put4_length]; exact hroom
        have HNN := hide hn1
        have HTN : Hid ((T.cut v6).num = n) := hn.symm
        have HG5 := hide G5
        have HCALM5 := hide hcalm5
        have hI5 := HI.out.cut R.out.pos v6 hnx
        have hp5 : ((T.cut v6).all.map Th.pos).Nodup := by
          rw [hI5.2]
          have := R.out.pos
          unfold Lg.all at this
          rw [List.map_append, List.nodup_append] at this
          exact this.2.1
        obtain ⟨xs, hxs⟩ : ∃ xs, xs = T.opn.map Th.it := ⟨_, rfl⟩
        have HIT : Hid ((T.cut v6).items = lastOnes xs) := by show _ = _; rw [items_ones hI5.1.has hp5, hI5.2, hxs]
        have hal := R.out.all
        have hop46 : T.opn.length ≤ 21 := by
          have : T.all.length = (T.regs.flatMap Rg.ths).length + T.opn.length := by unfold Lg.all; rw [List.length_append]
          omega
        have cI5 := hide (items_log G5.lg (by rw [hI5.2]; omega) (by have := hI5.1.one; omega))
        have HLO : Hid (lastOnes xs = (T.cut v6).items ∧ (T.cut v6).items.length ≤ 21) := by
          refine ⟨HIT.out.symm, ?_⟩
          have h1 := hadOf_length (T.cut v6) (T.cut v6).all
          exact Nat.le_trans h1 (by rw [hI5.2]; exact hop46)
        have hoks : ∀ x ∈ xs, x.fits ∧ x.good = true := fun x hx => by
          rw [hxs] at hx
          obtain ⟨t, ht, rfl⟩ := List.mem_map.1 hx
          exact R.out.oks t (by unfold Lg.all; exact List.mem_append.2 (.inr ht))
        have HCNT : Hid (cnt S'.cs 0 = some (n, xs)) := by
          show _ = _
          rw [hcs5]
          exact (cnt_written (by omega) (by omega) R.out.cont (by unfold Lg.cont; rw [hxs] at hoks ⊢; exact lst_one _ hoks) (fun q hq => ⟨none, put4_in S.cs 0 n T.cont (by omega) q hq⟩)).1
        have HC5 := hide hcs5
        have HR4 := hide hroom
        obtain ⟨cont, hcont⟩ : ∃ cont, cont = T.cont := ⟨_, rfl⟩
        rw [← hcont] at HC5
        obtain ⟨cs0, hcs0⟩ : ∃ cs0, cs0 = S.cs := ⟨_, rfl⟩
        rw [← hcs0] at HC5 HR4
        clear cS ho hvn hrow G5 hcs5 hcalm5 hlos5 hnx hn hn1 hroom G R H0 HI hI5 hp5 hal hop46 hoks hcont hcs0 hxs
        generalize T.cut v6 = T5 at *
        go_wp2_with fail
        refine cNu.out.mono ?_
        rintro e w6 ⟨rfl, h6⟩
        obtain rfl : w6 = w5 := h6
        clear cNu
        go_wp2_with fail
        refine cI5.out.mono ?_
        rintro e w7 ⟨ja, jn, jc, rfl, hjn, _, b7⟩
        have HJN : Hid (jn = T5.items.length) := hjn
        have hj21 : jn ≤ 21 := by rw [hjn]; exact HLO.out.2
        have G7 := hide (HG5.out.below b7)
        have cRa := hide (read_two G7.out HCALM5.out cs0 n cont HC5.out HR4.out (by have := HNN.out; omega) P HN.out.2.2.1)
        clear cI5 hjn b7
        go_wp2_with fail
        refine cRa.out.mono ?_
        rintro e w8 ⟨la, S8, ga, rfl, hba, hla, hfa, G8, hcs8, hcalm8, _⟩
        have cRb := hide (read_two G8 hcalm8 cs0 n cont (hcs8.trans HC5.out) HR4.out (by have := HNN.out; omega) P2 HN.out.2.2.2)
        have HBA := hide hba
        have HLA := hide (And.intro hla hfa)
        have HC8 := hide hcs8
        clear cRa hba hla hfa G8 hcs8 hcalm8
        go_wp2_with fail
        refine cRb.out.mono ?_
        rintro e w9 ⟨lb, S9, gb, rfl, hbb, hlb, hfb, G9, hcs9, hcalm9, kp9⟩
        have hl9 : S9.cs.length = S'.cs.length := by rw [hcs9, HC8.out]
        have cWa := hide (write_two G9 hcalm9 P (by rw [hl9]; exact Nat.lt_of_lt_of_le HN.out.2.2.1 HL4.out) gb lb hlb hbb)
        have HBA9 := hide (kp9 _ _ HBA.out)
        have HLB : Hid (lb.length = 384 ∧ fmAt S'.cs P2 = some lb) := ⟨hlb, by rw [← HC8.out]; exact hfb⟩
        have HC9 : Hid (S9.cs = S'.cs) := hcs9.trans HC8.out
        clear cRb hbb hlb hfb G9 hcs9 hcalm9 kp9 hl9 HBA
        go_wp2_with fail
        refine cWa.out.mono ?_
        rintro e wA ⟨rfl, FA, SA, GA, hcsA, hcalmA, kpA⟩
        have hlA : SA.cs.length = S'.cs.length := by rw [hcsA, putAt_length, HC9.out]
        have cWb := hide (write_two GA hcalmA P2 (by rw [hlA]; exact Nat.lt_of_lt_of_le HN.out.2.2.2 HL4.out) ga la HLA.out.1 (kpA _ _ HBA9.out))
        have HCA : Hid (SA.cs = putAt S'.cs P (.whole ⟨lb.toArray⟩)) := by show _ = _; rw [hcsA, HC9.out]
        clear cWa GA hcsA hcalmA kpA hlA HBA9
        go_wp2_with fail
        refine cWb.out.mono ?_
        rintro e wB ⟨rfl, FB, SB, GB, hcsB, hcalmB, _⟩
        have HCB : Hid (SB.cs = putAt (putAt S'.cs P (.whole ⟨lb.toArray⟩)) P2 (.whole ⟨la.toArray⟩)) := by show _ = _; rw [hcsB, HCA.out]
        have hlB : 4 ≤ SB.cs.length := by rw [HCB.out, putAt_length, putAt_length]; exact HL4.out
        by_cases hab : P = P2
        · have hq1 : ((P : Int) = (P2 : Int)) = True := eq_true (by omega)
          have hq2 : ((P : Int) == (P2 : Int)) = true := by simp; omega
          subst hab
          have hlalb : la = lb := by
            have h1 := HLA.out.2
            rw [HLB.out.2] at h1
            exact (Option.some.inj h1).symm
          have cO := hide (open_same GB hcalmB hlB n xs (by rw [HCB.out, hlalb, same_cnt HN.out.2.2.1 HL4.out HLB.out.2 HLB.out.1]; exact HCNT.out))
          clear cWb GB hcsB hcalmB hlB hlalb
          go_wp2_with fail
          refine cO.out.mono ?_
          rintro e wc ⟨lh, mh, v5h, Tq, Sh, rfl, hLh, hit, hall, hregs, Gh⟩
          have cI := hide (items_log hLh (by omega) (by omega))
          have HEQ : Hid (Tq.items.length = T5.items.length) := by show _ = _; rw [hit, HLO.out.1]
          have HGH := hide Gh
          clear cO hLh hit hall hregs Gh
          go_wp2_with fail
          refine cI.out.mono ?_
          rintro e wd ⟨xa, xn, xc, rfl, hxn, hrw, bb⟩
          have hjx : xn = jn := by rw [hxn, HJN.out]; exact HEQ.out
          subst hjx
          have BE := hide (HGH.out.below bb).bel
          clear cI hxn hrw bb
          go_wp2
          go_ret
          exact ⟨rfl, BE.out⟩
        · have hq1 : ((P : Int) = (P2 : Int)) = False := eq_false (by omega)
          have hq2 : ((P : Int) == (P2 : Int)) = false := by simp; omega
          have HH := hide (swap_cnt PF.out HN.out.2.2.1 HN.out.2.2.2 HL4.out (by rw [← HC8.out] ; rw [HC8.out]; exact HLA.out.2) HLB.out.2 HLA.out.1 HLB.out.1 hab)
          rw [← HCB.out] at HH
          have cO := hide (open_none GB hcalmB hlB HH.out.1)
          clear cWb GB hcsB hcalmB hlB hab
          go_wp2_with fail
          refine cO.out.mono ?_
          rintro e wa ⟨lh, mh, v5h, v6h, v7h, Th, Sh, rfl, hLh, hit, hall, hregs, hnum, Gh⟩
          have cI := hide (items_log hLh (by rw [hall]; simp) (by rw [hregs]; simp))
          rw [hit] at cI
          have HNU : Hid (Th.num = n) := by show _ = _; rw [hnum]; exact HH.out.2
          have HLH := hide hLh
          have HGH := hide Gh
          clear cO hLh hit hall hregs hnum Gh
          go_wp2_with fail
          refine cI.out.mono ?_
          rintro e wb ⟨xa, xn, xc, rfl, hxn, hrw, bb⟩
          have hxn0 : xn = 0 := hxn
          subst hxn0
          have cN1 := hide (number_log (HLH.out.below bb))
          rw [HNU.out] at cN1
          have cN2 := hide (number_log (HGH.out.below bb).lg)
          rw [HTN.out] at cN2
          have BE := hide (HGH.out.below bb).bel
          clear cI hxn hrw bb
          go_wp2_with fail
          refine cN1.out.mono ?_
          rintro e wc ⟨rfl, hc1⟩
          obtain rfl : wc = wb := hc1
          clear cN1
          go_wp2_with fail
          refine cN2.out.mono ?_
          rintro e wd ⟨rfl, hd1⟩
          obtain rfl : wd = wc := hd1
          clear cN2
          go_wp2
          go_ret
          exact ⟨rfl, BE.out⟩
end Go.Proofs.Ytbjkahdlejaheab.regionSwaps
