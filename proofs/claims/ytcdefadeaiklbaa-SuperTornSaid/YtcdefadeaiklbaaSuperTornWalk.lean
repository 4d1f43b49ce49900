/-
  Proof of the law 'SuperTorn'.
-/
import Derived.WalkKit
import Derived.Below
import Derived.Test.YtcdefadeaiklbaaTorn
namespace Go.Proofs.Ytcdefadeaiklbaa.superTorn
open Go.RowKit Go.Deep
set_option linter.unusedVariables false
set_option linter.unusedSimpArgs false

/-- What is known ahead of a round. -/
def TornAt (w : World) (d i : Nat) (v : Value) (wr : World) : Prop := ∃ F S cur prev rows, Law w d F S wr ∧ Chain S i cur prev ∧ RowAt w F wr v i rows ∧ rows.length = i ∧ (∀ c, cur = some c → rows[i - 1]? = some c) ∧ (∀ p, prev = some p → rows[i - 2]? = some p)
theorem row_slice {w W : World} {F : List Nat} {v : Value} {n : Nat} {xs : List Bk} (h : RowAt w F W v n xs) (hn : 0 < n) : ∃ g c, v = .slice (some ⟨g, 0, none⟩) n c := by
  rcases h.own.2 with ⟨_, h0⟩ | ⟨g, c, cur, hv, _⟩
  · omega
  · exact ⟨g, c, hv⟩
set_option maxRecDepth 4000 in
set_option maxHeartbeats 4000000 in
theorem walk (a0 : Option Addr) (len0 cap0 : Nat) (z0 : List Bk) (a1 : Int) (a2 : Option Addr) (len2 cap2 : Nat) (z2 : List UInt8) (w : World) (hw0 : BksAt w a0 len0 z0) (hw1 : (Lit.int .i64 a1).wf = true) (hw2 : BS w a2 len2 cap2 z2 ∧ (a2 = none → z2 = []) ∧ len2 ≤ 140737488351232) :
    Calls Try.prog 8 #[.slice a0 len0 cap0, .int .i64 a1, .slice a2 len2 cap2] w fun e w' => e = .returned (.bool true) ∧ Below w.heap.size w w' := by
  have ca := hide (awake_any w)
  have hn := hw0.len
  by_cases hA : len0 < 2
  · have iA : ((len0 : Int) < 2) = True := eq_true (by omega)
    clear hw0 hw1 hw2 hn hA
    go_enter Try.func8, Try.ntmps8
    go_wp2_with fail
    refine ca.out.mono ?_
    rintro r w1 ⟨rfl, h1⟩
    have B1 := hide h1
    clear h1 ca
    go_wp2
    go_ret
    exact ⟨rfl, B1.out⟩
  have iA : ((len0 : Int) < 2) = False := eq_false (by omega)
  by_cases hB : 10 < len0
  · have iB : ((10 : Int) < (len0 : Int)) = True := eq_true (by omega)
    clear hw0 hw1 hw2 hn hA hB
    go_enter Try.func8, Try.ntmps8
    go_wp2_with fail
    refine ca.out.mono ?_
    rintro r w1 ⟨rfl, h1⟩
    have B1 := hide h1
    clear h1 ca
    go_wp2
    go_ret
    exact ⟨rfl, B1.out⟩
  have iB : ((10 : Int) < (len0 : Int)) = False := eq_false (by omega)
  by_cases hC : 384 < len2
  · have iC : ((384 : Int) < (len2 : Int)) = True := eq_true (by omega)
    clear hw0 hw1 hw2 hn hA hB hC
    go_enter Try.func8, Try.ntmps8
    go_wp2_with fail
    refine ca.out.mono ?_
    rintro r w1 ⟨rfl, h1⟩
    have B1 := hide h1
    clear h1 ca
    go_wp2
    go_ret
    exact ⟨rfl, B1.out⟩
  have iC : ((384 : Int) < (len2 : Int)) = False := eq_false (by omega)
  by_cases hD : ¬ a1 = 0 ∧ ¬ a1 = 1
  · have iD : (a1 != 0) = true := by simpa using hD.1
    have iE : (a1 != 1) = true := by simpa using hD.2
    have iD2 : (a1 == 0) = false := by simpa using hD.1
    have iE2 : (a1 == 1) = false := by simpa using hD.2
    clear hw0 hw1 hw2 hn hA hB hC hD
    go_enter Try.func8, Try.ntmps8
    go_wp2_with fail
    refine ca.out.mono ?_
    rintro r w1 ⟨rfl, h1⟩
    have B1 := hide h1
    clear h1 ca
    go_wp2
    go_ret
    exact ⟨rfl, B1.out⟩
  obtain ⟨m, hm⟩ : ∃ m, len0 = m + 2 := ⟨len0 - 2, by omega⟩
  have HW := hide hw0
  have HW2 := hide hw2
  have HN := hide hn
  have HM := hide hm
  have HC := hide hC
  have HB10 := hide hB
  have cN : Hid (∀ W : World, Calls Try.prog 10 #[.int .i64 2] W fun e W' => ∃ d F, e = .returned (.tuple #[.pointer (some ⟨d, 0, none⟩), .int .i64 0]) ∧ Law W d F (Dv.fresh 2) W' ∧ Below W.heap.size W W') := fun W =>
    new_law (Below.refl _ _) 2 (by omega) (by omega)
  have hP : a1 = 0 ∨ a1 = 1 := by omega
  clear hw0 hw1 hw2 hn hA hB hC hD hm
  rcases hP with rfl | rfl
  · go_enter Try.func8, Try.ntmps8
    go_wp2_with fail
    refine ca.out.mono ?_
    rintro r w1 ⟨rfl, h1⟩
    have B1 := hide h1
    obtain ⟨gA, cA, wA, hrA, hoA, hBA⟩ := append_copy w1 a2 len2 cap2 z2 (HW2.out.1.later h1) HW2.out.2.1 (by have := HC.out; omega)
    obtain ⟨gB, cB, wB, hrB, hbB, hcB, hBB⟩ := append_zeros wA w1.heap.size gA len2 cA z2 hoA (by have := HC.out; omega) hBA.size
    have HRA := hide hrA
    have HRB := hide hrB
    have B2 := hide (h1.trans ((hBA.trans hBB).mono h1.size))
    have cD := hide (decode_any _ _ _ _ hcB wB hbB)
    clear h1 hrA hoA hBA hrB hbB hcB hBB ca
    cases hdd : dec (z2 ++ List.replicate 384 0) with
    | some x =>
      rw [hdd] at cD
      have cD2 : Hid (Calls Try.prog 13 #[.slice (some ⟨gB, 0, none⟩) (len2 + 384) cB] wB fun e w' => e = .returned (.tuple #[.agg #[.int .u64 x.seq, .int .u64 x.epoch, .int .u64 x.res, .int .u64 x.hor, .int .u64 x.gen, .bool x.clean, .int .i64 x.image], .int .i64 0]) ∧ Below wB.heap.size wB w') := cD.out
      clear cD hdd
      go_wp2_with (at_builtin; first | (refine Lib.wpList_append_run _ rfl _ _ _ _ rfl _ _ rfl rfl _ _ HRA.out ?_) | (refine Lib.wpList_append_run _ rfl _ _ _ _ rfl _ _ rfl rfl _ _ HRB.out ?_))
      refine cD2.out.mono ?_
      rintro r w3 ⟨rfl, hb⟩
      have B3 := hide (B2.out.trans (hb.mono B2.out.size))
      clear hb
      go_wp2
      go_ret
      exact ⟨rfl, B3.out.alloc B3.out.size _⟩
    | none =>
      rw [hdd] at cD
      have cD2 : Hid (Calls Try.prog 13 #[.slice (some ⟨gB, 0, none⟩) (len2 + 384) cB] wB fun e w' => e = .returned (.tuple #[.agg #[.int .u64 0, .int .u64 0, .int .u64 0, .int .u64 0, .int .u64 0, .bool false, .int .i64 0], .int .i64 3]) ∧ Below wB.heap.size wB w') := cD.out
      have HDD := hide hdd
      clear cD hdd
      go_wp2_with (at_builtin; first | (refine Lib.wpList_append_run _ rfl _ _ _ _ rfl _ _ rfl rfl _ _ HRA.out ?_) | (refine Lib.wpList_append_run _ rfl _ _ _ _ rfl _ _ rfl rfl _ _ HRB.out ?_))
      refine cD2.out.mono ?_
      rintro r w3 ⟨rfl, hb⟩
      have B3 := hide ((B2.out.trans (hb.mono B2.out.size)).alloc (Nat.le_trans B2.out.size hb.size) (.cells #[.int .u64 0, .int .u64 0, .int .u64 0, .int .u64 0, .int .u64 0, .bool false, .int .i64 0] 29))
      clear hb B2 B1 HRA HRB cD2
      go_wp2_with fail
      refine (cN.out _).mono ?_
      rintro r w4 ⟨d, F4, rfl, hl, _⟩
      have L4 : Hid (Law w d F4 (Dv.fresh 2) w4) := ⟨hl.dev, fun k hk => Nat.le_trans B3.out.size (hl.low k hk), B3.out.trans (hl.bel.mono B3.out.size)⟩
      clear hl B3 cN iA iB iC
      go_wp2_with fail
      go_loopg [11, 12] len0 (fun kx s11 s12 wr => ∃ i : Nat, s12 = .int .i64 i ∧ i ≤ len0 ∧ len0 - i ≤ kx ∧ Hid (TornAt w d i s11 wr))
      case atStart => exact ⟨0, rfl, Nat.zero_le _, by omega, F4, _, none, none, [], L4.out, Chain.fresh 2 (by omega), RowAt.nil _ _ _, rfl, fun c h => by (cases h), fun c h => by (cases h)⟩
      case round =>
        obtain ⟨i, rfl, hin, hg, I⟩ := hrel
        by_cases hlt : i < len0
        · have hlt2 : (i : Int) < (len0 : Int) := by omega
          obtain ⟨x, hx⟩ : ∃ x, z0[i]? = some x := ⟨_, List.getElem?_eq_getElem (by have := HN.out; omega)⟩
          have hxf : x.fits := HW.out.fits x (List.mem_of_getElem? hx)
          obtain ⟨F, S, cur, prev, rows, hl, hc, hr, hrl, hcu, hpr⟩ := I.out
          obtain ⟨bb, oo, rfl, hbbl, hone⟩ := HW.out.cell i x hx
          obtain ⟨c0, c1, c2, c3, c4, c5, c6⟩ := hone.below hl.bel hbbl
          have hi20 : (i : Int) < 20 := by have := HB10.out; omega
          obtain ⟨N, hN⟩ : ∃ N, N = sB x (i + 1) := ⟨_, rfl⟩
          have cS : Hid (Calls Try.prog 12 #[.pointer (some ⟨d, 0, none⟩), .agg #[.int .u64 x.seq, .int .u64 x.epoch, .int .u64 x.res, .int .u64 x.hor, .int .u64 x.gen, .bool x.clean, .int .i64 x.image]] wr fun e W' => e = .returned (.tuple #[.agg #[.int .u64 N.seq, .int .u64 N.epoch, .int .u64 N.res, .int .u64 N.hor, .int .u64 N.gen, .bool N.clean, .int .i64 N.image], .int .i64 0]) ∧
              ∃ F' S', Law w d F' S' W' ∧ Chain S' (i + 1) (some N) cur ∧ Moves F F' wr W') := by
            rw [hN]
            exact store_chain hl hc (by omega) x hxf
          have HR := hide hr
          have HG := hide hg
          have HRL := hide hrl
          have HCU := hide hcu
          clear hl hc hone hx hxf hN hg I hr hrl hcu hpr
          go_wp2_with fail
          refine cS.out.mono ?_
          rintro r w5 ⟨rfl, F5, S5, hl5, hc5, hm5⟩
          have HC5 := hide hc5
          have L5 := hide ((hl5.alloc (.cells #[.int .u64 N.seq, .int .u64 N.epoch, .int .u64 N.res, .int .u64 N.hor, .int .u64 N.gen, .bool N.clean, .int .i64 N.image] 29)).alloc (.cells #[.int .u64 N.seq, .int .u64 N.epoch, .int .u64 N.res, .int .u64 N.hor, .int .u64 N.gen, .bool N.clean, .int .i64 N.image] 29))
          have HR5 := hide (((HR.out.move hm5).alloc (.cells #[.int .u64 N.seq, .int .u64 N.epoch, .int .u64 N.res, .int .u64 N.hor, .int .u64 N.gen, .bool N.clean, .int .i64 N.image] 29)).alloc (.cells #[.int .u64 N.seq, .int .u64 N.epoch, .int .u64 N.res, .int .u64 N.hor, .int .u64 N.gen, .bool N.clean, .int .i64 N.image] 29))
          have hbN : Blk ((w5.alloc (.cells #[.int .u64 N.seq, .int .u64 N.epoch, .int .u64 N.res, .int .u64 N.hor, .int .u64 N.gen, .bool N.clean, .int .i64 N.image] 29)).alloc (.cells #[.int .u64 N.seq, .int .u64 N.epoch, .int .u64 N.res, .int .u64 N.hor, .int .u64 N.gen, .bool N.clean, .int .i64 N.image] 29)) (w5.heap.size + 1) (bkL N) 29 := by
            have := Blk.new (w5.alloc (.cells #[.int .u64 N.seq, .int .u64 N.epoch, .int .u64 N.res, .int .u64 N.hor, .int .u64 N.gen, .bool N.clean, .int .i64 N.image] 29)) (bkL N) 29
            rw [nblk_alloc] at this
            exact this
          obtain ⟨v', W6, hrun, hrow, hl6, hsl, _⟩ := HR5.out.append L5.out (by omega) N (w5.heap.size + 1) hbN
          have HRUN := hide hrun
          have HROW := hide hrow
          have L6 := hide hl6
          clear hl5 hc5 hm5 cS c0 c1 c2 c3 c4 c5 c6 HR hbN hrun hrow hl6 hsl
          go_wp2_with (at_builtin; refine Lib.wpList_append_run _ rfl _ _ _ _ rfl _ _ rfl rfl _ _ HRUN.out ?_)
          go_roundg (len0 - (i + 1))
          case measure => have := HG.out; omega
          case rel =>
            refine ⟨i + 1, rfl, by omega, by omega, F5, S5, some N, cur, _, L6.out, HC5.out, HROW.out, by rw [List.length_append, HRL.out]; rfl, fun c h => ?_, fun c h => ?_⟩
            · cases h
              rw [Nat.add_sub_cancel, List.getElem?_append_right (by rw [HRL.out]; exact Nat.le_refl _), HRL.out, Nat.sub_self]
              rfl
            · have := HCU.out c h
              have hlt : i - 1 < _ := (List.getElem?_eq_some_iff.1 this).1
              rw [show i + 1 - 2 = i - 1 by omega, List.getElem?_append_left hlt]
              exact this
        · obtain rfl : i = len0 := by omega
          have hlt2 : ¬ (i : Int) < (i : Int) := by omega
          obtain ⟨F, S, cur, prev, rows, hl, hc, hr, hrl, hcu, hpr⟩ := I.out
          have hm2 := HM.out
          obtain ⟨g, cp, rfl⟩ := row_slice hr (by omega)
          obtain ⟨c, hcc, hcs⟩ := hc.hcur (by omega)
          obtain ⟨q, hqq, hqs⟩ := hc.hprev (by omega)
          subst hcc hqq
          subst hm2
          have hg1 := hcu c rfl
          have hg2 := hpr q rfl
          rw [show m + 2 - 1 = m + 1 by omega] at hg1
          rw [show m + 2 - 2 = m by omega] at hg2
          obtain ⟨⟨e0, e1, e2, e3, e4, e5, e6⟩, hglt, hcp1, hcp2, -⟩ := hr.get (m + 1) c hg1
          obtain ⟨⟨d0, d1, d2, d3, d4, d5, d6⟩, -, -, -, -⟩ := hr.get m q hg2
          have hm10 : (m : Int) < 10 := by have := HB10.out; omega
          have L5 := hide hl
          have HC5 := hide hc
          have HCS := hide hcs
          have HQS := hide hqs
          have hmod : (c.seq : Int).tmod 2 = ((c.seq % 2 : Nat) : Int) := by rw [Int.tmod_eq_emod_of_nonneg (by omega)]; omega
          clear hl hc hr hrl hcu hpr hg1 hg2 hg hin hcs hqs I hlt
          have HNG := hide (L5.out.dev.new wr.heap.size (Nat.le_refl _))
          rcases Nat.mod_two_eq_zero_or_one c.seq with hpar | hpar
          · have HPAR := hide hpar
            rw [hpar] at hmod
            clear hpar
            go_wp2_with fail
            have L6 := hide (L5.out.alloc (.cells #[.int .u64 q.seq, .int .u64 q.epoch, .int .u64 q.res, .int .u64 q.hor, .int .u64 q.gen, .bool q.clean, .int .i64 q.image] 29))
            have HY := hide (L5.out.hold (bkL q) 29)
            have hpm : (m + 2) % 2 = 0 := by have h1 := HPAR.out; have h2 := HCS.out; rw [h2] at h1; exact h1
            have cW : Hid (Calls Try.prog 30 #[.pointer (some ⟨d, 0, none⟩), .int .i64 0, .slice a2 len2 cap2] (wr.alloc (.cells #[.int .u64 q.seq, .int .u64 q.epoch, .int .u64 q.res, .int .u64 q.hor, .int .u64 q.gen, .bool q.clean, .int .i64 q.image] 29)) fun e W' => e = .returned (.int .i64 0) ∧
                ∃ F' S', Law w d F' S' W' ∧ S'.loadV = slotV (some q) ∧ Moves F F' (wr.alloc (.cells #[.int .u64 q.seq, .int .u64 q.epoch, .int .u64 q.res, .int .u64 q.hor, .int .u64 q.gen, .bool q.clean, .int .i64 q.image] 29)) W') := by
              refine (write_any_two L6.out HC5.out.two HC5.out.arm 0 (by omega) HW2.out.1 HW2.out.2.1 (by have := HC.out; omega)).mono ?_
              rintro e W' ⟨rfl, F', S', hl', ht', ha', hm'⟩
              refine ⟨rfl, F', S', hl', ?_, hm'⟩
              rw [ht'.loadV, HDD.out, hpm]
              rfl
            clear L5 HC5 hmod e0 e1 e2 e3 e4 e5 e6 d0 d1 d2 d3 d4 d5 d6 hglt hcp1 hcp2 hpm
            refine cW.out.mono ?_
            rintro r w6 ⟨rfl, F6, S6, hl6, hv6, hm6⟩
            have HY6 := hide (HY.out.move hm6)
            have cL : Hid (Calls Try.prog 11 #[.pointer (some ⟨d, 0, none⟩)] w6 fun e W' => e = .returned (.tuple #[.agg #[.int .u64 q.seq, .int .u64 q.epoch, .int .u64 q.res, .int .u64 q.hor, .int .u64 q.gen, .bool q.clean, .int .i64 q.image], .int .i64 0]) ∧ ∃ S', Law w d F6 S' W' ∧ Moves F6 F6 w6 W') := by
              have := load_law hl6
              rw [hv6] at this
              exact this.mono (fun e W' ⟨h1, h2, h3⟩ => ⟨h1, _, h2, h3⟩)
            clear hl6 hv6 hm6 cW HY L6
            go_wp2_with fail
            refine cL.out.mono ?_
            rintro r w7 ⟨rfl, S7, hl7, hm7⟩
            have L7 := hide hl7
            have hy7 := (HY6.out.move hm7).blk
            have ylt := hy7.lt
            obtain ⟨y0, y1, y2, y3, y4, y5, y6, _, _, _, _, _, _, _⟩ := cells7 hy7
            clear hl7 hm7 cL HY6 hy7
            go_wp2
            go_ret
            exact ⟨rfl, (L7.out.alloc _).bel⟩
          · have HPAR := hide hpar
            rw [hpar] at hmod
            clear hpar
            go_wp2_with fail
            have L6 := hide (L5.out.alloc (.cells #[.int .u64 c.seq, .int .u64 c.epoch, .int .u64 c.res, .int .u64 c.hor, .int .u64 c.gen, .bool c.clean, .int .i64 c.image] 29))
            have HY := hide (L5.out.hold (bkL c) 29)
            have hpm : (m + 2) % 2 = 1 := by have h1 := HPAR.out; have h2 := HCS.out; rw [h2] at h1; exact h1
            have cW : Hid (Calls Try.prog 30 #[.pointer (some ⟨d, 0, none⟩), .int .i64 0, .slice a2 len2 cap2] (wr.alloc (.cells #[.int .u64 c.seq, .int .u64 c.epoch, .int .u64 c.res, .int .u64 c.hor, .int .u64 c.gen, .bool c.clean, .int .i64 c.image] 29)) fun e W' => e = .returned (.int .i64 0) ∧
                ∃ F' S', Law w d F' S' W' ∧ S'.loadV = slotV (some c) ∧ Moves F F' (wr.alloc (.cells #[.int .u64 c.seq, .int .u64 c.epoch, .int .u64 c.res, .int .u64 c.hor, .int .u64 c.gen, .bool c.clean, .int .i64 c.image] 29)) W') := by
              refine (write_any_two L6.out HC5.out.two HC5.out.arm 0 (by omega) HW2.out.1 HW2.out.2.1 (by have := HC.out; omega)).mono ?_
              rintro e W' ⟨rfl, F', S', hl', ht', ha', hm'⟩
              refine ⟨rfl, F', S', hl', ?_, hm'⟩
              rw [ht'.loadV, HDD.out, hpm]
              rfl
            clear L5 HC5 hmod e0 e1 e2 e3 e4 e5 e6 d0 d1 d2 d3 d4 d5 d6 hglt hcp1 hcp2 hpm
            refine cW.out.mono ?_
            rintro r w6 ⟨rfl, F6, S6, hl6, hv6, hm6⟩
            have HY6 := hide (HY.out.move hm6)
            have cL : Hid (Calls Try.prog 11 #[.pointer (some ⟨d, 0, none⟩)] w6 fun e W' => e = .returned (.tuple #[.agg #[.int .u64 c.seq, .int .u64 c.epoch, .int .u64 c.res, .int .u64 c.hor, .int .u64 c.gen, .bool c.clean, .int .i64 c.image], .int .i64 0]) ∧ ∃ S', Law w d F6 S' W' ∧ Moves F6 F6 w6 W') := by
              have := load_law hl6
              rw [hv6] at this
              exact this.mono (fun e W' ⟨h1, h2, h3⟩ => ⟨h1, _, h2, h3⟩)
            clear hl6 hv6 hm6 cW HY L6
            go_wp2_with fail
            refine cL.out.mono ?_
            rintro r w7 ⟨rfl, S7, hl7, hm7⟩
            have L7 := hide hl7
            have hy7 := (HY6.out.move hm7).blk
            have ylt := hy7.lt
            obtain ⟨y0, y1, y2, y3, y4, y5, y6, _, _, _, _, _, _, _⟩ := cells7 hy7
            clear hl7 hm7 cL HY6 hy7
            go_wp2
            go_ret
            exact ⟨rfl, (L7.out.alloc _).bel⟩
  · go_enter Try.func8, Try.ntmps8
    go_wp2_with fail
    refine ca.out.mono ?_
    rintro r w1 ⟨rfl, h1⟩
    have B1 := hide h1
    obtain ⟨gA, cA, wA, hrA, hoA, hBA⟩ := append_copy w1 a2 len2 cap2 z2 (HW2.out.1.later h1) HW2.out.2.1 (by have := HC.out; omega)
    obtain ⟨gB, cB, wB, hrB, hbB, hcB, hBB⟩ := append_zeros wA w1.heap.size gA len2 cA z2 hoA (by have := HC.out; omega) hBA.size
    have HRA := hide hrA
    have HRB := hide hrB
    have B2 := hide (h1.trans ((hBA.trans hBB).mono h1.size))
    have cD := hide (decode_any _ _ _ _ hcB wB hbB)
    clear h1 hrA hoA hBA hrB hbB hcB hBB ca
    cases hdd : dec (z2 ++ List.replicate 384 0) with
    | some x =>
      rw [hdd] at cD
      have cD2 : Hid (Calls Try.prog 13 #[.slice (some ⟨gB, 0, none⟩) (len2 + 384) cB] wB fun e w' => e = .returned (.tuple #[.agg #[.int .u64 x.seq, .int .u64 x.epoch, .int .u64 x.res, .int .u64 x.hor, .int .u64 x.gen, .bool x.clean, .int .i64 x.image], .int .i64 0]) ∧ Below wB.heap.size wB w') := cD.out
      clear cD hdd
      go_wp2_with (at_builtin; first | (refine Lib.wpList_append_run _ rfl _ _ _ _ rfl _ _ rfl rfl _ _ HRA.out ?_) | (refine Lib.wpList_append_run _ rfl _ _ _ _ rfl _ _ rfl rfl _ _ HRB.out ?_))
      refine cD2.out.mono ?_
      rintro r w3 ⟨rfl, hb⟩
      have B3 := hide (B2.out.trans (hb.mono B2.out.size))
      clear hb
      go_wp2
      go_ret
      exact ⟨rfl, B3.out.alloc B3.out.size _⟩
    | none =>
      rw [hdd] at cD
      have cD2 : Hid (Calls Try.prog 13 #[.slice (some ⟨gB, 0, none⟩) (len2 + 384) cB] wB fun e w' => e = .returned (.tuple #[.agg #[.int .u64 0, .int .u64 0, .int .u64 0, .int .u64 0, .int .u64 0, .bool false, .int .i64 0], .int .i64 3]) ∧ Below wB.heap.size wB w') := cD.out
      have HDD := hide hdd
      clear cD hdd
      go_wp2_with (at_builtin; first | (refine Lib.wpList_append_run _ rfl _ _ _ _ rfl _ _ rfl rfl _ _ HRA.out ?_) | (refine Lib.wpList_append_run _ rfl _ _ _ _ rfl _ _ rfl rfl _ _ HRB.out ?_))
      refine cD2.out.mono ?_
      rintro r w3 ⟨rfl, hb⟩
      have B3 := hide ((B2.out.trans (hb.mono B2.out.size)).alloc (Nat.le_trans B2.out.size hb.size) (.cells #[.int .u64 0, .int .u64 0, .int .u64 0, .int .u64 0, .int .u64 0, .bool false, .int .i64 0] 29))
      clear hb B2 B1 HRA HRB cD2
      go_wp2_with fail
      refine (cN.out _).mono ?_
      rintro r w4 ⟨d, F4, rfl, hl, _⟩
      have L4 : Hid (Law w d F4 (Dv.fresh 2) w4) := ⟨hl.dev, fun k hk => Nat.le_trans B3.out.size (hl.low k hk), B3.out.trans (hl.bel.mono B3.out.size)⟩
      clear hl B3 cN iA iB iC
      go_wp2_with fail
      go_loopg [11, 12] len0 (fun kx s11 s12 wr => ∃ i : Nat, s12 = .int .i64 i ∧ i ≤ len0 ∧ len0 - i ≤ kx ∧ Hid (TornAt w d i s11 wr))
      case atStart => exact ⟨0, rfl, Nat.zero_le _, by omega, F4, _, none, none, [], L4.out, Chain.fresh 2 (by omega), RowAt.nil _ _ _, rfl, fun c h => by (cases h), fun c h => by (cases h)⟩
      case round =>
        obtain ⟨i, rfl, hin, hg, I⟩ := hrel
        by_cases hlt : i < len0
        · have hlt2 : (i : Int) < (len0 : Int) := by omega
          obtain ⟨x, hx⟩ : ∃ x, z0[i]? = some x := ⟨_, List.getElem?_eq_getElem (by have := HN.out; omega)⟩
          have hxf : x.fits := HW.out.fits x (List.mem_of_getElem? hx)
          obtain ⟨F, S, cur, prev, rows, hl, hc, hr, hrl, hcu, hpr⟩ := I.out
          obtain ⟨bb, oo, rfl, hbbl, hone⟩ := HW.out.cell i x hx
          obtain ⟨c0, c1, c2, c3, c4, c5, c6⟩ := hone.below hl.bel hbbl
          have hi20 : (i : Int) < 20 := by have := HB10.out; omega
          obtain ⟨N, hN⟩ : ∃ N, N = sB x (i + 1) := ⟨_, rfl⟩
          have cS : Hid (Calls Try.prog 12 #[.pointer (some ⟨d, 0, none⟩), .agg #[.int .u64 x.seq, .int .u64 x.epoch, .int .u64 x.res, .int .u64 x.hor, .int .u64 x.gen, .bool x.clean, .int .i64 x.image]] wr fun e W' => e = .returned (.tuple #[.agg #[.int .u64 N.seq, .int .u64 N.epoch, .int .u64 N.res, .int .u64 N.hor, .int .u64 N.gen, .bool N.clean, .int .i64 N.image], .int .i64 0]) ∧
              ∃ F' S', Law w d F' S' W' ∧ Chain S' (i + 1) (some N) cur ∧ Moves F F' wr W') := by
            rw [hN]
            exact store_chain hl hc (by omega) x hxf
          have HR := hide hr
          have HG := hide hg
          have HRL := hide hrl
          have HCU := hide hcu
          clear hl hc hone hx hxf hN hg I hr hrl hcu hpr
          go_wp2_with fail
          refine cS.out.mono ?_
          rintro r w5 ⟨rfl, F5, S5, hl5, hc5, hm5⟩
          have HC5 := hide hc5
          have L5 := hide ((hl5.alloc (.cells #[.int .u64 N.seq, .int .u64 N.epoch, .int .u64 N.res, .int .u64 N.hor, .int .u64 N.gen, .bool N.clean, .int .i64 N.image] 29)).alloc (.cells #[.int .u64 N.seq, .int .u64 N.epoch, .int .u64 N.res, .int .u64 N.hor, .int .u64 N.gen, .bool N.clean, .int .i64 N.image] 29))
          have HR5 := hide (((HR.out.move hm5).alloc (.cells #[.int .u64 N.seq, .int .u64 N.epoch, .int .u64 N.res, .int .u64 N.hor, .int .u64 N.gen, .bool N.clean, .int .i64 N.image] 29)).alloc (.cells #[.int .u64 N.seq, .int .u64 N.epoch, .int .u64 N.res, .int .u64 N.hor, .int .u64 N.gen, .bool N.clean, .int .i64 N.image] 29))
          have hbN : Blk ((w5.alloc (.cells #[.int .u64 N.seq, .int .u64 N.epoch, .int .u64 N.res, .int .u64 N.hor, .int .u64 N.gen, .bool N.clean, .int .i64 N.image] 29)).alloc (.cells #[.int .u64 N.seq, .int .u64 N.epoch, .int .u64 N.res, .int .u64 N.hor, .int .u64 N.gen, .bool N.clean, .int .i64 N.image] 29)) (w5.heap.size + 1) (bkL N) 29 := by
            have := Blk.new (w5.alloc (.cells #[.int .u64 N.seq, .int .u64 N.epoch, .int .u64 N.res, .int .u64 N.hor, .int .u64 N.gen, .bool N.clean, .int .i64 N.image] 29)) (bkL N) 29
            rw [nblk_alloc] at this
            exact this
          obtain ⟨v', W6, hrun, hrow, hl6, hsl, _⟩ := HR5.out.append L5.out (by omega) N (w5.heap.size + 1) hbN
          have HRUN := hide hrun
          have HROW := hide hrow
          have L6 := hide hl6
          clear hl5 hc5 hm5 cS c0 c1 c2 c3 c4 c5 c6 HR hbN hrun hrow hl6 hsl
          go_wp2_with (at_builtin; refine Lib.wpList_append_run _ rfl _ _ _ _ rfl _ _ rfl rfl _ _ HRUN.out ?_)
          go_roundg (len0 - (i + 1))
          case measure => have := HG.out; omega
          case rel =>
            refine ⟨i + 1, rfl, by omega, by omega, F5, S5, some N, cur, _, L6.out, HC5.out, HROW.out, by rw [List.length_append, HRL.out]; rfl, fun c h => ?_, fun c h => ?_⟩
            · cases h
              rw [Nat.add_sub_cancel, List.getElem?_append_right (by rw [HRL.out]; exact Nat.le_refl _), HRL.out, Nat.sub_self]
              rfl
            · have := HCU.out c h
              have hlt : i - 1 < _ := (List.getElem?_eq_some_iff.1 this).1
              rw [show i + 1 - 2 = i - 1 by omega, List.getElem?_append_left hlt]
              exact this
        · obtain rfl : i = len0 := by omega
          have hlt2 : ¬ (i : Int) < (i : Int) := by omega
          obtain ⟨F, S, cur, prev, rows, hl, hc, hr, hrl, hcu, hpr⟩ := I.out
          have hm2 := HM.out
          obtain ⟨g, cp, rfl⟩ := row_slice hr (by omega)
          obtain ⟨c, hcc, hcs⟩ := hc.hcur (by omega)
          obtain ⟨q, hqq, hqs⟩ := hc.hprev (by omega)
          subst hcc hqq
          subst hm2
          have hg1 := hcu c rfl
          have hg2 := hpr q rfl
          rw [show m + 2 - 1 = m + 1 by omega] at hg1
          rw [show m + 2 - 2 = m by omega] at hg2
          obtain ⟨⟨e0, e1, e2, e3, e4, e5, e6⟩, hglt, hcp1, hcp2, -⟩ := hr.get (m + 1) c hg1
          obtain ⟨⟨d0, d1, d2, d3, d4, d5, d6⟩, -, -, -, -⟩ := hr.get m q hg2
          have hm10 : (m : Int) < 10 := by have := HB10.out; omega
          have L5 := hide hl
          have HC5 := hide hc
          have HCS := hide hcs
          have HQS := hide hqs
          have hmod : (c.seq : Int).tmod 2 = ((c.seq % 2 : Nat) : Int) := by rw [Int.tmod_eq_emod_of_nonneg (by omega)]; omega
          clear hl hc hr hrl hcu hpr hg1 hg2 hg hin hcs hqs I hlt
          have HNG := hide (L5.out.dev.new wr.heap.size (Nat.le_refl _))
          rcases Nat.mod_two_eq_zero_or_one c.seq with hpar | hpar
          · have HPAR := hide hpar
            rw [hpar] at hmod
            clear hpar
            go_wp2_with fail
            have L6 := hide (L5.out.alloc (.cells #[.int .u64 c.seq, .int .u64 c.epoch, .int .u64 c.res, .int .u64 c.hor, .int .u64 c.gen, .bool c.clean, .int .i64 c.image] 29))
            have HY := hide (L5.out.hold (bkL c) 29)
            have hpm : (m + 2) % 2 = 0 := by have h1 := HPAR.out; have h2 := HCS.out; rw [h2] at h1; exact h1
            have cW : Hid (Calls Try.prog 30 #[.pointer (some ⟨d, 0, none⟩), .int .i64 1, .slice a2 len2 cap2] (wr.alloc (.cells #[.int .u64 c.seq, .int .u64 c.epoch, .int .u64 c.res, .int .u64 c.hor, .int .u64 c.gen, .bool c.clean, .int .i64 c.image] 29)) fun e W' => e = .returned (.int .i64 0) ∧
                ∃ F' S', Law w d F' S' W' ∧ S'.loadV = slotV (some c) ∧ Moves F F' (wr.alloc (.cells #[.int .u64 c.seq, .int .u64 c.epoch, .int .u64 c.res, .int .u64 c.hor, .int .u64 c.gen, .bool c.clean, .int .i64 c.image] 29)) W') := by
              refine (write_any_two L6.out HC5.out.two HC5.out.arm 1 (by omega) HW2.out.1 HW2.out.2.1 (by have := HC.out; omega)).mono ?_
              rintro e W' ⟨rfl, F', S', hl', ht', ha', hm'⟩
              refine ⟨rfl, F', S', hl', ?_, hm'⟩
              rw [ht'.loadV, HDD.out, hpm]
              rfl
            clear L5 HC5 hmod e0 e1 e2 e3 e4 e5 e6 d0 d1 d2 d3 d4 d5 d6 hglt hcp1 hcp2 hpm
            refine cW.out.mono ?_
            rintro r w6 ⟨rfl, F6, S6, hl6, hv6, hm6⟩
            have HY6 := hide (HY.out.move hm6)
            have cL : Hid (Calls Try.prog 11 #[.pointer (some ⟨d, 0, none⟩)] w6 fun e W' => e = .returned (.tuple #[.agg #[.int .u64 c.seq, .int .u64 c.epoch, .int .u64 c.res, .int .u64 c.hor, .int .u64 c.gen, .bool c.clean, .int .i64 c.image], .int .i64 0]) ∧ ∃ S', Law w d F6 S' W' ∧ Moves F6 F6 w6 W') := by
              have := load_law hl6
              rw [hv6] at this
              exact this.mono (fun e W' ⟨h1, h2, h3⟩ => ⟨h1, _, h2, h3⟩)
            clear hl6 hv6 hm6 cW HY L6
            go_wp2_with fail
            refine cL.out.mono ?_
            rintro r w7 ⟨rfl, S7, hl7, hm7⟩
            have L7 := hide hl7
            have hy7 := (HY6.out.move hm7).blk
            have ylt := hy7.lt
            obtain ⟨y0, y1, y2, y3, y4, y5, y6, _, _, _, _, _, _, _⟩ := cells7 hy7
            clear hl7 hm7 cL HY6 hy7
            go_wp2
            go_ret
            exact ⟨rfl, (L7.out.alloc _).bel⟩
          · have HPAR := hide hpar
            rw [hpar] at hmod
            clear hpar
            go_wp2_with fail
            have L6 := hide (L5.out.alloc (.cells #[.int .u64 q.seq, .int .u64 q.epoch, .int .u64 q.res, .int .u64 q.hor, .int .u64 q.gen, .bool q.clean, .int .i64 q.image] 29))
            have HY := hide (L5.out.hold (bkL q) 29)
            have hpm : (m + 2) % 2 = 1 := by have h1 := HPAR.out; have h2 := HCS.out; rw [h2] at h1; exact h1
            have cW : Hid (Calls Try.prog 30 #[.pointer (some ⟨d, 0, none⟩), .int .i64 1, .slice a2 len2 cap2] (wr.alloc (.cells #[.int .u64 q.seq, .int .u64 q.epoch, .int .u64 q.res, .int .u64 q.hor, .int .u64 q.gen, .bool q.clean, .int .i64 q.image] 29)) fun e W' => e = .returned (.int .i64 0) ∧
                ∃ F' S', Law w d F' S' W' ∧ S'.loadV = slotV (some q) ∧ Moves F F' (wr.alloc (.cells #[.int .u64 q.seq, .int .u64 q.epoch, .int .u64 q.res, .int .u64 q.hor, .int .u64 q.gen, .bool q.clean, .int .i64 q.image] 29)) W') := by
              refine (write_any_two L6.out HC5.out.two HC5.out.arm 1 (by omega) HW2.out.1 HW2.out.2.1 (by have := HC.out; omega)).mono ?_
              rintro e W' ⟨rfl, F', S', hl', ht', ha', hm'⟩
              refine ⟨rfl, F', S', hl', ?_, hm'⟩
              rw [ht'.loadV, HDD.out, hpm]
              rfl
            clear L5 HC5 hmod e0 e1 e2 e3 e4 e5 e6 d0 d1 d2 d3 d4 d5 d6 hglt hcp1 hcp2 hpm
            refine cW.out.mono ?_
            rintro r w6 ⟨rfl, F6, S6, hl6, hv6, hm6⟩
            have HY6 := hide (HY.out.move hm6)
            have cL : Hid (Calls Try.prog 11 #[.pointer (some ⟨d, 0, none⟩)] w6 fun e W' => e = .returned (.tuple #[.agg #[.int .u64 q.seq, .int .u64 q.epoch, .int .u64 q.res, .int .u64 q.hor, .int .u64 q.gen, .bool q.clean, .int .i64 q.image], .int .i64 0]) ∧ ∃ S', Law w d F6 S' W' ∧ Moves F6 F6 w6 W') := by
              have := load_law hl6
              rw [hv6] at this
              exact this.mono (fun e W' ⟨h1, h2, h3⟩ => ⟨h1, _, h2, h3⟩)
            clear hl6 hv6 hm6 cW HY L6
            go_wp2_with fail
            refine cL.out.mono ?_
            rintro r w7 ⟨rfl, S7, hl7, hm7⟩
            have L7 := hide hl7
            have hy7 := (HY6.out.move hm7).blk
            have ylt := hy7.lt
            obtain ⟨y0, y1, y2, y3, y4, y5, y6, _, _, _, _, _, _, _⟩ := cells7 hy7
            clear hl7 hm7 cL HY6 hy7
            go_wp2
            go_ret
            exact ⟨rfl, (L7.out.alloc _).bel⟩
end Go.Proofs.Ytcdefadeaiklbaa.superTorn
