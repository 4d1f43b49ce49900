/-
  Proof of the law 'SuperLasts'.
-/
import Derived.WalkKit
import Derived.Below
import Derived.Test.YtcdefadeaiklbaaCut
namespace Go.Proofs.Ytcdefadeaiklbaa.superLasts
open Go.RowKit Go.Deep
set_option linter.unusedVariables false
set_option linter.unusedSimpArgs false

theorem law_put7 {w0 W : World} {d g : Nat} {F : List Nat} {S : Dv} (h : Law w0 d F S W) (hg : g ∉ F) (h0 : w0.heap.size ≤ g) (b : Bk) : Law w0 d F S (put7 W g b) :=
  ⟨put7_dv h.dev hg b, h.low, ((((((h.bel.setCell h0 _).setCell h0 _).setCell h0 _).setCell h0 _).setCell h0 _).setCell h0 _).setCell h0 _⟩
theorem held_put7 {W : World} {F : List Nat} {g : Nat} {x : Bk} (h : Held W F g (bkL x) 29) (b : Bk) : Held (put7 W g b) F g (bkL b) 29 := ⟨put7_blk h.blk b, h.off⟩
theorem held_far {W : World} {F : List Nat} {g k : Nat} {L : List Value} {t : TypeId} (h : Held W F k L t) (hk : k ≠ g) (b : Bk) : Held (put7 W g b) F k L t := ⟨h.blk.same (put7_far W g k b hk), h.off⟩
theorem law_base {w0 W W' : World} {d : Nat} {F : List Nat} {S : Dv} (h : Law W d F S W') (b : Below w0.heap.size w0 W) : Law w0 d F S W' :=
  ⟨h.dev, fun k hk => Nat.le_trans b.size (h.low k hk), b.trans (h.bel.mono b.size)⟩
/-- What is known ahead of a round. -/
def LastAt (w : World) (d g gb : Nat) (z : Bk) (i : Nat) (wr : World) : Prop := ∃ F S cur prev, Law w d F S wr ∧ Chain S i cur prev ∧ Quiet S ∧ Held wr F g (bkL (cur.getD Bk.zero)) 29 ∧ Held wr F gb (bkL z) 29

set_option maxRecDepth 4000 in
set_option maxHeartbeats 4000000 in
theorem walk (a0 : Option Addr) (len0 cap0 : Nat) (z0 : List Bk) (a1 : Int) (z2 : Bk) (a3 : Option Addr) (len3 cap3 : Nat) (z3 : List UInt8) (w : World) (hw0 : BksAt w a0 len0 z0) (hw1 : (Lit.int .i64 a1).wf = true) (hw2 : z2.fits) (hw3 : BS w a3 len3 cap3 z3 ∧ (a3 = none → z3 = []) ∧ len3 ≤ 140737488351232) :
    Calls Try.prog 6 #[.slice a0 len0 cap0, .int .i64 a1, .agg #[.int .u64 z2.seq, .int .u64 z2.epoch, .int .u64 z2.res, .int .u64 z2.hor, .int .u64 z2.gen, .bool z2.clean, .int .i64 z2.image], .slice a3 len3 cap3] w fun e w' => e = .returned (.bool true) ∧ Below w.heap.size w w' := by
  have ca : Hid (∀ W : World, Calls Try.prog 9 #[] W fun e w' => e = .returned (.bool true) ∧ Below W.heap.size W w') := awake_any
  have hn := hw0.len
  by_cases hlen : 10 < len0
  · have hlt : ((10 : Int) < (len0 : Int)) = True := eq_true (by omega)
    clear hw0 hlen hn hw1 hw2 hw3
    go_enter Try.func6, Try.ntmps6
    go_wp2_with fail
    refine (ca.out _).mono ?_
    rintro r w1 ⟨rfl, h1⟩
    have B1 := hide (((Below.refl w.heap.size w).alloc (Nat.le_refl _) (.cells #[.int .u64 z2.seq, .int .u64 z2.epoch, .int .u64 z2.res, .int .u64 z2.hor, .int .u64 z2.gen, .bool z2.clean, .int .i64 z2.image] 29)).trans (h1.mono (by rw [nblk_alloc]; omega)))
    clear h1 ca
    go_wp2
    go_ret
    exact ⟨rfl, B1.out⟩
  have hlt : ((10 : Int) < (len0 : Int)) = False := eq_false (by omega)
  have HW := hide hw0
  have HW2 := hide hw2
  have HW3 := hide hw3
  have HN := hide hn
  have HL := hide hlen
  have ha1 : a1 ≤ 9223372036854775807 := (wf_i64 hw1).2
  have HA := hide ha1
  have cN : Hid (∀ W : World, Calls Try.prog 10 #[.int .i64 2] W fun e W' => ∃ d F, e = .returned (.tuple #[.pointer (some ⟨d, 0, none⟩), .int .i64 0]) ∧ Law W d F (Dv.fresh 2) W' ∧ Below W.heap.size W W') := fun W =>
    new_law (Below.refl _ _) 2 (by omega) (by omega)
  clear hw0 hlen hn hw1 hw2 hw3 ha1
  go_enter Try.func6, Try.ntmps6
  go_wp2_with fail
  refine (ca.out _).mono ?_
  rintro r w1 ⟨rfl, h1⟩
  have B1 := hide (((Below.refl w.heap.size w).alloc (Nat.le_refl _) (.cells #[.int .u64 z2.seq, .int .u64 z2.epoch, .int .u64 z2.res, .int .u64 z2.hor, .int .u64 z2.gen, .bool z2.clean, .int .i64 z2.image] 29)).trans (h1.mono (by rw [nblk_alloc]; omega)))
  have hb1 : Blk w1 w.heap.size (bkL z2) 29 := (Blk.new w (bkL z2) 29).same (h1.block _ (Blk.new w (bkL z2) 29).lt)
  have HB1 := hide hb1
  clear h1 ca hb1
  go_wp2_with fail
  refine (cN.out _).mono ?_
  rintro r w2 ⟨d, F2, rfl, hl, hbel⟩
  have L2 := hide (law_base hl B1.out)
  have H2 : Hid (Held w2 F2 w.heap.size (bkL z2) 29) := ⟨HB1.out.same (hbel.block _ HB1.out.lt), fun hf => by have := hl.low _ hf; have := HB1.out.lt; omega⟩
  have NE : Hid (w.heap.size < w2.heap.size) := by show _ < _; have := HB1.out.lt; have := hbel.size; omega
  clear hl hbel B1 HB1 cN hlt
  go_wp2_with fail
  go_loopg [12, 13] len0 (fun kx s12 s13 wr => ∃ i : Nat, s12 = .bool (decide (0 < i)) ∧ s13 = .int .i64 i ∧ i ≤ len0 ∧ len0 - i ≤ kx ∧ Hid (LastAt w d w2.heap.size w.heap.size z2 i wr))
  case atStart => exact ⟨0, rfl, rfl, Nat.zero_le _, by omega, F2, _, none, none, L2.out.alloc _, Chain.fresh 2 (by omega), Quiet.fresh 2, L2.out.hold (bkL Bk.zero) 29, H2.out.alloc _⟩
  case round =>
    obtain ⟨i, rfl, rfl, hin, hg, I⟩ := hrel
    by_cases hlt : i < len0
    · have hlt2 : (i : Int) < (len0 : Int) := by omega
      obtain ⟨x, hx⟩ : ∃ x, z0[i]? = some x := ⟨_, List.getElem?_eq_getElem (by have := HN.out; omega)⟩
      have hxf : x.fits := HW.out.fits x (List.mem_of_getElem? hx)
      obtain ⟨F, S, cur, prev, hl, hc, hq, hb, hbb⟩ := I.out
      obtain ⟨bb, oo, rfl, hbbl, hone⟩ := HW.out.cell i x hx
      have h1 := hone.below hl.bel hbbl
      obtain ⟨c0, c1, c2, c3, c4, c5, c6⟩ := h1
      have hi20 : (i : Int) < 20 := by have := HL.out; omega
      obtain ⟨N, hN⟩ : ∃ N, N = sB x (i + 1) := ⟨_, rfl⟩
      have cS : Hid (Calls Try.prog 12 #[.pointer (some ⟨d, 0, none⟩), .agg #[.int .u64 x.seq, .int .u64 x.epoch, .int .u64 x.res, .int .u64 x.hor, .int .u64 x.gen, .bool x.clean, .int .i64 x.image]] wr fun e W' => e = .returned (.tuple #[.agg #[.int .u64 N.seq, .int .u64 N.epoch, .int .u64 N.res, .int .u64 N.hor, .int .u64 N.gen, .bool N.clean, .int .i64 N.image], .int .i64 0]) ∧
          ∃ F' S', Law w d F' S' W' ∧ Chain S' (i + 1) (some N) cur ∧ Quiet S' ∧ Moves F F' wr W') := by
        rw [hN]
        exact store_chainQ hl hc hq (by omega) x hxf
      have HB := hide hb
      have HBB := hide hbb
      have HG := hide hg
      clear hl hc hb hbb hone hx hxf hN hg I hq
      go_wp2_with fail
      refine cS.out.mono ?_
      rintro r w3 ⟨rfl, F3, S3, hl3, hc3, hq3, hm3⟩
      have L3 := hide hl3
      have HC3 := hide hc3
      have HQ3 := hide hq3
      have HW3' := hide (HB.out.move hm3)
      have HB3 := hide (HBB.out.move hm3)
      clear hl3 hc3 hm3 hq3 cS c0 c1 c2 c3 c4 c5 c6 HB HBB
      have hbw := HW3'.out.blk
      have hltw := hbw.lt
      obtain ⟨y0, y1, y2, y3, y4, y5, y6, f0, f1, f2, f3, f4, f5, f6⟩ := cells7 hbw
      clear hbw
      go_wp2
      go_roundg (len0 - (i + 1))
      case measure => have := HG.out; omega
      case rel =>
        exact ⟨i + 1, by simp, rfl, by omega, by omega, F3, S3, some N, cur, (law_put7 L3.out HW3'.out.off (Nat.le_of_lt NE.out) N).alloc _, HC3.out, HQ3.out, (held_put7 HW3'.out N).alloc _, (held_far HB3.out (Nat.ne_of_lt NE.out) N).alloc _⟩
    · obtain rfl : i = len0 := by omega
      have hlt2 : ¬ (i : Int) < (i : Int) := by omega
      obtain ⟨F, S, cur, prev, hl, hc, hq, hb, hbb⟩ := I.out
      have hi10 : i ≤ 10 := by have := HL.out; omega
      have cut := cut_last hc hq a1 z2 HW2.out (by omega) z3
      have cA := hide (arm_law hl a1 HA.out)
      have HB := hide hb
      have HBB := hide hbb
      have HC := hide hc
      have HNE := NE.out
      obtain ⟨N, hN⟩ : ∃ N, N = sB z2 (i + 1) := ⟨_, rfl⟩
      rw [← hN] at cut
      have hNs : N.seq = i + 1 := by rw [hN]; rfl
      have hNi : N.image = (toldN z2.image : Int) := by rw [hN]; rfl
      have HNN : Hid (N.epoch = z2.epoch ∧ N.res = z2.res ∧ N.hor = z2.hor ∧ N.gen = z2.gen ∧ N.clean = z2.clean) := by rw [hN]; exact ⟨rfl, rfl, rfl, rfl, rfl⟩
      have HNS := hide hNs
      have HNI := hide hNi
      have HI := hide hi10
      clear hl hc hq hb hbb hg hi10 I hN hNs hNi
      rcases cut with ⟨e1, e2, e3⟩ | ⟨e1, e2, e3 | e3⟩
      · have ES := hide e1
        have EB := hide e2
        have EL := hide e3
        clear e1 e2 e3
        go_wp2_with fail
        refine cA.out.mono ?_
        rintro r w3 ⟨rfl, hl3, hm3⟩
        have L3 := hide hl3
        have HW3' := hide (HB.out.move hm3)
        have HB3 := hide (HBB.out.move hm3)
        clear hl3 hm3 cA HB HBB
        have hbb := HB3.out.blk
        have hltb := hbb.lt
        obtain ⟨y0, y1, y2, y3, y4, y5, y6, _, _, _, _, _, _, _⟩ := cells7 hbb
        clear hbb
        have cS : Hid (Calls Try.prog 12 #[.pointer (some ⟨d, 0, none⟩), .agg #[.int .u64 z2.seq, .int .u64 z2.epoch, .int .u64 z2.res, .int .u64 z2.hor, .int .u64 z2.gen, .bool z2.clean, .int .i64 z2.image]] w3 fun e W' => e = .returned (.tuple #[.agg #[.int .u64 N.seq, .int .u64 N.epoch, .int .u64 N.res, .int .u64 N.hor, .int .u64 N.gen, .bool N.clean, .int .i64 N.image], .int .i64 0]) ∧ ∃ F', Law w d F' ((S.arm a1).storeDo z2) W' ∧ Moves F F' w3 W') := by
          have := store_law L3.out z2 HW2.out
          rw [ES.out, EB.out] at this
          exact this
        go_wp2_with fail
        refine cS.out.mono ?_
        rintro r w4 ⟨rfl, F4, hl4, hm4⟩
        have L4 := hide (hl4.alloc (.cells #[.int .u64 N.seq, .int .u64 N.epoch, .int .u64 N.res, .int .u64 N.hor, .int .u64 N.gen, .bool N.clean, .int .i64 N.image] 29))
        have HS4 := hide (hl4.hold (bkL N) 29)
        have HW4 := hide ((HW3'.out.move hm4).alloc (.cells #[.int .u64 N.seq, .int .u64 N.epoch, .int .u64 N.res, .int .u64 N.hor, .int .u64 N.gen, .bool N.clean, .int .i64 N.image] 29))
        have HB4 := hide ((HB3.out.move hm4).alloc (.cells #[.int .u64 N.seq, .int .u64 N.epoch, .int .u64 N.res, .int .u64 N.hor, .int .u64 N.gen, .bool N.clean, .int .i64 N.image] 29))
        clear hl4 hm4 cS L3 HW3' HB3 y0 y1 y2 y3 y4 y5 y6 hltb
        have cC := hide (crash_law L4.out HW3.out.1 HW3.out.2.1 HW3.out.2.2)
        go_wp2_with fail
        refine cC.out.mono ?_
        rintro r w5 ⟨rfl, F5, hl5, hm5⟩
        have HS5 := hide (HS4.out.move hm5)
        have HW5 := hide (HW4.out.move hm5)
        have HB5 := hide (HB4.out.move hm5)
        have cO := hide (on_law hl5)
        clear hl5 hm5 cC L4 HS4 HW4 HB4
        go_wp2_with fail
        refine cO.out.mono ?_
        rintro r w6 ⟨rfl, F6, hl6, hm6⟩
        have HS6 := hide (HS5.out.move hm6)
        have HW6 := hide (HW5.out.move hm6)
        have HB6 := hide (HB5.out.move hm6)
        have cL : Hid (Calls Try.prog 11 #[.pointer (some ⟨d, 0, none⟩)] w6 fun e W' => e = .returned (.tuple #[.agg #[.int .u64 N.seq, .int .u64 N.epoch, .int .u64 N.res, .int .u64 N.hor, .int .u64 N.gen, .bool N.clean, .int .i64 N.image], .int .i64 0]) ∧ ∃ S', Law w d F6 S' W' ∧ Moves F6 F6 w6 W') := by
          have := load_law hl6
          rw [EL.out] at this
          exact this.mono (fun e W' ⟨h1, h2, h3⟩ => ⟨h1, _, h2, h3⟩)
        clear hl6 hm6 cO HS5 HW5 HB5
        go_wp2_with fail
        refine cL.out.mono ?_
        rintro r w7 ⟨rfl, S7, hl7, hm7⟩
        have L7 := hide hl7
        have hs7 := (HS6.out.move hm7).blk
        have hw7 := (HW6.out.move hm7).blk
        have hb7 := (HB6.out.move hm7).blk
        have lts := hs7.lt
        have ltw := hw7.lt
        have ltb := hb7.lt
        clear hl7 hm7 cL HS6 HW6 HB6
        obtain ⟨q0, q1, q2, q3, q4, q5, q6, _, _, _, _, _, _, _⟩ := cells7 hs7
        clear hs7 hw7 hb7
        go_wp2
        go_ret
        exact ⟨rfl, (L7.out.alloc _).bel⟩
      · rcases Nat.eq_zero_or_pos i with hi0 | hi0
        · have hcn := (HC.out.hzero hi0).1
          have HCC := hide hcn
          have HI0 := hide hi0
          have hdec : decide (0 < i) = false := by rw [hi0]; rfl
          rw [hdec]
          rw [hcn] at e3
          clear hcn hi0 hdec
          have ES := hide e1
          have EB := hide e2
          have EL := hide e3
          clear e1 e2 e3
          go_wp2_with fail
          refine cA.out.mono ?_
          rintro r w3 ⟨rfl, hl3, hm3⟩
          have L3 := hide hl3
          have HW3' := hide (HB.out.move hm3)
          have HB3 := hide (HBB.out.move hm3)
          clear hl3 hm3 cA HB HBB
          have hbb := HB3.out.blk
          have hltb := hbb.lt
          obtain ⟨y0, y1, y2, y3, y4, y5, y6, _, _, _, _, _, _, _⟩ := cells7 hbb
          clear hbb
          have cS : Hid (Calls Try.prog 12 #[.pointer (some ⟨d, 0, none⟩), .agg #[.int .u64 z2.seq, .int .u64 z2.epoch, .int .u64 z2.res, .int .u64 z2.hor, .int .u64 z2.gen, .bool z2.clean, .int .i64 z2.image]] w3 fun e W' => e = .returned (.tuple #[.agg #[.int .u64 0, .int .u64 0, .int .u64 0, .int .u64 0, .int .u64 0, .bool false, .int .i64 0], .int .i64 4]) ∧ ∃ F', Law w d F' ((S.arm a1).storeDo z2) W' ∧ Moves F F' w3 W') := by
            have := store_law L3.out z2 HW2.out
            rw [ES.out, EB.out] at this
            exact this
          go_wp2_with fail
          refine cS.out.mono ?_
          rintro r w4 ⟨rfl, F4, hl4, hm4⟩
          have L4 := hide (hl4.alloc (.cells #[.int .u64 0, .int .u64 0, .int .u64 0, .int .u64 0, .int .u64 0, .bool false, .int .i64 0] 29))
          have HS4 := hide (hl4.hold (bkL Bk.zero) 29)
          have HW4 := hide ((HW3'.out.move hm4).alloc (.cells #[.int .u64 0, .int .u64 0, .int .u64 0, .int .u64 0, .int .u64 0, .bool false, .int .i64 0] 29))
          have HB4 := hide ((HB3.out.move hm4).alloc (.cells #[.int .u64 0, .int .u64 0, .int .u64 0, .int .u64 0, .int .u64 0, .bool false, .int .i64 0] 29))
          clear hl4 hm4 cS L3 HW3' HB3 y0 y1 y2 y3 y4 y5 y6 hltb
          have cC := hide (crash_law L4.out HW3.out.1 HW3.out.2.1 HW3.out.2.2)
          go_wp2_with fail
          refine cC.out.mono ?_
          rintro r w5 ⟨rfl, F5, hl5, hm5⟩
          have HS5 := hide (HS4.out.move hm5)
          have HW5 := hide (HW4.out.move hm5)
          have HB5 := hide (HB4.out.move hm5)
          have cO := hide (on_law hl5)
          clear hl5 hm5 cC L4 HS4 HW4 HB4
          go_wp2_with fail
          refine cO.out.mono ?_
          rintro r w6 ⟨rfl, F6, hl6, hm6⟩
          have HS6 := hide (HS5.out.move hm6)
          have HW6 := hide (HW5.out.move hm6)
          have HB6 := hide (HB5.out.move hm6)
          have cL : Hid (Calls Try.prog 11 #[.pointer (some ⟨d, 0, none⟩)] w6 fun e W' => e = .returned (.tuple #[.agg #[.int .u64 0, .int .u64 0, .int .u64 0, .int .u64 0, .int .u64 0, .bool false, .int .i64 0], .int .i64 5]) ∧ ∃ S', Law w d F6 S' W' ∧ Moves F6 F6 w6 W') := by
            have := load_law hl6
            rw [EL.out] at this
            exact this.mono (fun e W' ⟨h1, h2, h3⟩ => ⟨h1, _, h2, h3⟩)
          clear hl6 hm6 cO HS5 HW5 HB5
          go_wp2_with fail
          refine cL.out.mono ?_
          rintro r w7 ⟨rfl, S7, hl7, hm7⟩
          have L7 := hide hl7
          have hs7 := (HS6.out.move hm7).blk
          have hw7 := (HW6.out.move hm7).blk
          have hb7 := (HB6.out.move hm7).blk
          have lts := hs7.lt
          have ltw := hw7.lt
          have ltb := hb7.lt
          clear hl7 hm7 cL HS6 HW6 HB6
          clear hs7 hw7 hb7
          go_wp2
          go_ret
          exact ⟨rfl, (L7.out.alloc _).bel⟩
        · obtain ⟨c, hcc, hcs⟩ := HC.out.hcur hi0
          have HCC := hide hcc
          have HCS := hide hcs
          have hdec : decide (0 < i) = true := decide_eq_true hi0
          rw [hdec]
          rw [hcc] at e3
          clear hcc hcs hi0 hdec
          have ES := hide e1
          have EB := hide e2
          have EL := hide e3
          clear e1 e2 e3
          go_wp2_with fail
          refine cA.out.mono ?_
          rintro r w3 ⟨rfl, hl3, hm3⟩
          have L3 := hide hl3
          have HW3' := hide (HB.out.move hm3)
          have HB3 := hide (HBB.out.move hm3)
          clear hl3 hm3 cA HB HBB
          have hbb := HB3.out.blk
          have hltb := hbb.lt
          obtain ⟨y0, y1, y2, y3, y4, y5, y6, _, _, _, _, _, _, _⟩ := cells7 hbb
          clear hbb
          have cS : Hid (Calls Try.prog 12 #[.pointer (some ⟨d, 0, none⟩), .agg #[.int .u64 z2.seq, .int .u64 z2.epoch, .int .u64 z2.res, .int .u64 z2.hor, .int .u64 z2.gen, .bool z2.clean, .int .i64 z2.image]] w3 fun e W' => e = .returned (.tuple #[.agg #[.int .u64 0, .int .u64 0, .int .u64 0, .int .u64 0, .int .u64 0, .bool false, .int .i64 0], .int .i64 4]) ∧ ∃ F', Law w d F' ((S.arm a1).storeDo z2) W' ∧ Moves F F' w3 W') := by
            have := store_law L3.out z2 HW2.out
            rw [ES.out, EB.out] at this
            exact this
          go_wp2_with fail
          refine cS.out.mono ?_
          rintro r w4 ⟨rfl, F4, hl4, hm4⟩
          have L4 := hide (hl4.alloc (.cells #[.int .u64 0, .int .u64 0, .int .u64 0, .int .u64 0, .int .u64 0, .bool false, .int .i64 0] 29))
          have HS4 := hide (hl4.hold (bkL Bk.zero) 29)
          have HW4 := hide ((HW3'.out.move hm4).alloc (.cells #[.int .u64 0, .int .u64 0, .int .u64 0, .int .u64 0, .int .u64 0, .bool false, .int .i64 0] 29))
          have HB4 := hide ((HB3.out.move hm4).alloc (.cells #[.int .u64 0, .int .u64 0, .int .u64 0, .int .u64 0, .int .u64 0, .bool false, .int .i64 0] 29))
          clear hl4 hm4 cS L3 HW3' HB3 y0 y1 y2 y3 y4 y5 y6 hltb
          have cC := hide (crash_law L4.out HW3.out.1 HW3.out.2.1 HW3.out.2.2)
          go_wp2_with fail
          refine cC.out.mono ?_
          rintro r w5 ⟨rfl, F5, hl5, hm5⟩
          have HS5 := hide (HS4.out.move hm5)
          have HW5 := hide (HW4.out.move hm5)
          have HB5 := hide (HB4.out.move hm5)
          have cO := hide (on_law hl5)
          clear hl5 hm5 cC L4 HS4 HW4 HB4
          go_wp2_with fail
          refine cO.out.mono ?_
          rintro r w6 ⟨rfl, F6, hl6, hm6⟩
          have HS6 := hide (HS5.out.move hm6)
          have HW6 := hide (HW5.out.move hm6)
          have HB6 := hide (HB5.out.move hm6)
          have cL : Hid (Calls Try.prog 11 #[.pointer (some ⟨d, 0, none⟩)] w6 fun e W' => e = .returned (.tuple #[.agg #[.int .u64 c.seq, .int .u64 c.epoch, .int .u64 c.res, .int .u64 c.hor, .int .u64 c.gen, .bool c.clean, .int .i64 c.image], .int .i64 0]) ∧ ∃ S', Law w d F6 S' W' ∧ Moves F6 F6 w6 W') := by
            have := load_law hl6
            rw [EL.out] at this
            exact this.mono (fun e W' ⟨h1, h2, h3⟩ => ⟨h1, _, h2, h3⟩)
          clear hl6 hm6 cO HS5 HW5 HB5
          go_wp2_with fail
          refine cL.out.mono ?_
          rintro r w7 ⟨rfl, S7, hl7, hm7⟩
          have L7 := hide hl7
          have hs7 := (HS6.out.move hm7).blk
          have hw7 := (HW6.out.move hm7).blk
          have hb7 := (HB6.out.move hm7).blk
          have lts := hs7.lt
          have ltw := hw7.lt
          have ltb := hb7.lt
          clear hl7 hm7 cL HS6 HW6 HB6
          obtain ⟨p0, p1, p2, p3, p4, p5, p6, _, _, _, _, _, _, _⟩ := cells7 hw7
          obtain ⟨q0, q1, q2, q3, q4, q5, q6, _, _, _, _, _, _, _⟩ := cells7 hb7
          rw [HCC.out] at p0 p1 p2 p3 p4 p5 p6
          simp only [Option.getD_some] at p0 p1 p2 p3 p4 p5 p6
          have hws : IntKind.u64.wrap ((c.seq : Int) + 1) = (N.seq : Int) := by rw [IntKind.wrap_u64, HNS.out, HCS.out]; have := HI.out; omega
          clear hs7 hw7 hb7
          by_cases im0 : z2.image < 0
          · have im0' : (z2.image < 0) = True := eq_true im0
            have hni : (N.image : Int) = 0 := by rw [HNI.out]; unfold toldN; rw [if_pos (.inl im0)]; rfl
            clear im0
            go_wp2
            (go_ret; exact ⟨rfl, ((L7.out.alloc _).alloc _).bel⟩)
          · have im0' : (z2.image < 0) = False := eq_false im0
            by_cases im1 : 2147483647 < z2.image
            · have im1' : (2147483647 < z2.image) = True := eq_true im1
              have hni : (N.image : Int) = 0 := by rw [HNI.out]; unfold toldN; rw [if_pos (.inr im1)]; rfl
              clear im0 im1
              go_wp2
              (go_ret; exact ⟨rfl, ((L7.out.alloc _).alloc _).bel⟩)
            · have im1' : (2147483647 < z2.image) = False := eq_false im1
              have hni : (N.image : Int) = z2.image := by rw [HNI.out]; unfold toldN; rw [if_neg (by omega)]; omega
              clear im0 im1
              go_wp2
              (go_ret; exact ⟨rfl, ((L7.out.alloc _).alloc _).bel⟩)
      · rcases Nat.eq_zero_or_pos i with hi0 | hi0
        · have hcn := (HC.out.hzero hi0).1
          have HCC := hide hcn
          have HI0 := hide hi0
          have hdec : decide (0 < i) = false := by rw [hi0]; rfl
          rw [hdec]
          clear hcn hi0 hdec
          have ES := hide e1
          have EB := hide e2
          have EL := hide e3
          clear e1 e2 e3
          go_wp2_with fail
          refine cA.out.mono ?_
          rintro r w3 ⟨rfl, hl3, hm3⟩
          have L3 := hide hl3
          have HW3' := hide (HB.out.move hm3)
          have HB3 := hide (HBB.out.move hm3)
          clear hl3 hm3 cA HB HBB
          have hbb := HB3.out.blk
          have hltb := hbb.lt
          obtain ⟨y0, y1, y2, y3, y4, y5, y6, _, _, _, _, _, _, _⟩ := cells7 hbb
          clear hbb
          have cS : Hid (Calls Try.prog 12 #[.pointer (some ⟨d, 0, none⟩), .agg #[.int .u64 z2.seq, .int .u64 z2.epoch, .int .u64 z2.res, .int .u64 z2.hor, .int .u64 z2.gen, .bool z2.clean, .int .i64 z2.image]] w3 fun e W' => e = .returned (.tuple #[.agg #[.int .u64 0, .int .u64 0, .int .u64 0, .int .u64 0, .int .u64 0, .bool false, .int .i64 0], .int .i64 4]) ∧ ∃ F', Law w d F' ((S.arm a1).storeDo z2) W' ∧ Moves F F' w3 W') := by
            have := store_law L3.out z2 HW2.out
            rw [ES.out, EB.out] at this
            exact this
          go_wp2_with fail
          refine cS.out.mono ?_
          rintro r w4 ⟨rfl, F4, hl4, hm4⟩
          have L4 := hide (hl4.alloc (.cells #[.int .u64 0, .int .u64 0, .int .u64 0, .int .u64 0, .int .u64 0, .bool false, .int .i64 0] 29))
          have HS4 := hide (hl4.hold (bkL Bk.zero) 29)
          have HW4 := hide ((HW3'.out.move hm4).alloc (.cells #[.int .u64 0, .int .u64 0, .int .u64 0, .int .u64 0, .int .u64 0, .bool false, .int .i64 0] 29))
          have HB4 := hide ((HB3.out.move hm4).alloc (.cells #[.int .u64 0, .int .u64 0, .int .u64 0, .int .u64 0, .int .u64 0, .bool false, .int .i64 0] 29))
          clear hl4 hm4 cS L3 HW3' HB3 y0 y1 y2 y3 y4 y5 y6 hltb
          have cC := hide (crash_law L4.out HW3.out.1 HW3.out.2.1 HW3.out.2.2)
          go_wp2_with fail
          refine cC.out.mono ?_
          rintro r w5 ⟨rfl, F5, hl5, hm5⟩
          have HS5 := hide (HS4.out.move hm5)
          have HW5 := hide (HW4.out.move hm5)
          have HB5 := hide (HB4.out.move hm5)
          have cO := hide (on_law hl5)
          clear hl5 hm5 cC L4 HS4 HW4 HB4
          go_wp2_with fail
          refine cO.out.mono ?_
          rintro r w6 ⟨rfl, F6, hl6, hm6⟩
          have HS6 := hide (HS5.out.move hm6)
          have HW6 := hide (HW5.out.move hm6)
          have HB6 := hide (HB5.out.move hm6)
          have cL : Hid (Calls Try.prog 11 #[.pointer (some ⟨d, 0, none⟩)] w6 fun e W' => e = .returned (.tuple #[.agg #[.int .u64 N.seq, .int .u64 N.epoch, .int .u64 N.res, .int .u64 N.hor, .int .u64 N.gen, .bool N.clean, .int .i64 N.image], .int .i64 0]) ∧ ∃ S', Law w d F6 S' W' ∧ Moves F6 F6 w6 W') := by
            have := load_law hl6
            rw [EL.out] at this
            exact this.mono (fun e W' ⟨h1, h2, h3⟩ => ⟨h1, _, h2, h3⟩)
          clear hl6 hm6 cO HS5 HW5 HB5
          go_wp2_with fail
          refine cL.out.mono ?_
          rintro r w7 ⟨rfl, S7, hl7, hm7⟩
          have L7 := hide hl7
          have hs7 := (HS6.out.move hm7).blk
          have hw7 := (HW6.out.move hm7).blk
          have hb7 := (HB6.out.move hm7).blk
          have lts := hs7.lt
          have ltw := hw7.lt
          have ltb := hb7.lt
          clear hl7 hm7 cL HS6 HW6 HB6
          obtain ⟨p0, p1, p2, p3, p4, p5, p6, _, _, _, _, _, _, _⟩ := cells7 hw7
          obtain ⟨q0, q1, q2, q3, q4, q5, q6, _, _, _, _, _, _, _⟩ := cells7 hb7
          rw [HCC.out] at p0 p1 p2 p3 p4 p5 p6
          simp only [Option.getD_none, Bk.zero] at p0 p1 p2 p3 p4 p5 p6
          have hws : (N.seq : Int) = 1 := by rw [HNS.out, HI0.out]; rfl
          obtain ⟨ne, nr, nh, ng, nc⟩ := HNN.out
          rw [← ne] at q1
          rw [← nr] at q2
          rw [← nh] at q3
          rw [← ng] at q4
          rw [← nc] at q5
          clear ne nr nh ng nc
          clear hs7 hw7 hb7
          by_cases im0 : z2.image < 0
          · have im0' : (z2.image < 0) = True := eq_true im0
            have hni : (N.image : Int) = 0 := by rw [HNI.out]; unfold toldN; rw [if_pos (.inl im0)]; rfl
            clear im0
            go_wp2
            (go_ret; exact ⟨rfl, ((L7.out.alloc _).alloc _).bel⟩)
          · have im0' : (z2.image < 0) = False := eq_false im0
            by_cases im1 : 2147483647 < z2.image
            · have im1' : (2147483647 < z2.image) = True := eq_true im1
              have hni : (N.image : Int) = 0 := by rw [HNI.out]; unfold toldN; rw [if_pos (.inr im1)]; rfl
              clear im0 im1
              go_wp2
              (go_ret; exact ⟨rfl, ((L7.out.alloc _).alloc _).bel⟩)
            · have im1' : (2147483647 < z2.image) = False := eq_false im1
              have hni : (N.image : Int) = z2.image := by rw [HNI.out]; unfold toldN; rw [if_neg (by omega)]; omega
              clear im0 im1
              go_wp2
              (go_ret; exact ⟨rfl, ((L7.out.alloc _).alloc _).bel⟩)
        · obtain ⟨c, hcc, hcs⟩ := HC.out.hcur hi0
          have HCC := hide hcc
          have HCS := hide hcs
          have hdec : decide (0 < i) = true := decide_eq_true hi0
          rw [hdec]
          clear hcc hcs hi0 hdec
          have ES := hide e1
          have EB := hide e2
          have EL := hide e3
          clear e1 e2 e3
          go_wp2_with fail
          refine cA.out.mono ?_
          rintro r w3 ⟨rfl, hl3, hm3⟩
          have L3 := hide hl3
          have HW3' := hide (HB.out.move hm3)
          have HB3 := hide (HBB.out.move hm3)
          clear hl3 hm3 cA HB HBB
          have hbb := HB3.out.blk
          have hltb := hbb.lt
          obtain ⟨y0, y1, y2, y3, y4, y5, y6, _, _, _, _, _, _, _⟩ := cells7 hbb
          clear hbb
          have cS : Hid (Calls Try.prog 12 #[.pointer (some ⟨d, 0, none⟩), .agg #[.int .u64 z2.seq, .int .u64 z2.epoch, .int .u64 z2.res, .int .u64 z2.hor, .int .u64 z2.gen, .bool z2.clean, .int .i64 z2.image]] w3 fun e W' => e = .returned (.tuple #[.agg #[.int .u64 0, .int .u64 0, .int .u64 0, .int .u64 0, .int .u64 0, .bool false, .int .i64 0], .int .i64 4]) ∧ ∃ F', Law w d F' ((S.arm a1).storeDo z2) W' ∧ Moves F F' w3 W') := by
            have := store_law L3.out z2 HW2.out
            rw [ES.out, EB.out] at this
            exact this
          go_wp2_with fail
          refine cS.out.mono ?_
          rintro r w4 ⟨rfl, F4, hl4, hm4⟩
          have L4 := hide (hl4.alloc (.cells #[.int .u64 0, .int .u64 0, .int .u64 0, .int .u64 0, .int .u64 0, .bool false, .int .i64 0] 29))
          have HS4 := hide (hl4.hold (bkL Bk.zero) 29)
          have HW4 := hide ((HW3'.out.move hm4).alloc (.cells #[.int .u64 0, .int .u64 0, .int .u64 0, .int .u64 0, .int .u64 0, .bool false, .int .i64 0] 29))
          have HB4 := hide ((HB3.out.move hm4).alloc (.cells #[.int .u64 0, .int .u64 0, .int .u64 0, .int .u64 0, .int .u64 0, .bool false, .int .i64 0] 29))
          clear hl4 hm4 cS L3 HW3' HB3 y0 y1 y2 y3 y4 y5 y6 hltb
          have cC := hide (crash_law L4.out HW3.out.1 HW3.out.2.1 HW3.out.2.2)
          go_wp2_with fail
          refine cC.out.mono ?_
          rintro r w5 ⟨rfl, F5, hl5, hm5⟩
          have HS5 := hide (HS4.out.move hm5)
          have HW5 := hide (HW4.out.move hm5)
          have HB5 := hide (HB4.out.move hm5)
          have cO := hide (on_law hl5)
          clear hl5 hm5 cC L4 HS4 HW4 HB4
          go_wp2_with fail
          refine cO.out.mono ?_
          rintro r w6 ⟨rfl, F6, hl6, hm6⟩
          have HS6 := hide (HS5.out.move hm6)
          have HW6 := hide (HW5.out.move hm6)
          have HB6 := hide (HB5.out.move hm6)
          have cL : Hid (Calls Try.prog 11 #[.pointer (some ⟨d, 0, none⟩)] w6 fun e W' => e = .returned (.tuple #[.agg #[.int .u64 N.seq, .int .u64 N.epoch, .int .u64 N.res, .int .u64 N.hor, .int .u64 N.gen, .bool N.clean, .int .i64 N.image], .int .i64 0]) ∧ ∃ S', Law w d F6 S' W' ∧ Moves F6 F6 w6 W') := by
            have := load_law hl6
            rw [EL.out] at this
            exact this.mono (fun e W' ⟨h1, h2, h3⟩ => ⟨h1, _, h2, h3⟩)
          clear hl6 hm6 cO HS5 HW5 HB5
          go_wp2_with fail
          refine cL.out.mono ?_
          rintro r w7 ⟨rfl, S7, hl7, hm7⟩
          have L7 := hide hl7
          have hs7 := (HS6.out.move hm7).blk
          have hw7 := (HW6.out.move hm7).blk
          have hb7 := (HB6.out.move hm7).blk
          have lts := hs7.lt
          have ltw := hw7.lt
          have ltb := hb7.lt
          clear hl7 hm7 cL HS6 HW6 HB6
          obtain ⟨p0, p1, p2, p3, p4, p5, p6, _, _, _, _, _, _, _⟩ := cells7 hw7
          obtain ⟨q0, q1, q2, q3, q4, q5, q6, _, _, _, _, _, _, _⟩ := cells7 hb7
          rw [HCC.out] at p0 p1 p2 p3 p4 p5 p6
          simp only [Option.getD_some] at p0 p1 p2 p3 p4 p5 p6
          have hws : IntKind.u64.wrap ((c.seq : Int) + 1) = (N.seq : Int) := by rw [IntKind.wrap_u64, HNS.out, HCS.out]; have := HI.out; omega
          obtain ⟨ne, nr, nh, ng, nc⟩ := HNN.out
          rw [← ne] at q1
          rw [← nr] at q2
          rw [← nh] at q3
          rw [← ng] at q4
          rw [← nc] at q5
          clear ne nr nh ng nc
          have hnq : ((N.seq : Int) == (c.seq : Int)) = false := by
            have : ¬ (N.seq : Int) = (c.seq : Int) := by rw [HNS.out, HCS.out]; omega
            simpa using this
          clear hs7 hw7 hb7
          by_cases im0 : z2.image < 0
          · have im0' : (z2.image < 0) = True := eq_true im0
            have hni : (N.image : Int) = 0 := by rw [HNI.out]; unfold toldN; rw [if_pos (.inl im0)]; rfl
            clear im0
            go_wp2
            (go_ret; exact ⟨rfl, ((L7.out.alloc _).alloc _).bel⟩)
          · have im0' : (z2.image < 0) = False := eq_false im0
            by_cases im1 : 2147483647 < z2.image
            · have im1' : (2147483647 < z2.image) = True := eq_true im1
              have hni : (N.image : Int) = 0 := by rw [HNI.out]; unfold toldN; rw [if_pos (.inr im1)]; rfl
              clear im0 im1
              go_wp2
              (go_ret; exact ⟨rfl, ((L7.out.alloc _).alloc _).bel⟩)
            · have im1' : (2147483647 < z2.image) = False := eq_false im1
              have hni : (N.image : Int) = z2.image := by rw [HNI.out]; unfold toldN; rw [if_neg (by omega)]; omega
              clear im0 im1
              go_wp2
              (go_ret; exact ⟨rfl, ((L7.out.alloc _).alloc _).bel⟩)
end Go.Proofs.Ytcdefadeaiklbaa.superLasts
