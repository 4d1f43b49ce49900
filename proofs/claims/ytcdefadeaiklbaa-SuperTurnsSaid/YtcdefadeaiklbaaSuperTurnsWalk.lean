/-
  Proof of the law 'SuperTurns'.
-/
import Derived.WalkKit
import Derived.Below
import Derived.Test.YtcdefadeaiklbaaChain
namespace Go.Proofs.Ytcdefadeaiklbaa.superTurns
open Go.RowKit Go.Deep
set_option linter.unusedVariables false
set_option linter.unusedSimpArgs false

theorem law_put7 {w0 W : World} {d g : Nat} {F : List Nat} {S : Dv} (h : Law w0 d F S W) (hg : g ∉ F) (h0 : w0.heap.size ≤ g) (b : Bk) : Law w0 d F S (put7 W g b) :=
  ⟨put7_dv h.dev hg b, h.low, ((((((h.bel.setCell h0 _).setCell h0 _).setCell h0 _).setCell h0 _).setCell h0 _).setCell h0 _).setCell h0 _⟩
theorem held_put7 {W : World} {F : List Nat} {g : Nat} {x : Bk} (h : Held W F g (bkL x) 29) (b : Bk) : Held (put7 W g b) F g (bkL b) 29 := ⟨put7_blk h.blk b, h.off⟩
/-- What is known ahead of a round. -/
def TurnAt (w : World) (d g i : Nat) (wr : World) : Prop := ∃ F S cur prev, Law w d F S wr ∧ Chain S i cur prev ∧ Held wr F g (bkL (cur.getD Bk.zero)) 29

set_option maxRecDepth 4000 in
set_option maxHeartbeats 4000000 in
theorem walk (a0 : Option Addr) (len0 cap0 : Nat) (z0 : List Bk) (w : World) (hw0 : BksAt w a0 len0 z0) :
    Calls Try.prog 7 #[.slice a0 len0 cap0] w fun e w' => e = .returned (.bool true) ∧ Below w.heap.size w w' := by
  have ca := hide (awake_any w)
  have hn := hw0.len
  by_cases hlen : 20 < len0
  · have hlt : ((20 : Int) < (len0 : Int)) = True := eq_true (by omega)
    clear hw0 hlen hn
    go_enter Try.func7, Try.ntmps7
    go_wp2_with fail
    refine ca.out.mono ?_
    rintro r w1 ⟨rfl, h1⟩
    have B1 := hide h1
    clear h1 ca
    go_wp2
    go_ret
    exact ⟨rfl, B1.out⟩
  have hlt : ((20 : Int) < (len0 : Int)) = False := eq_false (by omega)
  have HW := hide hw0
  have HN := hide hn
  have HL := hide hlen
  have cN : Hid (∀ W : World, Below w.heap.size w W → Calls Try.prog 10 #[.int .i64 2] W fun e W' => ∃ d F, e = .returned (.tuple #[.pointer (some ⟨d, 0, none⟩), .int .i64 0]) ∧ Law w d F (Dv.fresh 2) W') := fun W b => by
    refine (new_law b 2 (by omega) (by omega)).mono ?_
    rintro e W' ⟨d, F, rfl, h, _⟩
    exact ⟨d, F, rfl, h⟩
  clear hw0 hlen hn
  go_enter Try.func7, Try.ntmps7
  go_wp2_with fail
  refine ca.out.mono ?_
  rintro r w1 ⟨rfl, h1⟩
  have B1 := hide h1
  clear h1 ca
  go_wp2_with fail
  refine (cN.out _ B1.out).mono ?_
  rintro r w2 ⟨d, F2, rfl, hl⟩
  have L2 := hide hl
  clear hl B1 cN hlt
  go_wp2_with fail
  go_loopg [6] len0 (fun kx s6 wr => ∃ i : Nat, s6 = .int .i64 i ∧ i ≤ len0 ∧ len0 - i ≤ kx ∧ Hid (TurnAt w d w2.heap.size i wr))
  case atStart => exact ⟨0, rfl, Nat.zero_le _, by omega, F2, _, none, none, L2.out.alloc _, Chain.fresh 2 (by omega), L2.out.hold (bkL Bk.zero) 29⟩
  case round =>
    obtain ⟨i, rfl, hin, hg, I⟩ := hrel
    have B2 := hide L2.out.bel.size
    by_cases hlt : i < len0
    · have hlt2 : (i : Int) < (len0 : Int) := by omega
      obtain ⟨x, hx⟩ : ∃ x, z0[i]? = some x := ⟨_, List.getElem?_eq_getElem (by have := HN.out; omega)⟩
      have hxf : x.fits := HW.out.fits x (List.mem_of_getElem? hx)
      obtain ⟨F, S, cur, prev, hl, hc, hb⟩ := I.out
      obtain ⟨bb, oo, rfl, hbb, hone⟩ := HW.out.cell i x hx
      have h1 := hone.below hl.bel hbb
      obtain ⟨c0, c1, c2, c3, c4, c5, c6⟩ := h1
      have hi20 : i < 20 := by have := HL.out; omega
      obtain ⟨N, hN⟩ : ∃ N, N = sB x (i + 1) := ⟨_, rfl⟩
      have hNs : N.seq = i + 1 := by rw [hN]; rfl
      have cS : Hid (Calls Try.prog 12 #[.pointer (some ⟨d, 0, none⟩), .agg #[.int .u64 x.seq, .int .u64 x.epoch, .int .u64 x.res, .int .u64 x.hor, .int .u64 x.gen, .bool x.clean, .int .i64 x.image]] wr fun e W' => e = .returned (.tuple #[.agg #[.int .u64 N.seq, .int .u64 N.epoch, .int .u64 N.res, .int .u64 N.hor, .int .u64 N.gen, .bool N.clean, .int .i64 N.image], .int .i64 0]) ∧
          ∃ F' S', Law w d F' S' W' ∧ Chain S' (i + 1) (some N) cur ∧ Moves F F' wr W') := by
        rw [hN]
        exact store_chain hl hc (by omega) x hxf
      have hs1 : IntKind.u64.wrap ((i : Int) + 1) = (N.seq : Int) := by rw [IntKind.wrap_u64, hNs]; omega
      have hmod : (N.seq : Int).tmod 2 = ((N.seq % 2 : Nat) : Int) := by rw [Int.tmod_eq_emod_of_nonneg (by omega)]; omega
      generalize hk2 : ((N.seq % 2 : Nat) : Int) = k2 at hmod
      have hwk : IntKind.i64.wrap k2 = k2 := by rw [IntKind.wrap_i64]; omega
      have HK2 := hide hk2
      have HNS := hide hNs
      have HB := hide hb
      have HC := hide hc
      have HG := hide hg
      have HI := hide hi20
      have hi21 : (i : Int) < 20 := by omega
      clear hl hc hb hone hx hxf hN hk2 hNs hg hi20 I
      go_wp2_with fail
      refine cS.out.mono ?_
      rintro r w3 ⟨rfl, F3, S3, hl3, hc3, hm3⟩
      have L3 := hide (hl3.alloc (.cells #[.int .u64 N.seq, .int .u64 N.epoch, .int .u64 N.res, .int .u64 N.hor, .int .u64 N.gen, .bool N.clean, .int .i64 N.image] 29))
      have HW3 := hide ((HB.out.move hm3).alloc (.cells #[.int .u64 N.seq, .int .u64 N.epoch, .int .u64 N.res, .int .u64 N.hor, .int .u64 N.gen, .bool N.clean, .int .i64 N.image] 29))
      have HN3 := hide (hl3.hold (bkL N) 29)
      have HC3 := hide hc3
      have SZ3 := hide (Nat.le_trans B2.out (show w2.heap.size ≤ w3.heap.size from by have := (HB.out.move hm3).blk.lt; omega))
      clear hl3 hc3 hm3 cS c0 c1 c2 c3 c4 c5 c6 HB
      go_wp2_with fail
      have cR : Hid (Calls Try.prog 29 #[.pointer (some ⟨d, 0, none⟩), .int .i64 k2] (w3.alloc (.cells #[.int .u64 N.seq, .int .u64 N.epoch, .int .u64 N.res, .int .u64 N.hor, .int .u64 N.gen, .bool N.clean, .int .i64 N.image] 29)) fun e W' => ∃ g L, e = .returned (.tuple #[.slice (some ⟨g, 0, none⟩) 384 384, .int .i64 0]) ∧ BS W' (some ⟨g, 0, none⟩) 384 384 L ∧ dec L = some N ∧ ∃ S', Law w d F3 S' W' ∧ Chain S' (i + 1) (some N) cur ∧ Moves F3 F3 (w3.alloc (.cells #[.int .u64 N.seq, .int .u64 N.epoch, .int .u64 N.res, .int .u64 N.hor, .int .u64 N.gen, .bool N.clean, .int .i64 N.image] 29)) W') := by
        rw [← HK2.out]
        exact read_chain L3.out HC3.out (k := N.seq % 2) (by rw [HNS.out]; exact HC3.out.slot.1)
      refine cR.out.mono ?_
      rintro r w4 ⟨g, L, rfl, hbs, hd, S4, hl4, hc4, hm4⟩
      have L4 := hide hl4
      have HC4 := hide hc4
      have HW4 := hide (HW3.out.move hm4)
      have HN4 := hide (HN3.out.move hm4)
      have cD : Hid (Calls Try.prog 13 #[.slice (some ⟨g, 0, none⟩) 384 384] w4 fun e w' => e = .returned (.tuple #[.agg #[.int .u64 N.seq, .int .u64 N.epoch, .int .u64 N.res, .int .u64 N.hor, .int .u64 N.gen, .bool N.clean, .int .i64 N.image], .int .i64 0]) ∧ Below w4.heap.size w4 w') := dec_page hbs hd
      clear hl4 hc4 hm4 hbs hd L3 HC3 HW3 HN3 cR hs1 hmod hwk
      go_wp2_with fail
      refine cD.out.mono ?_
      rintro r w5 ⟨rfl, hbel⟩
      have L5 := hide (L4.out.below hbel)
      have HW5 := hide (HW4.out.below hbel)
      have HN5 := hide (HN4.out.below hbel)
      clear hbel cD L4 HW4 HN4
      have hbn := HN5.out.blk
      have hltn := hbn.lt
      obtain ⟨z0', z1, z2, z3, z4, z5, z6, _, _, _, _, _, _, _⟩ := cells7 hbn
      clear hbn
      have hbw := HW5.out.blk
      have hltw := hbw.lt
      obtain ⟨y0, y1, y2, y3, y4, y5, y6, f0, f1, f2, f3, f4, f5, f6⟩ := cells7 hbw
      clear hbw
      rcases Nat.eq_zero_or_pos i with hi0 | hi0
      · subst hi0
        go_wp2
        go_roundg (len0 - 1)
        case measure => have := HG.out; omega
        case rel =>
          refine ⟨0 + 1, rfl, by omega, by omega, F3, S4, some N, cur, (law_put7 L5.out HW5.out.off B2.out N).alloc _, HC4.out, (held_put7 HW5.out N).alloc _⟩
      · have hgt : ((0 : Int) < (i : Int)) = True := eq_true (by omega)
        obtain ⟨c, hcc, hcs⟩ := HC.out.hcur hi0
        have HI0 := hide hi0
        have HCC := hide hcc
        rw [hcc] at y0 y1 y2 y3 y4 y5 y6
        simp only [Option.getD_some] at y0 y1 y2 y3 y4 y5 y6
        have hmod : (c.seq : Int).tmod 2 = ((c.seq % 2 : Nat) : Int) := by rw [Int.tmod_eq_emod_of_nonneg (by omega)]; omega
        generalize hk3 : ((c.seq % 2 : Nat) : Int) = k3 at hmod
        have hwk : IntKind.i64.wrap k3 = k3 := by rw [IntKind.wrap_i64]; omega
        have HK3 := hide hk3
        have HCS := hide hcs
        clear hi0 hcc hk3 hcs
        go_wp2_with fail
        have cR : Hid (Calls Try.prog 29 #[.pointer (some ⟨d, 0, none⟩), .int .i64 k3] (w5.alloc (.cells #[.int .u64 N.seq, .int .u64 N.epoch, .int .u64 N.res, .int .u64 N.hor, .int .u64 N.gen, .bool N.clean, .int .i64 N.image] 29)) fun e W' => ∃ g L, e = .returned (.tuple #[.slice (some ⟨g, 0, none⟩) 384 384, .int .i64 0]) ∧ BS W' (some ⟨g, 0, none⟩) 384 384 L ∧ dec L = some c ∧ ∃ S', Law w d F3 S' W' ∧ Chain S' (i + 1) (some N) cur ∧ Moves F3 F3 (w5.alloc (.cells #[.int .u64 N.seq, .int .u64 N.epoch, .int .u64 N.res, .int .u64 N.hor, .int .u64 N.gen, .bool N.clean, .int .i64 N.image] 29)) W') := by
          rw [← HK3.out]
          exact read_chain (L5.out.alloc _) HC4.out (k := c.seq % 2) (by rw [HCS.out, ← HCC.out]; have := HC4.out.slot.2; rw [show (i + 1 + 1) % 2 = i % 2 by omega] at this; exact this)
        refine cR.out.mono ?_
        rintro r w6 ⟨g6, L6', rfl, hbs, hd, S6, hl6, hc6, hm6⟩
        have L6 := hide hl6
        have HC6 := hide hc6
        have HW6 := hide ((HW5.out.alloc (.cells #[.int .u64 N.seq, .int .u64 N.epoch, .int .u64 N.res, .int .u64 N.hor, .int .u64 N.gen, .bool N.clean, .int .i64 N.image] 29)).move hm6)
        have HN6 := hide ((HN5.out.alloc (.cells #[.int .u64 N.seq, .int .u64 N.epoch, .int .u64 N.res, .int .u64 N.hor, .int .u64 N.gen, .bool N.clean, .int .i64 N.image] 29)).move hm6)
        have cD : Hid (Calls Try.prog 13 #[.slice (some ⟨g6, 0, none⟩) 384 384] w6 fun e w' => e = .returned (.tuple #[.agg #[.int .u64 c.seq, .int .u64 c.epoch, .int .u64 c.res, .int .u64 c.hor, .int .u64 c.gen, .bool c.clean, .int .i64 c.image], .int .i64 0]) ∧ Below w6.heap.size w6 w') := dec_page hbs hd
        clear hl6 hc6 hm6 hbs hd L5 HC4 HW5 HN5 cR hmod hwk z0' z1 z2 z3 z4 z5 z6 y0 y1 y2 y3 y4 y5 y6 f0 f1 f2 f3 f4 f5 f6 hltn hltw
        go_wp2_with fail
        refine cD.out.mono ?_
        rintro r w7 ⟨rfl, hbel⟩
        have L7 := hide (L6.out.below hbel)
        have HW7 := hide (HW6.out.below hbel)
        have HN7 := hide (HN6.out.below hbel)
        clear hbel cD L6 HW6 HN6
        have hbn := HN7.out.blk
        have hltn := hbn.lt
        obtain ⟨z0', z1, z2, z3, z4, z5, z6, _, _, _, _, _, _, _⟩ := cells7 hbn
        clear hbn
        have hbw := HW7.out.blk
        have hltw := hbw.lt
        obtain ⟨y0, y1, y2, y3, y4, y5, y6, f0, f1, f2, f3, f4, f5, f6⟩ := cells7 hbw
        rw [HCC.out] at y0 y1 y2 y3 y4 y5 y6
        simp only [Option.getD_some] at y0 y1 y2 y3 y4 y5 y6
        clear hbw
        go_wp2
        go_roundg (len0 - (i + 1))
        case measure => have := HG.out; omega
        case rel =>
          refine ⟨i + 1, rfl, by omega, by omega, F3, S6, some N, cur, (law_put7 L7.out HW7.out.off B2.out N).alloc _, HC6.out, (held_put7 HW7.out N).alloc _⟩
    · obtain rfl : i = len0 := by omega
      have hlt2 : ¬ (i : Int) < (i : Int) := by omega
      obtain ⟨F, S, cur, prev, hl, hc, hb⟩ := I.out
      have BB := hide hl.bel
      clear hl hc hb
      go_wp2
      go_ret
      exact ⟨rfl, BB.out⟩
end Go.Proofs.Ytcdefadeaiklbaa.superTurns
