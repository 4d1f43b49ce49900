/-
  Package bucket plays just as the document says: whatever calls come, the program's buckets and the document's answer the same.
-/
import Derived.WalkKit
import Derived.Below
import Derived.Test.YtbccnfbombgdmaaGreatJ46
import Derived.Test.YtbccnfbombgdmaaGreatJ23
import Derived.Test.YtbccnfbombgdmaaGreatJ28
import Derived.Deep.RegionHeld3
namespace Go.Proofs.YtbccnfbombgdmaaGreat.bucketPlays
open Go.RowKit Go.Deep Math
set_option linter.unusedVariables false
set_option linter.unusedSimpArgs false

set_option maxRecDepth 8000 in
set_option maxHeartbeats 40000000 in
theorem walk (a0 : Int) (a1 : Int) (a2 : Option Addr) (len2 cap2 : Nat) (z2 : List CallI) (w : World) (hw0 : (Lit.int .i64 a0).wf = true) (hw1 : (Lit.int .i64 a1).wf = true) (hw2 : CallsAt w a2 len2 z2) :
    Calls Tryz.prog 3 #[.int .i64 a0, .int .i64 a1, .slice a2 len2 cap2] w fun e w' => e = .returned (.bool true) ∧ Below w.heap.size w w' := by
  have R0 := hide (wfi64' hw0)
  have R1 := hide (wfi64' hw1)
  have HC := hide hw2
  clear hw0 hw1 hw2
  go_enter Tryz.func3, Tryz.ntmps3
  go_wp2_with fail
  refine (awake_any _).mono ?_
  rintro e w1 ⟨rfl, b1⟩
  have B1 := hide b1
  clear b1
  have cN := hide (new_law B1.out 6 (by omega) (by omega))
  go_wp2_with fail
  refine cN.out.mono ?_
  rintro e w2 ⟨d, F, rfl, hl2, _⟩
  have L2 := hide hl2
  clear hl2 cN
  go_wp2_with fail
  refine (rnew_at 6 (by omega) w2).mono ?_
  rintro e w3 ⟨r, G, rfl, hR, hnew, b3⟩
  have D3 : Hid (Devs w w3 d F (Dv.fresh 6) r G (Dv.fresh 6)) := ⟨L2.out.below b3, hR, fun b hb => Nat.le_trans L2.out.bel.size (hnew b hb), Like.refl _, fun b hb hf => by have := L2.out.dev.lt b hf; have := hnew b hb; omega⟩
  clear hR hnew b3 L2 B1
  obtain ⟨er, hA⟩ := ans_o (Dv.fresh 6) a0 a1
  have HA := hide hA
  clear hA
  go_wp2_with fail
  refine (D3.out.open1 a0 a1 R0.out R1.out HA.out).mono ?_
  rintro e w4 ⟨v, rfl, hO⟩
  have HO := hide hO
  clear hO
  go_wp2_with fail
  refine (HO.out.open2 D3.out R0.out R1.out HA.out).mono ?_
  rintro e w5 ⟨u, rfl, h5⟩
  rcases h5 with ⟨hne, rfl, rfl, S5, hD5, _⟩ | ⟨rfl, f, n, s, s', M, S5, T5, tv, vs, rfl, rfl, hT5, hlk5⟩
  · have hne2 : (er == 0) = false := beq_eq_false_iff_ne.2 hne
    have hne3 : (er != 0) = true := by simp [hne]
    have BF := hide hD5.p.bel
    clear hD5 hne
    go_wp2
    go_ret
    exact ⟨rfl, BF.out⟩
  · have HT5 := hide hT5
    have HLK5 := hide hlk5
    clear hT5 hlk5
    by_cases e50 : 50 < len2
    · have e50' : (50 : Int) < (len2 : Int) := by omega
      have BF := hide HT5.out.p.law.bel
      clear e50
      go_wp2
      go_ret
      exact ⟨rfl, BF.out⟩
    have e50' : ¬ (50 : Int) < (len2 : Int) := by omega
    have hl50 : len2 ≤ 50 := by omega
    clear e50
    have HCN : Hid (Cnt (Dv.fresh 6).losses S5 0) := ⟨by decide, by rw [HLK5.out.losses]; exact Int.le_refl _, by rw [HLK5.out.losses]; decide⟩
    have HTL : Hid (∀ t ∈ tdO (Dv.fresh 6) f n, t.length ≤ 12) := fun t ht => by
      unfold tdO at ht
      obtain ⟨j, _, rfl⟩ := List.mem_map.1 ht
      rw [List.length_map]
      exact its_len (Dv.fresh_good 6 (by decide)) _
    have HS0 : Hid (StB w w5 d r s s' f (4 * (0 : Nat)) (12 + 2 * 0)) := ⟨F, G, S5, T5, _, M, tv, vs, _, HT5.out, HCN.out, HTL.out⟩
    clear HA HO D3 HT5 HLK5 HCN HTL
    go_wp2_with fail
    go_loopg [10, 12, 14] len2 (fun kx s10 s12 s14 wr => ∃ (i : Nat) (s s' f : Nat), s10 = .pointer (some ⟨s, 0, none⟩) ∧ s12 = .pointer (some ⟨s', 0, none⟩) ∧ s14 = .int .i64 i ∧ i ≤ len2 ∧ len2 - i ≤ kx ∧ Hid (StB w wr d r s s' f (4 * (i : Nat)) (12 + 2 * i)))
    case atStart => exact ⟨0, s, s', f, rfl, rfl, rfl, Nat.zero_le _, by omega, HS0.out⟩
    case round =>
      obtain ⟨i, s, s', f, rfl, rfl, rfl, hin, hix, I⟩ := hrel
      clear HS0
      by_cases hlt : i < len2
      · have hlt2 : (i : Int) < (len2 : Int) := by omega
        obtain ⟨c, hc⟩ : ∃ c, z2[i]? = some c := ⟨_, List.getElem?_eq_getElem (by rw [HC.out.1]; exact hlt)⟩
        obtain ⟨b, o, ha2, hb, hcc⟩ : ∃ b o, a2 = some ⟨b, o, none⟩ ∧ b < w.heap.size ∧ OneCall w b (o + i * 10) c := by
          rcases HC.out.2 with h0 | ⟨b, o, h1, h2, h3⟩
          · rw [h0] at hc; simp at hc
          · exact ⟨b, o, h1, h2, h3 i c hc⟩
        subst ha2
        have HCC := hide hcc
        have hcw := OneCall.below (w := w) hcc I.out.bel
        have d0 := hcw.c0
        have dk := hcw.ck
        have e0 := hcw.a0
        have e1 := hcw.a1
        have e2 := hcw.a2
        obtain ⟨x0, x1, x2, x3, x4⟩ := hcw.cx.vals
        rw [show o + i * 10 + 1 + 1 = o + i * 10 + 2 by omega] at x1
        rw [show o + i * 10 + 1 + 2 = o + i * 10 + 3 by omega] at x2
        rw [show o + i * 10 + 1 + 3 = o + i * 10 + 4 by omega] at x3
        rw [show o + i * 10 + 1 + 4 = o + i * 10 + 5 by omega] at x4
        have HI : Hid (i < 50) := show i < 50 by omega
        have HKx := hide (And.intro hin (And.intro hix hlt))
        clear hcc hcw hc hlt
        have KB := hide ((Below.refl wr.heap.size wr).alloc (Nat.le_refl _) (.cells #[.int .i64 c.op, .string (txt c.x.key), .string (txt c.x.value), .int .u32 c.x.flags, .int .i64 c.x.exp, .int .u64 c.x.ver, .string (txt c.key), .int .i64 c.t.op, .int .i64 c.t.page, .slice c.t.a c.t.l.length c.t.cap] 44))
        have X0 := hide (Own1.new wr #[.int .i64 c.op, .string (txt c.x.key), .string (txt c.x.value), .int .u32 c.x.flags, .int .i64 c.x.exp, .int .u64 c.x.ver, .string (txt c.key), .int .i64 c.t.op, .int .i64 c.t.page, .slice c.t.a c.t.l.length c.t.cap] 44)
        by_cases g1 : 500 < (txt c.key).size
        · have g1' : (500 : Int) < ((txt c.key).size : Int) := by omega
          have BF := hide (I.out.bel.trans (KB.out.mono I.out.bel.size))
          clear g1
          go_wp2
          go_ret
          exact ⟨rfl, BF.out⟩
        have g1' : ¬ (500 : Int) < ((txt c.key).size : Int) := by omega
        have G1 := hide (Nat.not_lt.1 g1)
        clear g1
        by_cases g2 : 500 < (txt c.x.key).size
        · have g2' : (500 : Int) < ((txt c.x.key).size : Int) := by omega
          have BF := hide (I.out.bel.trans (KB.out.mono I.out.bel.size))
          clear g2
          go_wp2
          go_ret
          exact ⟨rfl, BF.out⟩
        have g2' : ¬ (500 : Int) < ((txt c.x.key).size : Int) := by omega
        have G2 := hide (Nat.not_lt.1 g2)
        clear g2
        by_cases g3 : 1500 < (txt c.x.value).size
        · have g3' : (1500 : Int) < ((txt c.x.value).size : Int) := by omega
          have BF := hide (I.out.bel.trans (KB.out.mono I.out.bel.size))
          clear g3
          go_wp2
          go_ret
          exact ⟨rfl, BF.out⟩
        have g3' : ¬ (1500 : Int) < ((txt c.x.value).size : Int) := by omega
        have G3 := hide (Nat.not_lt.1 g3)
        clear g3
        by_cases g4 : 500 < c.t.l.length
        · have g4' : (500 : Int) < (c.t.l.length : Int) := by omega
          have BF := hide (I.out.bel.trans (KB.out.mono I.out.bel.size))
          clear g4
          go_wp2
          go_ret
          exact ⟨rfl, BF.out⟩
        have g4' : ¬ (500 : Int) < (c.t.l.length : Int) := by omega
        have G4 := hide (Nat.not_lt.1 g4)
        clear g4
        by_cases p0 : c.op = 0
        · rw [p0] at X0 KB
          have cP := hide (I.out.p1 wr.heap.size (Nat.le_refl _) (.cells #[.int .i64 0, .string (txt c.x.key), .string (txt c.x.value), .int .u32 c.x.flags, .int .i64 c.x.exp, .int .u64 c.x.ver, .string (txt c.key), .int .i64 c.t.op, .int .i64 c.t.page, .slice c.t.a c.t.l.length c.t.cap] 44) rfl rfl c.x HCC.out.fits)
          clear I
          go_wp2_with fail
          refine cP.out.mono ?_
          rintro e w8 ⟨v, er, rfl, hbx, hM⟩
          have X1 := hide (X0.out.on hbx)
          have HM := hide (hM.p2 HCC.out.fits (by have := HI.out; omega) (by have := HI.out; omega))
          have q1 := X1.out.cell 1 _ rfl
          have q2 := X1.out.cell 2 _ rfl
          have q3 := X1.out.cell 3 _ rfl
          have q4 := X1.out.cell 4 _ rfl
          have q5 := X1.out.cell 5 _ rfl
          clear cP hM hbx X0
          go_wp2_with fail
          refine HM.out.mono ?_
          rintro e w9 ⟨u, rfl, hS, hC⟩
          have HSx := hide hS
          have HC2 := hide hC
          clear HM hS hC
          go_wp2_with fail
          refine HC2.out.mono ?_
          rintro e wh ⟨rfl, bh⟩
          have HS := hide (HSx.out.below bh)
          clear HSx HC2 bh
          have cI := hide (HS.out.i1)
          clear HS
          go_wp2_with fail
          refine cI.out.mono ?_
          rintro e wi ⟨v, er, rfl, hI⟩
          have cJ := hide (hI.i2)
          clear cI hI
          go_wp2_with fail
          refine cJ.out.mono ?_
          rintro e wj ⟨u, rfl, hS, hC⟩
          have HS := hide hS
          have HC3 := hide hC
          clear cJ hS hC
          go_wp2_with fail
          refine HC3.out.mono ?_
          rintro e wk ⟨rfl, bk⟩
          have HS4 := hide (HS.out.below bk)
          clear HC3 HS bk
          go_wp2_with fail
          go_roundg (len2 - (i + 1))
          case measure => have := HKx.out; omega
          case rel => exact ⟨i + 1, s, s', f, rfl, rfl, by go_num, by have := HKx.out; omega, by omega, HS4.out.more (by omega) (by omega)⟩

        by_cases p1 : c.op = 1
        · rw [p1] at X0 KB
          have cP := hide (I.out.g1 wr.heap.size (.cells #[.int .i64 1, .string (txt c.x.key), .string (txt c.x.value), .int .u32 c.x.flags, .int .i64 c.x.exp, .int .u64 c.x.ver, .string (txt c.key), .int .i64 c.t.op, .int .i64 c.t.page, .slice c.t.a c.t.l.length c.t.cap] 44) rfl rfl c.key (by have := G1.out; rw [txt_size] at this; unfold maxLen; omega))
          have hkm : c.key.length ≤ 1048000 := by have := G1.out; rw [txt_size] at this; omega
          have HK := hide hkm
          clear I hkm
          go_wp2_with fail
          refine cP.out.mono ?_
          rintro e w8 ⟨og, er, rfl, hbx, hM⟩
          obtain ⟨y, hy⟩ := fV_agg og
          have X1 := hide ((X0.out.on hbx).alloc (.cells #[.string (txt y.key), .string (txt y.value), .int .u32 y.flags, .int .i64 y.exp, .int .u64 y.ver] 39))
          have Y0 := hide (Own1.new w8 #[.string (txt y.key), .string (txt y.value), .int .u32 y.flags, .int .i64 y.exp, .int .u64 y.ver] 39)
          have hg := hM.g2 w8.heap.size (.cells #[.string (txt y.key), .string (txt y.value), .int .u32 y.flags, .int .i64 y.exp, .int .u64 y.ver] 39) rfl rfl HK.out (by have := HI.out; omega)
          have hne := fun W => fV_neq og W
          rw [hy] at hg hne ⊢
          have HG := hide hg
          have HNE := hide hne
          have q6 := X1.out.cell 6 _ rfl
          clear cP hM hbx X0 hg hne hy
          go_wp2_with fail
          refine HG.out.mono ?_
          rintro e w9 ⟨rfl, hb9, hS⟩
          have Y1 := hide ((Y0.out.on hb9).alloc (.cells #[.string (txt y.key), .string (txt y.value), .int .u32 y.flags, .int .i64 y.exp, .int .u64 y.ver] 39))
          have HS := hide (hS.below ((Below.refl w9.heap.size w9).alloc (Nat.le_refl _) (.cells #[.string (txt y.key), .string (txt y.value), .int .u32 y.flags, .int .i64 y.exp, .int .u64 y.ver] 39)))
          have hne := HNE.out
          have q10 := Y1.out.cell 0 _ rfl
          have q11 := Y1.out.cell 1 _ rfl
          have q12 := Y1.out.cell 2 _ rfl
          have q13 := Y1.out.cell 3 _ rfl
          have q14 := Y1.out.cell 4 _ rfl
          clear HG hS hb9 Y0 X1 q6
          have cI := hide (HS.out.i1)
          clear HS
          go_wp2_with fail
          refine cI.out.mono ?_
          rintro e wi ⟨v, er, rfl, hI⟩
          have cJ := hide (hI.i2)
          clear cI hI
          go_wp2_with fail
          refine cJ.out.mono ?_
          rintro e wj ⟨u, rfl, hS, hC⟩
          have HS := hide hS
          have HC3 := hide hC
          clear cJ hS hC
          go_wp2_with fail
          refine HC3.out.mono ?_
          rintro e wk ⟨rfl, bk⟩
          have HS4 := hide (HS.out.below bk)
          clear HC3 HS bk
          go_wp2_with fail
          go_roundg (len2 - (i + 1))
          case measure => have := HKx.out; omega
          case rel => exact ⟨i + 1, s, s', f, rfl, rfl, by go_num, by have := HKx.out; omega, by omega, HS4.out.more (by omega) (by omega)⟩

        by_cases p2 : c.op = 2
        · rw [p2] at X0 KB
          have hkm : c.key.length ≤ maxLen := by have := G1.out; rw [txt_size] at this; unfold maxLen; omega
          have cP := hide (I.out.d1 wr.heap.size KB.out.drew X0.out.lt rfl c.key hkm)
          have HK := hide hkm
          clear I hkm
          have X0d : Hid (Own1 (wr.alloc (.cells #[.int .i64 2, .string (txt c.x.key), .string (txt c.x.value), .int .u32 c.x.flags, .int .i64 c.x.exp, .int .u64 c.x.ver, .string (txt c.key), .int .i64 c.t.op, .int .i64 c.t.page, .slice c.t.a c.t.l.length c.t.cap] 44)).drew wr.heap.size #[.int .i64 2, .string (txt c.x.key), .string (txt c.x.value), .int .u32 c.x.flags, .int .i64 c.x.exp, .int .u64 c.x.ver, .string (txt c.key), .int .i64 c.t.op, .int .i64 c.t.page, .slice c.t.a c.t.l.length c.t.cap] 44) := X0
          clear X0
          have X0 := X0d
          clear X0d
          have q6 := X0.out.cell 6 _ rfl
          go_wp2_with fail
          go_region_held3 (fun W => W.cell? ⟨wr.heap.size, 6, none⟩ = some (.string (txt c.key)))
            (go_keep)
            (first
              | (go_at_call 14; refine (cP.out).mono ?_; rintro e w8 ⟨er, rfl, hbx, hM⟩; have X1 := hide (X0.out.on hbx); have HM := hide (hM.d2 HK.out (by have := HI.out; omega) X1.out.lt); have q8 := X1.out.cell 6 _ rfl; clear hM hbx)
              | (go_at_call 15; refine (HM.out).mono ?_; rintro e w9 ⟨rfl, hb9, hS⟩; have X2 := hide (X1.out.on hb9); have HS := hide hS; have q9 := X2.out.cell 6 _ rfl; clear hS hb9))
          all_goals clear cP HM X0 X1 X2
          have cI := hide (HS.out.i1)
          clear HS
          go_wp2_with fail
          refine cI.out.mono ?_
          rintro e wi ⟨v, er, rfl, hI⟩
          have cJ := hide (hI.i2)
          clear cI hI
          go_wp2_with fail
          refine cJ.out.mono ?_
          rintro e wj ⟨u, rfl, hS, hC⟩
          have HS := hide hS
          have HC3 := hide hC
          clear cJ hS hC
          go_wp2_with fail
          refine HC3.out.mono ?_
          rintro e wk ⟨rfl, bk⟩
          have HS4 := hide (HS.out.below bk)
          clear HC3 HS bk
          go_wp2_with fail
          go_roundg (len2 - (i + 1))
          case measure => have := HKx.out; omega
          case rel => exact ⟨i + 1, s, s', f, rfl, rfl, by go_num, by have := HKx.out; omega, by omega, HS4.out.more (by omega) (by omega)⟩

        by_cases p3 : c.op = 3
        · rw [p3] at X0 KB
          have hkm : c.key.length ≤ 1048000 := by have := G1.out; rw [txt_size] at this; omega
          have cP := hide ((I.out.below KB.out.drew).m1 c.key (by unfold maxLen; omega))
          have HK := hide hkm
          clear I hkm
          have X0d : Hid (Own1 (wr.alloc (.cells #[.int .i64 3, .string (txt c.x.key), .string (txt c.x.value), .int .u32 c.x.flags, .int .i64 c.x.exp, .int .u64 c.x.ver, .string (txt c.key), .int .i64 c.t.op, .int .i64 c.t.page, .slice c.t.a c.t.l.length c.t.cap] 44)).drew wr.heap.size #[.int .i64 3, .string (txt c.x.key), .string (txt c.x.value), .int .u32 c.x.flags, .int .i64 c.x.exp, .int .u64 c.x.ver, .string (txt c.key), .int .i64 c.t.op, .int .i64 c.t.page, .slice c.t.a c.t.l.length c.t.cap] 44) := X0
          clear X0
          have X0 := X0d
          clear X0d
          have q6 := X0.out.cell 6 _ rfl
          go_wp2_with fail
          go_region_held3 (fun W => W.cell? ⟨wr.heap.size, 6, none⟩ = some (.string (txt c.key)))
            (go_keep)
            (first
              | (go_at_call 16; refine (cP.out).mono ?_; rintro e w8 ⟨bo, rfl, hbx, hM⟩; have X1 := hide (X0.out.on (hbx.block _ X0.out.lt)); have HM := hide (hM.m2 HK.out (by have := HI.out; omega)); have q8 := X1.out.cell 6 _ rfl; clear hM hbx)
              | (go_at_call 17; refine (HM.out).mono ?_; rintro e w9 ⟨rfl, hb9, hS⟩; have X2 := hide (X1.out.on (hb9.block _ X1.out.lt)); have HS := hide hS; have q9 := X2.out.cell 6 _ rfl; clear hS hb9))
          all_goals clear cP HM X0 X1 X2
          have cI := hide (HS.out.i1)
          clear HS
          go_wp2_with fail
          refine cI.out.mono ?_
          rintro e wi ⟨v, er, rfl, hI⟩
          have cJ := hide (hI.i2)
          clear cI hI
          go_wp2_with fail
          refine cJ.out.mono ?_
          rintro e wj ⟨u, rfl, hS, hC⟩
          have HS := hide hS
          have HC3 := hide hC
          clear cJ hS hC
          go_wp2_with fail
          refine HC3.out.mono ?_
          rintro e wk ⟨rfl, bk⟩
          have HS4 := hide (HS.out.below bk)
          clear HC3 HS bk
          go_wp2_with fail
          go_roundg (len2 - (i + 1))
          case measure => have := HKx.out; omega
          case rel => exact ⟨i + 1, s, s', f, rfl, rfl, by go_num, by have := HKx.out; omega, by omega, HS4.out.more (by omega) (by omega)⟩

        by_cases p4 : c.op = 4
        · rw [p4] at X0 KB
          have cP := hide ((I.out.below KB.out).o1 a0 a1 R0.out R1.out)
          clear I
          go_wp2_with fail
          refine cP.out.mono ?_
          rintro e w8 ⟨v, er, rfl, hM⟩
          have HM := hide (hM.o2 R0.out R1.out (by omega))
          clear cP hM
          go_wp2_with fail
          refine HM.out.mono ?_
          rintro e w9 ⟨u, rfl, hS⟩
          clear HM
          rcases hS with ⟨hne, hS⟩ | ⟨rfl, f2, s2, s2', rfl, rfl, hS⟩
          · have hne2 : (er == 0) = false := beq_eq_false_iff_ne.2 hne
            have HS := hide hS
            clear hS hne
            have cI := hide (HS.out.i1)
            clear HS
            go_wp2_with fail
            refine cI.out.mono ?_
            rintro e wi ⟨v, er, rfl, hI⟩
            have cJ := hide (hI.i2)
            clear cI hI
            go_wp2_with fail
            refine cJ.out.mono ?_
            rintro e wj ⟨u, rfl, hS, hC⟩
            have HS := hide hS
            have HC3 := hide hC
            clear cJ hS hC
            go_wp2_with fail
            refine HC3.out.mono ?_
            rintro e wk ⟨rfl, bk⟩
            have HS4 := hide (HS.out.below bk)
            clear HC3 HS bk
            go_wp2_with fail
            go_roundg (len2 - (i + 1))
            case measure => have := HKx.out; omega
            case rel => exact ⟨i + 1, s, s', f, rfl, rfl, by go_num, by have := HKx.out; omega, by omega, HS4.out.more (by omega) (by omega)⟩

          · have HS := hide hS
            clear hS
            have cI := hide (HS.out.i1)
            clear HS
            go_wp2_with fail
            refine cI.out.mono ?_
            rintro e wi ⟨v, er, rfl, hI⟩
            have cJ := hide (hI.i2)
            clear cI hI
            go_wp2_with fail
            refine cJ.out.mono ?_
            rintro e wj ⟨u, rfl, hS, hC⟩
            have HS := hide hS
            have HC3 := hide hC
            clear cJ hS hC
            go_wp2_with fail
            refine HC3.out.mono ?_
            rintro e wk ⟨rfl, bk⟩
            have HS4 := hide (HS.out.below bk)
            clear HC3 HS bk
            go_wp2_with fail
            go_roundg (len2 - (i + 1))
            case measure => have := HKx.out; omega
            case rel => exact ⟨i + 1, s2, s2', f2, rfl, rfl, by go_num, by have := HKx.out; omega, by omega, HS4.out.more (by omega) (by omega)⟩


        have q : Hid (c.t.l ≠ [] → c.t.bb < w.heap.size) := fun hn => by
          rcases HCC.out.bytes with h | h
          · exact absurd h hn
          · exact h.1
        have BB := hide (I.out.bel.trans (KB.out.mono I.out.bel.size))
        have cP := hide ((I.out.below KB.out).act (by have := HI.out; omega) c.t (HCC.out.bytes.same BB.out.size (fun hb _ => BB.out.block _ hb)) HCC.out.nil HCC.out.small HCC.out.page q.out)
        clear I
        go_wp2_with fail
        refine cP.out.mono ?_
        rintro e w8 ⟨rfl, hS⟩
        have HS := hide hS
        clear cP hS
        have cI := hide (HS.out.i1)
        clear HS
        go_wp2_with fail
        refine cI.out.mono ?_
        rintro e wi ⟨v, er, rfl, hI⟩
        have cJ := hide (hI.i2)
        clear cI hI
        go_wp2_with fail
        refine cJ.out.mono ?_
        rintro e wj ⟨u, rfl, hS, hC⟩
        have HS := hide hS
        have HC3 := hide hC
        clear cJ hS hC
        go_wp2_with fail
        refine HC3.out.mono ?_
        rintro e wk ⟨rfl, bk⟩
        have HS4 := hide (HS.out.below bk)
        clear HC3 HS bk
        go_wp2_with fail
        go_roundg (len2 - (i + 1))
        case measure => have := HKx.out; omega
        case rel => exact ⟨i + 1, s, s', f, rfl, rfl, by go_num, by have := HKx.out; omega, by omega, HS4.out.more (by omega) (by omega)⟩
      · obtain rfl : i = len2 := by omega
        have hlt2 : ¬ (i : Int) < (i : Int) := by omega
        have cF := hide I.out.fin
        clear I
        go_wp2_with fail
        refine cF.out.mono ?_
        rintro e w6 ⟨rfl, b6⟩
        have BF := hide b6
        clear b6
        go_wp2_with fail
        go_ret
        exact ⟨rfl, BF.out⟩
end Go.Proofs.YtbccnfbombgdmaaGreat.bucketPlays
