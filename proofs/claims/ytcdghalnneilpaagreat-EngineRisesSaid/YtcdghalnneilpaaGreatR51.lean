/- Joined texts. -/
import Derived.Test.YtcdghalnneilpaaGreatR50
set_option linter.unusedVariables false
set_option linter.unusedSimpArgs false
set_option maxRecDepth 8000
set_option maxHeartbeats 8000000
namespace Go.Proofs.YtcdghalnneilpaaGreat
open Go.RowKit Go.Deep Math
theorem bk_al {X w : World} {o : Obj} (h : X = w.alloc o) {b : Nat} {l : List Value} {t : TypeId} (hb : Blk w b l t) : Blk X b l t := by rw [h]; exact hb.same (blk_alloc_lt _ _ _ hb.lt)
theorem like_lastSeq {S S' : Dv} (h : LikeB S S') : S'.lastSeq = S.lastSeq := lastSeq_like ⟨h.cs, h.off, h.armed, h.losses⟩
theorem bsm_any (w : World) : Calls Tryz.prog 19 #[gSm.val] w fun e w' => e = .returned (.bool true) /\ Below w.heap.size w w' := by
 have h := egood_any gSm w
 rwa [show gSm.good = true by decide] at h
theorem psm_any (w : World) : Calls Tryz.prog 15 #[gSm.val] w fun e w' => e = .returned (.int .i64 11) /\ Below w.heap.size w w' := by
 have h := epages_any gSm w
 rwa [show gSm.pages = 11 by decide] at h
theorem awake_any (w : World) : Calls Tryz.prog 9 #[] w fun e w' => e = .returned (.bool true) /\ Below w.heap.size w w' := by
 have cN := hide (new_law (Below.refl w.heap.size w) 12 (by omega) (by omega))
 go_enter Tryz.func9, Tryz.ntmps9
 go_wp2_with fail
 refine cN.out.mono ?_
 rintro e w1 ⟨d, F1, rfl, L1, _⟩
 have cS := hide (small_any w1)
 have HL1 := hide L1
 clear cN L1
 go_wp2_with fail
 refine cS.out.mono ?_
 rintro e w2 ⟨rfl, b2⟩
 have cO := hide (eg_open (B := []) (n := 12) (by omega) (HL1.out.below b2) (by simp))
 clear cS b2 HL1
 go_wp2_with fail
 refine cO.out.mono ?_
 rintro e w3 ⟨x, rfl, S3, T, E3, hr, ho, hh, hs, hl, hc, _⟩
 have HE := hide E3
 have HT := hide (And.intro hr (And.intro ho hh))
 have HS := hide (And.intro hs (And.intro hl hc))
 clear cO E3 hr ho hh hs hl hc
 go_wp2_with fail
 obtain ⟨q4, hq4⟩ : ∃ q, q = w3.heap.size := ⟨_, rfl⟩
 obtain ⟨X4, hX4⟩ : ∃ X, X = w3.alloc (.cells #[.int .u64 0, .int .u64 0, .int .u64 0, .int .u64 0, .int .u64 0, .bool false, .int .i64 0] 30) := ⟨_, rfl⟩
 have b4 : Blk X4 q4 [.int .u64 0, .int .u64 0, .int .u64 0, .int .u64 0, .int .u64 0, .bool false, .int .i64 0] 30 := by rw [hX4, hq4]; exact Blk.new w3 [.int .u64 0, .int .u64 0, .int .u64 0, .int .u64 0, .int .u64 0, .bool false, .int .i64 0] 30
 have E4 := HE.out.pin (w' := X4) (by rw [hX4]; exact (Below.refl _ _).alloc (Nat.le_refl _) _) q4 (by omega) (by rw [hX4, nblk_alloc]; omega)
 have lq4 : w.heap.size <= q4 := by rw [hq4]; exact HE.out.bel.size
 have cV := hide (eg_version E4 HS.out.1 HS.out.2.1 (by rw [HS.out.2.2]; omega))
 rw [<- hX4, <- hq4]
 have HB4 := hide b4
 have HQ4 := hide lq4
 clear hX4 hq4 E4 b4 lq4
 refine cV.out.mono ?_
 rintro e w4 ⟨rfl, S4, E4, hs, hl, hc, P4⟩
 have B4 := hide (P4.blk HB4.out (by simp))
 have HE4 := hide E4
 have HS4 := hide (And.intro hs (And.intro hl hc))
 clear cV P4 HB4 E4 hs hl hc HE HS
 go_wp2_with fail
 obtain ⟨q8, hq8⟩ : ∃ q, q = w4.heap.size := ⟨_, rfl⟩
 obtain ⟨X5, hX5⟩ : ∃ X, X = w4.alloc (.cells #[.string ⟨#[97]⟩, .string ⟨#[49]⟩, .int .u32 0, .int .i64 0, .int .u64 1] 39) := ⟨_, rfl⟩
 have b8 : Blk X5 q8 [.string ⟨#[97]⟩, .string ⟨#[49]⟩, .int .u32 0, .int .i64 0, .int .u64 1] 39 := by rw [hX5, hq8]; exact Blk.new w4 [.string ⟨#[97]⟩, .string ⟨#[49]⟩, .int .u32 0, .int .i64 0, .int .u64 1] 39
 have E5 := HE4.out.pin (w' := X5) (by rw [hX5]; exact (Below.refl _ _).alloc (Nat.le_refl _) _) q8 (by omega) (by rw [hX5, nblk_alloc]; omega)
 have lq8 : w.heap.size <= q8 := by rw [hq8]; exact HE4.out.bel.size
 have cP := hide (eg_put E5)
 have B5 := hide (bk_al hX5 B4.out)
 rw [<- hX5, <- hq8]
 have HB8 := hide b8
 have HQ8 := hide lq8
 clear hX5 hq8 E5 b8 lq8 B4 HE4
 refine cP.out.mono ?_
 rintro e w5 ⟨rfl, S5, E5, hs, hl, hc, P5⟩
 have B4 := hide (P5.blk B5.out (by simp))
 have B8 := hide (P5.blk HB8.out (by simp))
 have hd : ∀ k, (T.drop [97]).has k = none := fun k => by
  show updK T.has [97] none k = none
  unfold updK
  split
  ·rfl
  ·exact HT.out.2.2 k
 have cG := eg_get (g := false) rfl E5 (hd _) rfl
 rw [show getV (if false = true then none else some yA) = .tuple #[.agg #[.string ⟨#[97]⟩, .string ⟨#[49]⟩, .int .u32 0, .int .i64 0, .int .u64 1], .int .i64 0] from rfl] at cG
 have CG := hide cG
 have HS5 := hide (And.intro (hs.trans HS4.out.1) (And.intro (hl.trans HS4.out.2.1) (show 11 <= S5.cs.length by rw [hc]; exact HS4.out.2.2)))
 have HD := hide hd
 clear cP P5 B5 HB8 E5 hs hl hc HS4 hd cG
 go_wp2_with fail
 refine CG.out.mono ?_
 rintro e w6 ⟨rfl, S6, E6, hk, P6⟩
 have C4 := hide (P6.blk B4.out (by simp))
 have C8 := hide (P6.blk B8.out (by simp))
 have HS6 := hide (And.intro ((like_lastSeq hk).trans HS5.out.1) (And.intro (hk.losses.trans HS5.out.2.1) (show 11 <= S6.cs.length by rw [hk.cs]; exact HS5.out.2.2)))
 have HE6 := hide E6
 clear CG P6 B4 B8 E6 hk HS5
 go_wp2_with fail
 obtain ⟨q10, hq10⟩ : ∃ q, q = w6.heap.size := ⟨_, rfl⟩
 obtain ⟨X7, hX7⟩ : ∃ X, X = w6.alloc (.cells #[.string ⟨#[97]⟩, .string ⟨#[49]⟩, .int .u32 0, .int .i64 0, .int .u64 1] 39) := ⟨_, rfl⟩
 have b10 : Blk X7 q10 [.string ⟨#[97]⟩, .string ⟨#[49]⟩, .int .u32 0, .int .i64 0, .int .u64 1] 39 := by rw [hX7, hq10]; exact Blk.new w6 [.string ⟨#[97]⟩, .string ⟨#[49]⟩, .int .u32 0, .int .i64 0, .int .u64 1] 39
 have E7 := HE6.out.pin (w' := X7) (by rw [hX7]; exact (Below.refl _ _).alloc (Nat.le_refl _) _) q10 (by omega) (by rw [hX7, nblk_alloc]; omega)
 have lq10 : w.heap.size <= q10 := by rw [hq10]; exact HE6.out.bel.size
 have cM := hide (eg_may E7)
 have D4 := hide (bk_al hX7 C4.out)
 have D8 := hide (bk_al hX7 C8.out)
 rw [<- hX7, <- hq10]
 have HB10 := hide b10
 have HQ10 := hide lq10
 clear hX7 hq10 E7 b10 lq10 C4 C8 HE6
 refine cM.out.mono ?_
 rintro e w7 ⟨rfl, E7, P7⟩
 have C4 := hide (P7.blk D4.out (by simp))
 have C8 := hide (P7.blk D8.out (by simp))
 have C10 := hide (P7.blk HB10.out (by simp))
 have cI := hide (eg_items rfl E7 HD.out (show T.regs.flatMap Rg.ths ++ T.opn = [] by rw [HT.out.1, HT.out.2.1]; rfl) HT.out.1 rfl)
 clear cM P7 D4 D8 HB10 E7
 go_wp2_with fail
 refine cI.out.mono ?_
 rintro e w8 ⟨va, vc, rfl, S8, E8, hk, P8⟩
 have D4 := hide (P8.blk C4.out (by simp))
 have D8 := hide (P8.blk C8.out (by simp))
 have D10 := hide (P8.blk C10.out (by simp))
 have HS8 := hide (And.intro ((like_lastSeq hk).trans HS6.out.1) (And.intro (hk.losses.trans HS6.out.2.1) (show 11 <= S8.cs.length by rw [hk.cs]; exact HS6.out.2.2)))
 have HE8 := hide E8
 clear cI P8 C4 C8 C10 E8 hk HS6
 go_wp2_with fail
 obtain ⟨qk, hqk⟩ : ∃ q, q = w8.heap.size := ⟨_, rfl⟩
 obtain ⟨X9, hX9⟩ : ∃ X, X = w8.alloc (.cells #[.string ⟨#[97]⟩] 9) := ⟨_, rfl⟩
 have bk : Blk X9 qk [.string ⟨#[97]⟩] 9 := by rw [hX9, hqk]; exact Blk.new w8 [.string ⟨#[97]⟩] 9
 have E9 := HE8.out.below (w' := X9) (by rw [hX9]; exact (Below.refl _ _).alloc (Nat.le_refl _) _)
 have hka : KeysAt X9 (some ⟨qk, 0, none⟩) [[97]] := ⟨fun k hk => by simp only [List.mem_singleton] at hk; subst hk; decide, fun i k hk => by
  match i, hk with
  | 0, hk => cases hk; exact ⟨qk, 0, rfl, bk.lt, bk.cell rfl⟩⟩
 have cR := hide (eg_remove E9 (by omega) (some ⟨qk, 0, none⟩) 1 (by omega) hka HS8.out.1 HS8.out.2.1 HS8.out.2.2)
 have C4 := hide (bk_al hX9 D4.out)
 have C8 := hide (bk_al hX9 D8.out)
 have C10 := hide (bk_al hX9 D10.out)
 rw [<- hX9, <- hqk]
 clear hX9 hqk bk E9 hka D4 D8 D10 HE8
 refine cR.out.mono ?_
 rintro e w9 ⟨rfl, S9, N9, E9, hs, hl, hc, P9⟩
 have D4 := hide (P9.blk C4.out (by simp))
 have D8 := hide (P9.blk C8.out (by simp))
 have D10 := hide (P9.blk C10.out (by simp))
 have cG := eg_get (g := true) rfl E9 (HD.out _) JA_gone
 rw [show getV (if true = true then none else some yA) = .tuple #[.agg #[.string ⟨#[]⟩, .string ⟨#[]⟩, .int .u32 0, .int .i64 0, .int .u64 0], .int .i64 5] from rfl] at cG
 have CG := hide cG
 have HS9 := hide (And.intro hs (And.intro hl hc))
 clear cR P9 C4 C8 C10 E9 hs hl hc cG HS8
 go_wp2_with fail
 refine CG.out.mono ?_
 rintro e w10 ⟨rfl, S10, E10, hk, P10⟩
 have C4 := hide (P10.blk D4.out (by simp))
 have C8 := hide (P10.blk D8.out (by simp))
 have C10 := hide (P10.blk D10.out (by simp))
 have HS10 := hide (And.intro ((like_lastSeq hk).trans HS9.out.1) (And.intro (hk.losses.trans HS9.out.2.1) (show 11 <= S10.cs.length by rw [hk.cs]; exact HS9.out.2.2)))
 have HE10 := hide E10
 clear CG P10 D4 D8 D10 E10 hk HS9
 go_wp2_with fail
 obtain ⟨q15, hq15⟩ : ∃ q, q = w10.heap.size := ⟨_, rfl⟩
 obtain ⟨X11, hX11⟩ : ∃ X, X = w10.alloc (.cells #[.string ⟨#[]⟩, .string ⟨#[]⟩, .int .u32 0, .int .i64 0, .int .u64 0] 39) := ⟨_, rfl⟩
 have b15 : Blk X11 q15 [.string ⟨#[]⟩, .string ⟨#[]⟩, .int .u32 0, .int .i64 0, .int .u64 0] 39 := by rw [hX11, hq15]; exact Blk.new w10 [.string ⟨#[]⟩, .string ⟨#[]⟩, .int .u32 0, .int .i64 0, .int .u64 0] 39
 have E11 := HE10.out.pin (w' := X11) (by rw [hX11]; exact (Below.refl _ _).alloc (Nat.le_refl _) _) q15 (by omega) (by rw [hX11, nblk_alloc]; omega)
 have lq15 : w.heap.size <= q15 := by rw [hq15]; exact HE10.out.bel.size
 have cT := hide (eg_settle E11 (show S10.losses = 0 from HS10.out.2.1) HT.out.2.1)
 have D4 := hide (bk_al hX11 C4.out)
 have D8 := hide (bk_al hX11 C8.out)
 have D10 := hide (bk_al hX11 C10.out)
 rw [<- hX11, <- hq15]
 clear hX11 hq15 E11 b15 lq15 C4 C8 C10 HE10
 refine cT.out.mono ?_
 rintro e w11 ⟨rfl, S11, E11, hs, hl, hc, P11⟩
 have C4 := hide (P11.blk D4.out (by simp))
 have C8 := hide (P11.blk D8.out (by simp))
 have C10 := hide (P11.blk D10.out (by simp))
 have cW := hide (eg_wipe E11 (hs.trans HS10.out.1) (hl.trans HS10.out.2.1) (by rw [hc]; exact HS10.out.2.2))
 clear cT P11 D4 D8 D10 E11 hs hl hc HS10
 go_wp2_with fail
 refine cW.out.mono ?_
 rintro e w12 ⟨rfl, S12, N12, E12, hs, hl, hc, P12⟩
 have D4 := hide (P12.blk C4.out (by simp))
 have D8 := hide (P12.blk C8.out (by simp))
 have D10 := hide (P12.blk C10.out (by simp))
 have cB := hide (aw_block E12)
 have HS12 := hide (And.intro hs (And.intro hl hc))
 clear cW P12 C4 C8 C10 E12 hs hl hc
 go_wp2_with fail
 refine cB.out.mono ?_
 rintro e w13 ⟨rfl, E13, P13⟩
 have C4 := hide (P13.blk D4.out (by simp))
 have C8 := hide (P13.blk D8.out (by simp))
 have C10 := hide (P13.blk D10.out (by simp))
 have HE13 := hide E13
 clear cB P13 D4 D8 D10 E13
 rw [show Sb.val (En.b ⟨0, ⟨3, 1, 64, 1, 1, false, 0⟩, 1⟩) = .agg #[.int .u64 3, .int .u64 1, .int .u64 64, .int .u64 1, .int .u64 1, .bool false, .int .i64 0] from rfl]
 obtain ⟨q19, hq19⟩ : ∃ q, q = w13.heap.size := ⟨_, rfl⟩
 obtain ⟨X14, hX14⟩ : ∃ X, X = w13.alloc (.cells #[.int .u64 3, .int .u64 1, .int .u64 64, .int .u64 1, .int .u64 1, .bool false, .int .i64 5] 30) := ⟨_, rfl⟩
 have b19 : Blk X14 q19 [.int .u64 3, .int .u64 1, .int .u64 64, .int .u64 1, .int .u64 1, .bool false, .int .i64 5] 30 := by rw [hX14, hq19]; exact Blk.new w13 [.int .u64 3, .int .u64 1, .int .u64 64, .int .u64 1, .int .u64 1, .bool false, .int .i64 5] 30
 have E14 := HE13.out.pin (w' := X14) (by rw [hX14]; exact (Below.refl _ _).alloc (Nat.le_refl _) _) q19 (by omega) (by rw [hX14, nblk_alloc]; omega)
 have lq19 : w.heap.size <= q19 := by rw [hq19]; exact HE13.out.bel.size
 have D4 := bk_al hX14 C4.out
 have k4_0 := D4.cell (i := 0) rfl
 have k4_1 := D4.cell (i := 1) rfl
 have k4_2 := D4.cell (i := 2) rfl
 have k4_3 := D4.cell (i := 3) rfl
 have k4_4 := D4.cell (i := 4) rfl
 have k4_5 := D4.cell (i := 5) rfl
 have k4_6 := D4.cell (i := 6) rfl
 rw [hX14] at k4_0 k4_1 k4_2 k4_3 k4_4 k4_5 k4_6
 clear D4
 have D8 := bk_al hX14 C8.out
 have k8_0 := D8.cell (i := 0) rfl
 have k8_1 := D8.cell (i := 1) rfl
 have k8_2 := D8.cell (i := 2) rfl
 have k8_3 := D8.cell (i := 3) rfl
 have k8_4 := D8.cell (i := 4) rfl
 rw [hX14] at k8_0 k8_1 k8_2 k8_3 k8_4
 clear D8
 have D10 := bk_al hX14 C10.out
 have k10_0 := D10.cell (i := 0) rfl
 have k10_1 := D10.cell (i := 1) rfl
 have k10_2 := D10.cell (i := 2) rfl
 have k10_3 := D10.cell (i := 3) rfl
 have k10_4 := D10.cell (i := 4) rfl
 rw [hX14] at k10_0 k10_1 k10_2 k10_3 k10_4
 clear D10
 have cB0 := aw_block E14
 rw [show Sb.val (En.b ⟨0, ⟨3, 1, 64, 1, 1, false, 0⟩, 1⟩) = .agg #[.int .u64 3, .int .u64 1, .int .u64 64, .int .u64 1, .int .u64 1, .bool false, .int .i64 0] from rfl] at cB0
 have cB := hide cB0
 have HB19 := hide b19
 have HX := hide hX14
 have HQ := hide hq19
 clear cB0 E14 b19 lq19 hX14 hq19 C4 C8 C10 HE13
 go_wp2_with fail
 rw [<- HX.out, <- HQ.out]
 refine cB.out.mono ?_
 rintro e w14 ⟨rfl, E14, P14⟩
 have C19 := hide (P14.blk HB19.out (by simp))
 have cC0 := aw_block E14
 rw [show Sb.val (En.b ⟨0, ⟨3, 1, 64, 1, 1, false, 0⟩, 1⟩) = .agg #[.int .u64 3, .int .u64 1, .int .u64 64, .int .u64 1, .int .u64 1, .bool false, .int .i64 0] from rfl] at cC0
 have cC := hide cC0
 have ff : (Instr.field 30 (.agg #[.int .u64 3, .int .u64 1, .int .u64 64, .int .u64 1, .int .u64 1, .bool false, .int .i64 0]) 1).run Tryz.prog w14 = .ok (.int .u64 1) w14 := by rfl
 clear cB cC0 P14 E14 HB19 k4_0 k4_1 k4_2 k4_3 k4_4 k4_5 k4_6 k8_0 k8_1 k8_2 k8_3 k8_4 k10_0 k10_1 k10_2 k10_3 k10_4
 go_wp2_with fail
 refine cC.out.mono ?_
 rintro e w15 ⟨rfl, E15, P15⟩
 have D19 := hide (P15.blk C19.out (by simp))
 have HE15 := hide E15
 have cS := hide (small_any w15)
 clear ff cC P15 E15 C19
 have ff : (Instr.field 30 (.agg #[.int .u64 3, .int .u64 1, .int .u64 64, .int .u64 1, .int .u64 1, .bool false, .int .i64 0]) 2).run Tryz.prog w15 = .ok (.int .u64 64) w15 := by rfl
 go_wp2_with fail
 refine cS.out.mono ?_
 rintro e w16 ⟨rfl, b16⟩
 have cG := hide (bsm_any w16)
 have HE16 := hide (HE15.out.below b16)
 have C19 := hide (D19.out.same (b16.block _ D19.out.lt))
 clear ff cS b16 HE15 D19
 go_wp2_with fail
 refine cG.out.mono ?_
 rintro e w17 ⟨rfl, b17⟩
 have cS := hide (small_any w17)
 have HE17 := hide (HE16.out.below b17)
 have D19 := hide (C19.out.same (b17.block _ C19.out.lt))
 clear cG b17 HE16 C19
 go_wp2_with fail
 refine cS.out.mono ?_
 rintro e w18 ⟨rfl, b18⟩
 have cG := hide (psm_any w18)
 have HE18 := hide (HE17.out.below b18)
 have C19 := hide (D19.out.same (b18.block _ D19.out.lt))
 clear cS b18 HE17 D19
 go_wp2_with fail
 refine cG.out.mono ?_
 rintro e w19 ⟨rfl, b19⟩
 have E19 := HE18.out.below b19
 have D19 := C19.out.same (b19.block _ C19.out.lt)
 have k0 := D19.cell (i := 0) rfl
 have k1 := D19.cell (i := 1) rfl
 have k2 := D19.cell (i := 2) rfl
 have k3 := D19.cell (i := 3) rfl
 have k4 := D19.cell (i := 4) rfl
 have k5 := D19.cell (i := 5) rfl
 have k6 := D19.cell (i := 6) rfl
 have cT := hide (eg_set E19 HS12.out.1 HS12.out.2.1 HS12.out.2.2)
 clear cG b19 HE18 C19 E19 D19
 go_wp2_with fail
 refine cT.out.mono ?_
 rintro e w20 ⟨rfl, S20, E20, P20⟩
 have cB0 := aw_block E20
 rw [show Sb.val (En.b ⟨0, ⟨4, 1, 64, 1, 1, false, 5⟩, 1⟩) = .agg #[.int .u64 4, .int .u64 1, .int .u64 64, .int .u64 1, .int .u64 1, .bool false, .int .i64 5] from rfl] at cB0
 have cB := hide cB0
 clear cT P20 E20 cB0 k0 k1 k2 k3 k4 k5 k6
 go_wp2_with fail
 refine cB.out.mono ?_
 rintro e w21 ⟨rfl, E21, P21⟩
 have HE21 := hide E21
 have ff : (Instr.field 30 (.agg #[.int .u64 4, .int .u64 1, .int .u64 64, .int .u64 1, .int .u64 1, .bool false, .int .i64 5]) 6).run Tryz.prog w21 = .ok (.int .i64 5) w21 := by rfl
 clear cB E21 P21
 go_wp2
 go_ret
 exact ⟨rfl, HE21.out.bel⟩
section
variable {w0 w w' : World} {x d gj : Nat} {B : List Nat} {J : Jr} {S : Dv} {f : Nat -> List It} {bs : List (List Bool)} {T : Lg}
end
section
variable {w0 w w' : World} {d : Nat} {F B : List Nat}
end
def Quiet (S : Dv) : Prop := ∀ c ∈ S.cs, c.last = none
theorem settle_quiet : ∀ (cs : List Cl) (ps : List UInt8), (∀ c ∈ cs, c.last = none) -> settle cs ps = cs
 | [], _, _ => rfl
 | c :: r, ps, h => by
  have hc := h c (by simp)
  unfold settle
  rw [hc]
  simp only
  rw [settle_quiet r ps (fun x hx => h x (by simp [hx]))]
theorem settle_last : ∀ (cs : List Cl) (ps : List UInt8), ∀ c ∈ settle cs ps, c.last = none
 | [], _ => by simp [settle]
 | c :: r, ps => by
  intro x hx
  unfold settle at hx
  split at hx
  ·rename_i h
   rcases List.mem_cons.1 hx with rfl | hx
   ·exact h
   ·exact settle_last r ps x hx
  ·rcases List.mem_cons.1 hx with rfl | hx
   ·rfl
   ·exact settle_last r ps.tail x hx
theorem settle_twice (cs : List Cl) (ps : List UInt8) : settle (settle cs ps) [] = settle cs ps := settle_quiet _ _ (settle_last cs ps)
theorem settle_putAt : ∀ (cs : List Cl) (k : Nat) (p : Pg) (ps : List UInt8) (c : Cl), (∀ c ∈ cs, c.last = none) -> cs[k]? = some c -> ∀ j, ((settle (putAt cs k p) ps)[j]?).map (·.now) = if j = k then some (pick p c.now (ps.headD 0).toNat) else (cs[j]?).map (·.now)
 | [], k, p, ps, c, _, hk, j => by simp at hk
 | c0 :: r, 0, p, ps, c, h, hk, j => by
  have hc : c0 = c := by simpa using hk
  subst hc
  have h0 := h c0 (by simp)
  have hr := settle_quiet r ps.tail (fun x hx => h x (by simp [hx]))
  have e : settle (putAt (c0 :: r) 0 p) ps = ⟨pick p c0.now (ps.headD 0).toNat, none⟩ :: r := by
   simp only [putAt, Cl.put, h0, Option.getD_none]
   unfold settle
   simp only [hr]
  rw [e]
  cases j with
  | zero => simp
  | succ j => simp
 | c0 :: r, k + 1, p, ps, c, h, hk, j => by
  have h0 := h c0 (by simp)
  have e : settle (putAt (c0 :: r) (k + 1) p) ps = c0 :: settle (putAt r k p) ps := by
   simp only [putAt]
   rw [settle, h0]
  rw [e]
  cases j with
  | zero => simp
  | succ j =>
   have := settle_putAt r k p ps c (fun x hx => h x (by simp [hx])) (by simpa using hk) j
   simp only [List.getElem?_cons_succ, this, Nat.add_right_cancel_iff]
theorem Quiet.fresh (n : Nat) : Quiet (Dv.fresh n) := fun c hc => by
 have := List.eq_of_mem_replicate hc
 subst this
 rfl
theorem Quiet.cs {S T : Dv} (h : Quiet S) (e : T.cs = S.cs) : Quiet T := fun c hc => h c (by rw [<- e]; exact hc)
theorem flushed_quiet (S : Dv) (n : Sb) (h2 : 2 <= S.cs.length) (ho : S.off = false) (ha : S.armed ≠ 1) (ha2 : S.armed ≠ 2) : Quiet (S.wrote n).flushDo := by
 rw [flushed_is S n h2 ho ha ha2]
 intro c hc
 obtain ⟨x, _, rfl⟩ := List.mem_map.1 (show c ∈ (S.wrote n).cs.map Cl.flush from hc)
 rfl
theorem storeDo_quiet {S : Dv} {a b : Option Sb} (t : Two S a b) (x : Sb) (hl : lastS a b ≠ 18446744073709551615) (h1 : S.armed ≠ 1) (h2 : S.armed ≠ 2) : Quiet (S.storeDo x) := by
 have hlen := t.len
 have hno : ¬ S.off = true := by rw [t.off]; decide
 have hn2 : ¬ S.cs.length < 2 := by omega
 have hls : ¬ S.lastSeq = 18446744073709551615 := by rw [t.lastSeq]; exact hl
 have eD : S.storeDo x = (S.wrote (S.nextB x)).flushDo := by unfold Dv.storeDo; rw [if_neg hn2, if_neg hno, if_neg hls, if_neg h1]
 rw [eD]
 exact flushed_quiet S _ hlen t.off h1 h2
theorem Two.pg {S T : Dv} {a b : Option Sb} (t : Two S a b) (h : T.cs = S.cs) (ho : T.off = false) : Two T a b :=
 ⟨by rw [h]; exact t.len, ho, by rw [slotB_cs h]; exact t.s0, by rw [slotB_cs h]; exact t.s1⟩
theorem back_cs (D : Dv) (ps : List UInt8) : ((D.crash ps).on).cs = settle D.cs ps := settle_twice _ _
structure Lad (S : Dv) (top : Option Sb) : Prop where
 ex : ∃ a b, Two S a b /\ newer a b = top /\ (∀ x, a = some x -> x.seq % 2 = 0) /\ (∀ x, b = some x -> x.seq % 2 = 1)
 quiet : Quiet S
theorem lastS_le (a b : Option Sb) : (∀ x, a = some x -> x.seq <= lastS a b) /\ (∀ x, b = some x -> x.seq <= lastS a b) := by
 unfold lastS
 cases a with
 | none =>
  cases b with
  | none => exact ⟨fun x h => (by cases h), fun x h => (by cases h)⟩
  | some y => exact ⟨fun x h => (by cases h), fun x h => (by cases h; exact Nat.le_refl _)⟩
 | some x =>
  cases b with
  | none => exact ⟨fun z h => (by cases h; exact Nat.le_refl _), fun z h => (by cases h)⟩
  | some y =>
   show (∀ z, some x = some z -> z.seq <= match (if x.seq < y.seq then some y else some x) with | some q => q.seq | none => 0) /\ (∀ z, some y = some z -> z.seq <= match (if x.seq < y.seq then some y else some x) with | some q => q.seq | none => 0)
   by_cases h : x.seq < y.seq
   ·rw [if_pos h]
    exact ⟨fun z e => (by cases e; exact Nat.le_of_lt h), fun z e => (by cases e; exact Nat.le_refl _)⟩
   ·rw [if_neg h]
    exact ⟨fun z e => (by cases e; exact Nat.le_refl _), fun z e => (by cases e; exact Nat.le_of_not_lt h)⟩
theorem newer_new (a b : Option Sb) (N : Sb) (h : N.seq = lastS a b + 1) : newer (if N.seq % 2 = 0 then some N else a) (if N.seq % 2 = 1 then some N else b) = some N := by
 have hl := lastS_le a b
 rcases Nat.mod_two_eq_zero_or_one N.seq with h0 | h0
 ·rw [if_pos h0, if_neg (by omega)]
  cases b with
  | none => rfl
  | some y =>
   have := hl.2 y rfl
   show (if N.seq < y.seq then some y else some N) = _
   rw [if_neg (by omega)]
 ·rw [if_neg (by omega), if_pos h0]
  cases a with
  | none => rfl
  | some x =>
   have := hl.1 x rfl
   show (if x.seq < N.seq then some N else some x) = _
   rw [if_pos (by omega)]
theorem newer_lost (a b : Option Sb) (N : Sb) (h : N.seq = lastS a b + 1) (pa : ∀ x, a = some x -> x.seq % 2 = 0) (pb : ∀ x, b = some x -> x.seq % 2 = 1) : newer (if N.seq % 2 = 0 then none else a) (if N.seq % 2 = 1 then none else b) = newer a b := by
 unfold lastS at h
 rcases Nat.mod_two_eq_zero_or_one N.seq with h0 | h0
 ·rw [if_pos h0, if_neg (by omega)]
  cases a with
  | none => rfl
  | some x =>
   have hx := pa x rfl
   cases b with
   | none =>
    have h : N.seq = x.seq + 1 := h
    omega
   | some y =>
    have h : N.seq = (match (if x.seq < y.seq then some y else some x) with | some q => q.seq | none => 0) + 1 := h
    by_cases hxy : x.seq < y.seq
    ·show some y = (if x.seq < y.seq then some y else some x)
     rw [if_pos hxy]
    ·rw [if_neg hxy] at h
     have h : N.seq = x.seq + 1 := h
     omega
 ·rw [if_neg (by omega), if_pos h0]
  cases b with
  | none => cases a <;> rfl
  | some y =>
   have hy := pb y rfl
   cases a with
   | none =>
    have h : N.seq = y.seq + 1 := h
    omega
   | some x =>
    have h : N.seq = (match (if x.seq < y.seq then some y else some x) with | some q => q.seq | none => 0) + 1 := h
    by_cases hxy : x.seq < y.seq
    ·rw [if_pos hxy] at h
     have h : N.seq = y.seq + 1 := h
     omega
    ·show some x = (if x.seq < y.seq then some y else some x)
     rw [if_neg hxy]
theorem Lad.fresh (n : Nat) (h : 2 <= n) : Lad (Dv.fresh n) none := ⟨⟨none, none, Two.fresh n h, rfl, fun x h => (by cases h), fun x h => (by cases h)⟩, Quiet.fresh n⟩
theorem Lad.like {S S' : Dv} {top : Option Sb} (L : Lad S top) (h : S'.cs = S.cs) (ho : S'.off = false) : Lad S' top := by
 obtain ⟨a, b, t, hn, pa, pb⟩ := L.ex
 exact ⟨⟨a, b, t.pg h ho, hn, pa, pb⟩, L.quiet.cs h⟩
theorem Lad.loadV {S : Dv} {top : Option Sb} (L : Lad S top) : S.loadV = slotV top := by
 obtain ⟨a, b, t, hn, _⟩ := L.ex
 rw [t.loadV, hn]
def topS : Option Sb -> Nat
 | some x => x.seq
 | none => 0
theorem Lad.last {S : Dv} {top : Option Sb} (L : Lad S top) : S.lastSeq = topS top := by
 obtain ⟨a, b, t, hn, _⟩ := L.ex
 rw [t.lastSeq]
 unfold lastS topS
 rw [hn]
 cases top <;> rfl
theorem Lad.store {S : Dv} {top : Option Sb} (L : Lad S top) (x : Sb) (hf : x.fits) (hl : S.lastSeq ≠ 18446744073709551615) (h1 : S.armed ≠ 1) (h2 : S.armed ≠ 2) :
  S.storeE = 0 /\ S.storeB x = S.nextB x /\ (S.nextB x).fits /\ Lad (S.storeDo x) (some (S.nextB x)) /\ (S.storeDo x).armed = S.armed - 2 := by
 obtain ⟨a, b, t, hn, pa, pb⟩ := L.ex
 have hl' : lastS a b ≠ 18446744073709551615 := by rw [<- t.lastSeq]; exact hl
 obtain ⟨e1, e2, e3, e4, e5⟩ := t.store x hf hl' h1 h2
 rw [<- t.nextB x] at e2 e3 e4
 have hs : (S.nextB x).seq = lastS a b + 1 := by rw [t.nextB]; rfl
 refine ⟨e1, e2, e3, ⟨⟨_, _, e4, newer_new a b _ hs, fun z hz => ?_, fun z hz => ?_⟩, storeDo_quiet t x hl' h1 h2⟩, e5⟩
 ·by_cases h : (S.nextB x).seq % 2 = 0
  ·rw [if_pos h] at hz; cases hz; exact h
  ·rw [if_neg h] at hz; exact pa z hz
 ·by_cases h : (S.nextB x).seq % 2 = 1
  ·rw [if_pos h] at hz; cases hz; exact h
  ·rw [if_neg h] at hz; exact pb z hz
theorem Lad.back {S : Dv} {top : Option Sb} (L : Lad S top) (ps : List UInt8) : Lad ((S.crash ps).on) top :=
 L.like (by rw [back_cs]; exact settle_quiet _ _ L.quiet) rfl
theorem Lad.cut {S : Dv} {top : Option Sb} (L : Lad S top) (x : Sb) (hf : x.fits) (hl : S.lastSeq ≠ 18446744073709551615) (h : S.armed = 1 \/ S.armed = 2) :
  S.storeE = 4 /\ S.storeB x = Sb.zero /\ ∀ ps : List UInt8, Lad (((S.storeDo x).crash ps).on) top \/ Lad (((S.storeDo x).crash ps).on) (some (S.nextB x)) := by
 obtain ⟨a, b, t, hn, pa, pb⟩ := L.ex
 have q := L.quiet
 have hlen := t.len
 have hno : ¬ S.off = true := by rw [t.off]; decide
 have hn2 : ¬ S.cs.length < 2 := by omega
 have hlt := lastSeq_lt S
 have hNf : (S.nextB x).fits := nextB_fits S x hf (by omega)
 have hNt := nextB_told S x
 have hs : (S.nextB x).seq = lastS a b + 1 := by rw [t.nextB]; rfl
 by_cases h1 : S.armed = 1
 ·have eE : S.storeE = 4 := by unfold Dv.storeE; rw [if_neg hn2, if_neg hno, if_neg hl, if_pos h1]
  have eB : S.storeB x = Sb.zero := by unfold Dv.storeB; rw [if_neg hn2, if_neg hno, if_neg hl, if_pos h1]
  have eD : S.storeDo x = S.wrote (S.nextB x) := by unfold Dv.storeDo; rw [if_neg hn2, if_neg hno, if_neg hl, if_pos h1]
  have e2 : (S.wrote (S.nextB x)).cs = S.cs := by
   have hsz : (txt (S.nextB x).enc).size = 64 := by rw [txt_size, Sb.enc_length]
   have hh : S.loadDo.has (((S.nextB x).seq % 2 : Nat) : Int) = true := has_nat (by rw [loadDo_cs]; omega)
   have hg : S.loadDo.gone = true := by unfold Dv.gone; rw [loadDo_off, loadDo_armed, h1]; simp
   unfold Dv.wrote Dv.writeDo
   rw [if_neg (by omega)]
   unfold Dv.putDo
   rw [if_neg (by rw [hh]; decide), if_pos hg, Dv.used_cs, loadDo_cs]
  refine ⟨eE, eB, fun ps => .inl (L.like ?_ rfl)⟩
  rw [back_cs, eD, e2]
  exact settle_quiet _ _ q
 ·have h2 : S.armed = 2 := h.resolve_left h1
  have eE : S.storeE = 4 := by unfold Dv.storeE; rw [if_neg hn2, if_neg hno, if_neg hl, if_neg h1, if_pos h2]
  have eB : S.storeB x = Sb.zero := by unfold Dv.storeB; rw [if_neg hn2, if_neg hno, if_neg hl, if_neg h1, if_pos h2]
  have eD : S.storeDo x = (S.wrote (S.nextB x)).flushDo := by unfold Dv.storeDo; rw [if_neg hn2, if_neg hno, if_neg hl, if_neg h1]
  have eW : (S.wrote (S.nextB x)).cs = putAt S.cs ((S.nextB x).seq % 2) (.whole (txt (S.nextB x).enc)) := by rw [wrote_is S _ hlen t.off h1]
  have eF : ((S.wrote (S.nextB x)).flushDo).cs = (S.wrote (S.nextB x)).cs := by
   have e := flush_err S (S.nextB x) hlen t.off h1
   rw [if_pos h2] at e
   unfold Dv.flushErr at e
   have hg : (S.wrote (S.nextB x)).gone = true := by
    cases hg : (S.wrote (S.nextB x)).gone with
    | true => rfl
    | false => rw [hg] at e; simp at e
   unfold Dv.flushDo
   rw [if_pos hg, Dv.used_cs]
  refine ⟨eE, eB, fun ps => ?_⟩
  generalize hN : S.nextB x = N at *
  obtain ⟨c0, hc0⟩ : ∃ c0, S.cs[N.seq % 2]? = some c0 := ⟨_, List.getElem?_eq_getElem (by omega)⟩
  obtain ⟨T, hT⟩ : ∃ T, T = ((S.storeDo x).crash ps).on := ⟨_, rfl⟩
  have hTo : T.off = false := by rw [hT]; rfl
  have hTcs : T.cs = settle (putAt S.cs (N.seq % 2) (.whole (txt N.enc))) ps := by rw [hT, back_cs, eD, eF, eW]
  have hTl : 2 <= T.cs.length := by rw [hTcs, settle_length, putAt_length]; exact hlen
  have hTq : Quiet T := fun c hc => by rw [hTcs] at hc; exact settle_last _ _ c hc
  have hpg : ∀ j, T.pg j = if j = N.seq % 2 then some (pick (.whole (txt N.enc)) c0.now (ps.headD 0).toNat) else S.pg j := fun j => by
   have := settle_putAt S.cs _ (.whole (txt N.enc)) ps c0 q hc0 j
   unfold Dv.pg
   rw [hTcs]
   exact this
  have hApg : S.pg (N.seq % 2) = some c0.now := by unfold Dv.pg; rw [hc0]; rfl
  rw [<- hT]
  have hslot : ∀ j, j < 2 -> ∀ p, pick (.whole (txt N.enc)) c0.now (ps.headD 0).toNat = p -> T.slotB j = if j = N.seq % 2 then pgBk p else S.slotB j := fun j hj p hp => by
   rw [slotB_pg, hpg j]
   by_cases h : j = N.seq % 2
   ·rw [if_pos h, if_pos h, Option.bind_some, hp]
   ·rw [if_neg h, if_neg h, slotB_pg]
  have hAold : S.slotB (N.seq % 2) = pgBk c0.now := by rw [slotB_pg, hApg, Option.bind_some]
  unfold pick at hslot
  by_cases hp0 : (ps.headD 0).toNat % 3 = 0
  ·left
   rw [if_pos hp0] at hslot
   have hsl : ∀ j, j < 2 -> T.slotB j = S.slotB j := fun j hj => by
    rw [hslot j hj _ rfl]
    by_cases h : j = N.seq % 2
    ·rw [if_pos h, h, hAold]
    ·rw [if_neg h]
   exact ⟨⟨a, b, ⟨hTl, hTo, by rw [hsl 0 (by omega)]; exact t.s0, by rw [hsl 1 (by omega)]; exact t.s1⟩, hn, pa, pb⟩, hTq⟩
  ·rw [if_neg hp0] at hslot
   by_cases hp2 : (ps.headD 0).toNat % 3 = 2
   ·left
    rw [if_pos hp2] at hslot
    refine ⟨⟨if N.seq % 2 = 0 then none else a, if N.seq % 2 = 1 then none else b, ⟨hTl, hTo, ?_, ?_⟩, by rw [newer_lost a b N hs pa pb]; exact hn, fun z hz => ?_, fun z hz => ?_⟩, hTq⟩
    ·rw [hslot 0 (by omega) _ rfl, t.s0]
     by_cases h : N.seq % 2 = 0
     ·rw [if_pos h.symm, if_pos h]; rfl
     ·rw [if_neg (fun e => h e.symm), if_neg h]
    ·rw [hslot 1 (by omega) _ rfl, t.s1]
     by_cases h : N.seq % 2 = 1
     ·rw [if_pos h.symm, if_pos h]; rfl
     ·rw [if_neg (fun e => h e.symm), if_neg h]
    ·by_cases h : N.seq % 2 = 0
     ·rw [if_pos h] at hz; cases hz
     ·rw [if_neg h] at hz; exact pa z hz
    ·by_cases h : N.seq % 2 = 1
     ·rw [if_pos h] at hz; cases hz
     ·rw [if_neg h] at hz; exact pb z hz
   ·right
    rw [if_neg hp2] at hslot
    refine ⟨⟨if N.seq % 2 = 0 then some N else a, if N.seq % 2 = 1 then some N else b, ⟨hTl, hTo, ?_, ?_⟩, newer_new a b N hs, fun z hz => ?_, fun z hz => ?_⟩, hTq⟩
    ·rw [hslot 0 (by omega) _ rfl, t.s0, pgBk_enc _ hNf, hNt]
     simp only [eq_comm]
    ·rw [hslot 1 (by omega) _ rfl, t.s1, pgBk_enc _ hNf, hNt]
     simp only [eq_comm]
    ·by_cases h : N.seq % 2 = 0
     ·rw [if_pos h] at hz; cases hz; exact h
     ·rw [if_neg h] at hz; exact pa z hz
    ·by_cases h : N.seq % 2 = 1
     ·rw [if_pos h] at hz; cases hz; exact h
     ·rw [if_neg h] at hz; exact pb z hz
end Go.Proofs.YtcdghalnneilpaaGreat
