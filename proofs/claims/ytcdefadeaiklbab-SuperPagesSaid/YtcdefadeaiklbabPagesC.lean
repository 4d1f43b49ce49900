/- SuperPages, case by case. -/
import Derived.Test.YtcdefadeaiklbabPages
set_option linter.unusedVariables false
set_option linter.unusedSimpArgs false
namespace Go.Proofs.Ytcdefadeaiklbab
open Go.RowKit Go.Deep Math

set_option maxRecDepth 8000 in
set_option maxHeartbeats 2000000 in
theorem p_101n (a b : Bk) (hfa : a.fits) (hfb : b.fits) (hworn : ¬ a.seq = 18446744073709551615) (w : World) :
    Calls Try.prog 3 #[.agg #[.int .u64 a.seq, .int .u64 a.epoch, .int .u64 a.res, .int .u64 a.hor, .int .u64 a.gen, .bool a.clean, .int .i64 a.image], .agg #[.int .u64 b.seq, .int .u64 b.epoch, .int .u64 b.res, .int .u64 b.hor, .int .u64 b.gen, .bool b.clean, .int .i64 b.image], .bool true, .bool false, .bool true] w fun e w' => e = .returned (.bool true) ∧ Below w.heap.size w w' := by
  have ca : Hid (∀ W : World, Calls Try.prog 4 #[] W fun e w' => e = .returned (.bool true) ∧ Below W.heap.size W w') := awake_any
  have cN : Hid (∀ W : World, Calls Try.prog 5 #[.int .i64 2] W fun e W' => ∃ d F, e = .returned (.tuple #[.pointer (some ⟨d, 0, none⟩), .int .i64 0]) ∧ Law W d F (Dv.fresh 2) W' ∧ Below W.heap.size W W') := fun W => new_law (Below.refl _ _) 2 (by omega) (by omega)
  obtain ⟨y, hy⟩ : ∃ y : Bk, y = { b with seq := a.seq } := ⟨_, rfl⟩
  have hfy : y.fits := by rw [hy]; exact ⟨hfa.seq, hfb.epoch, hfb.res, hfb.hor, hfb.gen, hfb.image0, hfb.image1⟩
  have hys : y.seq = a.seq := by rw [hy]
  replace hworn : ¬ y.seq = 18446744073709551615 := by rw [hys]; exact hworn
  have cEz : Hid (∀ W : World, Calls Try.prog 7 #[.agg #[.int .u64 a.seq, .int .u64 b.epoch, .int .u64 b.res, .int .u64 b.hor, .int .u64 b.gen, .bool b.clean, .int .i64 b.image]] W fun e w' => ∃ g, e = .returned (.slice (some ⟨g, 0, none⟩) 64 64) ∧ W.heap.size ≤ g ∧ Buf w' g y.enc 0 ∧ Below W.heap.size W w') := by
    subst hy
    exact encode_any _ hfy
  have FA := hide hfa
  have FY := hide hfy
  have HY := hide hy
  have cEa := hide (encode_any a hfa)
  have cEy := hide (encode_any y hfy)
  have HWORN := hide hworn
  clear hfa hfb hfy hys hy hworn
  go_enter Try.func3, Try.ntmps3
  go_wp2_with fail
  refine (ca.out _).mono ?_
  rintro r w1 ⟨rfl, h1⟩
  have B0 : Below w.heap.size w ((w.alloc (.cells #[.int .u64 a.seq, .int .u64 a.epoch, .int .u64 a.res, .int .u64 a.hor, .int .u64 a.gen, .bool a.clean, .int .i64 a.image] 24)).alloc (.cells #[.int .u64 b.seq, .int .u64 b.epoch, .int .u64 b.res, .int .u64 b.hor, .int .u64 b.gen, .bool b.clean, .int .i64 b.image] 24)) := ((Below.refl w.heap.size w).alloc (Nat.le_refl _) _).alloc (by rw [nblk_alloc]; omega) _
  have B1 := hide (B0.trans (h1.mono B0.size))
  have ba : Blk ((w.alloc (.cells #[.int .u64 a.seq, .int .u64 a.epoch, .int .u64 a.res, .int .u64 a.hor, .int .u64 a.gen, .bool a.clean, .int .i64 a.image] 24)).alloc (.cells #[.int .u64 b.seq, .int .u64 b.epoch, .int .u64 b.res, .int .u64 b.hor, .int .u64 b.gen, .bool b.clean, .int .i64 b.image] 24)) w.heap.size (bkL a) 24 := (Blk.new w (bkL a) 24).alloc _
  have bb : Blk ((w.alloc (.cells #[.int .u64 a.seq, .int .u64 a.epoch, .int .u64 a.res, .int .u64 a.hor, .int .u64 a.gen, .bool a.clean, .int .i64 a.image] 24)).alloc (.cells #[.int .u64 b.seq, .int .u64 b.epoch, .int .u64 b.res, .int .u64 b.hor, .int .u64 b.gen, .bool b.clean, .int .i64 b.image] 24)) (w.heap.size + 1) (bkL b) 24 := by
    have := Blk.new (w.alloc (.cells #[.int .u64 a.seq, .int .u64 a.epoch, .int .u64 a.res, .int .u64 a.hor, .int .u64 a.gen, .bool a.clean, .int .i64 a.image] 24)) (bkL b) 24
    rw [nblk_alloc] at this
    exact this
  have HA1 := hide (ba.same (h1.block _ ba.lt))
  have HB1 := hide (bb.same (h1.block _ bb.lt))
  clear h1 ca ba bb B0
  go_wp2_with fail
  refine (cN.out _).mono ?_
  rintro r w2 ⟨d, F2, rfl, hl, hbel⟩
  have L2 := hide (law_base hl B1.out)
  have HA2 : Hid (Held w2 F2 w.heap.size (bkL a) 24) := ⟨HA1.out.same (hbel.block _ HA1.out.lt), fun hf => by have := hl.low _ hf; have := HA1.out.lt; omega⟩
  have HB2 : Hid (Held w2 F2 (w.heap.size + 1) (bkL b) 24) := ⟨HB1.out.same (hbel.block _ HB1.out.lt), fun hf => by have := hl.low _ hf; have := HB1.out.lt; omega⟩
  clear hl hbel B1 HA1 HB1 cN
  obtain ⟨x0, x1, x2, x3, x4, x5, x6, xf0, xf1, xf2, xf3, xf4, xf5, xf6⟩ := cells7 HA2.out.blk
  have xlt := HA2.out.blk.lt
  obtain ⟨v0, v1, v2, v3, v4, v5, v6, vf0, vf1, vf2, vf3, vf4, vf5, vf6⟩ := cells7 HB2.out.blk
  have vlt := HB2.out.blk.lt
  go_wp2_with fail
  clear x0 x1 x2 x3 x4 x5 x6 xf0 xf1 xf2 xf3 xf4 xf5 xf6 xlt
  clear v0 v1 v2 v3 v4 v5 v6 vf0 vf1 vf2 vf3 vf4 vf5 vf6 vlt
  generalize hW : w2.setCell ⟨w.heap.size + 1, 0, none⟩ (.int .u64 a.seq) = w3
  have hne : w.heap.size ≠ w.heap.size + 1 := by omega
  have L3 : Hid (Law w d F2 (Dv.fresh 2) w3) := by rw [← hW]; exact ⟨L2.out.dev.same (fun k hk => blk_setCell_other _ _ _ _ (fun e => HB2.out.off (by have e' : k = w.heap.size + 1 := e; rw [← e']; exact hk))), L2.out.low, L2.out.bel.setCell (Nat.le_succ _) _⟩
  have HA3 : Hid (Held w3 F2 w.heap.size (bkL a) 24) := by rw [← hW]; exact ⟨HA2.out.blk.other hne _, HA2.out.off⟩
  have HB3 : Hid (Held w3 F2 (w.heap.size + 1) (bkL y) 24) := by rw [← hW, HY.out]; exact ⟨HB2.out.blk.set 0 _, HB2.out.off⟩
  clear hW L2 HA2 HB2 hne
  have T0 := hide (Two.fresh 2 (by omega))
  have R0 : Hid ((Dv.fresh 2).armed = 0) := rfl
  refine (cEz.out _).mono ?_
  rintro r w4 ⟨g4, rfl, hg, hbuf, hbel⟩
  have L4 := hide (L3.out.below hbel)
  have HA4 := hide (HA3.out.below hbel)
  have HB4 := hide (HB3.out.below hbel)
  have BU4 := hide hbuf
  have NG4 : Hid (g4 ∉ F2) := fun hf => by have := L4.out.dev.lt _ hf; have := L3.out.dev.lt _ hf; omega
  clear hg hbuf
  clear hbel
  clear HA3 HB3 L3
  go_wp2_with fail
  refine (write_two L4.out T0.out R0.out 1 (by omega) y FY.out g4 BU4.out NG4.out).mono ?_
  rintro r w5 ⟨rfl, F5, S5, hl, ht, har, hm⟩
  have L5 := hide hl
  have HA5 := hide (HA4.out.move hm)
  have HB5 := hide (HB4.out.move hm)
  have T5 := hide ht
  have R5 := hide har
  clear ht har
  clear hl hm
  clear HA4 HB4 L4
  clear BU4 NG4
  have TZ : Hid (Two S5 (none) (some y.told)) := T5.out
  obtain ⟨Q, hQ⟩ : ∃ Q : Bk, Q = y.told := ⟨_, rfl⟩
  have hnew : newer (none) (some y.told) = some Q := by rw [hQ]; rfl
  have hQs : Q.seq = y.seq := by rw [hQ]; rfl
  have hlast : lastS (none) (some y.told) = Q.seq := by unfold lastS; rw [hnew]
  have hQf : Q.fits := by rw [hQ]; exact told_fits _ FY.out
  have HQ := hide hQ
  have HNEW := hide hnew
  have HQS := hide hQs
  have HLAST := hide hlast
  have HQF := hide hQf
  clear hQ hnew hQs hlast hQf
  go_wp2_with fail
  have cL : Hid (Calls Try.prog 8 #[.pointer (some ⟨d, 0, none⟩)] w5 fun e W' => e = .returned (.tuple #[.agg #[.int .u64 Q.seq, .int .u64 Q.epoch, .int .u64 Q.res, .int .u64 Q.hor, .int .u64 Q.gen, .bool Q.clean, .int .i64 Q.image], .int .i64 0]) ∧ ∃ S', Law w d F5 S' W' ∧ Two S' (none) (some y.told) ∧ S'.armed = 0 ∧ Moves F5 F5 w5 W') := by
    have := load_two L5.out TZ.out
    rw [HNEW.out] at this
    refine this.mono (fun e W' ⟨h1, S', h2, h3, h4, h5⟩ => ⟨h1, S', h2, h3, by rw [h4]; exact R5.out, h5⟩)
  refine cL.out.mono ?_
  rintro r w6 ⟨rfl, S6, hl, ht, har, hm⟩
  have L6 := hide hl
  have HA6 := hide (HA5.out.move hm)
  have HB6 := hide (HB5.out.move hm)
  have TL := hide ht
  have RL := hide har
  clear ht har
  clear hl hm
  clear HA5 HB5 L5
  clear cL TZ
  obtain ⟨x0, x1, x2, x3, x4, x5, x6, xf0, xf1, xf2, xf3, xf4, xf5, xf6⟩ := cells7 HA6.out.blk
  have xlt := HA6.out.blk.lt
  obtain ⟨v0, v1, v2, v3, v4, v5, v6, vf0, vf1, vf2, vf3, vf4, vf5, vf6⟩ := cells7 HB6.out.blk
  have vlt := HB6.out.blk.lt
  go_wp2_with fail
  clear x0 x1 x2 x3 x4 x5 x6 xf0 xf1 xf2 xf3 xf4 xf5 xf6 xlt
  clear v0 v1 v2 v3 v4 v5 v6 vf0 vf1 vf2 vf3 vf4 vf5 vf6 vlt
  refine (cEa.out _).mono ?_
  rintro r w7 ⟨g7, rfl, hg, hbuf, hbel⟩
  have L7 := hide ((L6.out.alloc (.cells #[.int .u64 Q.seq, .int .u64 Q.epoch, .int .u64 Q.res, .int .u64 Q.hor, .int .u64 Q.gen, .bool Q.clean, .int .i64 Q.image] 24)).below hbel)
  have HA7 := hide ((HA6.out.alloc (.cells #[.int .u64 Q.seq, .int .u64 Q.epoch, .int .u64 Q.res, .int .u64 Q.hor, .int .u64 Q.gen, .bool Q.clean, .int .i64 Q.image] 24)).below hbel)
  have HB7 := hide ((HB6.out.alloc (.cells #[.int .u64 Q.seq, .int .u64 Q.epoch, .int .u64 Q.res, .int .u64 Q.hor, .int .u64 Q.gen, .bool Q.clean, .int .i64 Q.image] 24)).below hbel)
  have HX7 := hide ((L6.out.hold (bkL Q) 24).below hbel)
  have BU7 := hide hbuf
  clear hg hbuf
  clear hbel
  clear HA6 HB6 L6
  go_wp2_with fail
  obtain ⟨D8, hD8⟩ : ∃ D : Bk, D = a.told := ⟨_, rfl⟩
  have cD : Hid (Calls Try.prog 9 #[.slice (some ⟨g7, 0, none⟩) 64 64] w7 fun e w' => e = .returned (.tuple #[.agg #[.int .u64 D8.seq, .int .u64 D8.epoch, .int .u64 D8.res, .int .u64 D8.hor, .int .u64 D8.gen, .bool D8.clean, .int .i64 D8.image], .int .i64 0]) ∧ Below w7.heap.size w7 w') := by rw [hD8]; exact enc_dec a FA.out BU7.out
  have HD8 := hide hD8
  clear hD8
  refine cD.out.mono ?_
  rintro r w8 ⟨rfl, hbel⟩
  have L8 := hide (L7.out.below hbel)
  have HA8 := hide (HA7.out.below hbel)
  have HB8 := hide (HB7.out.below hbel)
  have HX8 := hide (HX7.out.below hbel)
  clear hbel
  clear HA7 HB7 HX7 L7
  clear cD BU7
  have NEA : Hid (w.heap.size ≠ w8.heap.size) := by show _ ≠ _; have h1 := HA8.out.blk.lt; omega
  have NEB : Hid ((w.heap.size + 1) ≠ w8.heap.size) := by show _ ≠ _; have h1 := HB8.out.blk.lt; omega
  have NEX : Hid (w6.heap.size ≠ w8.heap.size) := by show _ ≠ _; have h1 := HX8.out.blk.lt; omega
  have LB : Hid (w.heap.size ≤ w8.heap.size) := L8.out.bel.size
  obtain ⟨x0, x1, x2, x3, x4, x5, x6, xf0, xf1, xf2, xf3, xf4, xf5, xf6⟩ := cells7 HA8.out.blk
  have xlt := HA8.out.blk.lt
  obtain ⟨v0, v1, v2, v3, v4, v5, v6, vf0, vf1, vf2, vf3, vf4, vf5, vf6⟩ := cells7 HB8.out.blk
  have vlt := HB8.out.blk.lt
  go_wp2_with fail
  clear x0 x1 x2 x3 x4 x5 x6 xf0 xf1 xf2 xf3 xf4 xf5 xf6 xlt
  clear v0 v1 v2 v3 v4 v5 v6 vf0 vf1 vf2 vf3 vf4 vf5 vf6 vlt
  refine (cEy.out _).mono ?_
  rintro r w9 ⟨g9, rfl, hg, hbuf, hbel⟩
  have L9 := hide ((L8.out.alloc (.cells #[.int .u64 D8.seq, .int .u64 D8.epoch, .int .u64 D8.res, .int .u64 D8.hor, .int .u64 D8.gen, .bool D8.clean, .int .i64 D8.image] 24)).below hbel)
  have HA9 := hide ((HA8.out.alloc (.cells #[.int .u64 D8.seq, .int .u64 D8.epoch, .int .u64 D8.res, .int .u64 D8.hor, .int .u64 D8.gen, .bool D8.clean, .int .i64 D8.image] 24)).below hbel)
  have HB9 := hide ((HB8.out.alloc (.cells #[.int .u64 D8.seq, .int .u64 D8.epoch, .int .u64 D8.res, .int .u64 D8.hor, .int .u64 D8.gen, .bool D8.clean, .int .i64 D8.image] 24)).below hbel)
  have HX9 := hide ((HX8.out.alloc (.cells #[.int .u64 D8.seq, .int .u64 D8.epoch, .int .u64 D8.res, .int .u64 D8.hor, .int .u64 D8.gen, .bool D8.clean, .int .i64 D8.image] 24)).below hbel)
  have HW9 := hide ((L8.out.hold (bkL D8) 24).below hbel)
  have BU9 := hide hbuf
  clear hg hbuf
  clear hbel
  clear HA8 HB8 HX8 L8
  go_wp2_with fail
  obtain ⟨D10, hD10⟩ : ∃ D : Bk, D = y.told := ⟨_, rfl⟩
  have cD : Hid (Calls Try.prog 9 #[.slice (some ⟨g9, 0, none⟩) 64 64] w9 fun e w' => e = .returned (.tuple #[.agg #[.int .u64 D10.seq, .int .u64 D10.epoch, .int .u64 D10.res, .int .u64 D10.hor, .int .u64 D10.gen, .bool D10.clean, .int .i64 D10.image], .int .i64 0]) ∧ Below w9.heap.size w9 w') := by rw [hD10]; exact enc_dec y FY.out BU9.out
  have HD10 := hide hD10
  clear hD10
  refine cD.out.mono ?_
  rintro r w10 ⟨rfl, hbel⟩
  have L10 := hide (L9.out.below hbel)
  have HA10 := hide (HA9.out.below hbel)
  have HB10 := hide (HB9.out.below hbel)
  have HX10 := hide (HX9.out.below hbel)
  have HW10 := hide (HW9.out.below hbel)
  clear hbel
  clear HA9 HB9 HX9 HW9 L9
  clear cD BU9
  have neA : w.heap.size ≠ w8.heap.size := NEA.out
  have nfA := Ne.symm neA
  have neB : (w.heap.size + 1) ≠ w8.heap.size := NEB.out
  have nfB := Ne.symm neB
  have neX : w6.heap.size ≠ w8.heap.size := NEX.out
  have nfX := Ne.symm neX
  obtain ⟨x0, x1, x2, x3, x4, x5, x6, xf0, xf1, xf2, xf3, xf4, xf5, xf6⟩ := cells7 HA10.out.blk
  have xlt := HA10.out.blk.lt
  obtain ⟨u0, u1, u2, u3, u4, u5, u6, uf0, uf1, uf2, uf3, uf4, uf5, uf6⟩ := cells7 HW10.out.blk
  have ult := HW10.out.blk.lt
  go_wp2_with fail
  clear x0 x1 x2 x3 x4 x5 x6 xf0 xf1 xf2 xf3 xf4 xf5 xf6 xlt
  clear u0 u1 u2 u3 u4 u5 u6 uf0 uf1 uf2 uf3 uf4 uf5 uf6 ult
  have h0 : w.heap.size ≤ w8.heap.size := LB.out
  generalize hW : ((((((w10.setCell ⟨w8.heap.size, 0, none⟩ (.int .u64 D10.seq)).setCell ⟨w8.heap.size, 1, none⟩ (.int .u64 D10.epoch)).setCell ⟨w8.heap.size, 2, none⟩ (.int .u64 D10.res)).setCell ⟨w8.heap.size, 3, none⟩ (.int .u64 D10.hor)).setCell ⟨w8.heap.size, 4, none⟩ (.int .u64 D10.gen)).setCell ⟨w8.heap.size, 5, none⟩ (.bool D10.clean)).setCell ⟨w8.heap.size, 6, none⟩ (.int .i64 D10.image) = w11
  have L11 : Hid (Law w d F5 S6 w11) := by rw [← hW]; exact ⟨put7_dv L10.out.dev HW10.out.off D10, L10.out.low, ((((((L10.out.bel.setCell h0 _).setCell h0 _).setCell h0 _).setCell h0 _).setCell h0 _).setCell h0 _).setCell h0 _⟩
  have HA11 : Hid (Held w11 F5 w.heap.size (bkL a) 24) := by rw [← hW]; exact ⟨HA10.out.blk.same (put7_far _ _ _ _ neA), HA10.out.off⟩
  have HB11 : Hid (Held w11 F5 (w.heap.size + 1) (bkL y) 24) := by rw [← hW]; exact ⟨HB10.out.blk.same (put7_far _ _ _ _ neB), HB10.out.off⟩
  have HX11 : Hid (Held w11 F5 w6.heap.size (bkL Q) 24) := by rw [← hW]; exact ⟨HX10.out.blk.same (put7_far _ _ _ _ neX), HX10.out.off⟩
  have HW11 : Hid (Held w11 F5 w8.heap.size (bkL D10) 24) := by rw [← hW]; exact ⟨put7_blk HW10.out.blk D10, HW10.out.off⟩
  clear hW neA neB neX nfA nfB nfX
  have HQD : Hid (D10 = Q) := HD10.out.trans HQ.out.symm
  obtain ⟨M, hM⟩ : ∃ M, M = nxt (none) (some y.told) a := ⟨_, rfl⟩
  have HM := hide hM
  have cS : Hid (Calls Try.prog 10 #[.pointer (some ⟨d, 0, none⟩), .agg #[.int .u64 a.seq, .int .u64 a.epoch, .int .u64 a.res, .int .u64 a.hor, .int .u64 a.gen, .bool a.clean, .int .i64 a.image]] w11 fun e W' => e = .returned (.tuple #[.agg #[.int .u64 M.seq, .int .u64 M.epoch, .int .u64 M.res, .int .u64 M.hor, .int .u64 M.gen, .bool M.clean, .int .i64 M.image], .int .i64 0]) ∧ ∃ F' S', Law w d F' S' W' ∧ Two S' (if M.seq % 2 = 0 then some M else none) (if M.seq % 2 = 1 then some M else some y.told) ∧ S'.armed = 0 ∧ Moves F5 F' w11 W') := by rw [hM]; exact store_two L11.out TL.out RL.out a FA.out (by rw [HLAST.out, HQS.out]; exact HWORN.out)
  have hMs : M.seq = Q.seq + 1 := by rw [hM]; show lastS _ _ + 1 = _; rw [HLAST.out]
  have HMS := hide hMs
  clear hM hMs
  refine cS.out.mono ?_
  rintro r w12 ⟨rfl, F12, S12, hl, ht, har, hm⟩
  have L12 := hide hl
  have HA12 := hide (HA11.out.move hm)
  have HB12 := hide (HB11.out.move hm)
  have HX12 := hide (HX11.out.move hm)
  have HW12 := hide (HW11.out.move hm)
  have TM := hide ht
  clear ht har
  clear hl hm
  clear HA11 HB11 HX11 HW11 L11
  clear cS
  have hqq : ((Q.seq : Int) == 18446744073709551615) = false := by
    have : ¬ (Q.seq : Int) = 18446744073709551615 := by have := HWORN.out; rw [HQS.out]; omega
    simpa using this
  have HWq : Hid (Held w12 F12 w8.heap.size (bkL Q) 24) := by have := HW12.out; rw [HQD.out] at this; exact this
  obtain ⟨q0, q1, q2, q3, q4, q5, q6, qf0, qf1, qf2, qf3, qf4, qf5, qf6⟩ := cells7 HX12.out.blk
  have qlt := HX12.out.blk.lt
  obtain ⟨u0, u1, u2, u3, u4, u5, u6, uf0, uf1, uf2, uf3, uf4, uf5, uf6⟩ := cells7 HWq.out.blk
  have ult := HWq.out.blk.lt
  go_wp2_with fail
  clear q0 q1 q2 q3 q4 q5 q6 qf0 qf1 qf2 qf3 qf4 qf5 qf6 qlt
  clear u0 u1 u2 u3 u4 u5 u6 uf0 uf1 uf2 uf3 uf4 uf5 uf6 ult
  have cL2 : Hid (Calls Try.prog 8 #[.pointer (some ⟨d, 0, none⟩)] (w12.alloc (.cells #[.int .u64 M.seq, .int .u64 M.epoch, .int .u64 M.res, .int .u64 M.hor, .int .u64 M.gen, .bool M.clean, .int .i64 M.image] 24)) fun e W' => e = .returned (.tuple #[.agg #[.int .u64 M.seq, .int .u64 M.epoch, .int .u64 M.res, .int .u64 M.hor, .int .u64 M.gen, .bool M.clean, .int .i64 M.image], .int .i64 0]) ∧ ∃ S', Law w d F12 S' W' ∧ Moves F12 F12 (w12.alloc (.cells #[.int .u64 M.seq, .int .u64 M.epoch, .int .u64 M.res, .int .u64 M.hor, .int .u64 M.gen, .bool M.clean, .int .i64 M.image] 24)) W') := by
    have := load_two (L12.out.alloc (.cells #[.int .u64 M.seq, .int .u64 M.epoch, .int .u64 M.res, .int .u64 M.hor, .int .u64 M.gen, .bool M.clean, .int .i64 M.image] 24)) TM.out
    rw [newer_next (by rw [HMS.out, HLAST.out])] at this
    refine this.mono (fun e W' ⟨h1, S', h2, h3, h4, h5⟩ => ⟨h1, S', h2, h5⟩)
  refine cL2.out.mono ?_
  rintro r w13 ⟨rfl, S13, hl, hm⟩
  have L13 := hide hl
  have HA13 := hide ((HA12.out.alloc (.cells #[.int .u64 M.seq, .int .u64 M.epoch, .int .u64 M.res, .int .u64 M.hor, .int .u64 M.gen, .bool M.clean, .int .i64 M.image] 24)).move hm)
  have HB13 := hide ((HB12.out.alloc (.cells #[.int .u64 M.seq, .int .u64 M.epoch, .int .u64 M.res, .int .u64 M.hor, .int .u64 M.gen, .bool M.clean, .int .i64 M.image] 24)).move hm)
  have HX13 := hide ((HX12.out.alloc (.cells #[.int .u64 M.seq, .int .u64 M.epoch, .int .u64 M.res, .int .u64 M.hor, .int .u64 M.gen, .bool M.clean, .int .i64 M.image] 24)).move hm)
  have HW13 := hide ((HWq.out.alloc (.cells #[.int .u64 M.seq, .int .u64 M.epoch, .int .u64 M.res, .int .u64 M.hor, .int .u64 M.gen, .bool M.clean, .int .i64 M.image] 24)).move hm)
  have HY13 := hide ((L12.out.hold (bkL M) 24).move hm)
  clear hl hm
  clear HA12 HB12 HX12 HWq L12
  clear cL2
  obtain ⟨q0, q1, q2, q3, q4, q5, q6, qf0, qf1, qf2, qf3, qf4, qf5, qf6⟩ := cells7 HX13.out.blk
  have qlt := HX13.out.blk.lt
  obtain ⟨u0, u1, u2, u3, u4, u5, u6, uf0, uf1, uf2, uf3, uf4, uf5, uf6⟩ := cells7 HW13.out.blk
  have ult := HW13.out.blk.lt
  obtain ⟨t0, t1, t2, t3, t4, t5, t6, tf0, tf1, tf2, tf3, tf4, tf5, tf6⟩ := cells7 HY13.out.blk
  have tlt := HY13.out.blk.lt
  have hws : IntKind.u64.wrap ((Q.seq : Int) + 1) = (M.seq : Int) := by rw [IntKind.wrap_u64, HMS.out]; have := HWORN.out; have := HQF.out.seq; have := HQS.out; omega
  go_wp2
  go_ret
  exact ⟨rfl, (L13.out.alloc _).bel⟩
set_option maxRecDepth 8000 in
set_option maxHeartbeats 2000000 in
theorem p_111gn (a b : Bk) (hfa : a.fits) (hfb : b.fits) (hlt : ¬ a.seq < a.seq) (hworn : ¬ a.seq = 18446744073709551615) (w : World) :
    Calls Try.prog 3 #[.agg #[.int .u64 a.seq, .int .u64 a.epoch, .int .u64 a.res, .int .u64 a.hor, .int .u64 a.gen, .bool a.clean, .int .i64 a.image], .agg #[.int .u64 b.seq, .int .u64 b.epoch, .int .u64 b.res, .int .u64 b.hor, .int .u64 b.gen, .bool b.clean, .int .i64 b.image], .bool true, .bool true, .bool true] w fun e w' => e = .returned (.bool true) ∧ Below w.heap.size w w' := by
  have ca : Hid (∀ W : World, Calls Try.prog 4 #[] W fun e w' => e = .returned (.bool true) ∧ Below W.heap.size W w') := awake_any
  have cN : Hid (∀ W : World, Calls Try.prog 5 #[.int .i64 2] W fun e W' => ∃ d F, e = .returned (.tuple #[.pointer (some ⟨d, 0, none⟩), .int .i64 0]) ∧ Law W d F (Dv.fresh 2) W' ∧ Below W.heap.size W W') := fun W => new_law (Below.refl _ _) 2 (by omega) (by omega)
  obtain ⟨y, hy⟩ : ∃ y : Bk, y = { b with seq := a.seq } := ⟨_, rfl⟩
  have hfy : y.fits := by rw [hy]; exact ⟨hfa.seq, hfb.epoch, hfb.res, hfb.hor, hfb.gen, hfb.image0, hfb.image1⟩
  have hys : y.seq = a.seq := by rw [hy]
  replace hlt : ¬ a.seq < y.seq := by rw [hys]; exact hlt
  have FA := hide hfa
  have FY := hide hfy
  have HY := hide hy
  have cEa := hide (encode_any a hfa)
  have cEy := hide (encode_any y hfy)
  have HLT := hide hlt
  have hlti : ((a.seq : Int) < (y.seq : Int)) = False := eq_false (by omega)
  have HWORN := hide hworn
  clear hfa hfb hfy hys hy hlt hworn
  go_enter Try.func3, Try.ntmps3
  go_wp2_with fail
  refine (ca.out _).mono ?_
  rintro r w1 ⟨rfl, h1⟩
  have B0 : Below w.heap.size w ((w.alloc (.cells #[.int .u64 a.seq, .int .u64 a.epoch, .int .u64 a.res, .int .u64 a.hor, .int .u64 a.gen, .bool a.clean, .int .i64 a.image] 24)).alloc (.cells #[.int .u64 b.seq, .int .u64 b.epoch, .int .u64 b.res, .int .u64 b.hor, .int .u64 b.gen, .bool b.clean, .int .i64 b.image] 24)) := ((Below.refl w.heap.size w).alloc (Nat.le_refl _) _).alloc (by rw [nblk_alloc]; omega) _
  have B1 := hide (B0.trans (h1.mono B0.size))
  have ba : Blk ((w.alloc (.cells #[.int .u64 a.seq, .int .u64 a.epoch, .int .u64 a.res, .int .u64 a.hor, .int .u64 a.gen, .bool a.clean, .int .i64 a.image] 24)).alloc (.cells #[.int .u64 b.seq, .int .u64 b.epoch, .int .u64 b.res, .int .u64 b.hor, .int .u64 b.gen, .bool b.clean, .int .i64 b.image] 24)) w.heap.size (bkL a) 24 := (Blk.new w (bkL a) 24).alloc _
  have bb : Blk ((w.alloc (.cells #[.int .u64 a.seq, .int .u64 a.epoch, .int .u64 a.res, .int .u64 a.hor, .int .u64 a.gen, .bool a.clean, .int .i64 a.image] 24)).alloc (.cells #[.int .u64 b.seq, .int .u64 b.epoch, .int .u64 b.res, .int .u64 b.hor, .int .u64 b.gen, .bool b.clean, .int .i64 b.image] 24)) (w.heap.size + 1) (bkL b) 24 := by
    have := Blk.new (w.alloc (.cells #[.int .u64 a.seq, .int .u64 a.epoch, .int .u64 a.res, .int .u64 a.hor, .int .u64 a.gen, .bool a.clean, .int .i64 a.image] 24)) (bkL b) 24
    rw [nblk_alloc] at this
    exact this
  have HA1 := hide (ba.same (h1.block _ ba.lt))
  have HB1 := hide (bb.same (h1.block _ bb.lt))
  clear h1 ca ba bb B0
  go_wp2_with fail
  refine (cN.out _).mono ?_
  rintro r w2 ⟨d, F2, rfl, hl, hbel⟩
  have L2 := hide (law_base hl B1.out)
  have HA2 : Hid (Held w2 F2 w.heap.size (bkL a) 24) := ⟨HA1.out.same (hbel.block _ HA1.out.lt), fun hf => by have := hl.low _ hf; have := HA1.out.lt; omega⟩
  have HB2 : Hid (Held w2 F2 (w.heap.size + 1) (bkL b) 24) := ⟨HB1.out.same (hbel.block _ HB1.out.lt), fun hf => by have := hl.low _ hf; have := HB1.out.lt; omega⟩
  clear hl hbel B1 HA1 HB1 cN
  obtain ⟨x0, x1, x2, x3, x4, x5, x6, xf0, xf1, xf2, xf3, xf4, xf5, xf6⟩ := cells7 HA2.out.blk
  have xlt := HA2.out.blk.lt
  obtain ⟨v0, v1, v2, v3, v4, v5, v6, vf0, vf1, vf2, vf3, vf4, vf5, vf6⟩ := cells7 HB2.out.blk
  have vlt := HB2.out.blk.lt
  go_wp2_with fail
  clear x0 x1 x2 x3 x4 x5 x6 xf0 xf1 xf2 xf3 xf4 xf5 xf6 xlt
  clear v0 v1 v2 v3 v4 v5 v6 vf0 vf1 vf2 vf3 vf4 vf5 vf6 vlt
  generalize hW : w2.setCell ⟨w.heap.size + 1, 0, none⟩ (.int .u64 a.seq) = w3
  have hne : w.heap.size ≠ w.heap.size + 1 := by omega
  have L3 : Hid (Law w d F2 (Dv.fresh 2) w3) := by rw [← hW]; exact ⟨L2.out.dev.same (fun k hk => blk_setCell_other _ _ _ _ (fun e => HB2.out.off (by have e' : k = w.heap.size + 1 := e; rw [← e']; exact hk))), L2.out.low, L2.out.bel.setCell (Nat.le_succ _) _⟩
  have HA3 : Hid (Held w3 F2 w.heap.size (bkL a) 24) := by rw [← hW]; exact ⟨HA2.out.blk.other hne _, HA2.out.off⟩
  have HB3 : Hid (Held w3 F2 (w.heap.size + 1) (bkL y) 24) := by rw [← hW, HY.out]; exact ⟨HB2.out.blk.set 0 _, HB2.out.off⟩
  clear hW L2 HA2 HB2 hne
  have T0 := hide (Two.fresh 2 (by omega))
  have R0 : Hid ((Dv.fresh 2).armed = 0) := rfl
  refine (cEa.out _).mono ?_
  rintro r w4 ⟨g4, rfl, hg, hbuf, hbel⟩
  have L4 := hide (L3.out.below hbel)
  have HA4 := hide (HA3.out.below hbel)
  have HB4 := hide (HB3.out.below hbel)
  have BU4 := hide hbuf
  have NG4 : Hid (g4 ∉ F2) := fun hf => by have := L4.out.dev.lt _ hf; have := L3.out.dev.lt _ hf; omega
  clear hg hbuf
  clear hbel
  clear HA3 HB3 L3
  go_wp2_with fail
  refine (write_two L4.out T0.out R0.out 0 (by omega) a FA.out g4 BU4.out NG4.out).mono ?_
  rintro r w5 ⟨rfl, F5, S5, hl, ht, har, hm⟩
  have L5 := hide hl
  have HA5 := hide (HA4.out.move hm)
  have HB5 := hide (HB4.out.move hm)
  have T5 := hide ht
  have R5 := hide har
  clear ht har
  clear hl hm
  clear HA4 HB4 L4
  clear BU4 NG4
  obtain ⟨x0, x1, x2, x3, x4, x5, x6, xf0, xf1, xf2, xf3, xf4, xf5, xf6⟩ := cells7 HA5.out.blk
  have xlt := HA5.out.blk.lt
  obtain ⟨v0, v1, v2, v3, v4, v5, v6, vf0, vf1, vf2, vf3, vf4, vf5, vf6⟩ := cells7 HB5.out.blk
  have vlt := HB5.out.blk.lt
  go_wp2_with fail
  clear x0 x1 x2 x3 x4 x5 x6 xf0 xf1 xf2 xf3 xf4 xf5 xf6 xlt
  clear v0 v1 v2 v3 v4 v5 v6 vf0 vf1 vf2 vf3 vf4 vf5 vf6 vlt
  refine (cEy.out _).mono ?_
  rintro r w6 ⟨g6, rfl, hg, hbuf, hbel⟩
  have L6 := hide (L5.out.below hbel)
  have HA6 := hide (HA5.out.below hbel)
  have HB6 := hide (HB5.out.below hbel)
  have BU6 := hide hbuf
  have NG6 : Hid (g6 ∉ F5) := fun hf => by have := L6.out.dev.lt _ hf; have := L5.out.dev.lt _ hf; omega
  clear hg hbuf
  clear hbel
  clear HA5 HB5 L5
  go_wp2_with fail
  refine (write_two L6.out T5.out R5.out 1 (by omega) y FY.out g6 BU6.out NG6.out).mono ?_
  rintro r w7 ⟨rfl, F7, S7, hl, ht, har, hm⟩
  have L7 := hide hl
  have HA7 := hide (HA6.out.move hm)
  have HB7 := hide (HB6.out.move hm)
  have T7 := hide ht
  have R7 := hide har
  clear ht har
  clear hl hm
  clear HA6 HB6 L6
  clear BU6 NG6
  have TZ : Hid (Two S7 (some a.told) (some y.told)) := T7.out
  obtain ⟨Q, hQ⟩ : ∃ Q : Bk, Q = a.told := ⟨_, rfl⟩
  have hnew : newer (some a.told) (some y.told) = some Q := by rw [hQ]; exact if_neg HLT.out
  have hQs : Q.seq = a.seq := by rw [hQ]; rfl
  have hlast : lastS (some a.told) (some y.told) = Q.seq := by unfold lastS; rw [hnew]
  have hQf : Q.fits := by rw [hQ]; exact told_fits _ FA.out
  have HQ := hide hQ
  have HNEW := hide hnew
  have HQS := hide hQs
  have HLAST := hide hlast
  have HQF := hide hQf
  clear hQ hnew hQs hlast hQf
  go_wp2_with fail
  have cL : Hid (Calls Try.prog 8 #[.pointer (some ⟨d, 0, none⟩)] w7 fun e W' => e = .returned (.tuple #[.agg #[.int .u64 Q.seq, .int .u64 Q.epoch, .int .u64 Q.res, .int .u64 Q.hor, .int .u64 Q.gen, .bool Q.clean, .int .i64 Q.image], .int .i64 0]) ∧ ∃ S', Law w d F7 S' W' ∧ Two S' (some a.told) (some y.told) ∧ S'.armed = 0 ∧ Moves F7 F7 w7 W') := by
    have := load_two L7.out TZ.out
    rw [HNEW.out] at this
    refine this.mono (fun e W' ⟨h1, S', h2, h3, h4, h5⟩ => ⟨h1, S', h2, h3, by rw [h4]; exact R7.out, h5⟩)
  refine cL.out.mono ?_
  rintro r w8 ⟨rfl, S8, hl, ht, har, hm⟩
  have L8 := hide hl
  have HA8 := hide (HA7.out.move hm)
  have HB8 := hide (HB7.out.move hm)
  have TL := hide ht
  have RL := hide har
  clear ht har
  clear hl hm
  clear HA7 HB7 L7
  clear cL TZ
  obtain ⟨x0, x1, x2, x3, x4, x5, x6, xf0, xf1, xf2, xf3, xf4, xf5, xf6⟩ := cells7 HA8.out.blk
  have xlt := HA8.out.blk.lt
  obtain ⟨v0, v1, v2, v3, v4, v5, v6, vf0, vf1, vf2, vf3, vf4, vf5, vf6⟩ := cells7 HB8.out.blk
  have vlt := HB8.out.blk.lt
  go_wp2_with fail
  clear x0 x1 x2 x3 x4 x5 x6 xf0 xf1 xf2 xf3 xf4 xf5 xf6 xlt
  clear v0 v1 v2 v3 v4 v5 v6 vf0 vf1 vf2 vf3 vf4 vf5 vf6 vlt
  refine (cEa.out _).mono ?_
  rintro r w9 ⟨g9, rfl, hg, hbuf, hbel⟩
  have L9 := hide ((L8.out.alloc (.cells #[.int .u64 Q.seq, .int .u64 Q.epoch, .int .u64 Q.res, .int .u64 Q.hor, .int .u64 Q.gen, .bool Q.clean, .int .i64 Q.image] 24)).below hbel)
  have HA9 := hide ((HA8.out.alloc (.cells #[.int .u64 Q.seq, .int .u64 Q.epoch, .int .u64 Q.res, .int .u64 Q.hor, .int .u64 Q.gen, .bool Q.clean, .int .i64 Q.image] 24)).below hbel)
  have HB9 := hide ((HB8.out.alloc (.cells #[.int .u64 Q.seq, .int .u64 Q.epoch, .int .u64 Q.res, .int .u64 Q.hor, .int .u64 Q.gen, .bool Q.clean, .int .i64 Q.image] 24)).below hbel)
  have HX9 := hide ((L8.out.hold (bkL Q) 24).below hbel)
  have BU9 := hide hbuf
  clear hg hbuf
  clear hbel
  clear HA8 HB8 L8
  go_wp2_with fail
  obtain ⟨D10, hD10⟩ : ∃ D : Bk, D = a.told := ⟨_, rfl⟩
  have cD : Hid (Calls Try.prog 9 #[.slice (some ⟨g9, 0, none⟩) 64 64] w9 fun e w' => e = .returned (.tuple #[.agg #[.int .u64 D10.seq, .int .u64 D10.epoch, .int .u64 D10.res, .int .u64 D10.hor, .int .u64 D10.gen, .bool D10.clean, .int .i64 D10.image], .int .i64 0]) ∧ Below w9.heap.size w9 w') := by rw [hD10]; exact enc_dec a FA.out BU9.out
  have HD10 := hide hD10
  clear hD10
  refine cD.out.mono ?_
  rintro r w10 ⟨rfl, hbel⟩
  have L10 := hide (L9.out.below hbel)
  have HA10 := hide (HA9.out.below hbel)
  have HB10 := hide (HB9.out.below hbel)
  have HX10 := hide (HX9.out.below hbel)
  clear hbel
  clear HA9 HB9 HX9 L9
  clear cD BU9
  obtain ⟨x0, x1, x2, x3, x4, x5, x6, xf0, xf1, xf2, xf3, xf4, xf5, xf6⟩ := cells7 HA10.out.blk
  have xlt := HA10.out.blk.lt
  obtain ⟨v0, v1, v2, v3, v4, v5, v6, vf0, vf1, vf2, vf3, vf4, vf5, vf6⟩ := cells7 HB10.out.blk
  have vlt := HB10.out.blk.lt
  go_wp2_with fail
  clear x0 x1 x2 x3 x4 x5 x6 xf0 xf1 xf2 xf3 xf4 xf5 xf6 xlt
  clear v0 v1 v2 v3 v4 v5 v6 vf0 vf1 vf2 vf3 vf4 vf5 vf6 vlt
  have HQD : Hid (D10 = Q) := HD10.out.trans HQ.out.symm
  obtain ⟨M, hM⟩ : ∃ M, M = nxt (some a.told) (some y.told) a := ⟨_, rfl⟩
  have HM := hide hM
  have cS : Hid (Calls Try.prog 10 #[.pointer (some ⟨d, 0, none⟩), .agg #[.int .u64 a.seq, .int .u64 a.epoch, .int .u64 a.res, .int .u64 a.hor, .int .u64 a.gen, .bool a.clean, .int .i64 a.image]] (w10.alloc (.cells #[.int .u64 D10.seq, .int .u64 D10.epoch, .int .u64 D10.res, .int .u64 D10.hor, .int .u64 D10.gen, .bool D10.clean, .int .i64 D10.image] 24)) fun e W' => e = .returned (.tuple #[.agg #[.int .u64 M.seq, .int .u64 M.epoch, .int .u64 M.res, .int .u64 M.hor, .int .u64 M.gen, .bool M.clean, .int .i64 M.image], .int .i64 0]) ∧ ∃ F' S', Law w d F' S' W' ∧ Two S' (if M.seq % 2 = 0 then some M else some a.told) (if M.seq % 2 = 1 then some M else some y.told) ∧ S'.armed = 0 ∧ Moves F7 F' (w10.alloc (.cells #[.int .u64 D10.seq, .int .u64 D10.epoch, .int .u64 D10.res, .int .u64 D10.hor, .int .u64 D10.gen, .bool D10.clean, .int .i64 D10.image] 24)) W') := by rw [hM]; exact store_two (L10.out.alloc (.cells #[.int .u64 D10.seq, .int .u64 D10.epoch, .int .u64 D10.res, .int .u64 D10.hor, .int .u64 D10.gen, .bool D10.clean, .int .i64 D10.image] 24)) TL.out RL.out a FA.out (by rw [HLAST.out, HQS.out]; exact HWORN.out)
  have hMs : M.seq = Q.seq + 1 := by rw [hM]; show lastS _ _ + 1 = _; rw [HLAST.out]
  have HMS := hide hMs
  clear hM hMs
  refine cS.out.mono ?_
  rintro r w11 ⟨rfl, F11, S11, hl, ht, har, hm⟩
  have L11 := hide hl
  have HA11 := hide ((HA10.out.alloc (.cells #[.int .u64 D10.seq, .int .u64 D10.epoch, .int .u64 D10.res, .int .u64 D10.hor, .int .u64 D10.gen, .bool D10.clean, .int .i64 D10.image] 24)).move hm)
  have HB11 := hide ((HB10.out.alloc (.cells #[.int .u64 D10.seq, .int .u64 D10.epoch, .int .u64 D10.res, .int .u64 D10.hor, .int .u64 D10.gen, .bool D10.clean, .int .i64 D10.image] 24)).move hm)
  have HX11 := hide ((HX10.out.alloc (.cells #[.int .u64 D10.seq, .int .u64 D10.epoch, .int .u64 D10.res, .int .u64 D10.hor, .int .u64 D10.gen, .bool D10.clean, .int .i64 D10.image] 24)).move hm)
  have HW11 := hide ((L10.out.hold (bkL D10) 24).move hm)
  have TM := hide ht
  clear ht har
  clear hl hm
  clear HA10 HB10 HX10 L10
  clear cS
  have hqq : ((Q.seq : Int) == 18446744073709551615) = false := by
    have : ¬ (Q.seq : Int) = 18446744073709551615 := by have := HWORN.out; rw [HQS.out]; omega
    simpa using this
  have HWq : Hid (Held w11 F11 w10.heap.size (bkL Q) 24) := by have := HW11.out; rw [HQD.out] at this; exact this
  obtain ⟨q0, q1, q2, q3, q4, q5, q6, qf0, qf1, qf2, qf3, qf4, qf5, qf6⟩ := cells7 HX11.out.blk
  have qlt := HX11.out.blk.lt
  obtain ⟨u0, u1, u2, u3, u4, u5, u6, uf0, uf1, uf2, uf3, uf4, uf5, uf6⟩ := cells7 HWq.out.blk
  have ult := HWq.out.blk.lt
  go_wp2_with fail
  clear q0 q1 q2 q3 q4 q5 q6 qf0 qf1 qf2 qf3 qf4 qf5 qf6 qlt
  clear u0 u1 u2 u3 u4 u5 u6 uf0 uf1 uf2 uf3 uf4 uf5 uf6 ult
  have cL2 : Hid (Calls Try.prog 8 #[.pointer (some ⟨d, 0, none⟩)] (w11.alloc (.cells #[.int .u64 M.seq, .int .u64 M.epoch, .int .u64 M.res, .int .u64 M.hor, .int .u64 M.gen, .bool M.clean, .int .i64 M.image] 24)) fun e W' => e = .returned (.tuple #[.agg #[.int .u64 M.seq, .int .u64 M.epoch, .int .u64 M.res, .int .u64 M.hor, .int .u64 M.gen, .bool M.clean, .int .i64 M.image], .int .i64 0]) ∧ ∃ S', Law w d F11 S' W' ∧ Moves F11 F11 (w11.alloc (.cells #[.int .u64 M.seq, .int .u64 M.epoch, .int .u64 M.res, .int .u64 M.hor, .int .u64 M.gen, .bool M.clean, .int .i64 M.image] 24)) W') := by
    have := load_two (L11.out.alloc (.cells #[.int .u64 M.seq, .int .u64 M.epoch, .int .u64 M.res, .int .u64 M.hor, .int .u64 M.gen, .bool M.clean, .int .i64 M.image] 24)) TM.out
    rw [newer_next (by rw [HMS.out, HLAST.out])] at this
    refine this.mono (fun e W' ⟨h1, S', h2, h3, h4, h5⟩ => ⟨h1, S', h2, h5⟩)
  refine cL2.out.mono ?_
  rintro r w12 ⟨rfl, S12, hl, hm⟩
  have L12 := hide hl
  have HA12 := hide ((HA11.out.alloc (.cells #[.int .u64 M.seq, .int .u64 M.epoch, .int .u64 M.res, .int .u64 M.hor, .int .u64 M.gen, .bool M.clean, .int .i64 M.image] 24)).move hm)
  have HB12 := hide ((HB11.out.alloc (.cells #[.int .u64 M.seq, .int .u64 M.epoch, .int .u64 M.res, .int .u64 M.hor, .int .u64 M.gen, .bool M.clean, .int .i64 M.image] 24)).move hm)
  have HX12 := hide ((HX11.out.alloc (.cells #[.int .u64 M.seq, .int .u64 M.epoch, .int .u64 M.res, .int .u64 M.hor, .int .u64 M.gen, .bool M.clean, .int .i64 M.image] 24)).move hm)
  have HW12 := hide ((HWq.out.alloc (.cells #[.int .u64 M.seq, .int .u64 M.epoch, .int .u64 M.res, .int .u64 M.hor, .int .u64 M.gen, .bool M.clean, .int .i64 M.image] 24)).move hm)
  have HY12 := hide ((L11.out.hold (bkL M) 24).move hm)
  clear hl hm
  clear HA11 HB11 HX11 HWq L11
  clear cL2
  obtain ⟨q0, q1, q2, q3, q4, q5, q6, qf0, qf1, qf2, qf3, qf4, qf5, qf6⟩ := cells7 HX12.out.blk
  have qlt := HX12.out.blk.lt
  obtain ⟨u0, u1, u2, u3, u4, u5, u6, uf0, uf1, uf2, uf3, uf4, uf5, uf6⟩ := cells7 HW12.out.blk
  have ult := HW12.out.blk.lt
  obtain ⟨t0, t1, t2, t3, t4, t5, t6, tf0, tf1, tf2, tf3, tf4, tf5, tf6⟩ := cells7 HY12.out.blk
  have tlt := HY12.out.blk.lt
  have hws : IntKind.u64.wrap ((Q.seq : Int) + 1) = (M.seq : Int) := by rw [IntKind.wrap_u64, HMS.out]; have := HWORN.out; have := HQF.out.seq; have := HQS.out; omega
  go_wp2
  go_ret
  exact ⟨rfl, (L12.out.alloc _).bel⟩
set_option maxRecDepth 8000 in
set_option maxHeartbeats 2000000 in
theorem p_110w (a b : Bk) (hfa : a.fits) (hfb : b.fits) (hworn :  a.seq = 18446744073709551615) (w : World) :
    Calls Try.prog 3 #[.agg #[.int .u64 a.seq, .int .u64 a.epoch, .int .u64 a.res, .int .u64 a.hor, .int .u64 a.gen, .bool a.clean, .int .i64 a.image], .agg #[.int .u64 b.seq, .int .u64 b.epoch, .int .u64 b.res, .int .u64 b.hor, .int .u64 b.gen, .bool b.clean, .int .i64 b.image], .bool true, .bool true, .bool false] w fun e w' => e = .returned (.bool true) ∧ Below w.heap.size w w' := by
  have ca : Hid (∀ W : World, Calls Try.prog 4 #[] W fun e w' => e = .returned (.bool true) ∧ Below W.heap.size W w') := awake_any
  have cN : Hid (∀ W : World, Calls Try.prog 5 #[.int .i64 2] W fun e W' => ∃ d F, e = .returned (.tuple #[.pointer (some ⟨d, 0, none⟩), .int .i64 0]) ∧ Law W d F (Dv.fresh 2) W' ∧ Below W.heap.size W W') := fun W => new_law (Below.refl _ _) 2 (by omega) (by omega)
  obtain ⟨y, hy⟩ : ∃ y : Bk, y = { b with seq := a.seq } := ⟨_, rfl⟩
  have hfy : y.fits := by rw [hy]; exact ⟨hfa.seq, hfb.epoch, hfb.res, hfb.hor, hfb.gen, hfb.image0, hfb.image1⟩
  have hys : y.seq = a.seq := by rw [hy]
  have FA := hide hfa
  have FY := hide hfy
  have HY := hide hy
  have cEa := hide (encode_any a hfa)
  have cEy := hide (encode_any y hfy)
  have HWORN := hide hworn
  clear hfa hfb hfy hys hy hworn
  go_enter Try.func3, Try.ntmps3
  go_wp2_with fail
  refine (ca.out _).mono ?_
  rintro r w1 ⟨rfl, h1⟩
  have B0 : Below w.heap.size w ((w.alloc (.cells #[.int .u64 a.seq, .int .u64 a.epoch, .int .u64 a.res, .int .u64 a.hor, .int .u64 a.gen, .bool a.clean, .int .i64 a.image] 24)).alloc (.cells #[.int .u64 b.seq, .int .u64 b.epoch, .int .u64 b.res, .int .u64 b.hor, .int .u64 b.gen, .bool b.clean, .int .i64 b.image] 24)) := ((Below.refl w.heap.size w).alloc (Nat.le_refl _) _).alloc (by rw [nblk_alloc]; omega) _
  have B1 := hide (B0.trans (h1.mono B0.size))
  have ba : Blk ((w.alloc (.cells #[.int .u64 a.seq, .int .u64 a.epoch, .int .u64 a.res, .int .u64 a.hor, .int .u64 a.gen, .bool a.clean, .int .i64 a.image] 24)).alloc (.cells #[.int .u64 b.seq, .int .u64 b.epoch, .int .u64 b.res, .int .u64 b.hor, .int .u64 b.gen, .bool b.clean, .int .i64 b.image] 24)) w.heap.size (bkL a) 24 := (Blk.new w (bkL a) 24).alloc _
  have bb : Blk ((w.alloc (.cells #[.int .u64 a.seq, .int .u64 a.epoch, .int .u64 a.res, .int .u64 a.hor, .int .u64 a.gen, .bool a.clean, .int .i64 a.image] 24)).alloc (.cells #[.int .u64 b.seq, .int .u64 b.epoch, .int .u64 b.res, .int .u64 b.hor, .int .u64 b.gen, .bool b.clean, .int .i64 b.image] 24)) (w.heap.size + 1) (bkL b) 24 := by
    have := Blk.new (w.alloc (.cells #[.int .u64 a.seq, .int .u64 a.epoch, .int .u64 a.res, .int .u64 a.hor, .int .u64 a.gen, .bool a.clean, .int .i64 a.image] 24)) (bkL b) 24
    rw [nblk_alloc] at this
    exact this
  have HA1 := hide (ba.same (h1.block _ ba.lt))
  have HB1 := hide (bb.same (h1.block _ bb.lt))
  clear h1 ca ba bb B0
  go_wp2_with fail
  refine (cN.out _).mono ?_
  rintro r w2 ⟨d, F2, rfl, hl, hbel⟩
  have L2 := hide (law_base hl B1.out)
  have HA2 : Hid (Held w2 F2 w.heap.size (bkL a) 24) := ⟨HA1.out.same (hbel.block _ HA1.out.lt), fun hf => by have := hl.low _ hf; have := HA1.out.lt; omega⟩
  have HB2 : Hid (Held w2 F2 (w.heap.size + 1) (bkL b) 24) := ⟨HB1.out.same (hbel.block _ HB1.out.lt), fun hf => by have := hl.low _ hf; have := HB1.out.lt; omega⟩
  clear hl hbel B1 HA1 HB1 cN
  obtain ⟨x0, x1, x2, x3, x4, x5, x6, xf0, xf1, xf2, xf3, xf4, xf5, xf6⟩ := cells7 HA2.out.blk
  have xlt := HA2.out.blk.lt
  obtain ⟨v0, v1, v2, v3, v4, v5, v6, vf0, vf1, vf2, vf3, vf4, vf5, vf6⟩ := cells7 HB2.out.blk
  have vlt := HB2.out.blk.lt
  go_wp2_with fail
  clear x0 x1 x2 x3 x4 x5 x6 xf0 xf1 xf2 xf3 xf4 xf5 xf6 xlt
  clear v0 v1 v2 v3 v4 v5 v6 vf0 vf1 vf2 vf3 vf4 vf5 vf6 vlt
  generalize hW : w2.setCell ⟨w.heap.size + 1, 0, none⟩ (.int .u64 a.seq) = w3
  have hne : w.heap.size ≠ w.heap.size + 1 := by omega
  have L3 : Hid (Law w d F2 (Dv.fresh 2) w3) := by rw [← hW]; exact ⟨L2.out.dev.same (fun k hk => blk_setCell_other _ _ _ _ (fun e => HB2.out.off (by have e' : k = w.heap.size + 1 := e; rw [← e']; exact hk))), L2.out.low, L2.out.bel.setCell (Nat.le_succ _) _⟩
  have HA3 : Hid (Held w3 F2 w.heap.size (bkL a) 24) := by rw [← hW]; exact ⟨HA2.out.blk.other hne _, HA2.out.off⟩
  have HB3 : Hid (Held w3 F2 (w.heap.size + 1) (bkL y) 24) := by rw [← hW, HY.out]; exact ⟨HB2.out.blk.set 0 _, HB2.out.off⟩
  clear hW L2 HA2 HB2 hne
  have T0 := hide (Two.fresh 2 (by omega))
  have R0 : Hid ((Dv.fresh 2).armed = 0) := rfl
  refine (cEa.out _).mono ?_
  rintro r w4 ⟨g4, rfl, hg, hbuf, hbel⟩
  have L4 := hide (L3.out.below hbel)
  have HA4 := hide (HA3.out.below hbel)
  have HB4 := hide (HB3.out.below hbel)
  have BU4 := hide hbuf
  have NG4 : Hid (g4 ∉ F2) := fun hf => by have := L4.out.dev.lt _ hf; have := L3.out.dev.lt _ hf; omega
  clear hg hbuf
  clear hbel
  clear HA3 HB3 L3
  go_wp2_with fail
  refine (write_two L4.out T0.out R0.out 0 (by omega) a FA.out g4 BU4.out NG4.out).mono ?_
  rintro r w5 ⟨rfl, F5, S5, hl, ht, har, hm⟩
  have L5 := hide hl
  have HA5 := hide (HA4.out.move hm)
  have HB5 := hide (HB4.out.move hm)
  have T5 := hide ht
  have R5 := hide har
  clear ht har
  clear hl hm
  clear HA4 HB4 L4
  clear BU4 NG4
  have TZ : Hid (Two S5 (some a.told) (none)) := T5.out
  obtain ⟨Q, hQ⟩ : ∃ Q : Bk, Q = a.told := ⟨_, rfl⟩
  have hnew : newer (some a.told) (none) = some Q := by rw [hQ]; rfl
  have hQs : Q.seq = a.seq := by rw [hQ]; rfl
  have hlast : lastS (some a.told) (none) = Q.seq := by unfold lastS; rw [hnew]
  have hQf : Q.fits := by rw [hQ]; exact told_fits _ FA.out
  have HQ := hide hQ
  have HNEW := hide hnew
  have HQS := hide hQs
  have HLAST := hide hlast
  have HQF := hide hQf
  clear hQ hnew hQs hlast hQf
  go_wp2_with fail
  have cL : Hid (Calls Try.prog 8 #[.pointer (some ⟨d, 0, none⟩)] w5 fun e W' => e = .returned (.tuple #[.agg #[.int .u64 Q.seq, .int .u64 Q.epoch, .int .u64 Q.res, .int .u64 Q.hor, .int .u64 Q.gen, .bool Q.clean, .int .i64 Q.image], .int .i64 0]) ∧ ∃ S', Law w d F5 S' W' ∧ Two S' (some a.told) (none) ∧ S'.armed = 0 ∧ Moves F5 F5 w5 W') := by
    have := load_two L5.out TZ.out
    rw [HNEW.out] at this
    refine this.mono (fun e W' ⟨h1, S', h2, h3, h4, h5⟩ => ⟨h1, S', h2, h3, by rw [h4]; exact R5.out, h5⟩)
  refine cL.out.mono ?_
  rintro r w6 ⟨rfl, S6, hl, ht, har, hm⟩
  have L6 := hide hl
  have HA6 := hide (HA5.out.move hm)
  have HB6 := hide (HB5.out.move hm)
  have TL := hide ht
  have RL := hide har
  clear ht har
  clear hl hm
  clear HA5 HB5 L5
  clear cL TZ
  obtain ⟨x0, x1, x2, x3, x4, x5, x6, xf0, xf1, xf2, xf3, xf4, xf5, xf6⟩ := cells7 HA6.out.blk
  have xlt := HA6.out.blk.lt
  obtain ⟨v0, v1, v2, v3, v4, v5, v6, vf0, vf1, vf2, vf3, vf4, vf5, vf6⟩ := cells7 HB6.out.blk
  have vlt := HB6.out.blk.lt
  go_wp2_with fail
  clear x0 x1 x2 x3 x4 x5 x6 xf0 xf1 xf2 xf3 xf4 xf5 xf6 xlt
  clear v0 v1 v2 v3 v4 v5 v6 vf0 vf1 vf2 vf3 vf4 vf5 vf6 vlt
  refine (cEa.out _).mono ?_
  rintro r w7 ⟨g7, rfl, hg, hbuf, hbel⟩
  have L7 := hide ((L6.out.alloc (.cells #[.int .u64 Q.seq, .int .u64 Q.epoch, .int .u64 Q.res, .int .u64 Q.hor, .int .u64 Q.gen, .bool Q.clean, .int .i64 Q.image] 24)).below hbel)
  have HA7 := hide ((HA6.out.alloc (.cells #[.int .u64 Q.seq, .int .u64 Q.epoch, .int .u64 Q.res, .int .u64 Q.hor, .int .u64 Q.gen, .bool Q.clean, .int .i64 Q.image] 24)).below hbel)
  have HB7 := hide ((HB6.out.alloc (.cells #[.int .u64 Q.seq, .int .u64 Q.epoch, .int .u64 Q.res, .int .u64 Q.hor, .int .u64 Q.gen, .bool Q.clean, .int .i64 Q.image] 24)).below hbel)
  have HX7 := hide ((L6.out.hold (bkL Q) 24).below hbel)
  have BU7 := hide hbuf
  clear hg hbuf
  clear hbel
  clear HA6 HB6 L6
  go_wp2_with fail
  obtain ⟨D8, hD8⟩ : ∃ D : Bk, D = a.told := ⟨_, rfl⟩
  have cD : Hid (Calls Try.prog 9 #[.slice (some ⟨g7, 0, none⟩) 64 64] w7 fun e w' => e = .returned (.tuple #[.agg #[.int .u64 D8.seq, .int .u64 D8.epoch, .int .u64 D8.res, .int .u64 D8.hor, .int .u64 D8.gen, .bool D8.clean, .int .i64 D8.image], .int .i64 0]) ∧ Below w7.heap.size w7 w') := by rw [hD8]; exact enc_dec a FA.out BU7.out
  have HD8 := hide hD8
  clear hD8
  refine cD.out.mono ?_
  rintro r w8 ⟨rfl, hbel⟩
  have L8 := hide (L7.out.below hbel)
  have HA8 := hide (HA7.out.below hbel)
  have HB8 := hide (HB7.out.below hbel)
  have HX8 := hide (HX7.out.below hbel)
  clear hbel
  clear HA7 HB7 HX7 L7
  clear cD BU7
  obtain ⟨x0, x1, x2, x3, x4, x5, x6, xf0, xf1, xf2, xf3, xf4, xf5, xf6⟩ := cells7 HA8.out.blk
  have xlt := HA8.out.blk.lt
  obtain ⟨v0, v1, v2, v3, v4, v5, v6, vf0, vf1, vf2, vf3, vf4, vf5, vf6⟩ := cells7 HB8.out.blk
  have vlt := HB8.out.blk.lt
  go_wp2_with fail
  clear x0 x1 x2 x3 x4 x5 x6 xf0 xf1 xf2 xf3 xf4 xf5 xf6 xlt
  clear v0 v1 v2 v3 v4 v5 v6 vf0 vf1 vf2 vf3 vf4 vf5 vf6 vlt
  have HQD : Hid (D8 = Q) := HD8.out.trans HQ.out.symm
  have cS : Hid (Calls Try.prog 10 #[.pointer (some ⟨d, 0, none⟩), .agg #[.int .u64 a.seq, .int .u64 a.epoch, .int .u64 a.res, .int .u64 a.hor, .int .u64 a.gen, .bool a.clean, .int .i64 a.image]] (w8.alloc (.cells #[.int .u64 D8.seq, .int .u64 D8.epoch, .int .u64 D8.res, .int .u64 D8.hor, .int .u64 D8.gen, .bool D8.clean, .int .i64 D8.image] 24)) fun e W' => e = .returned (.tuple #[.agg #[.int .u64 0, .int .u64 0, .int .u64 0, .int .u64 0, .int .u64 0, .bool false, .int .i64 0], .int .i64 9]) ∧ ∃ F' S', Law w d F' S' W' ∧ Moves F5 F' (w8.alloc (.cells #[.int .u64 D8.seq, .int .u64 D8.epoch, .int .u64 D8.res, .int .u64 D8.hor, .int .u64 D8.gen, .bool D8.clean, .int .i64 D8.image] 24)) W') := store_worn_two (L8.out.alloc (.cells #[.int .u64 D8.seq, .int .u64 D8.epoch, .int .u64 D8.res, .int .u64 D8.hor, .int .u64 D8.gen, .bool D8.clean, .int .i64 D8.image] 24)) TL.out a FA.out (by rw [HLAST.out, HQS.out]; exact HWORN.out)
  refine cS.out.mono ?_
  rintro r w9 ⟨rfl, F9, S9, hl, hm⟩
  have L9 := hide hl
  have HA9 := hide ((HA8.out.alloc (.cells #[.int .u64 D8.seq, .int .u64 D8.epoch, .int .u64 D8.res, .int .u64 D8.hor, .int .u64 D8.gen, .bool D8.clean, .int .i64 D8.image] 24)).move hm)
  have HB9 := hide ((HB8.out.alloc (.cells #[.int .u64 D8.seq, .int .u64 D8.epoch, .int .u64 D8.res, .int .u64 D8.hor, .int .u64 D8.gen, .bool D8.clean, .int .i64 D8.image] 24)).move hm)
  have HX9 := hide ((HX8.out.alloc (.cells #[.int .u64 D8.seq, .int .u64 D8.epoch, .int .u64 D8.res, .int .u64 D8.hor, .int .u64 D8.gen, .bool D8.clean, .int .i64 D8.image] 24)).move hm)
  have HW9 := hide ((L8.out.hold (bkL D8) 24).move hm)
  clear hl hm
  clear HA8 HB8 HX8 L8
  clear cS
  have hqq : ((Q.seq : Int) == 18446744073709551615) = true := by rw [HQS.out, HWORN.out]; rfl
  have HWq : Hid (Held w9 F9 w8.heap.size (bkL Q) 24) := by have := HW9.out; rw [HQD.out] at this; exact this
  obtain ⟨q0, q1, q2, q3, q4, q5, q6, qf0, qf1, qf2, qf3, qf4, qf5, qf6⟩ := cells7 HX9.out.blk
  have qlt := HX9.out.blk.lt
  obtain ⟨u0, u1, u2, u3, u4, u5, u6, uf0, uf1, uf2, uf3, uf4, uf5, uf6⟩ := cells7 HWq.out.blk
  have ult := HWq.out.blk.lt
  go_wp2
  go_ret
  exact ⟨rfl, (L9.out.alloc _).bel⟩
set_option maxRecDepth 8000 in
set_option maxHeartbeats 2000000 in
theorem p_101w (a b : Bk) (hfa : a.fits) (hfb : b.fits) (hworn :  a.seq = 18446744073709551615) (w : World) :
    Calls Try.prog 3 #[.agg #[.int .u64 a.seq, .int .u64 a.epoch, .int .u64 a.res, .int .u64 a.hor, .int .u64 a.gen, .bool a.clean, .int .i64 a.image], .agg #[.int .u64 b.seq, .int .u64 b.epoch, .int .u64 b.res, .int .u64 b.hor, .int .u64 b.gen, .bool b.clean, .int .i64 b.image], .bool true, .bool false, .bool true] w fun e w' => e = .returned (.bool true) ∧ Below w.heap.size w w' := by
  have ca : Hid (∀ W : World, Calls Try.prog 4 #[] W fun e w' => e = .returned (.bool true) ∧ Below W.heap.size W w') := awake_any
  have cN : Hid (∀ W : World, Calls Try.prog 5 #[.int .i64 2] W fun e W' => ∃ d F, e = .returned (.tuple #[.pointer (some ⟨d, 0, none⟩), .int .i64 0]) ∧ Law W d F (Dv.fresh 2) W' ∧ Below W.heap.size W W') := fun W => new_law (Below.refl _ _) 2 (by omega) (by omega)
  obtain ⟨y, hy⟩ : ∃ y : Bk, y = { b with seq := a.seq } := ⟨_, rfl⟩
  have hfy : y.fits := by rw [hy]; exact ⟨hfa.seq, hfb.epoch, hfb.res, hfb.hor, hfb.gen, hfb.image0, hfb.image1⟩
  have hys : y.seq = a.seq := by rw [hy]
  replace hworn :  y.seq = 18446744073709551615 := by rw [hys]; exact hworn
  have cEz : Hid (∀ W : World, Calls Try.prog 7 #[.agg #[.int .u64 a.seq, .int .u64 b.epoch, .int .u64 b.res, .int .u64 b.hor, .int .u64 b.gen, .bool b.clean, .int .i64 b.image]] W fun e w' => ∃ g, e = .returned (.slice (some ⟨g, 0, none⟩) 64 64) ∧ W.heap.size ≤ g ∧ Buf w' g y.enc 0 ∧ Below W.heap.size W w') := by
    subst hy
    exact encode_any _ hfy
  have FA := hide hfa
  have FY := hide hfy
  have HY := hide hy
  have cEa := hide (encode_any a hfa)
  have cEy := hide (encode_any y hfy)
  have HWORN := hide hworn
  clear hfa hfb hfy hys hy hworn
  go_enter Try.func3, Try.ntmps3
  go_wp2_with fail
  refine (ca.out _).mono ?_
  rintro r w1 ⟨rfl, h1⟩
  have B0 : Below w.heap.size w ((w.alloc (.cells #[.int .u64 a.seq, .int .u64 a.epoch, .int .u64 a.res, .int .u64 a.hor, .int .u64 a.gen, .bool a.clean, .int .i64 a.image] 24)).alloc (.cells #[.int .u64 b.seq, .int .u64 b.epoch, .int .u64 b.res, .int .u64 b.hor, .int .u64 b.gen, .bool b.clean, .int .i64 b.image] 24)) := ((Below.refl w.heap.size w).alloc (Nat.le_refl _) _).alloc (by rw [nblk_alloc]; omega) _
  have B1 := hide (B0.trans (h1.mono B0.size))
  have ba : Blk ((w.alloc (.cells #[.int .u64 a.seq, .int .u64 a.epoch, .int .u64 a.res, .int .u64 a.hor, .int .u64 a.gen, .bool a.clean, .int .i64 a.image] 24)).alloc (.cells #[.int .u64 b.seq, .int .u64 b.epoch, .int .u64 b.res, .int .u64 b.hor, .int .u64 b.gen, .bool b.clean, .int .i64 b.image] 24)) w.heap.size (bkL a) 24 := (Blk.new w (bkL a) 24).alloc _
  have bb : Blk ((w.alloc (.cells #[.int .u64 a.seq, .int .u64 a.epoch, .int .u64 a.res, .int .u64 a.hor, .int .u64 a.gen, .bool a.clean, .int .i64 a.image] 24)).alloc (.cells #[.int .u64 b.seq, .int .u64 b.epoch, .int .u64 b.res, .int .u64 b.hor, .int .u64 b.gen, .bool b.clean, .int .i64 b.image] 24)) (w.heap.size + 1) (bkL b) 24 := by
    have := Blk.new (w.alloc (.cells #[.int .u64 a.seq, .int .u64 a.epoch, .int .u64 a.res, .int .u64 a.hor, .int .u64 a.gen, .bool a.clean, .int .i64 a.image] 24)) (bkL b) 24
    rw [nblk_alloc] at this
    exact this
  have HA1 := hide (ba.same (h1.block _ ba.lt))
  have HB1 := hide (bb.same (h1.block _ bb.lt))
  clear h1 ca ba bb B0
  go_wp2_with fail
  refine (cN.out _).mono ?_
  rintro r w2 ⟨d, F2, rfl, hl, hbel⟩
  have L2 := hide (law_base hl B1.out)
  have HA2 : Hid (Held w2 F2 w.heap.size (bkL a) 24) := ⟨HA1.out.same (hbel.block _ HA1.out.lt), fun hf => by have := hl.low _ hf; have := HA1.out.lt; omega⟩
  have HB2 : Hid (Held w2 F2 (w.heap.size + 1) (bkL b) 24) := ⟨HB1.out.same (hbel.block _ HB1.out.lt), fun hf => by have := hl.low _ hf; have := HB1.out.lt; omega⟩
  clear hl hbel B1 HA1 HB1 cN
  obtain ⟨x0, x1, x2, x3, x4, x5, x6, xf0, xf1, xf2, xf3, xf4, xf5, xf6⟩ := cells7 HA2.out.blk
  have xlt := HA2.out.blk.lt
  obtain ⟨v0, v1, v2, v3, v4, v5, v6, vf0, vf1, vf2, vf3, vf4, vf5, vf6⟩ := cells7 HB2.out.blk
  have vlt := HB2.out.blk.lt
  go_wp2_with fail
  clear x0 x1 x2 x3 x4 x5 x6 xf0 xf1 xf2 xf3 xf4 xf5 xf6 xlt
  clear v0 v1 v2 v3 v4 v5 v6 vf0 vf1 vf2 vf3 vf4 vf5 vf6 vlt
  generalize hW : w2.setCell ⟨w.heap.size + 1, 0, none⟩ (.int .u64 a.seq) = w3
  have hne : w.heap.size ≠ w.heap.size + 1 := by omega
  have L3 : Hid (Law w d F2 (Dv.fresh 2) w3) := by rw [← hW]; exact ⟨L2.out.dev.same (fun k hk => blk_setCell_other _ _ _ _ (fun e => HB2.out.off (by have e' : k = w.heap.size + 1 := e; rw [← e']; exact hk))), L2.out.low, L2.out.bel.setCell (Nat.le_succ _) _⟩
  have HA3 : Hid (Held w3 F2 w.heap.size (bkL a) 24) := by rw [← hW]; exact ⟨HA2.out.blk.other hne _, HA2.out.off⟩
  have HB3 : Hid (Held w3 F2 (w.heap.size + 1) (bkL y) 24) := by rw [← hW, HY.out]; exact ⟨HB2.out.blk.set 0 _, HB2.out.off⟩
  clear hW L2 HA2 HB2 hne
  have T0 := hide (Two.fresh 2 (by omega))
  have R0 : Hid ((Dv.fresh 2).armed = 0) := rfl
  refine (cEz.out _).mono ?_
  rintro r w4 ⟨g4, rfl, hg, hbuf, hbel⟩
  have L4 := hide (L3.out.below hbel)
  have HA4 := hide (HA3.out.below hbel)
  have HB4 := hide (HB3.out.below hbel)
  have BU4 := hide hbuf
  have NG4 : Hid (g4 ∉ F2) := fun hf => by have := L4.out.dev.lt _ hf; have := L3.out.dev.lt _ hf; omega
  clear hg hbuf
  clear hbel
  clear HA3 HB3 L3
  go_wp2_with fail
  refine (write_two L4.out T0.out R0.out 1 (by omega) y FY.out g4 BU4.out NG4.out).mono ?_
  rintro r w5 ⟨rfl, F5, S5, hl, ht, har, hm⟩
  have L5 := hide hl
  have HA5 := hide (HA4.out.move hm)
  have HB5 := hide (HB4.out.move hm)
  have T5 := hide ht
  have R5 := hide har
  clear ht har
  clear hl hm
  clear HA4 HB4 L4
  clear BU4 NG4
  have TZ : Hid (Two S5 (none) (some y.told)) := T5.out
  obtain ⟨Q, hQ⟩ : ∃ Q : Bk, Q = y.told := ⟨_, rfl⟩
  have hnew : newer (none) (some y.told) = some Q := by rw [hQ]; rfl
  have hQs : Q.seq = y.seq := by rw [hQ]; rfl
  have hlast : lastS (none) (some y.told) = Q.seq := by unfold lastS; rw [hnew]
  have hQf : Q.fits := by rw [hQ]; exact told_fits _ FY.out
  have HQ := hide hQ
  have HNEW := hide hnew
  have HQS := hide hQs
  have HLAST := hide hlast
  have HQF := hide hQf
  clear hQ hnew hQs hlast hQf
  go_wp2_with fail
  have cL : Hid (Calls Try.prog 8 #[.pointer (some ⟨d, 0, none⟩)] w5 fun e W' => e = .returned (.tuple #[.agg #[.int .u64 Q.seq, .int .u64 Q.epoch, .int .u64 Q.res, .int .u64 Q.hor, .int .u64 Q.gen, .bool Q.clean, .int .i64 Q.image], .int .i64 0]) ∧ ∃ S', Law w d F5 S' W' ∧ Two S' (none) (some y.told) ∧ S'.armed = 0 ∧ Moves F5 F5 w5 W') := by
    have := load_two L5.out TZ.out
    rw [HNEW.out] at this
    refine this.mono (fun e W' ⟨h1, S', h2, h3, h4, h5⟩ => ⟨h1, S', h2, h3, by rw [h4]; exact R5.out, h5⟩)
  refine cL.out.mono ?_
  rintro r w6 ⟨rfl, S6, hl, ht, har, hm⟩
  have L6 := hide hl
  have HA6 := hide (HA5.out.move hm)
  have HB6 := hide (HB5.out.move hm)
  have TL := hide ht
  have RL := hide har
  clear ht har
  clear hl hm
  clear HA5 HB5 L5
  clear cL TZ
  obtain ⟨x0, x1, x2, x3, x4, x5, x6, xf0, xf1, xf2, xf3, xf4, xf5, xf6⟩ := cells7 HA6.out.blk
  have xlt := HA6.out.blk.lt
  obtain ⟨v0, v1, v2, v3, v4, v5, v6, vf0, vf1, vf2, vf3, vf4, vf5, vf6⟩ := cells7 HB6.out.blk
  have vlt := HB6.out.blk.lt
  go_wp2_with fail
  clear x0 x1 x2 x3 x4 x5 x6 xf0 xf1 xf2 xf3 xf4 xf5 xf6 xlt
  clear v0 v1 v2 v3 v4 v5 v6 vf0 vf1 vf2 vf3 vf4 vf5 vf6 vlt
  refine (cEa.out _).mono ?_
  rintro r w7 ⟨g7, rfl, hg, hbuf, hbel⟩
  have L7 := hide ((L6.out.alloc (.cells #[.int .u64 Q.seq, .int .u64 Q.epoch, .int .u64 Q.res, .int .u64 Q.hor, .int .u64 Q.gen, .bool Q.clean, .int .i64 Q.image] 24)).below hbel)
  have HA7 := hide ((HA6.out.alloc (.cells #[.int .u64 Q.seq, .int .u64 Q.epoch, .int .u64 Q.res, .int .u64 Q.hor, .int .u64 Q.gen, .bool Q.clean, .int .i64 Q.image] 24)).below hbel)
  have HB7 := hide ((HB6.out.alloc (.cells #[.int .u64 Q.seq, .int .u64 Q.epoch, .int .u64 Q.res, .int .u64 Q.hor, .int .u64 Q.gen, .bool Q.clean, .int .i64 Q.image] 24)).below hbel)
  have HX7 := hide ((L6.out.hold (bkL Q) 24).below hbel)
  have BU7 := hide hbuf
  clear hg hbuf
  clear hbel
  clear HA6 HB6 L6
  go_wp2_with fail
  obtain ⟨D8, hD8⟩ : ∃ D : Bk, D = a.told := ⟨_, rfl⟩
  have cD : Hid (Calls Try.prog 9 #[.slice (some ⟨g7, 0, none⟩) 64 64] w7 fun e w' => e = .returned (.tuple #[.agg #[.int .u64 D8.seq, .int .u64 D8.epoch, .int .u64 D8.res, .int .u64 D8.hor, .int .u64 D8.gen, .bool D8.clean, .int .i64 D8.image], .int .i64 0]) ∧ Below w7.heap.size w7 w') := by rw [hD8]; exact enc_dec a FA.out BU7.out
  have HD8 := hide hD8
  clear hD8
  refine cD.out.mono ?_
  rintro r w8 ⟨rfl, hbel⟩
  have L8 := hide (L7.out.below hbel)
  have HA8 := hide (HA7.out.below hbel)
  have HB8 := hide (HB7.out.below hbel)
  have HX8 := hide (HX7.out.below hbel)
  clear hbel
  clear HA7 HB7 HX7 L7
  clear cD BU7
  have NEA : Hid (w.heap.size ≠ w8.heap.size) := by show _ ≠ _; have h1 := HA8.out.blk.lt; omega
  have NEB : Hid ((w.heap.size + 1) ≠ w8.heap.size) := by show _ ≠ _; have h1 := HB8.out.blk.lt; omega
  have NEX : Hid (w6.heap.size ≠ w8.heap.size) := by show _ ≠ _; have h1 := HX8.out.blk.lt; omega
  have LB : Hid (w.heap.size ≤ w8.heap.size) := L8.out.bel.size
  obtain ⟨x0, x1, x2, x3, x4, x5, x6, xf0, xf1, xf2, xf3, xf4, xf5, xf6⟩ := cells7 HA8.out.blk
  have xlt := HA8.out.blk.lt
  obtain ⟨v0, v1, v2, v3, v4, v5, v6, vf0, vf1, vf2, vf3, vf4, vf5, vf6⟩ := cells7 HB8.out.blk
  have vlt := HB8.out.blk.lt
  go_wp2_with fail
  clear x0 x1 x2 x3 x4 x5 x6 xf0 xf1 xf2 xf3 xf4 xf5 xf6 xlt
  clear v0 v1 v2 v3 v4 v5 v6 vf0 vf1 vf2 vf3 vf4 vf5 vf6 vlt
  refine (cEy.out _).mono ?_
  rintro r w9 ⟨g9, rfl, hg, hbuf, hbel⟩
  have L9 := hide ((L8.out.alloc (.cells #[.int .u64 D8.seq, .int .u64 D8.epoch, .int .u64 D8.res, .int .u64 D8.hor, .int .u64 D8.gen, .bool D8.clean, .int .i64 D8.image] 24)).below hbel)
  have HA9 := hide ((HA8.out.alloc (.cells #[.int .u64 D8.seq, .int .u64 D8.epoch, .int .u64 D8.res, .int .u64 D8.hor, .int .u64 D8.gen, .bool D8.clean, .int .i64 D8.image] 24)).below hbel)
  have HB9 := hide ((HB8.out.alloc (.cells #[.int .u64 D8.seq, .int .u64 D8.epoch, .int .u64 D8.res, .int .u64 D8.hor, .int .u64 D8.gen, .bool D8.clean, .int .i64 D8.image] 24)).below hbel)
  have HX9 := hide ((HX8.out.alloc (.cells #[.int .u64 D8.seq, .int .u64 D8.epoch, .int .u64 D8.res, .int .u64 D8.hor, .int .u64 D8.gen, .bool D8.clean, .int .i64 D8.image] 24)).below hbel)
  have HW9 := hide ((L8.out.hold (bkL D8) 24).below hbel)
  have BU9 := hide hbuf
  clear hg hbuf
  clear hbel
  clear HA8 HB8 HX8 L8
  go_wp2_with fail
  obtain ⟨D10, hD10⟩ : ∃ D : Bk, D = y.told := ⟨_, rfl⟩
  have cD : Hid (Calls Try.prog 9 #[.slice (some ⟨g9, 0, none⟩) 64 64] w9 fun e w' => e = .returned (.tuple #[.agg #[.int .u64 D10.seq, .int .u64 D10.epoch, .int .u64 D10.res, .int .u64 D10.hor, .int .u64 D10.gen, .bool D10.clean, .int .i64 D10.image], .int .i64 0]) ∧ Below w9.heap.size w9 w') := by rw [hD10]; exact enc_dec y FY.out BU9.out
  have HD10 := hide hD10
  clear hD10
  refine cD.out.mono ?_
  rintro r w10 ⟨rfl, hbel⟩
  have L10 := hide (L9.out.below hbel)
  have HA10 := hide (HA9.out.below hbel)
  have HB10 := hide (HB9.out.below hbel)
  have HX10 := hide (HX9.out.below hbel)
  have HW10 := hide (HW9.out.below hbel)
  clear hbel
  clear HA9 HB9 HX9 HW9 L9
  clear cD BU9
  have neA : w.heap.size ≠ w8.heap.size := NEA.out
  have nfA := Ne.symm neA
  have neB : (w.heap.size + 1) ≠ w8.heap.size := NEB.out
  have nfB := Ne.symm neB
  have neX : w6.heap.size ≠ w8.heap.size := NEX.out
  have nfX := Ne.symm neX
  obtain ⟨x0, x1, x2, x3, x4, x5, x6, xf0, xf1, xf2, xf3, xf4, xf5, xf6⟩ := cells7 HA10.out.blk
  have xlt := HA10.out.blk.lt
  obtain ⟨u0, u1, u2, u3, u4, u5, u6, uf0, uf1, uf2, uf3, uf4, uf5, uf6⟩ := cells7 HW10.out.blk
  have ult := HW10.out.blk.lt
  go_wp2_with fail
  clear x0 x1 x2 x3 x4 x5 x6 xf0 xf1 xf2 xf3 xf4 xf5 xf6 xlt
  clear u0 u1 u2 u3 u4 u5 u6 uf0 uf1 uf2 uf3 uf4 uf5 uf6 ult
  have h0 : w.heap.size ≤ w8.heap.size := LB.out
  generalize hW : ((((((w10.setCell ⟨w8.heap.size, 0, none⟩ (.int .u64 D10.seq)).setCell ⟨w8.heap.size, 1, none⟩ (.int .u64 D10.epoch)).setCell ⟨w8.heap.size, 2, none⟩ (.int .u64 D10.res)).setCell ⟨w8.heap.size, 3, none⟩ (.int .u64 D10.hor)).setCell ⟨w8.heap.size, 4, none⟩ (.int .u64 D10.gen)).setCell ⟨w8.heap.size, 5, none⟩ (.bool D10.clean)).setCell ⟨w8.heap.size, 6, none⟩ (.int .i64 D10.image) = w11
  have L11 : Hid (Law w d F5 S6 w11) := by rw [← hW]; exact ⟨put7_dv L10.out.dev HW10.out.off D10, L10.out.low, ((((((L10.out.bel.setCell h0 _).setCell h0 _).setCell h0 _).setCell h0 _).setCell h0 _).setCell h0 _).setCell h0 _⟩
  have HA11 : Hid (Held w11 F5 w.heap.size (bkL a) 24) := by rw [← hW]; exact ⟨HA10.out.blk.same (put7_far _ _ _ _ neA), HA10.out.off⟩
  have HB11 : Hid (Held w11 F5 (w.heap.size + 1) (bkL y) 24) := by rw [← hW]; exact ⟨HB10.out.blk.same (put7_far _ _ _ _ neB), HB10.out.off⟩
  have HX11 : Hid (Held w11 F5 w6.heap.size (bkL Q) 24) := by rw [← hW]; exact ⟨HX10.out.blk.same (put7_far _ _ _ _ neX), HX10.out.off⟩
  have HW11 : Hid (Held w11 F5 w8.heap.size (bkL D10) 24) := by rw [← hW]; exact ⟨put7_blk HW10.out.blk D10, HW10.out.off⟩
  clear hW neA neB neX nfA nfB nfX
  have HQD : Hid (D10 = Q) := HD10.out.trans HQ.out.symm
  have cS : Hid (Calls Try.prog 10 #[.pointer (some ⟨d, 0, none⟩), .agg #[.int .u64 a.seq, .int .u64 a.epoch, .int .u64 a.res, .int .u64 a.hor, .int .u64 a.gen, .bool a.clean, .int .i64 a.image]] w11 fun e W' => e = .returned (.tuple #[.agg #[.int .u64 0, .int .u64 0, .int .u64 0, .int .u64 0, .int .u64 0, .bool false, .int .i64 0], .int .i64 9]) ∧ ∃ F' S', Law w d F' S' W' ∧ Moves F5 F' w11 W') := store_worn_two L11.out TL.out a FA.out (by rw [HLAST.out, HQS.out]; exact HWORN.out)
  refine cS.out.mono ?_
  rintro r w12 ⟨rfl, F12, S12, hl, hm⟩
  have L12 := hide hl
  have HA12 := hide (HA11.out.move hm)
  have HB12 := hide (HB11.out.move hm)
  have HX12 := hide (HX11.out.move hm)
  have HW12 := hide (HW11.out.move hm)
  clear hl hm
  clear HA11 HB11 HX11 HW11 L11
  clear cS
  have hqq : ((Q.seq : Int) == 18446744073709551615) = true := by rw [HQS.out, HWORN.out]; rfl
  have HWq : Hid (Held w12 F12 w8.heap.size (bkL Q) 24) := by have := HW12.out; rw [HQD.out] at this; exact this
  obtain ⟨q0, q1, q2, q3, q4, q5, q6, qf0, qf1, qf2, qf3, qf4, qf5, qf6⟩ := cells7 HX12.out.blk
  have qlt := HX12.out.blk.lt
  obtain ⟨u0, u1, u2, u3, u4, u5, u6, uf0, uf1, uf2, uf3, uf4, uf5, uf6⟩ := cells7 HWq.out.blk
  have ult := HWq.out.blk.lt
  go_wp2
  go_ret
  exact ⟨rfl, (L12.out.alloc _).bel⟩
set_option maxRecDepth 8000 in
set_option maxHeartbeats 2000000 in
theorem p_111gw (a b : Bk) (hfa : a.fits) (hfb : b.fits) (hlt : ¬ a.seq < a.seq) (hworn :  a.seq = 18446744073709551615) (w : World) :
    Calls Try.prog 3 #[.agg #[.int .u64 a.seq, .int .u64 a.epoch, .int .u64 a.res, .int .u64 a.hor, .int .u64 a.gen, .bool a.clean, .int .i64 a.image], .agg #[.int .u64 b.seq, .int .u64 b.epoch, .int .u64 b.res, .int .u64 b.hor, .int .u64 b.gen, .bool b.clean, .int .i64 b.image], .bool true, .bool true, .bool true] w fun e w' => e = .returned (.bool true) ∧ Below w.heap.size w w' := by
  have ca : Hid (∀ W : World, Calls Try.prog 4 #[] W fun e w' => e = .returned (.bool true) ∧ Below W.heap.size W w') := awake_any
  have cN : Hid (∀ W : World, Calls Try.prog 5 #[.int .i64 2] W fun e W' => ∃ d F, e = .returned (.tuple #[.pointer (some ⟨d, 0, none⟩), .int .i64 0]) ∧ Law W d F (Dv.fresh 2) W' ∧ Below W.heap.size W W') := fun W => new_law (Below.refl _ _) 2 (by omega) (by omega)
  obtain ⟨y, hy⟩ : ∃ y : Bk, y = { b with seq := a.seq } := ⟨_, rfl⟩
  have hfy : y.fits := by rw [hy]; exact ⟨hfa.seq, hfb.epoch, hfb.res, hfb.hor, hfb.gen, hfb.image0, hfb.image1⟩
  have hys : y.seq = a.seq := by rw [hy]
  replace hlt : ¬ a.seq < y.seq := by rw [hys]; exact hlt
  have FA := hide hfa
  have FY := hide hfy
  have HY := hide hy
  have cEa := hide (encode_any a hfa)
  have cEy := hide (encode_any y hfy)
  have HLT := hide hlt
  have hlti : ((a.seq : Int) < (y.seq : Int)) = False := eq_false (by omega)
  have HWORN := hide hworn
  clear hfa hfb hfy hys hy hlt hworn
  go_enter Try.func3, Try.ntmps3
  go_wp2_with fail
  refine (ca.out _).mono ?_
  rintro r w1 ⟨rfl, h1⟩
  have B0 : Below w.heap.size w ((w.alloc (.cells #[.int .u64 a.seq, .int .u64 a.epoch, .int .u64 a.res, .int .u64 a.hor, .int .u64 a.gen, .bool a.clean, .int .i64 a.image] 24)).alloc (.cells #[.int .u64 b.seq, .int .u64 b.epoch, .int .u64 b.res, .int .u64 b.hor, .int .u64 b.gen, .bool b.clean, .int .i64 b.image] 24)) := ((Below.refl w.heap.size w).alloc (Nat.le_refl _) _).alloc (by rw [nblk_alloc]; omega) _
  have B1 := hide (B0.trans (h1.mono B0.size))
  have ba : Blk ((w.alloc (.cells #[.int .u64 a.seq, .int .u64 a.epoch, .int .u64 a.res, .int .u64 a.hor, .int .u64 a.gen, .bool a.clean, .int .i64 a.image] 24)).alloc (.cells #[.int .u64 b.seq, .int .u64 b.epoch, .int .u64 b.res, .int .u64 b.hor, .int .u64 b.gen, .bool b.clean, .int .i64 b.image] 24)) w.heap.size (bkL a) 24 := (Blk.new w (bkL a) 24).alloc _
  have bb : Blk ((w.alloc (.cells #[.int .u64 a.seq, .int .u64 a.epoch, .int .u64 a.res, .int .u64 a.hor, .int .u64 a.gen, .bool a.clean, .int .i64 a.image] 24)).alloc (.cells #[.int .u64 b.seq, .int .u64 b.epoch, .int .u64 b.res, .int .u64 b.hor, .int .u64 b.gen, .bool b.clean, .int .i64 b.image] 24)) (w.heap.size + 1) (bkL b) 24 := by
    have := Blk.new (w.alloc (.cells #[.int .u64 a.seq, .int .u64 a.epoch, .int .u64 a.res, .int .u64 a.hor, .int .u64 a.gen, .bool a.clean, .int .i64 a.image] 24)) (bkL b) 24
    rw [nblk_alloc] at this
    exact this
  have HA1 := hide (ba.same (h1.block _ ba.lt))
  have HB1 := hide (bb.same (h1.block _ bb.lt))
  clear h1 ca ba bb B0
  go_wp2_with fail
  refine (cN.out _).mono ?_
  rintro r w2 ⟨d, F2, rfl, hl, hbel⟩
  have L2 := hide (law_base hl B1.out)
  have HA2 : Hid (Held w2 F2 w.heap.size (bkL a) 24) := ⟨HA1.out.same (hbel.block _ HA1.out.lt), fun hf => by have := hl.low _ hf; have := HA1.out.lt; omega⟩
  have HB2 : Hid (Held w2 F2 (w.heap.size + 1) (bkL b) 24) := ⟨HB1.out.same (hbel.block _ HB1.out.lt), fun hf => by have := hl.low _ hf; have := HB1.out.lt; omega⟩
  clear hl hbel B1 HA1 HB1 cN
  obtain ⟨x0, x1, x2, x3, x4, x5, x6, xf0, xf1, xf2, xf3, xf4, xf5, xf6⟩ := cells7 HA2.out.blk
  have xlt := HA2.out.blk.lt
  obtain ⟨v0, v1, v2, v3, v4, v5, v6, vf0, vf1, vf2, vf3, vf4, vf5, vf6⟩ := cells7 HB2.out.blk
  have vlt := HB2.out.blk.lt
  go_wp2_with fail
  clear x0 x1 x2 x3 x4 x5 x6 xf0 xf1 xf2 xf3 xf4 xf5 xf6 xlt
  clear v0 v1 v2 v3 v4 v5 v6 vf0 vf1 vf2 vf3 vf4 vf5 vf6 vlt
  generalize hW : w2.setCell ⟨w.heap.size + 1, 0, none⟩ (.int .u64 a.seq) = w3
  have hne : w.heap.size ≠ w.heap.size + 1 := by omega
  have L3 : Hid (Law w d F2 (Dv.fresh 2) w3) := by rw [← hW]; exact ⟨L2.out.dev.same (fun k hk => blk_setCell_other _ _ _ _ (fun e => HB2.out.off (by have e' : k = w.heap.size + 1 := e; rw [← e']; exact hk))), L2.out.low, L2.out.bel.setCell (Nat.le_succ _) _⟩
  have HA3 : Hid (Held w3 F2 w.heap.size (bkL a) 24) := by rw [← hW]; exact ⟨HA2.out.blk.other hne _, HA2.out.off⟩
  have HB3 : Hid (Held w3 F2 (w.heap.size + 1) (bkL y) 24) := by rw [← hW, HY.out]; exact ⟨HB2.out.blk.set 0 _, HB2.out.off⟩
  clear hW L2 HA2 HB2 hne
  have T0 := hide (Two.fresh 2 (by omega))
  have R0 : Hid ((Dv.fresh 2).armed = 0) := rfl
  refine (cEa.out _).mono ?_
  rintro r w4 ⟨g4, rfl, hg, hbuf, hbel⟩
  have L4 := hide (L3.out.below hbel)
  have HA4 := hide (HA3.out.below hbel)
  have HB4 := hide (HB3.out.below hbel)
  have BU4 := hide hbuf
  have NG4 : Hid (g4 ∉ F2) := fun hf => by have := L4.out.dev.lt _ hf; have := L3.out.dev.lt _ hf; omega
  clear hg hbuf
  clear hbel
  clear HA3 HB3 L3
  go_wp2_with fail
  refine (write_two L4.out T0.out R0.out 0 (by omega) a FA.out g4 BU4.out NG4.out).mono ?_
  rintro r w5 ⟨rfl, F5, S5, hl, ht, har, hm⟩
  have L5 := hide hl
  have HA5 := hide (HA4.out.move hm)
  have HB5 := hide (HB4.out.move hm)
  have T5 := hide ht
  have R5 := hide har
  clear ht har
  clear hl hm
  clear HA4 HB4 L4
  clear BU4 NG4
  obtain ⟨x0, x1, x2, x3, x4, x5, x6, xf0, xf1, xf2, xf3, xf4, xf5, xf6⟩ := cells7 HA5.out.blk
  have xlt := HA5.out.blk.lt
  obtain ⟨v0, v1, v2, v3, v4, v5, v6, vf0, vf1, vf2, vf3, vf4, vf5, vf6⟩ := cells7 HB5.out.blk
  have vlt := HB5.out.blk.lt
  go_wp2_with fail
  clear x0 x1 x2 x3 x4 x5 x6 xf0 xf1 xf2 xf3 xf4 xf5 xf6 xlt
  clear v0 v1 v2 v3 v4 v5 v6 vf0 vf1 vf2 vf3 vf4 vf5 vf6 vlt
  refine (cEy.out _).mono ?_
  rintro r w6 ⟨g6, rfl, hg, hbuf, hbel⟩
  have L6 := hide (L5.out.below hbel)
  have HA6 := hide (HA5.out.below hbel)
  have HB6 := hide (HB5.out.below hbel)
  have BU6 := hide hbuf
  have NG6 : Hid (g6 ∉ F5) := fun hf => by have := L6.out.dev.lt _ hf; have := L5.out.dev.lt _ hf; omega
  clear hg hbuf
  clear hbel
  clear HA5 HB5 L5
  go_wp2_with fail
  refine (write_two L6.out T5.out R5.out 1 (by omega) y FY.out g6 BU6.out NG6.out).mono ?_
  rintro r w7 ⟨rfl, F7, S7, hl, ht, har, hm⟩
  have L7 := hide hl
  have HA7 := hide (HA6.out.move hm)
  have HB7 := hide (HB6.out.move hm)
  have T7 := hide ht
  have R7 := hide har
  clear ht har
  clear hl hm
  clear HA6 HB6 L6
  clear BU6 NG6
  have TZ : Hid (Two S7 (some a.told) (some y.told)) := T7.out
  obtain ⟨Q, hQ⟩ : ∃ Q : Bk, Q = a.told := ⟨_, rfl⟩
  have hnew : newer (some a.told) (some y.told) = some Q := by rw [hQ]; exact if_neg HLT.out
  have hQs : Q.seq = a.seq := by rw [hQ]; rfl
  have hlast : lastS (some a.told) (some y.told) = Q.seq := by unfold lastS; rw [hnew]
  have hQf : Q.fits := by rw [hQ]; exact told_fits _ FA.out
  have HQ := hide hQ
  have HNEW := hide hnew
  have HQS := hide hQs
  have HLAST := hide hlast
  have HQF := hide hQf
  clear hQ hnew hQs hlast hQf
  go_wp2_with fail
  have cL : Hid (Calls Try.prog 8 #[.pointer (some ⟨d, 0, none⟩)] w7 fun e W' => e = .returned (.tuple #[.agg #[.int .u64 Q.seq, .int .u64 Q.epoch, .int .u64 Q.res, .int .u64 Q.hor, .int .u64 Q.gen, .bool Q.clean, .int .i64 Q.image], .int .i64 0]) ∧ ∃ S', Law w d F7 S' W' ∧ Two S' (some a.told) (some y.told) ∧ S'.armed = 0 ∧ Moves F7 F7 w7 W') := by
    have := load_two L7.out TZ.out
    rw [HNEW.out] at this
    refine this.mono (fun e W' ⟨h1, S', h2, h3, h4, h5⟩ => ⟨h1, S', h2, h3, by rw [h4]; exact R7.out, h5⟩)
  refine cL.out.mono ?_
  rintro r w8 ⟨rfl, S8, hl, ht, har, hm⟩
  have L8 := hide hl
  have HA8 := hide (HA7.out.move hm)
  have HB8 := hide (HB7.out.move hm)
  have TL := hide ht
  have RL := hide har
  clear ht har
  clear hl hm
  clear HA7 HB7 L7
  clear cL TZ
  obtain ⟨x0, x1, x2, x3, x4, x5, x6, xf0, xf1, xf2, xf3, xf4, xf5, xf6⟩ := cells7 HA8.out.blk
  have xlt := HA8.out.blk.lt
  obtain ⟨v0, v1, v2, v3, v4, v5, v6, vf0, vf1, vf2, vf3, vf4, vf5, vf6⟩ := cells7 HB8.out.blk
  have vlt := HB8.out.blk.lt
  go_wp2_with fail
  clear x0 x1 x2 x3 x4 x5 x6 xf0 xf1 xf2 xf3 xf4 xf5 xf6 xlt
  clear v0 v1 v2 v3 v4 v5 v6 vf0 vf1 vf2 vf3 vf4 vf5 vf6 vlt
  refine (cEa.out _).mono ?_
  rintro r w9 ⟨g9, rfl, hg, hbuf, hbel⟩
  have L9 := hide ((L8.out.alloc (.cells #[.int .u64 Q.seq, .int .u64 Q.epoch, .int .u64 Q.res, .int .u64 Q.hor, .int .u64 Q.gen, .bool Q.clean, .int .i64 Q.image] 24)).below hbel)
  have HA9 := hide ((HA8.out.alloc (.cells #[.int .u64 Q.seq, .int .u64 Q.epoch, .int .u64 Q.res, .int .u64 Q.hor, .int .u64 Q.gen, .bool Q.clean, .int .i64 Q.image] 24)).below hbel)
  have HB9 := hide ((HB8.out.alloc (.cells #[.int .u64 Q.seq, .int .u64 Q.epoch, .int .u64 Q.res, .int .u64 Q.hor, .int .u64 Q.gen, .bool Q.clean, .int .i64 Q.image] 24)).below hbel)
  have HX9 := hide ((L8.out.hold (bkL Q) 24).below hbel)
  have BU9 := hide hbuf
  clear hg hbuf
  clear hbel
  clear HA8 HB8 L8
  go_wp2_with fail
  obtain ⟨D10, hD10⟩ : ∃ D : Bk, D = a.told := ⟨_, rfl⟩
  have cD : Hid (Calls Try.prog 9 #[.slice (some ⟨g9, 0, none⟩) 64 64] w9 fun e w' => e = .returned (.tuple #[.agg #[.int .u64 D10.seq, .int .u64 D10.epoch, .int .u64 D10.res, .int .u64 D10.hor, .int .u64 D10.gen, .bool D10.clean, .int .i64 D10.image], .int .i64 0]) ∧ Below w9.heap.size w9 w') := by rw [hD10]; exact enc_dec a FA.out BU9.out
  have HD10 := hide hD10
  clear hD10
  refine cD.out.mono ?_
  rintro r w10 ⟨rfl, hbel⟩
  have L10 := hide (L9.out.below hbel)
  have HA10 := hide (HA9.out.below hbel)
  have HB10 := hide (HB9.out.below hbel)
  have HX10 := hide (HX9.out.below hbel)
  clear hbel
  clear HA9 HB9 HX9 L9
  clear cD BU9
  obtain ⟨x0, x1, x2, x3, x4, x5, x6, xf0, xf1, xf2, xf3, xf4, xf5, xf6⟩ := cells7 HA10.out.blk
  have xlt := HA10.out.blk.lt
  obtain ⟨v0, v1, v2, v3, v4, v5, v6, vf0, vf1, vf2, vf3, vf4, vf5, vf6⟩ := cells7 HB10.out.blk
  have vlt := HB10.out.blk.lt
  go_wp2_with fail
  clear x0 x1 x2 x3 x4 x5 x6 xf0 xf1 xf2 xf3 xf4 xf5 xf6 xlt
  clear v0 v1 v2 v3 v4 v5 v6 vf0 vf1 vf2 vf3 vf4 vf5 vf6 vlt
  have HQD : Hid (D10 = Q) := HD10.out.trans HQ.out.symm
  have cS : Hid (Calls Try.prog 10 #[.pointer (some ⟨d, 0, none⟩), .agg #[.int .u64 a.seq, .int .u64 a.epoch, .int .u64 a.res, .int .u64 a.hor, .int .u64 a.gen, .bool a.clean, .int .i64 a.image]] (w10.alloc (.cells #[.int .u64 D10.seq, .int .u64 D10.epoch, .int .u64 D10.res, .int .u64 D10.hor, .int .u64 D10.gen, .bool D10.clean, .int .i64 D10.image] 24)) fun e W' => e = .returned (.tuple #[.agg #[.int .u64 0, .int .u64 0, .int .u64 0, .int .u64 0, .int .u64 0, .bool false, .int .i64 0], .int .i64 9]) ∧ ∃ F' S', Law w d F' S' W' ∧ Moves F7 F' (w10.alloc (.cells #[.int .u64 D10.seq, .int .u64 D10.epoch, .int .u64 D10.res, .int .u64 D10.hor, .int .u64 D10.gen, .bool D10.clean, .int .i64 D10.image] 24)) W') := store_worn_two (L10.out.alloc (.cells #[.int .u64 D10.seq, .int .u64 D10.epoch, .int .u64 D10.res, .int .u64 D10.hor, .int .u64 D10.gen, .bool D10.clean, .int .i64 D10.image] 24)) TL.out a FA.out (by rw [HLAST.out, HQS.out]; exact HWORN.out)
  refine cS.out.mono ?_
  rintro r w11 ⟨rfl, F11, S11, hl, hm⟩
  have L11 := hide hl
  have HA11 := hide ((HA10.out.alloc (.cells #[.int .u64 D10.seq, .int .u64 D10.epoch, .int .u64 D10.res, .int .u64 D10.hor, .int .u64 D10.gen, .bool D10.clean, .int .i64 D10.image] 24)).move hm)
  have HB11 := hide ((HB10.out.alloc (.cells #[.int .u64 D10.seq, .int .u64 D10.epoch, .int .u64 D10.res, .int .u64 D10.hor, .int .u64 D10.gen, .bool D10.clean, .int .i64 D10.image] 24)).move hm)
  have HX11 := hide ((HX10.out.alloc (.cells #[.int .u64 D10.seq, .int .u64 D10.epoch, .int .u64 D10.res, .int .u64 D10.hor, .int .u64 D10.gen, .bool D10.clean, .int .i64 D10.image] 24)).move hm)
  have HW11 := hide ((L10.out.hold (bkL D10) 24).move hm)
  clear hl hm
  clear HA10 HB10 HX10 L10
  clear cS
  have hqq : ((Q.seq : Int) == 18446744073709551615) = true := by rw [HQS.out, HWORN.out]; rfl
  have HWq : Hid (Held w11 F11 w10.heap.size (bkL Q) 24) := by have := HW11.out; rw [HQD.out] at this; exact this
  obtain ⟨q0, q1, q2, q3, q4, q5, q6, qf0, qf1, qf2, qf3, qf4, qf5, qf6⟩ := cells7 HX11.out.blk
  have qlt := HX11.out.blk.lt
  obtain ⟨u0, u1, u2, u3, u4, u5, u6, uf0, uf1, uf2, uf3, uf4, uf5, uf6⟩ := cells7 HWq.out.blk
  have ult := HWq.out.blk.lt
  go_wp2
  go_ret
  exact ⟨rfl, (L11.out.alloc _).bel⟩
end Go.Proofs.Ytcdefadeaiklbab
