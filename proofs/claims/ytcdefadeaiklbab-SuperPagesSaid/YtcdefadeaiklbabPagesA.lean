/- SuperPages, case by case. -/
import Derived.Test.YtcdefadeaiklbabPages
set_option linter.unusedVariables false
set_option linter.unusedSimpArgs false
namespace Go.Proofs.Ytcdefadeaiklbab
open Go.RowKit Go.Deep Math

set_option maxRecDepth 8000 in
set_option maxHeartbeats 2000000 in
theorem p_000 (a b : Bk) (hfa : a.fits) (hfb : b.fits) (w : World) :
    Calls Try.prog 3 #[.agg #[.int .u64 a.seq, .int .u64 a.epoch, .int .u64 a.res, .int .u64 a.hor, .int .u64 a.gen, .bool a.clean, .int .i64 a.image], .agg #[.int .u64 b.seq, .int .u64 b.epoch, .int .u64 b.res, .int .u64 b.hor, .int .u64 b.gen, .bool b.clean, .int .i64 b.image], .bool false, .bool false, .bool false] w fun e w' => e = .returned (.bool true) ∧ Below w.heap.size w w' := by
  have ca : Hid (∀ W : World, Calls Try.prog 4 #[] W fun e w' => e = .returned (.bool true) ∧ Below W.heap.size W w') := awake_any
  have cN : Hid (∀ W : World, Calls Try.prog 5 #[.int .i64 2] W fun e W' => ∃ d F, e = .returned (.tuple #[.pointer (some ⟨d, 0, none⟩), .int .i64 0]) ∧ Law W d F (Dv.fresh 2) W' ∧ Below W.heap.size W W') := fun W => new_law (Below.refl _ _) 2 (by omega) (by omega)
  obtain ⟨y, hy⟩ : ∃ y : Bk, y = b := ⟨_, rfl⟩
  have hfy : y.fits := by rw [hy]; exact hfb
  have hys : y.seq = b.seq := by rw [hy]
  have FA := hide hfa
  have FY := hide hfy
  have HY := hide hy
  have cEa := hide (encode_any a hfa)
  have cEy := hide (encode_any y hfy)
  clear hfa hfb hfy hys hy
  go_enter Try.func3, Try.ntmps3
  go_wp2_with fail
  refine (ca.out _).mono ?_
  rintro r w1 ⟨rfl, h1⟩
  have B0 : Below w.heap.size w ((w.alloc (.cells #[.int .u64 a.seq, .int .u64 a.epoch, .int .u64 a.res, .int .u64 a.hor, .int .u64 a.gen, .bool a.clean, .int .i64 a.image] 24)).alloc (.cells #[.int .u64 b.seq, .int .u64 b.epoch, .int .u64 b.res, .int .u64 b.hor, .int .u64 b.gen, .bool b.clean, .int .i64 b.image] 24)) := ((Below.refl w.heap.size w).alloc (Nat.le_refl _) _).alloc (by rw [nblk_alloc]; omega) _
  have B1 := hide (B0.trans (h1.mono B0.size))
  have ba : Blk ((w.alloc (.cells #[.int .u64 a.seq, .int .u64 a.epoch, .int .u64 a.res, .int .u64 a.hor, .int .u64 a.gen, .bool a.clean, .int .i64 a.image] 24)).alloc (.cells #[.int .u64 b.seq, .int .u64 b.epoch, .int .u64 b.res, .int .u64 b.hor, .int .u64 b.gen, .bool b.clean, .int .i64 b.image] 24)) w.heap.size (bkL a) 24 := (Blk.new w (bkL a) 24).alloc _
  have bb : Blk ((w.alloc (.cells #[.int .u64 a.seq, .int .u64 a.epoch, .int .u64 a.res, .int .u64 a.hor, .int .u64 a.gen, .bool a.clean, .int .i64 a.image] 24)).alloc (.cells #[.int .u64 b.seq, .int .u64 b.epoch, .int .u64 b.res, .int .u64 b.hor, .int .u64 b.gen, .bool b.clean, .int .i64 b.image] 24)) (w.heap.size + 1) (bkL b) 24 := by
    have := Blk.new (w.alloc (.cells #[.int .u64 a.seq, .int .u64 a.epoch, .int .u64 a.res, .int .u64 a.hor, .int .u64 a.gen, .bool a.clean, .int .i64 a.image] 24)) (bkL b) 24
    rw [nblk_alloc] at this
    exact this
  have HA1 := hide (ba.same (h1.block _ ba.lt))
  have HB1 := hide (bb.same (h1.block _ bb.lt))
  clear h1 ca ba bb B0
  go_wp2_with fail
  refine (cN.out _).mono ?_
  rintro r w2 ⟨d, F2, rfl, hl, hbel⟩
  have L2 := hide (law_base hl B1.out)
  have HA2 : Hid (Held w2 F2 w.heap.size (bkL a) 24) := ⟨HA1.out.same (hbel.block _ HA1.out.lt), fun hf => by have := hl.low _ hf; have := HA1.out.lt; omega⟩
  have HB2 : Hid (Held w2 F2 (w.heap.size + 1) (bkL b) 24) := ⟨HB1.out.same (hbel.block _ HB1.out.lt), fun hf => by have := hl.low _ hf; have := HB1.out.lt; omega⟩
  clear hl hbel B1 HA1 HB1 cN
  obtain ⟨x0, x1, x2, x3, x4, x5, x6, xf0, xf1, xf2, xf3, xf4, xf5, xf6⟩ := cells7 HA2.out.blk
  have xlt := HA2.out.blk.lt
  obtain ⟨v0, v1, v2, v3, v4, v5, v6, vf0, vf1, vf2, vf3, vf4, vf5, vf6⟩ := cells7 HB2.out.blk
  have vlt := HB2.out.blk.lt
  go_wp2_with fail
  clear x0 x1 x2 x3 x4 x5 x6 xf0 xf1 xf2 xf3 xf4 xf5 xf6 xlt
  clear v0 v1 v2 v3 v4 v5 v6 vf0 vf1 vf2 vf3 vf4 vf5 vf6 vlt
  obtain rfl : y = b := HY.out
  have T0 := hide (Two.fresh 2 (by omega))
  have R0 : Hid ((Dv.fresh 2).armed = 0) := rfl
  have TZ : Hid (Two (Dv.fresh 2) (none) (none)) := T0.out
  have cL : Hid (Calls Try.prog 8 #[.pointer (some ⟨d, 0, none⟩)] w2 fun e W' => e = .returned (.tuple #[.agg #[.int .u64 0, .int .u64 0, .int .u64 0, .int .u64 0, .int .u64 0, .bool false, .int .i64 0], .int .i64 5]) ∧ ∃ S', Law w d F2 S' W' ∧ Two S' (none) (none) ∧ S'.armed = 0 ∧ Moves F2 F2 w2 W') := by
    have := load_two L2.out TZ.out
    refine this.mono (fun e W' ⟨h1, S', h2, h3, h4, h5⟩ => ⟨h1, S', h2, h3, by rw [h4]; exact R0.out, h5⟩)
  refine cL.out.mono ?_
  rintro r w3 ⟨rfl, S3, hl, ht, har, hm⟩
  have L3 := hide hl
  have HA3 := hide (HA2.out.move hm)
  have HB3 := hide (HB2.out.move hm)
  have TL := hide ht
  have RL := hide har
  clear ht har
  clear hl hm
  clear HA2 HB2 L2
  clear cL TZ
  go_wp2
  go_ret
  exact ⟨rfl, (L3.out.alloc _).bel⟩
set_option maxRecDepth 8000 in
set_option maxHeartbeats 2000000 in
theorem p_010n (a b : Bk) (hfa : a.fits) (hfb : b.fits) (hworn : ¬ a.seq = 18446744073709551615) (w : World) :
    Calls Try.prog 3 #[.agg #[.int .u64 a.seq, .int .u64 a.epoch, .int .u64 a.res, .int .u64 a.hor, .int .u64 a.gen, .bool a.clean, .int .i64 a.image], .agg #[.int .u64 b.seq, .int .u64 b.epoch, .int .u64 b.res, .int .u64 b.hor, .int .u64 b.gen, .bool b.clean, .int .i64 b.image], .bool false, .bool true, .bool false] w fun e w' => e = .returned (.bool true) ∧ Below w.heap.size w w' := by
  have ca : Hid (∀ W : World, Calls Try.prog 4 #[] W fun e w' => e = .returned (.bool true) ∧ Below W.heap.size W w') := awake_any
  have cN : Hid (∀ W : World, Calls Try.prog 5 #[.int .i64 2] W fun e W' => ∃ d F, e = .returned (.tuple #[.pointer (some ⟨d, 0, none⟩), .int .i64 0]) ∧ Law W d F (Dv.fresh 2) W' ∧ Below W.heap.size W W') := fun W => new_law (Below.refl _ _) 2 (by omega) (by omega)
  obtain ⟨y, hy⟩ : ∃ y : Bk, y = b := ⟨_, rfl⟩
  have hfy : y.fits := by rw [hy]; exact hfb
  have hys : y.seq = b.seq := by rw [hy]
  have FA := hide hfa
  have FY := hide hfy
  have HY := hide hy
  have cEa := hide (encode_any a hfa)
  have cEy := hide (encode_any y hfy)
  have HWORN := hide hworn
  clear hfa hfb hfy hys hy hworn
  go_enter Try.func3, Try.ntmps3
  go_wp2_with fail
  refine (ca.out _).mono ?_
  rintro r w1 ⟨rfl, h1⟩
  have B0 : Below w.heap.size w ((w.alloc (.cells #[.int .u64 a.seq, .int .u64 a.epoch, .int .u64 a.res, .int .u64 a.hor, .int .u64 a.gen, .bool a.clean, .int .i64 a.image] 24)).alloc (.cells #[.int .u64 b.seq, .int .u64 b.epoch, .int .u64 b.res, .int .u64 b.hor, .int .u64 b.gen, .bool b.clean, .int .i64 b.image] 24)) := ((Below.refl w.heap.size w).alloc (Nat.le_refl _) _).alloc (by rw [nblk_alloc]; omega) _
  have B1 := hide (B0.trans (h1.mono B0.size))
  have ba : Blk ((w.alloc (.cells #[.int .u64 a.seq, .int .u64 a.epoch, .int .u64 a.res, .int .u64 a.hor, .int .u64 a.gen, .bool a.clean, .int .i64 a.image] 24)).alloc (.cells #[.int .u64 b.seq, .int .u64 b.epoch, .int .u64 b.res, .int .u64 b.hor, .int .u64 b.gen, .bool b.clean, .int .i64 b.image] 24)) w.heap.size (bkL a) 24 := (Blk.new w (bkL a) 24).alloc _
  have bb : Blk ((w.alloc (.cells #[.int .u64 a.seq, .int .u64 a.epoch, .int .u64 a.res, .int .u64 a.hor, .int .u64 a.gen, .bool a.clean, .int .i64 a.image] 24)).alloc (.cells #[.int .u64 b.seq, .int .u64 b.epoch, .int .u64 b.res, .int .u64 b.hor, .int .u64 b.gen, .bool b.clean, .int .i64 b.image] 24)) (w.heap.size + 1) (bkL b) 24 := by
    have := Blk.new (w.alloc (.cells #[.int .u64 a.seq, .int .u64 a.epoch, .int .u64 a.res, .int .u64 a.hor, .int .u64 a.gen, .bool a.clean, .int .i64 a.image] 24)) (bkL b) 24
    rw [nblk_alloc] at this
    exact this
  have HA1 := hide (ba.same (h1.block _ ba.lt))
  have HB1 := hide (bb.same (h1.block _ bb.lt))
  clear h1 ca ba bb B0
  go_wp2_with fail
  refine (cN.out _).mono ?_
  rintro r w2 ⟨d, F2, rfl, hl, hbel⟩
  have L2 := hide (law_base hl B1.out)
  have HA2 : Hid (Held w2 F2 w.heap.size (bkL a) 24) := ⟨HA1.out.same (hbel.block _ HA1.out.lt), fun hf => by have := hl.low _ hf; have := HA1.out.lt; omega⟩
  have HB2 : Hid (Held w2 F2 (w.heap.size + 1) (bkL b) 24) := ⟨HB1.out.same (hbel.block _ HB1.out.lt), fun hf => by have := hl.low _ hf; have := HB1.out.lt; omega⟩
  clear hl hbel B1 HA1 HB1 cN
  obtain ⟨x0, x1, x2, x3, x4, x5, x6, xf0, xf1, xf2, xf3, xf4, xf5, xf6⟩ := cells7 HA2.out.blk
  have xlt := HA2.out.blk.lt
  obtain ⟨v0, v1, v2, v3, v4, v5, v6, vf0, vf1, vf2, vf3, vf4, vf5, vf6⟩ := cells7 HB2.out.blk
  have vlt := HB2.out.blk.lt
  go_wp2_with fail
  clear x0 x1 x2 x3 x4 x5 x6 xf0 xf1 xf2 xf3 xf4 xf5 xf6 xlt
  clear v0 v1 v2 v3 v4 v5 v6 vf0 vf1 vf2 vf3 vf4 vf5 vf6 vlt
  obtain rfl : y = b := HY.out
  have T0 := hide (Two.fresh 2 (by omega))
  have R0 : Hid ((Dv.fresh 2).armed = 0) := rfl
  refine (cEa.out _).mono ?_
  rintro r w3 ⟨g3, rfl, hg, hbuf, hbel⟩
  have L3 := hide (L2.out.below hbel)
  have HA3 := hide (HA2.out.below hbel)
  have HB3 := hide (HB2.out.below hbel)
  have BU3 := hide hbuf
  have NG3 : Hid (g3 ∉ F2) := fun hf => by have := L3.out.dev.lt _ hf; have := L2.out.dev.lt _ hf; omega
  clear hg hbuf
  clear hbel
  clear HA2 HB2 L2
  go_wp2_with fail
  refine (write_two L3.out T0.out R0.out 0 (by omega) a FA.out g3 BU3.out NG3.out).mono ?_
  rintro r w4 ⟨rfl, F4, S4, hl, ht, har, hm⟩
  have L4 := hide hl
  have HA4 := hide (HA3.out.move hm)
  have HB4 := hide (HB3.out.move hm)
  have T4 := hide ht
  have R4 := hide har
  clear ht har
  clear hl hm
  clear HA3 HB3 L3
  clear BU3 NG3
  have TZ : Hid (Two S4 (some a.told) (none)) := T4.out
  obtain ⟨Q, hQ⟩ : ∃ Q : Bk, Q = a.told := ⟨_, rfl⟩
  have hnew : newer (some a.told) (none) = some Q := by rw [hQ]; rfl
  have hQs : Q.seq = a.seq := by rw [hQ]; rfl
  have hlast : lastS (some a.told) (none) = Q.seq := by unfold lastS; rw [hnew]
  have hQf : Q.fits := by rw [hQ]; exact told_fits _ FA.out
  have HQ := hide hQ
  have HNEW := hide hnew
  have HQS := hide hQs
  have HLAST := hide hlast
  have HQF := hide hQf
  clear hQ hnew hQs hlast hQf
  go_wp2_with fail
  have cL : Hid (Calls Try.prog 8 #[.pointer (some ⟨d, 0, none⟩)] w4 fun e W' => e = .returned (.tuple #[.agg #[.int .u64 Q.seq, .int .u64 Q.epoch, .int .u64 Q.res, .int .u64 Q.hor, .int .u64 Q.gen, .bool Q.clean, .int .i64 Q.image], .int .i64 0]) ∧ ∃ S', Law w d F4 S' W' ∧ Two S' (some a.told) (none) ∧ S'.armed = 0 ∧ Moves F4 F4 w4 W') := by
    have := load_two L4.out TZ.out
    rw [HNEW.out] at this
    refine this.mono (fun e W' ⟨h1, S', h2, h3, h4, h5⟩ => ⟨h1, S', h2, h3, by rw [h4]; exact R4.out, h5⟩)
  refine cL.out.mono ?_
  rintro r w5 ⟨rfl, S5, hl, ht, har, hm⟩
  have L5 := hide hl
  have HA5 := hide (HA4.out.move hm)
  have HB5 := hide (HB4.out.move hm)
  have TL := hide ht
  have RL := hide har
  clear ht har
  clear hl hm
  clear HA4 HB4 L4
  clear cL TZ
  obtain ⟨x0, x1, x2, x3, x4, x5, x6, xf0, xf1, xf2, xf3, xf4, xf5, xf6⟩ := cells7 HA5.out.blk
  have xlt := HA5.out.blk.lt
  obtain ⟨v0, v1, v2, v3, v4, v5, v6, vf0, vf1, vf2, vf3, vf4, vf5, vf6⟩ := cells7 HB5.out.blk
  have vlt := HB5.out.blk.lt
  go_wp2_with fail
  clear x0 x1 x2 x3 x4 x5 x6 xf0 xf1 xf2 xf3 xf4 xf5 xf6 xlt
  clear v0 v1 v2 v3 v4 v5 v6 vf0 vf1 vf2 vf3 vf4 vf5 vf6 vlt
  refine (cEa.out _).mono ?_
  rintro r w6 ⟨g6, rfl, hg, hbuf, hbel⟩
  have L6 := hide ((L5.out.alloc (.cells #[.int .u64 Q.seq, .int .u64 Q.epoch, .int .u64 Q.res, .int .u64 Q.hor, .int .u64 Q.gen, .bool Q.clean, .int .i64 Q.image] 24)).below hbel)
  have HA6 := hide ((HA5.out.alloc (.cells #[.int .u64 Q.seq, .int .u64 Q.epoch, .int .u64 Q.res, .int .u64 Q.hor, .int .u64 Q.gen, .bool Q.clean, .int .i64 Q.image] 24)).below hbel)
  have HB6 := hide ((HB5.out.alloc (.cells #[.int .u64 Q.seq, .int .u64 Q.epoch, .int .u64 Q.res, .int .u64 Q.hor, .int .u64 Q.gen, .bool Q.clean, .int .i64 Q.image] 24)).below hbel)
  have HX6 := hide ((L5.out.hold (bkL Q) 24).below hbel)
  have BU6 := hide hbuf
  clear hg hbuf
  clear hbel
  clear HA5 HB5 L5
  go_wp2_with fail
  obtain ⟨D7, hD7⟩ : ∃ D : Bk, D = a.told := ⟨_, rfl⟩
  have cD : Hid (Calls Try.prog 9 #[.slice (some ⟨g6, 0, none⟩) 64 64] w6 fun e w' => e = .returned (.tuple #[.agg #[.int .u64 D7.seq, .int .u64 D7.epoch, .int .u64 D7.res, .int .u64 D7.hor, .int .u64 D7.gen, .bool D7.clean, .int .i64 D7.image], .int .i64 0]) ∧ Below w6.heap.size w6 w') := by rw [hD7]; exact enc_dec a FA.out BU6.out
  have HD7 := hide hD7
  clear hD7
  refine cD.out.mono ?_
  rintro r w7 ⟨rfl, hbel⟩
  have L7 := hide (L6.out.below hbel)
  have HA7 := hide (HA6.out.below hbel)
  have HB7 := hide (HB6.out.below hbel)
  have HX7 := hide (HX6.out.below hbel)
  clear hbel
  clear HA6 HB6 HX6 L6
  clear cD BU6
  obtain ⟨x0, x1, x2, x3, x4, x5, x6, xf0, xf1, xf2, xf3, xf4, xf5, xf6⟩ := cells7 HA7.out.blk
  have xlt := HA7.out.blk.lt
  obtain ⟨v0, v1, v2, v3, v4, v5, v6, vf0, vf1, vf2, vf3, vf4, vf5, vf6⟩ := cells7 HB7.out.blk
  have vlt := HB7.out.blk.lt
  go_wp2_with fail
  clear x0 x1 x2 x3 x4 x5 x6 xf0 xf1 xf2 xf3 xf4 xf5 xf6 xlt
  clear v0 v1 v2 v3 v4 v5 v6 vf0 vf1 vf2 vf3 vf4 vf5 vf6 vlt
  have HQD : Hid (D7 = Q) := HD7.out.trans HQ.out.symm
  obtain ⟨M, hM⟩ : ∃ M, M = nxt (some a.told) (none) a := ⟨_, rfl⟩
  have HM := hide hM
  have cS : Hid (Calls Try.prog 10 #[.pointer (some ⟨d, 0, none⟩), .agg #[.int .u64 a.seq, .int .u64 a.epoch, .int .u64 a.res, .int .u64 a.hor, .int .u64 a.gen, .bool a.clean, .int .i64 a.image]] (w7.alloc (.cells #[.int .u64 D7.seq, .int .u64 D7.epoch, .int .u64 D7.res, .int .u64 D7.hor, .int .u64 D7.gen, .bool D7.clean, .int .i64 D7.image] 24)) fun e W' => e = .returned (.tuple #[.agg #[.int .u64 M.seq, .int .u64 M.epoch, .int .u64 M.res, .int .u64 M.hor, .int .u64 M.gen, .bool M.clean, .int .i64 M.image], .int .i64 0]) ∧ ∃ F' S', Law w d F' S' W' ∧ Two S' (if M.seq % 2 = 0 then some M else some a.told) (if M.seq % 2 = 1 then some M else none) ∧ S'.armed = 0 ∧ Moves F4 F' (w7.alloc (.cells #[.int .u64 D7.seq, .int .u64 D7.epoch, .int .u64 D7.res, .int .u64 D7.hor, .int .u64 D7.gen, .bool D7.clean, .int .i64 D7.image] 24)) W') := by rw [hM]; exact store_two (L7.out.alloc (.cells #[.int .u64 D7.seq, .int .u64 D7.epoch, .int .u64 D7.res, .int .u64 D7.hor, .int .u64 D7.gen, .bool D7.clean, .int .i64 D7.image] 24)) TL.out RL.out a FA.out (by rw [HLAST.out, HQS.out]; exact HWORN.out)
  have hMs : M.seq = Q.seq + 1 := by rw [hM]; show lastS _ _ + 1 = _; rw [HLAST.out]
  have HMS := hide hMs
  clear hM hMs
  refine cS.out.mono ?_
  rintro r w8 ⟨rfl, F8, S8, hl, ht, har, hm⟩
  have L8 := hide hl
  have HA8 := hide ((HA7.out.alloc (.cells #[.int .u64 D7.seq, .int .u64 D7.epoch, .int .u64 D7.res, .int .u64 D7.hor, .int .u64 D7.gen, .bool D7.clean, .int .i64 D7.image] 24)).move hm)
  have HB8 := hide ((HB7.out.alloc (.cells #[.int .u64 D7.seq, .int .u64 D7.epoch, .int .u64 D7.res, .int .u64 D7.hor, .int .u64 D7.gen, .bool D7.clean, .int .i64 D7.image] 24)).move hm)
  have HX8 := hide ((HX7.out.alloc (.cells #[.int .u64 D7.seq, .int .u64 D7.epoch, .int .u64 D7.res, .int .u64 D7.hor, .int .u64 D7.gen, .bool D7.clean, .int .i64 D7.image] 24)).move hm)
  have HW8 := hide ((L7.out.hold (bkL D7) 24).move hm)
  have TM := hide ht
  clear ht har
  clear hl hm
  clear HA7 HB7 HX7 L7
  clear cS
  have hqq : ((Q.seq : Int) == 18446744073709551615) = false := by
    have : ¬ (Q.seq : Int) = 18446744073709551615 := by have := HWORN.out; rw [HQS.out]; omega
    simpa using this
  have HWq : Hid (Held w8 F8 w7.heap.size (bkL Q) 24) := by have := HW8.out; rw [HQD.out] at this; exact this
  obtain ⟨q0, q1, q2, q3, q4, q5, q6, qf0, qf1, qf2, qf3, qf4, qf5, qf6⟩ := cells7 HX8.out.blk
  have qlt := HX8.out.blk.lt
  obtain ⟨u0, u1, u2, u3, u4, u5, u6, uf0, uf1, uf2, uf3, uf4, uf5, uf6⟩ := cells7 HWq.out.blk
  have ult := HWq.out.blk.lt
  go_wp2_with fail
  clear q0 q1 q2 q3 q4 q5 q6 qf0 qf1 qf2 qf3 qf4 qf5 qf6 qlt
  clear u0 u1 u2 u3 u4 u5 u6 uf0 uf1 uf2 uf3 uf4 uf5 uf6 ult
  have cL2 : Hid (Calls Try.prog 8 #[.pointer (some ⟨d, 0, none⟩)] (w8.alloc (.cells #[.int .u64 M.seq, .int .u64 M.epoch, .int .u64 M.res, .int .u64 M.hor, .int .u64 M.gen, .bool M.clean, .int .i64 M.image] 24)) fun e W' => e = .returned (.tuple #[.agg #[.int .u64 M.seq, .int .u64 M.epoch, .int .u64 M.res, .int .u64 M.hor, .int .u64 M.gen, .bool M.clean, .int .i64 M.image], .int .i64 0]) ∧ ∃ S', Law w d F8 S' W' ∧ Moves F8 F8 (w8.alloc (.cells #[.int .u64 M.seq, .int .u64 M.epoch, .int .u64 M.res, .int .u64 M.hor, .int .u64 M.gen, .bool M.clean, .int .i64 M.image] 24)) W') := by
    have := load_two (L8.out.alloc (.cells #[.int .u64 M.seq, .int .u64 M.epoch, .int .u64 M.res, .int .u64 M.hor, .int .u64 M.gen, .bool M.clean, .int .i64 M.image] 24)) TM.out
    rw [newer_next (by rw [HMS.out, HLAST.out])] at this
    refine this.mono (fun e W' ⟨h1, S', h2, h3, h4, h5⟩ => ⟨h1, S', h2, h5⟩)
  refine cL2.out.mono ?_
  rintro r w9 ⟨rfl, S9, hl, hm⟩
  have L9 := hide hl
  have HA9 := hide ((HA8.out.alloc (.cells #[.int .u64 M.seq, .int .u64 M.epoch, .int .u64 M.res, .int .u64 M.hor, .int .u64 M.gen, .bool M.clean, .int .i64 M.image] 24)).move hm)
  have HB9 := hide ((HB8.out.alloc (.cells #[.int .u64 M.seq, .int .u64 M.epoch, .int .u64 M.res, .int .u64 M.hor, .int .u64 M.gen, .bool M.clean, .int .i64 M.image] 24)).move hm)
  have HX9 := hide ((HX8.out.alloc (.cells #[.int .u64 M.seq, .int .u64 M.epoch, .int .u64 M.res, .int .u64 M.hor, .int .u64 M.gen, .bool M.clean, .int .i64 M.image] 24)).move hm)
  have HW9 := hide ((HWq.out.alloc (.cells #[.int .u64 M.seq, .int .u64 M.epoch, .int .u64 M.res, .int .u64 M.hor, .int .u64 M.gen, .bool M.clean, .int .i64 M.image] 24)).move hm)
  have HY9 := hide ((L8.out.hold (bkL M) 24).move hm)
  clear hl hm
  clear HA8 HB8 HX8 HWq L8
  clear cL2
  obtain ⟨q0, q1, q2, q3, q4, q5, q6, qf0, qf1, qf2, qf3, qf4, qf5, qf6⟩ := cells7 HX9.out.blk
  have qlt := HX9.out.blk.lt
  obtain ⟨u0, u1, u2, u3, u4, u5, u6, uf0, uf1, uf2, uf3, uf4, uf5, uf6⟩ := cells7 HW9.out.blk
  have ult := HW9.out.blk.lt
  obtain ⟨t0, t1, t2, t3, t4, t5, t6, tf0, tf1, tf2, tf3, tf4, tf5, tf6⟩ := cells7 HY9.out.blk
  have tlt := HY9.out.blk.lt
  have hws : IntKind.u64.wrap ((Q.seq : Int) + 1) = (M.seq : Int) := by rw [IntKind.wrap_u64, HMS.out]; have := HWORN.out; have := HQF.out.seq; have := HQS.out; omega
  go_wp2
  go_ret
  exact ⟨rfl, (L9.out.alloc _).bel⟩
set_option maxRecDepth 8000 in
set_option maxHeartbeats 2000000 in
theorem p_001n (a b : Bk) (hfa : a.fits) (hfb : b.fits) (hworn : ¬ b.seq = 18446744073709551615) (w : World) :
    Calls Try.prog 3 #[.agg #[.int .u64 a.seq, .int .u64 a.epoch, .int .u64 a.res, .int .u64 a.hor, .int .u64 a.gen, .bool a.clean, .int .i64 a.image], .agg #[.int .u64 b.seq, .int .u64 b.epoch, .int .u64 b.res, .int .u64 b.hor, .int .u64 b.gen, .bool b.clean, .int .i64 b.image], .bool false, .bool false, .bool true] w fun e w' => e = .returned (.bool true) ∧ Below w.heap.size w w' := by
  have ca : Hid (∀ W : World, Calls Try.prog 4 #[] W fun e w' => e = .returned (.bool true) ∧ Below W.heap.size W w') := awake_any
  have cN : Hid (∀ W : World, Calls Try.prog 5 #[.int .i64 2] W fun e W' => ∃ d F, e = .returned (.tuple #[.pointer (some ⟨d, 0, none⟩), .int .i64 0]) ∧ Law W d F (Dv.fresh 2) W' ∧ Below W.heap.size W W') := fun W => new_law (Below.refl _ _) 2 (by omega) (by omega)
  obtain ⟨y, hy⟩ : ∃ y : Bk, y = b := ⟨_, rfl⟩
  have hfy : y.fits := by rw [hy]; exact hfb
  have hys : y.seq = b.seq := by rw [hy]
  replace hworn : ¬ y.seq = 18446744073709551615 := by rw [hys]; exact hworn
  have FA := hide hfa
  have FY := hide hfy
  have HY := hide hy
  have cEa := hide (encode_any a hfa)
  have cEy := hide (encode_any y hfy)
  have HWORN := hide hworn
  clear hfa hfb hfy hys hy hworn
  go_enter Try.func3, Try.ntmps3
  go_wp2_with fail
  refine (ca.out _).mono ?_
  rintro r w1 ⟨rfl, h1⟩
  have B0 : Below w.heap.size w ((w.alloc (.cells #[.int .u64 a.seq, .int .u64 a.epoch, .int .u64 a.res, .int .u64 a.hor, .int .u64 a.gen, .bool a.clean, .int .i64 a.image] 24)).alloc (.cells #[.int .u64 b.seq, .int .u64 b.epoch, .int .u64 b.res, .int .u64 b.hor, .int .u64 b.gen, .bool b.clean, .int .i64 b.image] 24)) := ((Below.refl w.heap.size w).alloc (Nat.le_refl _) _).alloc (by rw [nblk_alloc]; omega) _
  have B1 := hide (B0.trans (h1.mono B0.size))
  have ba : Blk ((w.alloc (.cells #[.int .u64 a.seq, .int .u64 a.epoch, .int .u64 a.res, .int .u64 a.hor, .int .u64 a.gen, .bool a.clean, .int .i64 a.image] 24)).alloc (.cells #[.int .u64 b.seq, .int .u64 b.epoch, .int .u64 b.res, .int .u64 b.hor, .int .u64 b.gen, .bool b.clean, .int .i64 b.image] 24)) w.heap.size (bkL a) 24 := (Blk.new w (bkL a) 24).alloc _
  have bb : Blk ((w.alloc (.cells #[.int .u64 a.seq, .int .u64 a.epoch, .int .u64 a.res, .int .u64 a.hor, .int .u64 a.gen, .bool a.clean, .int .i64 a.image] 24)).alloc (.cells #[.int .u64 b.seq, .int .u64 b.epoch, .int .u64 b.res, .int .u64 b.hor, .int .u64 b.gen, .bool b.clean, .int .i64 b.image] 24)) (w.heap.size + 1) (bkL b) 24 := by
    have := Blk.new (w.alloc (.cells #[.int .u64 a.seq, .int .u64 a.epoch, .int .u64 a.res, .int .u64 a.hor, .int .u64 a.gen, .bool a.clean, .int .i64 a.image] 24)) (bkL b) 24
    rw [nblk_alloc] at this
    exact this
  have HA1 := hide (ba.same (h1.block _ ba.lt))
  have HB1 := hide (bb.same (h1.block _ bb.lt))
  clear h1 ca ba bb B0
  go_wp2_with fail
  refine (cN.out _).mono ?_
  rintro r w2 ⟨d, F2, rfl, hl, hbel⟩
  have L2 := hide (law_base hl B1.out)
  have HA2 : Hid (Held w2 F2 w.heap.size (bkL a) 24) := ⟨HA1.out.same (hbel.block _ HA1.out.lt), fun hf => by have := hl.low _ hf; have := HA1.out.lt; omega⟩
  have HB2 : Hid (Held w2 F2 (w.heap.size + 1) (bkL b) 24) := ⟨HB1.out.same (hbel.block _ HB1.out.lt), fun hf => by have := hl.low _ hf; have := HB1.out.lt; omega⟩
  clear hl hbel B1 HA1 HB1 cN
  obtain ⟨x0, x1, x2, x3, x4, x5, x6, xf0, xf1, xf2, xf3, xf4, xf5, xf6⟩ := cells7 HA2.out.blk
  have xlt := HA2.out.blk.lt
  obtain ⟨v0, v1, v2, v3, v4, v5, v6, vf0, vf1, vf2, vf3, vf4, vf5, vf6⟩ := cells7 HB2.out.blk
  have vlt := HB2.out.blk.lt
  go_wp2_with fail
  clear x0 x1 x2 x3 x4 x5 x6 xf0 xf1 xf2 xf3 xf4 xf5 xf6 xlt
  clear v0 v1 v2 v3 v4 v5 v6 vf0 vf1 vf2 vf3 vf4 vf5 vf6 vlt
  obtain rfl : y = b := HY.out
  have T0 := hide (Two.fresh 2 (by omega))
  have R0 : Hid ((Dv.fresh 2).armed = 0) := rfl
  refine (cEy.out _).mono ?_
  rintro r w3 ⟨g3, rfl, hg, hbuf, hbel⟩
  have L3 := hide (L2.out.below hbel)
  have HA3 := hide (HA2.out.below hbel)
  have HB3 := hide (HB2.out.below hbel)
  have BU3 := hide hbuf
  have NG3 : Hid (g3 ∉ F2) := fun hf => by have := L3.out.dev.lt _ hf; have := L2.out.dev.lt _ hf; omega
  clear hg hbuf
  clear hbel
  clear HA2 HB2 L2
  go_wp2_with fail
  refine (write_two L3.out T0.out R0.out 1 (by omega) y FY.out g3 BU3.out NG3.out).mono ?_
  rintro r w4 ⟨rfl, F4, S4, hl, ht, har, hm⟩
  have L4 := hide hl
  have HA4 := hide (HA3.out.move hm)
  have HB4 := hide (HB3.out.move hm)
  have T4 := hide ht
  have R4 := hide har
  clear ht har
  clear hl hm
  clear HA3 HB3 L3
  clear BU3 NG3
  have TZ : Hid (Two S4 (none) (some y.told)) := T4.out
  obtain ⟨Q, hQ⟩ : ∃ Q : Bk, Q = y.told := ⟨_, rfl⟩
  have hnew : newer (none) (some y.told) = some Q := by rw [hQ]; rfl
  have hQs : Q.seq = y.seq := by rw [hQ]; rfl
  have hlast : lastS (none) (some y.told) = Q.seq := by unfold lastS; rw [hnew]
  have hQf : Q.fits := by rw [hQ]; exact told_fits _ FY.out
  have HQ := hide hQ
  have HNEW := hide hnew
  have HQS := hide hQs
  have HLAST := hide hlast
  have HQF := hide hQf
  clear hQ hnew hQs hlast hQf
  go_wp2_with fail
  have cL : Hid (Calls Try.prog 8 #[.pointer (some ⟨d, 0, none⟩)] w4 fun e W' => e = .returned (.tuple #[.agg #[.int .u64 Q.seq, .int .u64 Q.epoch, .int .u64 Q.res, .int .u64 Q.hor, .int .u64 Q.gen, .bool Q.clean, .int .i64 Q.image], .int .i64 0]) ∧ ∃ S', Law w d F4 S' W' ∧ Two S' (none) (some y.told) ∧ S'.armed = 0 ∧ Moves F4 F4 w4 W') := by
    have := load_two L4.out TZ.out
    rw [HNEW.out] at this
    refine this.mono (fun e W' ⟨h1, S', h2, h3, h4, h5⟩ => ⟨h1, S', h2, h3, by rw [h4]; exact R4.out, h5⟩)
  refine cL.out.mono ?_
  rintro r w5 ⟨rfl, S5, hl, ht, har, hm⟩
  have L5 := hide hl
  have HA5 := hide (HA4.out.move hm)
  have HB5 := hide (HB4.out.move hm)
  have TL := hide ht
  have RL := hide har
  clear ht har
  clear hl hm
  clear HA4 HB4 L4
  clear cL TZ
  obtain ⟨x0, x1, x2, x3, x4, x5, x6, xf0, xf1, xf2, xf3, xf4, xf5, xf6⟩ := cells7 HA5.out.blk
  have xlt := HA5.out.blk.lt
  obtain ⟨v0, v1, v2, v3, v4, v5, v6, vf0, vf1, vf2, vf3, vf4, vf5, vf6⟩ := cells7 HB5.out.blk
  have vlt := HB5.out.blk.lt
  go_wp2_with fail
  clear x0 x1 x2 x3 x4 x5 x6 xf0 xf1 xf2 xf3 xf4 xf5 xf6 xlt
  clear v0 v1 v2 v3 v4 v5 v6 vf0 vf1 vf2 vf3 vf4 vf5 vf6 vlt
  refine (cEa.out _).mono ?_
  rintro r w6 ⟨g6, rfl, hg, hbuf, hbel⟩
  have L6 := hide ((L5.out.alloc (.cells #[.int .u64 Q.seq, .int .u64 Q.epoch, .int .u64 Q.res, .int .u64 Q.hor, .int .u64 Q.gen, .bool Q.clean, .int .i64 Q.image] 24)).below hbel)
  have HA6 := hide ((HA5.out.alloc (.cells #[.int .u64 Q.seq, .int .u64 Q.epoch, .int .u64 Q.res, .int .u64 Q.hor, .int .u64 Q.gen, .bool Q.clean, .int .i64 Q.image] 24)).below hbel)
  have HB6 := hide ((HB5.out.alloc (.cells #[.int .u64 Q.seq, .int .u64 Q.epoch, .int .u64 Q.res, .int .u64 Q.hor, .int .u64 Q.gen, .bool Q.clean, .int .i64 Q.image] 24)).below hbel)
  have HX6 := hide ((L5.out.hold (bkL Q) 24).below hbel)
  have BU6 := hide hbuf
  clear hg hbuf
  clear hbel
  clear HA5 HB5 L5
  go_wp2_with fail
  obtain ⟨D7, hD7⟩ : ∃ D : Bk, D = a.told := ⟨_, rfl⟩
  have cD : Hid (Calls Try.prog 9 #[.slice (some ⟨g6, 0, none⟩) 64 64] w6 fun e w' => e = .returned (.tuple #[.agg #[.int .u64 D7.seq, .int .u64 D7.epoch, .int .u64 D7.res, .int .u64 D7.hor, .int .u64 D7.gen, .bool D7.clean, .int .i64 D7.image], .int .i64 0]) ∧ Below w6.heap.size w6 w') := by rw [hD7]; exact enc_dec a FA.out BU6.out
  have HD7 := hide hD7
  clear hD7
  refine cD.out.mono ?_
  rintro r w7 ⟨rfl, hbel⟩
  have L7 := hide (L6.out.below hbel)
  have HA7 := hide (HA6.out.below hbel)
  have HB7 := hide (HB6.out.below hbel)
  have HX7 := hide (HX6.out.below hbel)
  clear hbel
  clear HA6 HB6 HX6 L6
  clear cD BU6
  have NEA : Hid (w.heap.size ≠ w7.heap.size) := by show _ ≠ _; have h1 := HA7.out.blk.lt; omega
  have NEB : Hid ((w.heap.size + 1) ≠ w7.heap.size) := by show _ ≠ _; have h1 := HB7.out.blk.lt; omega
  have NEX : Hid (w5.heap.size ≠ w7.heap.size) := by show _ ≠ _; have h1 := HX7.out.blk.lt; omega
  have LB : Hid (w.heap.size ≤ w7.heap.size) := L7.out.bel.size
  obtain ⟨x0, x1, x2, x3, x4, x5, x6, xf0, xf1, xf2, xf3, xf4, xf5, xf6⟩ := cells7 HA7.out.blk
  have xlt := HA7.out.blk.lt
  obtain ⟨v0, v1, v2, v3, v4, v5, v6, vf0, vf1, vf2, vf3, vf4, vf5, vf6⟩ := cells7 HB7.out.blk
  have vlt := HB7.out.blk.lt
  go_wp2_with fail
  clear x0 x1 x2 x3 x4 x5 x6 xf0 xf1 xf2 xf3 xf4 xf5 xf6 xlt
  clear v0 v1 v2 v3 v4 v5 v6 vf0 vf1 vf2 vf3 vf4 vf5 vf6 vlt
  refine (cEy.out _).mono ?_
  rintro r w8 ⟨g8, rfl, hg, hbuf, hbel⟩
  have L8 := hide ((L7.out.alloc (.cells #[.int .u64 D7.seq, .int .u64 D7.epoch, .int .u64 D7.res, .int .u64 D7.hor, .int .u64 D7.gen, .bool D7.clean, .int .i64 D7.image] 24)).below hbel)
  have HA8 := hide ((HA7.out.alloc (.cells #[.int .u64 D7.seq, .int .u64 D7.epoch, .int .u64 D7.res, .int .u64 D7.hor, .int .u64 D7.gen, .bool D7.clean, .int .i64 D7.image] 24)).below hbel)
  have HB8 := hide ((HB7.out.alloc (.cells #[.int .u64 D7.seq, .int .u64 D7.epoch, .int .u64 D7.res, .int .u64 D7.hor, .int .u64 D7.gen, .bool D7.clean, .int .i64 D7.image] 24)).below hbel)
  have HX8 := hide ((HX7.out.alloc (.cells #[.int .u64 D7.seq, .int .u64 D7.epoch, .int .u64 D7.res, .int .u64 D7.hor, .int .u64 D7.gen, .bool D7.clean, .int .i64 D7.image] 24)).below hbel)
  have HW8 := hide ((L7.out.hold (bkL D7) 24).below hbel)
  have BU8 := hide hbuf
  clear hg hbuf
  clear hbel
  clear HA7 HB7 HX7 L7
  go_wp2_with fail
  obtain ⟨D9, hD9⟩ : ∃ D : Bk, D = y.told := ⟨_, rfl⟩
  have cD : Hid (Calls Try.prog 9 #[.slice (some ⟨g8, 0, none⟩) 64 64] w8 fun e w' => e = .returned (.tuple #[.agg #[.int .u64 D9.seq, .int .u64 D9.epoch, .int .u64 D9.res, .int .u64 D9.hor, .int .u64 D9.gen, .bool D9.clean, .int .i64 D9.image], .int .i64 0]) ∧ Below w8.heap.size w8 w') := by rw [hD9]; exact enc_dec y FY.out BU8.out
  have HD9 := hide hD9
  clear hD9
  refine cD.out.mono ?_
  rintro r w9 ⟨rfl, hbel⟩
  have L9 := hide (L8.out.below hbel)
  have HA9 := hide (HA8.out.below hbel)
  have HB9 := hide (HB8.out.below hbel)
  have HX9 := hide (HX8.out.below hbel)
  have HW9 := hide (HW8.out.below hbel)
  clear hbel
  clear HA8 HB8 HX8 HW8 L8
  clear cD BU8
  have neA : w.heap.size ≠ w7.heap.size := NEA.out
  have nfA := Ne.symm neA
  have neB : (w.heap.size + 1) ≠ w7.heap.size := NEB.out
  have nfB := Ne.symm neB
  have neX : w5.heap.size ≠ w7.heap.size := NEX.out
  have nfX := Ne.symm neX
  obtain ⟨x0, x1, x2, x3, x4, x5, x6, xf0, xf1, xf2, xf3, xf4, xf5, xf6⟩ := cells7 HA9.out.blk
  have xlt := HA9.out.blk.lt
  obtain ⟨u0, u1, u2, u3, u4, u5, u6, uf0, uf1, uf2, uf3, uf4, uf5, uf6⟩ := cells7 HW9.out.blk
  have ult := HW9.out.blk.lt
  go_wp2_with fail
  clear x0 x1 x2 x3 x4 x5 x6 xf0 xf1 xf2 xf3 xf4 xf5 xf6 xlt
  clear u0 u1 u2 u3 u4 u5 u6 uf0 uf1 uf2 uf3 uf4 uf5 uf6 ult
  have h0 : w.heap.size ≤ w7.heap.size := LB.out
  generalize hW : ((((((w9.setCell ⟨w7.heap.size, 0, none⟩ (.int .u64 D9.seq)).setCell ⟨w7.heap.size, 1, none⟩ (.int .u64 D9.epoch)).setCell ⟨w7.heap.size, 2, none⟩ (.int .u64 D9.res)).setCell ⟨w7.heap.size, 3, none⟩ (.int .u64 D9.hor)).setCell ⟨w7.heap.size, 4, none⟩ (.int .u64 D9.gen)).setCell ⟨w7.heap.size, 5, none⟩ (.bool D9.clean)).setCell ⟨w7.heap.size, 6, none⟩ (.int .i64 D9.image) = w10
  have L10 : Hid (Law w d F4 S5 w10) := by rw [← hW]; exact ⟨put7_dv L9.out.dev HW9.out.off D9, L9.out.low, ((((((L9.out.bel.setCell h0 _).setCell h0 _).setCell h0 _).setCell h0 _).setCell h0 _).setCell h0 _).setCell h0 _⟩
  have HA10 : Hid (Held w10 F4 w.heap.size (bkL a) 24) := by rw [← hW]; exact ⟨HA9.out.blk.same (put7_far _ _ _ _ neA), HA9.out.off⟩
  have HB10 : Hid (Held w10 F4 (w.heap.size + 1) (bkL y) 24) := by rw [← hW]; exact ⟨HB9.out.blk.same (put7_far _ _ _ _ neB), HB9.out.off⟩
  have HX10 : Hid (Held w10 F4 w5.heap.size (bkL Q) 24) := by rw [← hW]; exact ⟨HX9.out.blk.same (put7_far _ _ _ _ neX), HX9.out.off⟩
  have HW10 : Hid (Held w10 F4 w7.heap.size (bkL D9) 24) := by rw [← hW]; exact ⟨put7_blk HW9.out.blk D9, HW9.out.off⟩
  clear hW neA neB neX nfA nfB nfX
  have HQD : Hid (D9 = Q) := HD9.out.trans HQ.out.symm
  obtain ⟨M, hM⟩ : ∃ M, M = nxt (none) (some y.told) a := ⟨_, rfl⟩
  have HM := hide hM
  have cS : Hid (Calls Try.prog 10 #[.pointer (some ⟨d, 0, none⟩), .agg #[.int .u64 a.seq, .int .u64 a.epoch, .int .u64 a.res, .int .u64 a.hor, .int .u64 a.gen, .bool a.clean, .int .i64 a.image]] w10 fun e W' => e = .returned (.tuple #[.agg #[.int .u64 M.seq, .int .u64 M.epoch, .int .u64 M.res, .int .u64 M.hor, .int .u64 M.gen, .bool M.clean, .int .i64 M.image], .int .i64 0]) ∧ ∃ F' S', Law w d F' S' W' ∧ Two S' (if M.seq % 2 = 0 then some M else none) (if M.seq % 2 = 1 then some M else some y.told) ∧ S'.armed = 0 ∧ Moves F4 F' w10 W') := by rw [hM]; exact store_two L10.out TL.out RL.out a FA.out (by rw [HLAST.out, HQS.out]; exact HWORN.out)
  have hMs : M.seq = Q.seq + 1 := by rw [hM]; show lastS _ _ + 1 = _; rw [HLAST.out]
  have HMS := hide hMs
  clear hM hMs
  refine cS.out.mono ?_
  rintro r w11 ⟨rfl, F11, S11, hl, ht, har, hm⟩
  have L11 := hide hl
  have HA11 := hide (HA10.out.move hm)
  have HB11 := hide (HB10.out.move hm)
  have HX11 := hide (HX10.out.move hm)
  have HW11 := hide (HW10.out.move hm)
  have TM := hide ht
  clear ht har
  clear hl hm
  clear HA10 HB10 HX10 HW10 L10
  clear cS
  have hqq : ((Q.seq : Int) == 18446744073709551615) = false := by
    have : ¬ (Q.seq : Int) = 18446744073709551615 := by have := HWORN.out; rw [HQS.out]; omega
    simpa using this
  have HWq : Hid (Held w11 F11 w7.heap.size (bkL Q) 24) := by have := HW11.out; rw [HQD.out] at this; exact this
  obtain ⟨q0, q1, q2, q3, q4, q5, q6, qf0, qf1, qf2, qf3, qf4, qf5, qf6⟩ := cells7 HX11.out.blk
  have qlt := HX11.out.blk.lt
  obtain ⟨u0, u1, u2, u3, u4, u5, u6, uf0, uf1, uf2, uf3, uf4, uf5, uf6⟩ := cells7 HWq.out.blk
  have ult := HWq.out.blk.lt
  go_wp2_with fail
  clear q0 q1 q2 q3 q4 q5 q6 qf0 qf1 qf2 qf3 qf4 qf5 qf6 qlt
  clear u0 u1 u2 u3 u4 u5 u6 uf0 uf1 uf2 uf3 uf4 uf5 uf6 ult
  have cL2 : Hid (Calls Try.prog 8 #[.pointer (some ⟨d, 0, none⟩)] (w11.alloc (.cells #[.int .u64 M.seq, .int .u64 M.epoch, .int .u64 M.res, .int .u64 M.hor, .int .u64 M.gen, .bool M.clean, .int .i64 M.image] 24)) fun e W' => e = .returned (.tuple #[.agg #[.int .u64 M.seq, .int .u64 M.epoch, .int .u64 M.res, .int .u64 M.hor, .int .u64 M.gen, .bool M.clean, .int .i64 M.image], .int .i64 0]) ∧ ∃ S', Law w d F11 S' W' ∧ Moves F11 F11 (w11.alloc (.cells #[.int .u64 M.seq, .int .u64 M.epoch, .int .u64 M.res, .int .u64 M.hor, .int .u64 M.gen, .bool M.clean, .int .i64 M.image] 24)) W') := by
    have := load_two (L11.out.alloc (.cells #[.int .u64 M.seq, .int .u64 M.epoch, .int .u64 M.res, .int .u64 M.hor, .int .u64 M.gen, .bool M.clean, .int .i64 M.image] 24)) TM.out
    rw [newer_next (by rw [HMS.out, HLAST.out])] at this
    refine this.mono (fun e W' ⟨h1, S', h2, h3, h4, h5⟩ => ⟨h1, S', h2, h5⟩)
  refine cL2.out.mono ?_
  rintro r w12 ⟨rfl, S12, hl, hm⟩
  have L12 := hide hl
  have HA12 := hide ((HA11.out.alloc (.cells #[.int .u64 M.seq, .int .u64 M.epoch, .int .u64 M.res, .int .u64 M.hor, .int .u64 M.gen, .bool M.clean, .int .i64 M.image] 24)).move hm)
  have HB12 := hide ((HB11.out.alloc (.cells #[.int .u64 M.seq, .int .u64 M.epoch, .int .u64 M.res, .int .u64 M.hor, .int .u64 M.gen, .bool M.clean, .int .i64 M.image] 24)).move hm)
  have HX12 := hide ((HX11.out.alloc (.cells #[.int .u64 M.seq, .int .u64 M.epoch, .int .u64 M.res, .int .u64 M.hor, .int .u64 M.gen, .bool M.clean, .int .i64 M.image] 24)).move hm)
  have HW12 := hide ((HWq.out.alloc (.cells #[.int .u64 M.seq, .int .u64 M.epoch, .int .u64 M.res, .int .u64 M.hor, .int .u64 M.gen, .bool M.clean, .int .i64 M.image] 24)).move hm)
  have HY12 := hide ((L11.out.hold (bkL M) 24).move hm)
  clear hl hm
  clear HA11 HB11 HX11 HWq L11
  clear cL2
  obtain ⟨q0, q1, q2, q3, q4, q5, q6, qf0, qf1, qf2, qf3, qf4, qf5, qf6⟩ := cells7 HX12.out.blk
  have qlt := HX12.out.blk.lt
  obtain ⟨u0, u1, u2, u3, u4, u5, u6, uf0, uf1, uf2, uf3, uf4, uf5, uf6⟩ := cells7 HW12.out.blk
  have ult := HW12.out.blk.lt
  obtain ⟨t0, t1, t2, t3, t4, t5, t6, tf0, tf1, tf2, tf3, tf4, tf5, tf6⟩ := cells7 HY12.out.blk
  have tlt := HY12.out.blk.lt
  have hws : IntKind.u64.wrap ((Q.seq : Int) + 1) = (M.seq : Int) := by rw [IntKind.wrap_u64, HMS.out]; have := HWORN.out; have := HQF.out.seq; have := HQS.out; omega
  go_wp2
  go_ret
  exact ⟨rfl, (L12.out.alloc _).bel⟩
set_option maxRecDepth 8000 in
set_option maxHeartbeats 2000000 in
theorem p_011ln (a b : Bk) (hfa : a.fits) (hfb : b.fits) (hlt :  a.seq < b.seq) (hworn : ¬ b.seq = 18446744073709551615) (w : World) :
    Calls Try.prog 3 #[.agg #[.int .u64 a.seq, .int .u64 a.epoch, .int .u64 a.res, .int .u64 a.hor, .int .u64 a.gen, .bool a.clean, .int .i64 a.image], .agg #[.int .u64 b.seq, .int .u64 b.epoch, .int .u64 b.res, .int .u64 b.hor, .int .u64 b.gen, .bool b.clean, .int .i64 b.image], .bool false, .bool true, .bool true] w fun e w' => e = .returned (.bool true) ∧ Below w.heap.size w w' := by
  have ca : Hid (∀ W : World, Calls Try.prog 4 #[] W fun e w' => e = .returned (.bool true) ∧ Below W.heap.size W w') := awake_any
  have cN : Hid (∀ W : World, Calls Try.prog 5 #[.int .i64 2] W fun e W' => ∃ d F, e = .returned (.tuple #[.pointer (some ⟨d, 0, none⟩), .int .i64 0]) ∧ Law W d F (Dv.fresh 2) W' ∧ Below W.heap.size W W') := fun W => new_law (Below.refl _ _) 2 (by omega) (by omega)
  obtain ⟨y, hy⟩ : ∃ y : Bk, y = b := ⟨_, rfl⟩
  have hfy : y.fits := by rw [hy]; exact hfb
  have hys : y.seq = b.seq := by rw [hy]
  replace hlt :  a.seq < y.seq := by rw [hys]; exact hlt
  replace hworn : ¬ y.seq = 18446744073709551615 := by rw [hys]; exact hworn
  have FA := hide hfa
  have FY := hide hfy
  have HY := hide hy
  have cEa := hide (encode_any a hfa)
  have cEy := hide (encode_any y hfy)
  have HLT := hide hlt
  have hlti : ((a.seq : Int) < (y.seq : Int)) = True := eq_true (by omega)
  have HWORN := hide hworn
  clear hfa hfb hfy hys hy hlt hworn
  go_enter Try.func3, Try.ntmps3
  go_wp2_with fail
  refine (ca.out _).mono ?_
  rintro r w1 ⟨rfl, h1⟩
  have B0 : Below w.heap.size w ((w.alloc (.cells #[.int .u64 a.seq, .int .u64 a.epoch, .int .u64 a.res, .int .u64 a.hor, .int .u64 a.gen, .bool a.clean, .int .i64 a.image] 24)).alloc (.cells #[.int .u64 b.seq, .int .u64 b.epoch, .int .u64 b.res, .int .u64 b.hor, .int .u64 b.gen, .bool b.clean, .int .i64 b.image] 24)) := ((Below.refl w.heap.size w).alloc (Nat.le_refl _) _).alloc (by rw [nblk_alloc]; omega) _
  have B1 := hide (B0.trans (h1.mono B0.size))
  have ba : Blk ((w.alloc (.cells #[.int .u64 a.seq, .int .u64 a.epoch, .int .u64 a.res, .int .u64 a.hor, .int .u64 a.gen, .bool a.clean, .int .i64 a.image] 24)).alloc (.cells #[.int .u64 b.seq, .int .u64 b.epoch, .int .u64 b.res, .int .u64 b.hor, .int .u64 b.gen, .bool b.clean, .int .i64 b.image] 24)) w.heap.size (bkL a) 24 := (Blk.new w (bkL a) 24).alloc _
  have bb : Blk ((w.alloc (.cells #[.int .u64 a.seq, .int .u64 a.epoch, .int .u64 a.res, .int .u64 a.hor, .int .u64 a.gen, .bool a.clean, .int .i64 a.image] 24)).alloc (.cells #[.int .u64 b.seq, .int .u64 b.epoch, .int .u64 b.res, .int .u64 b.hor, .int .u64 b.gen, .bool b.clean, .int .i64 b.image] 24)) (w.heap.size + 1) (bkL b) 24 := by
    have := Blk.new (w.alloc (.cells #[.int .u64 a.seq, .int .u64 a.epoch, .int .u64 a.res, .int .u64 a.hor, .int .u64 a.gen, .bool a.clean, .int .i64 a.image] 24)) (bkL b) 24
    rw [nblk_alloc] at this
    exact this
  have HA1 := hide (ba.same (h1.block _ ba.lt))
  have HB1 := hide (bb.same (h1.block _ bb.lt))
  clear h1 ca ba bb B0
  go_wp2_with fail
  refine (cN.out _).mono ?_
  rintro r w2 ⟨d, F2, rfl, hl, hbel⟩
  have L2 := hide (law_base hl B1.out)
  have HA2 : Hid (Held w2 F2 w.heap.size (bkL a) 24) := ⟨HA1.out.same (hbel.block _ HA1.out.lt), fun hf => by have := hl.low _ hf; have := HA1.out.lt; omega⟩
  have HB2 : Hid (Held w2 F2 (w.heap.size + 1) (bkL b) 24) := ⟨HB1.out.same (hbel.block _ HB1.out.lt), fun hf => by have := hl.low _ hf; have := HB1.out.lt; omega⟩
  clear hl hbel B1 HA1 HB1 cN
  obtain ⟨x0, x1, x2, x3, x4, x5, x6, xf0, xf1, xf2, xf3, xf4, xf5, xf6⟩ := cells7 HA2.out.blk
  have xlt := HA2.out.blk.lt
  obtain ⟨v0, v1, v2, v3, v4, v5, v6, vf0, vf1, vf2, vf3, vf4, vf5, vf6⟩ := cells7 HB2.out.blk
  have vlt := HB2.out.blk.lt
  go_wp2_with fail
  clear x0 x1 x2 x3 x4 x5 x6 xf0 xf1 xf2 xf3 xf4 xf5 xf6 xlt
  clear v0 v1 v2 v3 v4 v5 v6 vf0 vf1 vf2 vf3 vf4 vf5 vf6 vlt
  obtain rfl : y = b := HY.out
  have T0 := hide (Two.fresh 2 (by omega))
  have R0 : Hid ((Dv.fresh 2).armed = 0) := rfl
  refine (cEa.out _).mono ?_
  rintro r w3 ⟨g3, rfl, hg, hbuf, hbel⟩
  have L3 := hide (L2.out.below hbel)
  have HA3 := hide (HA2.out.below hbel)
  have HB3 := hide (HB2.out.below hbel)
  have BU3 := hide hbuf
  have NG3 : Hid (g3 ∉ F2) := fun hf => by have := L3.out.dev.lt _ hf; have := L2.out.dev.lt _ hf; omega
  clear hg hbuf
  clear hbel
  clear HA2 HB2 L2
  go_wp2_with fail
  refine (write_two L3.out T0.out R0.out 0 (by omega) a FA.out g3 BU3.out NG3.out).mono ?_
  rintro r w4 ⟨rfl, F4, S4, hl, ht, har, hm⟩
  have L4 := hide hl
  have HA4 := hide (HA3.out.move hm)
  have HB4 := hide (HB3.out.move hm)
  have T4 := hide ht
  have R4 := hide har
  clear ht har
  clear hl hm
  clear HA3 HB3 L3
  clear BU3 NG3
  obtain ⟨x0, x1, x2, x3, x4, x5, x6, xf0, xf1, xf2, xf3, xf4, xf5, xf6⟩ := cells7 HA4.out.blk
  have xlt := HA4.out.blk.lt
  obtain ⟨v0, v1, v2, v3, v4, v5, v6, vf0, vf1, vf2, vf3, vf4, vf5, vf6⟩ := cells7 HB4.out.blk
  have vlt := HB4.out.blk.lt
  go_wp2_with fail
  clear x0 x1 x2 x3 x4 x5 x6 xf0 xf1 xf2 xf3 xf4 xf5 xf6 xlt
  clear v0 v1 v2 v3 v4 v5 v6 vf0 vf1 vf2 vf3 vf4 vf5 vf6 vlt
  refine (cEy.out _).mono ?_
  rintro r w5 ⟨g5, rfl, hg, hbuf, hbel⟩
  have L5 := hide (L4.out.below hbel)
  have HA5 := hide (HA4.out.below hbel)
  have HB5 := hide (HB4.out.below hbel)
  have BU5 := hide hbuf
  have NG5 : Hid (g5 ∉ F4) := fun hf => by have := L5.out.dev.lt _ hf; have := L4.out.dev.lt _ hf; omega
  clear hg hbuf
  clear hbel
  clear HA4 HB4 L4
  go_wp2_with fail
  refine (write_two L5.out T4.out R4.out 1 (by omega) y FY.out g5 BU5.out NG5.out).mono ?_
  rintro r w6 ⟨rfl, F6, S6, hl, ht, har, hm⟩
  have L6 := hide hl
  have HA6 := hide (HA5.out.move hm)
  have HB6 := hide (HB5.out.move hm)
  have T6 := hide ht
  have R6 := hide har
  clear ht har
  clear hl hm
  clear HA5 HB5 L5
  clear BU5 NG5
  have TZ : Hid (Two S6 (some a.told) (some y.told)) := T6.out
  obtain ⟨Q, hQ⟩ : ∃ Q : Bk, Q = y.told := ⟨_, rfl⟩
  have hnew : newer (some a.told) (some y.told) = some Q := by rw [hQ]; exact if_pos HLT.out
  have hQs : Q.seq = y.seq := by rw [hQ]; rfl
  have hlast : lastS (some a.told) (some y.told) = Q.seq := by unfold lastS; rw [hnew]
  have hQf : Q.fits := by rw [hQ]; exact told_fits _ FY.out
  have HQ := hide hQ
  have HNEW := hide hnew
  have HQS := hide hQs
  have HLAST := hide hlast
  have HQF := hide hQf
  clear hQ hnew hQs hlast hQf
  go_wp2_with fail
  have cL : Hid (Calls Try.prog 8 #[.pointer (some ⟨d, 0, none⟩)] w6 fun e W' => e = .returned (.tuple #[.agg #[.int .u64 Q.seq, .int .u64 Q.epoch, .int .u64 Q.res, .int .u64 Q.hor, .int .u64 Q.gen, .bool Q.clean, .int .i64 Q.image], .int .i64 0]) ∧ ∃ S', Law w d F6 S' W' ∧ Two S' (some a.told) (some y.told) ∧ S'.armed = 0 ∧ Moves F6 F6 w6 W') := by
    have := load_two L6.out TZ.out
    rw [HNEW.out] at this
    refine this.mono (fun e W' ⟨h1, S', h2, h3, h4, h5⟩ => ⟨h1, S', h2, h3, by rw [h4]; exact R6.out, h5⟩)
  refine cL.out.mono ?_
  rintro r w7 ⟨rfl, S7, hl, ht, har, hm⟩
  have L7 := hide hl
  have HA7 := hide (HA6.out.move hm)
  have HB7 := hide (HB6.out.move hm)
  have TL := hide ht
  have RL := hide har
  clear ht har
  clear hl hm
  clear HA6 HB6 L6
  clear cL TZ
  obtain ⟨x0, x1, x2, x3, x4, x5, x6, xf0, xf1, xf2, xf3, xf4, xf5, xf6⟩ := cells7 HA7.out.blk
  have xlt := HA7.out.blk.lt
  obtain ⟨v0, v1, v2, v3, v4, v5, v6, vf0, vf1, vf2, vf3, vf4, vf5, vf6⟩ := cells7 HB7.out.blk
  have vlt := HB7.out.blk.lt
  go_wp2_with fail
  clear x0 x1 x2 x3 x4 x5 x6 xf0 xf1 xf2 xf3 xf4 xf5 xf6 xlt
  clear v0 v1 v2 v3 v4 v5 v6 vf0 vf1 vf2 vf3 vf4 vf5 vf6 vlt
  refine (cEa.out _).mono ?_
  rintro r w8 ⟨g8, rfl, hg, hbuf, hbel⟩
  have L8 := hide ((L7.out.alloc (.cells #[.int .u64 Q.seq, .int .u64 Q.epoch, .int .u64 Q.res, .int .u64 Q.hor, .int .u64 Q.gen, .bool Q.clean, .int .i64 Q.image] 24)).below hbel)
  have HA8 := hide ((HA7.out.alloc (.cells #[.int .u64 Q.seq, .int .u64 Q.epoch, .int .u64 Q.res, .int .u64 Q.hor, .int .u64 Q.gen, .bool Q.clean, .int .i64 Q.image] 24)).below hbel)
  have HB8 := hide ((HB7.out.alloc (.cells #[.int .u64 Q.seq, .int .u64 Q.epoch, .int .u64 Q.res, .int .u64 Q.hor, .int .u64 Q.gen, .bool Q.clean, .int .i64 Q.image] 24)).below hbel)
  have HX8 := hide ((L7.out.hold (bkL Q) 24).below hbel)
  have BU8 := hide hbuf
  clear hg hbuf
  clear hbel
  clear HA7 HB7 L7
  go_wp2_with fail
  obtain ⟨D9, hD9⟩ : ∃ D : Bk, D = a.told := ⟨_, rfl⟩
  have cD : Hid (Calls Try.prog 9 #[.slice (some ⟨g8, 0, none⟩) 64 64] w8 fun e w' => e = .returned (.tuple #[.agg #[.int .u64 D9.seq, .int .u64 D9.epoch, .int .u64 D9.res, .int .u64 D9.hor, .int .u64 D9.gen, .bool D9.clean, .int .i64 D9.image], .int .i64 0]) ∧ Below w8.heap.size w8 w') := by rw [hD9]; exact enc_dec a FA.out BU8.out
  have HD9 := hide hD9
  clear hD9
  refine cD.out.mono ?_
  rintro r w9 ⟨rfl, hbel⟩
  have L9 := hide (L8.out.below hbel)
  have HA9 := hide (HA8.out.below hbel)
  have HB9 := hide (HB8.out.below hbel)
  have HX9 := hide (HX8.out.below hbel)
  clear hbel
  clear HA8 HB8 HX8 L8
  clear cD BU8
  have NEA : Hid (w.heap.size ≠ w9.heap.size) := by show _ ≠ _; have h1 := HA9.out.blk.lt; omega
  have NEB : Hid ((w.heap.size + 1) ≠ w9.heap.size) := by show _ ≠ _; have h1 := HB9.out.blk.lt; omega
  have NEX : Hid (w7.heap.size ≠ w9.heap.size) := by show _ ≠ _; have h1 := HX9.out.blk.lt; omega
  have LB : Hid (w.heap.size ≤ w9.heap.size) := L9.out.bel.size
  obtain ⟨x0, x1, x2, x3, x4, x5, x6, xf0, xf1, xf2, xf3, xf4, xf5, xf6⟩ := cells7 HA9.out.blk
  have xlt := HA9.out.blk.lt
  obtain ⟨v0, v1, v2, v3, v4, v5, v6, vf0, vf1, vf2, vf3, vf4, vf5, vf6⟩ := cells7 HB9.out.blk
  have vlt := HB9.out.blk.lt
  go_wp2_with fail
  clear x0 x1 x2 x3 x4 x5 x6 xf0 xf1 xf2 xf3 xf4 xf5 xf6 xlt
  clear v0 v1 v2 v3 v4 v5 v6 vf0 vf1 vf2 vf3 vf4 vf5 vf6 vlt
  refine (cEy.out _).mono ?_
  rintro r w10 ⟨g10, rfl, hg, hbuf, hbel⟩
  have L10 := hide ((L9.out.alloc (.cells #[.int .u64 D9.seq, .int .u64 D9.epoch, .int .u64 D9.res, .int .u64 D9.hor, .int .u64 D9.gen, .bool D9.clean, .int .i64 D9.image] 24)).below hbel)
  have HA10 := hide ((HA9.out.alloc (.cells #[.int .u64 D9.seq, .int .u64 D9.epoch, .int .u64 D9.res, .int .u64 D9.hor, .int .u64 D9.gen, .bool D9.clean, .int .i64 D9.image] 24)).below hbel)
  have HB10 := hide ((HB9.out.alloc (.cells #[.int .u64 D9.seq, .int .u64 D9.epoch, .int .u64 D9.res, .int .u64 D9.hor, .int .u64 D9.gen, .bool D9.clean, .int .i64 D9.image] 24)).below hbel)
  have HX10 := hide ((HX9.out.alloc (.cells #[.int .u64 D9.seq, .int .u64 D9.epoch, .int .u64 D9.res, .int .u64 D9.hor, .int .u64 D9.gen, .bool D9.clean, .int .i64 D9.image] 24)).below hbel)
  have HW10 := hide ((L9.out.hold (bkL D9) 24).below hbel)
  have BU10 := hide hbuf
  clear hg hbuf
  clear hbel
  clear HA9 HB9 HX9 L9
  go_wp2_with fail
  obtain ⟨D11, hD11⟩ : ∃ D : Bk, D = y.told := ⟨_, rfl⟩
  have cD : Hid (Calls Try.prog 9 #[.slice (some ⟨g10, 0, none⟩) 64 64] w10 fun e w' => e = .returned (.tuple #[.agg #[.int .u64 D11.seq, .int .u64 D11.epoch, .int .u64 D11.res, .int .u64 D11.hor, .int .u64 D11.gen, .bool D11.clean, .int .i64 D11.image], .int .i64 0]) ∧ Below w10.heap.size w10 w') := by rw [hD11]; exact enc_dec y FY.out BU10.out
  have HD11 := hide hD11
  clear hD11
  refine cD.out.mono ?_
  rintro r w11 ⟨rfl, hbel⟩
  have L11 := hide (L10.out.below hbel)
  have HA11 := hide (HA10.out.below hbel)
  have HB11 := hide (HB10.out.below hbel)
  have HX11 := hide (HX10.out.below hbel)
  have HW11 := hide (HW10.out.below hbel)
  clear hbel
  clear HA10 HB10 HX10 HW10 L10
  clear cD BU10
  have neA : w.heap.size ≠ w9.heap.size := NEA.out
  have nfA := Ne.symm neA
  have neB : (w.heap.size + 1) ≠ w9.heap.size := NEB.out
  have nfB := Ne.symm neB
  have neX : w7.heap.size ≠ w9.heap.size := NEX.out
  have nfX := Ne.symm neX
  obtain ⟨x0, x1, x2, x3, x4, x5, x6, xf0, xf1, xf2, xf3, xf4, xf5, xf6⟩ := cells7 HA11.out.blk
  have xlt := HA11.out.blk.lt
  obtain ⟨u0, u1, u2, u3, u4, u5, u6, uf0, uf1, uf2, uf3, uf4, uf5, uf6⟩ := cells7 HW11.out.blk
  have ult := HW11.out.blk.lt
  go_wp2_with fail
  clear x0 x1 x2 x3 x4 x5 x6 xf0 xf1 xf2 xf3 xf4 xf5 xf6 xlt
  clear u0 u1 u2 u3 u4 u5 u6 uf0 uf1 uf2 uf3 uf4 uf5 uf6 ult
  have h0 : w.heap.size ≤ w9.heap.size := LB.out
  generalize hW : ((((((w11.setCell ⟨w9.heap.size, 0, none⟩ (.int .u64 D11.seq)).setCell ⟨w9.heap.size, 1, none⟩ (.int .u64 D11.epoch)).setCell ⟨w9.heap.size, 2, none⟩ (.int .u64 D11.res)).setCell ⟨w9.heap.size, 3, none⟩ (.int .u64 D11.hor)).setCell ⟨w9.heap.size, 4, none⟩ (.int .u64 D11.gen)).setCell ⟨w9.heap.size, 5, none⟩ (.bool D11.clean)).setCell ⟨w9.heap.size, 6, none⟩ (.int .i64 D11.image) = w12
  have L12 : Hid (Law w d F6 S7 w12) := by rw [← hW]; exact ⟨put7_dv L11.out.dev HW11.out.off D11, L11.out.low, ((((((L11.out.bel.setCell h0 _).setCell h0 _).setCell h0 _).setCell h0 _).setCell h0 _).setCell h0 _).setCell h0 _⟩
  have HA12 : Hid (Held w12 F6 w.heap.size (bkL a) 24) := by rw [← hW]; exact ⟨HA11.out.blk.same (put7_far _ _ _ _ neA), HA11.out.off⟩
  have HB12 : Hid (Held w12 F6 (w.heap.size + 1) (bkL y) 24) := by rw [← hW]; exact ⟨HB11.out.blk.same (put7_far _ _ _ _ neB), HB11.out.off⟩
  have HX12 : Hid (Held w12 F6 w7.heap.size (bkL Q) 24) := by rw [← hW]; exact ⟨HX11.out.blk.same (put7_far _ _ _ _ neX), HX11.out.off⟩
  have HW12 : Hid (Held w12 F6 w9.heap.size (bkL D11) 24) := by rw [← hW]; exact ⟨put7_blk HW11.out.blk D11, HW11.out.off⟩
  clear hW neA neB neX nfA nfB nfX
  have HQD : Hid (D11 = Q) := HD11.out.trans HQ.out.symm
  obtain ⟨M, hM⟩ : ∃ M, M = nxt (some a.told) (some y.told) a := ⟨_, rfl⟩
  have HM := hide hM
  have cS : Hid (Calls Try.prog 10 #[.pointer (some ⟨d, 0, none⟩), .agg #[.int .u64 a.seq, .int .u64 a.epoch, .int .u64 a.res, .int .u64 a.hor, .int .u64 a.gen, .bool a.clean, .int .i64 a.image]] w12 fun e W' => e = .returned (.tuple #[.agg #[.int .u64 M.seq, .int .u64 M.epoch, .int .u64 M.res, .int .u64 M.hor, .int .u64 M.gen, .bool M.clean, .int .i64 M.image], .int .i64 0]) ∧ ∃ F' S', Law w d F' S' W' ∧ Two S' (if M.seq % 2 = 0 then some M else some a.told) (if M.seq % 2 = 1 then some M else some y.told) ∧ S'.armed = 0 ∧ Moves F6 F' w12 W') := by rw [hM]; exact store_two L12.out TL.out RL.out a FA.out (by rw [HLAST.out, HQS.out]; exact HWORN.out)
  have hMs : M.seq = Q.seq + 1 := by rw [hM]; show lastS _ _ + 1 = _; rw [HLAST.out]
  have HMS := hide hMs
  clear hM hMs
  refine cS.out.mono ?_
  rintro r w13 ⟨rfl, F13, S13, hl, ht, har, hm⟩
  have L13 := hide hl
  have HA13 := hide (HA12.out.move hm)
  have HB13 := hide (HB12.out.move hm)
  have HX13 := hide (HX12.out.move hm)
  have HW13 := hide (HW12.out.move hm)
  have TM := hide ht
  clear ht har
  clear hl hm
  clear HA12 HB12 HX12 HW12 L12
  clear cS
  have hqq : ((Q.seq : Int) == 18446744073709551615) = false := by
    have : ¬ (Q.seq : Int) = 18446744073709551615 := by have := HWORN.out; rw [HQS.out]; omega
    simpa using this
  have HWq : Hid (Held w13 F13 w9.heap.size (bkL Q) 24) := by have := HW13.out; rw [HQD.out] at this; exact this
  obtain ⟨q0, q1, q2, q3, q4, q5, q6, qf0, qf1, qf2, qf3, qf4, qf5, qf6⟩ := cells7 HX13.out.blk
  have qlt := HX13.out.blk.lt
  obtain ⟨u0, u1, u2, u3, u4, u5, u6, uf0, uf1, uf2, uf3, uf4, uf5, uf6⟩ := cells7 HWq.out.blk
  have ult := HWq.out.blk.lt
  go_wp2_with fail
  clear q0 q1 q2 q3 q4 q5 q6 qf0 qf1 qf2 qf3 qf4 qf5 qf6 qlt
  clear u0 u1 u2 u3 u4 u5 u6 uf0 uf1 uf2 uf3 uf4 uf5 uf6 ult
  have cL2 : Hid (Calls Try.prog 8 #[.pointer (some ⟨d, 0, none⟩)] (w13.alloc (.cells #[.int .u64 M.seq, .int .u64 M.epoch, .int .u64 M.res, .int .u64 M.hor, .int .u64 M.gen, .bool M.clean, .int .i64 M.image] 24)) fun e W' => e = .returned (.tuple #[.agg #[.int .u64 M.seq, .int .u64 M.epoch, .int .u64 M.res, .int .u64 M.hor, .int .u64 M.gen, .bool M.clean, .int .i64 M.image], .int .i64 0]) ∧ ∃ S', Law w d F13 S' W' ∧ Moves F13 F13 (w13.alloc (.cells #[.int .u64 M.seq, .int .u64 M.epoch, .int .u64 M.res, .int .u64 M.hor, .int .u64 M.gen, .bool M.clean, .int .i64 M.image] 24)) W') := by
    have := load_two (L13.out.alloc (.cells #[.int .u64 M.seq, .int .u64 M.epoch, .int .u64 M.res, .int .u64 M.hor, .int .u64 M.gen, .bool M.clean, .int .i64 M.image] 24)) TM.out
    rw [newer_next (by rw [HMS.out, HLAST.out])] at this
    refine this.mono (fun e W' ⟨h1, S', h2, h3, h4, h5⟩ => ⟨h1, S', h2, h5⟩)
  refine cL2.out.mono ?_
  rintro r w14 ⟨rfl, S14, hl, hm⟩
  have L14 := hide hl
  have HA14 := hide ((HA13.out.alloc (.cells #[.int .u64 M.seq, .int .u64 M.epoch, .int .u64 M.res, .int .u64 M.hor, .int .u64 M.gen, .bool M.clean, .int .i64 M.image] 24)).move hm)
  have HB14 := hide ((HB13.out.alloc (.cells #[.int .u64 M.seq, .int .u64 M.epoch, .int .u64 M.res, .int .u64 M.hor, .int .u64 M.gen, .bool M.clean, .int .i64 M.image] 24)).move hm)
  have HX14 := hide ((HX13.out.alloc (.cells #[.int .u64 M.seq, .int .u64 M.epoch, .int .u64 M.res, .int .u64 M.hor, .int .u64 M.gen, .bool M.clean, .int .i64 M.image] 24)).move hm)
  have HW14 := hide ((HWq.out.alloc (.cells #[.int .u64 M.seq, .int .u64 M.epoch, .int .u64 M.res, .int .u64 M.hor, .int .u64 M.gen, .bool M.clean, .int .i64 M.image] 24)).move hm)
  have HY14 := hide ((L13.out.hold (bkL M) 24).move hm)
  clear hl hm
  clear HA13 HB13 HX13 HWq L13
  clear cL2
  obtain ⟨q0, q1, q2, q3, q4, q5, q6, qf0, qf1, qf2, qf3, qf4, qf5, qf6⟩ := cells7 HX14.out.blk
  have qlt := HX14.out.blk.lt
  obtain ⟨u0, u1, u2, u3, u4, u5, u6, uf0, uf1, uf2, uf3, uf4, uf5, uf6⟩ := cells7 HW14.out.blk
  have ult := HW14.out.blk.lt
  obtain ⟨t0, t1, t2, t3, t4, t5, t6, tf0, tf1, tf2, tf3, tf4, tf5, tf6⟩ := cells7 HY14.out.blk
  have tlt := HY14.out.blk.lt
  have hws : IntKind.u64.wrap ((Q.seq : Int) + 1) = (M.seq : Int) := by rw [IntKind.wrap_u64, HMS.out]; have := HWORN.out; have := HQF.out.seq; have := HQS.out; omega
  go_wp2
  go_ret
  exact ⟨rfl, (L14.out.alloc _).bel⟩
set_option maxRecDepth 8000 in
set_option maxHeartbeats 2000000 in
theorem p_011gn (a b : Bk) (hfa : a.fits) (hfb : b.fits) (hlt : ¬ a.seq < b.seq) (hworn : ¬ a.seq = 18446744073709551615) (w : World) :
    Calls Try.prog 3 #[.agg #[.int .u64 a.seq, .int .u64 a.epoch, .int .u64 a.res, .int .u64 a.hor, .int .u64 a.gen, .bool a.clean, .int .i64 a.image], .agg #[.int .u64 b.seq, .int .u64 b.epoch, .int .u64 b.res, .int .u64 b.hor, .int .u64 b.gen, .bool b.clean, .int .i64 b.image], .bool false, .bool true, .bool true] w fun e w' => e = .returned (.bool true) ∧ Below w.heap.size w w' := by
  have ca : Hid (∀ W : World, Calls Try.prog 4 #[] W fun e w' => e = .returned (.bool true) ∧ Below W.heap.size W w') := awake_any
  have cN : Hid (∀ W : World, Calls Try.prog 5 #[.int .i64 2] W fun e W' => ∃ d F, e = .returned (.tuple #[.pointer (some ⟨d, 0, none⟩), .int .i64 0]) ∧ Law W d F (Dv.fresh 2) W' ∧ Below W.heap.size W W') := fun W => new_law (Below.refl _ _) 2 (by omega) (by omega)
  obtain ⟨y, hy⟩ : ∃ y : Bk, y = b := ⟨_, rfl⟩
  have hfy : y.fits := by rw [hy]; exact hfb
  have hys : y.seq = b.seq := by rw [hy]
  replace hlt : ¬ a.seq < y.seq := by rw [hys]; exact hlt
  have FA := hide hfa
  have FY := hide hfy
  have HY := hide hy
  have cEa := hide (encode_any a hfa)
  have cEy := hide (encode_any y hfy)
  have HLT := hide hlt
  have hlti : ((a.seq : Int) < (y.seq : Int)) = False := eq_false (by omega)
  have HWORN := hide hworn
  clear hfa hfb hfy hys hy hlt hworn
  go_enter Try.func3, Try.ntmps3
  go_wp2_with fail
  refine (ca.out _).mono ?_
  rintro r w1 ⟨rfl, h1⟩
  have B0 : Below w.heap.size w ((w.alloc (.cells #[.int .u64 a.seq, .int .u64 a.epoch, .int .u64 a.res, .int .u64 a.hor, .int .u64 a.gen, .bool a.clean, .int .i64 a.image] 24)).alloc (.cells #[.int .u64 b.seq, .int .u64 b.epoch, .int .u64 b.res, .int .u64 b.hor, .int .u64 b.gen, .bool b.clean, .int .i64 b.image] 24)) := ((Below.refl w.heap.size w).alloc (Nat.le_refl _) _).alloc (by rw [nblk_alloc]; omega) _
  have B1 := hide (B0.trans (h1.mono B0.size))
  have ba : Blk ((w.alloc (.cells #[.int .u64 a.seq, .int .u64 a.epoch, .int .u64 a.res, .int .u64 a.hor, .int .u64 a.gen, .bool a.clean, .int .i64 a.image] 24)).alloc (.cells #[.int .u64 b.seq, .int .u64 b.epoch, .int .u64 b.res, .int .u64 b.hor, .int .u64 b.gen, .bool b.clean, .int .i64 b.image] 24)) w.heap.size (bkL a) 24 := (Blk.new w (bkL a) 24).alloc _
  have bb : Blk ((w.alloc (.cells #[.int .u64 a.seq, .int .u64 a.epoch, .int .u64 a.res, .int .u64 a.hor, .int .u64 a.gen, .bool a.clean, .int .i64 a.image] 24)).alloc (.cells #[.int .u64 b.seq, .int .u64 b.epoch, .int .u64 b.res, .int .u64 b.hor, .int .u64 b.gen, .bool b.clean, .int .i64 b.image] 24)) (w.heap.size + 1) (bkL b) 24 := by
    have := Blk.new (w.alloc (.cells #[.int .u64 a.seq, .int .u64 a.epoch, .int .u64 a.res, .int .u64 a.hor, .int .u64 a.gen, .bool a.clean, .int .i64 a.image] 24)) (bkL b) 24
    rw [nblk_alloc] at this
    exact this
  have HA1 := hide (ba.same (h1.block _ ba.lt))
  have HB1 := hide (bb.same (h1.block _ bb.lt))
  clear h1 ca ba bb B0
  go_wp2_with fail
  refine (cN.out _).mono ?_
  rintro r w2 ⟨d, F2, rfl, hl, hbel⟩
  have L2 := hide (law_base hl B1.out)
  have HA2 : Hid (Held w2 F2 w.heap.size (bkL a) 24) := ⟨HA1.out.same (hbel.block _ HA1.out.lt), fun hf => by have := hl.low _ hf; have := HA1.out.lt; omega⟩
  have HB2 : Hid (Held w2 F2 (w.heap.size + 1) (bkL b) 24) := ⟨HB1.out.same (hbel.block _ HB1.out.lt), fun hf => by have := hl.low _ hf; have := HB1.out.lt; omega⟩
  clear hl hbel B1 HA1 HB1 cN
  obtain ⟨x0, x1, x2, x3, x4, x5, x6, xf0, xf1, xf2, xf3, xf4, xf5, xf6⟩ := cells7 HA2.out.blk
  have xlt := HA2.out.blk.lt
  obtain ⟨v0, v1, v2, v3, v4, v5, v6, vf0, vf1, vf2, vf3, vf4, vf5, vf6⟩ := cells7 HB2.out.blk
  have vlt := HB2.out.blk.lt
  go_wp2_with fail
  clear x0 x1 x2 x3 x4 x5 x6 xf0 xf1 xf2 xf3 xf4 xf5 xf6 xlt
  clear v0 v1 v2 v3 v4 v5 v6 vf0 vf1 vf2 vf3 vf4 vf5 vf6 vlt
  obtain rfl : y = b := HY.out
  have T0 := hide (Two.fresh 2 (by omega))
  have R0 : Hid ((Dv.fresh 2).armed = 0) := rfl
  refine (cEa.out _).mono ?_
  rintro r w3 ⟨g3, rfl, hg, hbuf, hbel⟩
  have L3 := hide (L2.out.below hbel)
  have HA3 := hide (HA2.out.below hbel)
  have HB3 := hide (HB2.out.below hbel)
  have BU3 := hide hbuf
  have NG3 : Hid (g3 ∉ F2) := fun hf => by have := L3.out.dev.lt _ hf; have := L2.out.dev.lt _ hf; omega
  clear hg hbuf
  clear hbel
  clear HA2 HB2 L2
  go_wp2_with fail
  refine (write_two L3.out T0.out R0.out 0 (by omega) a FA.out g3 BU3.out NG3.out).mono ?_
  rintro r w4 ⟨rfl, F4, S4, hl, ht, har, hm⟩
  have L4 := hide hl
  have HA4 := hide (HA3.out.move hm)
  have HB4 := hide (HB3.out.move hm)
  have T4 := hide ht
  have R4 := hide har
  clear ht har
  clear hl hm
  clear HA3 HB3 L3
  clear BU3 NG3
  obtain ⟨x0, x1, x2, x3, x4, x5, x6, xf0, xf1, xf2, xf3, xf4, xf5, xf6⟩ := cells7 HA4.out.blk
  have xlt := HA4.out.blk.lt
  obtain ⟨v0, v1, v2, v3, v4, v5, v6, vf0, vf1, vf2, vf3, vf4, vf5, vf6⟩ := cells7 HB4.out.blk
  have vlt := HB4.out.blk.lt
  go_wp2_with fail
  clear x0 x1 x2 x3 x4 x5 x6 xf0 xf1 xf2 xf3 xf4 xf5 xf6 xlt
  clear v0 v1 v2 v3 v4 v5 v6 vf0 vf1 vf2 vf3 vf4 vf5 vf6 vlt
  refine (cEy.out _).mono ?_
  rintro r w5 ⟨g5, rfl, hg, hbuf, hbel⟩
  have L5 := hide (L4.out.below hbel)
  have HA5 := hide (HA4.out.below hbel)
  have HB5 := hide (HB4.out.below hbel)
  have BU5 := hide hbuf
  have NG5 : Hid (g5 ∉ F4) := fun hf => by have := L5.out.dev.lt _ hf; have := L4.out.dev.lt _ hf; omega
  clear hg hbuf
  clear hbel
  clear HA4 HB4 L4
  go_wp2_with fail
  refine (write_two L5.out T4.out R4.out 1 (by omega) y FY.out g5 BU5.out NG5.out).mono ?_
  rintro r w6 ⟨rfl, F6, S6, hl, ht, har, hm⟩
  have L6 := hide hl
  have HA6 := hide (HA5.out.move hm)
  have HB6 := hide (HB5.out.move hm)
  have T6 := hide ht
  have R6 := hide har
  clear ht har
  clear hl hm
  clear HA5 HB5 L5
  clear BU5 NG5
  have TZ : Hid (Two S6 (some a.told) (some y.told)) := T6.out
  obtain ⟨Q, hQ⟩ : ∃ Q : Bk, Q = a.told := ⟨_, rfl⟩
  have hnew : newer (some a.told) (some y.told) = some Q := by rw [hQ]; exact if_neg HLT.out
  have hQs : Q.seq = a.seq := by rw [hQ]; rfl
  have hlast : lastS (some a.told) (some y.told) = Q.seq := by unfold lastS; rw [hnew]
  have hQf : Q.fits := by rw [hQ]; exact told_fits _ FA.out
  have HQ := hide hQ
  have HNEW := hide hnew
  have HQS := hide hQs
  have HLAST := hide hlast
  have HQF := hide hQf
  clear hQ hnew hQs hlast hQf
  go_wp2_with fail
  have cL : Hid (Calls Try.prog 8 #[.pointer (some ⟨d, 0, none⟩)] w6 fun e W' => e = .returned (.tuple #[.agg #[.int .u64 Q.seq, .int .u64 Q.epoch, .int .u64 Q.res, .int .u64 Q.hor, .int .u64 Q.gen, .bool Q.clean, .int .i64 Q.image], .int .i64 0]) ∧ ∃ S', Law w d F6 S' W' ∧ Two S' (some a.told) (some y.told) ∧ S'.armed = 0 ∧ Moves F6 F6 w6 W') := by
    have := load_two L6.out TZ.out
    rw [HNEW.out] at this
    refine this.mono (fun e W' ⟨h1, S', h2, h3, h4, h5⟩ => ⟨h1, S', h2, h3, by rw [h4]; exact R6.out, h5⟩)
  refine cL.out.mono ?_
  rintro r w7 ⟨rfl, S7, hl, ht, har, hm⟩
  have L7 := hide hl
  have HA7 := hide (HA6.out.move hm)
  have HB7 := hide (HB6.out.move hm)
  have TL := hide ht
  have RL := hide har
  clear ht har
  clear hl hm
  clear HA6 HB6 L6
  clear cL TZ
  obtain ⟨x0, x1, x2, x3, x4, x5, x6, xf0, xf1, xf2, xf3, xf4, xf5, xf6⟩ := cells7 HA7.out.blk
  have xlt := HA7.out.blk.lt
  obtain ⟨v0, v1, v2, v3, v4, v5, v6, vf0, vf1, vf2, vf3, vf4, vf5, vf6⟩ := cells7 HB7.out.blk
  have vlt := HB7.out.blk.lt
  go_wp2_with fail
  clear x0 x1 x2 x3 x4 x5 x6 xf0 xf1 xf2 xf3 xf4 xf5 xf6 xlt
  clear v0 v1 v2 v3 v4 v5 v6 vf0 vf1 vf2 vf3 vf4 vf5 vf6 vlt
  refine (cEa.out _).mono ?_
  rintro r w8 ⟨g8, rfl, hg, hbuf, hbel⟩
  have L8 := hide ((L7.out.alloc (.cells #[.int .u64 Q.seq, .int .u64 Q.epoch, .int .u64 Q.res, .int .u64 Q.hor, .int .u64 Q.gen, .bool Q.clean, .int .i64 Q.image] 24)).below hbel)
  have HA8 := hide ((HA7.out.alloc (.cells #[.int .u64 Q.seq, .int .u64 Q.epoch, .int .u64 Q.res, .int .u64 Q.hor, .int .u64 Q.gen, .bool Q.clean, .int .i64 Q.image] 24)).below hbel)
  have HB8 := hide ((HB7.out.alloc (.cells #[.int .u64 Q.seq, .int .u64 Q.epoch, .int .u64 Q.res, .int .u64 Q.hor, .int .u64 Q.gen, .bool Q.clean, .int .i64 Q.image] 24)).below hbel)
  have HX8 := hide ((L7.out.hold (bkL Q) 24).below hbel)
  have BU8 := hide hbuf
  clear hg hbuf
  clear hbel
  clear HA7 HB7 L7
  go_wp2_with fail
  obtain ⟨D9, hD9⟩ : ∃ D : Bk, D = a.told := ⟨_, rfl⟩
  have cD : Hid (Calls Try.prog 9 #[.slice (some ⟨g8, 0, none⟩) 64 64] w8 fun e w' => e = .returned (.tuple #[.agg #[.int .u64 D9.seq, .int .u64 D9.epoch, .int .u64 D9.res, .int .u64 D9.hor, .int .u64 D9.gen, .bool D9.clean, .int .i64 D9.image], .int .i64 0]) ∧ Below w8.heap.size w8 w') := by rw [hD9]; exact enc_dec a FA.out BU8.out
  have HD9 := hide hD9
  clear hD9
  refine cD.out.mono ?_
  rintro r w9 ⟨rfl, hbel⟩
  have L9 := hide (L8.out.below hbel)
  have HA9 := hide (HA8.out.below hbel)
  have HB9 := hide (HB8.out.below hbel)
  have HX9 := hide (HX8.out.below hbel)
  clear hbel
  clear HA8 HB8 HX8 L8
  clear cD BU8
  obtain ⟨x0, x1, x2, x3, x4, x5, x6, xf0, xf1, xf2, xf3, xf4, xf5, xf6⟩ := cells7 HA9.out.blk
  have xlt := HA9.out.blk.lt
  obtain ⟨v0, v1, v2, v3, v4, v5, v6, vf0, vf1, vf2, vf3, vf4, vf5, vf6⟩ := cells7 HB9.out.blk
  have vlt := HB9.out.blk.lt
  go_wp2_with fail
  clear x0 x1 x2 x3 x4 x5 x6 xf0 xf1 xf2 xf3 xf4 xf5 xf6 xlt
  clear v0 v1 v2 v3 v4 v5 v6 vf0 vf1 vf2 vf3 vf4 vf5 vf6 vlt
  have HQD : Hid (D9 = Q) := HD9.out.trans HQ.out.symm
  obtain ⟨M, hM⟩ : ∃ M, M = nxt (some a.told) (some y.told) a := ⟨_, rfl⟩
  have HM := hide hM
  have cS : Hid (Calls Try.prog 10 #[.pointer (some ⟨d, 0, none⟩), .agg #[.int .u64 a.seq, .int .u64 a.epoch, .int .u64 a.res, .int .u64 a.hor, .int .u64 a.gen, .bool a.clean, .int .i64 a.image]] (w9.alloc (.cells #[.int .u64 D9.seq, .int .u64 D9.epoch, .int .u64 D9.res, .int .u64 D9.hor, .int .u64 D9.gen, .bool D9.clean, .int .i64 D9.image] 24)) fun e W' => e = .returned (.tuple #[.agg #[.int .u64 M.seq, .int .u64 M.epoch, .int .u64 M.res, .int .u64 M.hor, .int .u64 M.gen, .bool M.clean, .int .i64 M.image], .int .i64 0]) ∧ ∃ F' S', Law w d F' S' W' ∧ Two S' (if M.seq % 2 = 0 then some M else some a.told) (if M.seq % 2 = 1 then some M else some y.told) ∧ S'.armed = 0 ∧ Moves F6 F' (w9.alloc (.cells #[.int .u64 D9.seq, .int .u64 D9.epoch, .int .u64 D9.res, .int .u64 D9.hor, .int .u64 D9.gen, .bool D9.clean, .int .i64 D9.image] 24)) W') := by rw [hM]; exact store_two (L9.out.alloc (.cells #[.int .u64 D9.seq, .int .u64 D9.epoch, .int .u64 D9.res, .int .u64 D9.hor, .int .u64 D9.gen, .bool D9.clean, .int .i64 D9.image] 24)) TL.out RL.out a FA.out (by rw [HLAST.out, HQS.out]; exact HWORN.out)
  have hMs : M.seq = Q.seq + 1 := by rw [hM]; show lastS _ _ + 1 = _; rw [HLAST.out]
  have HMS := hide hMs
  clear hM hMs
  refine cS.out.mono ?_
  rintro r w10 ⟨rfl, F10, S10, hl, ht, har, hm⟩
  have L10 := hide hl
  have HA10 := hide ((HA9.out.alloc (.cells #[.int .u64 D9.seq, .int .u64 D9.epoch, .int .u64 D9.res, .int .u64 D9.hor, .int .u64 D9.gen, .bool D9.clean, .int .i64 D9.image] 24)).move hm)
  have HB10 := hide ((HB9.out.alloc (.cells #[.int .u64 D9.seq, .int .u64 D9.epoch, .int .u64 D9.res, .int .u64 D9.hor, .int .u64 D9.gen, .bool D9.clean, .int .i64 D9.image] 24)).move hm)
  have HX10 := hide ((HX9.out.alloc (.cells #[.int .u64 D9.seq, .int .u64 D9.epoch, .int .u64 D9.res, .int .u64 D9.hor, .int .u64 D9.gen, .bool D9.clean, .int .i64 D9.image] 24)).move hm)
  have HW10 := hide ((L9.out.hold (bkL D9) 24).move hm)
  have TM := hide ht
  clear ht har
  clear hl hm
  clear HA9 HB9 HX9 L9
  clear cS
  have hqq : ((Q.seq : Int) == 18446744073709551615) = false := by
    have : ¬ (Q.seq : Int) = 18446744073709551615 := by have := HWORN.out; rw [HQS.out]; omega
    simpa using this
  have HWq : Hid (Held w10 F10 w9.heap.size (bkL Q) 24) := by have := HW10.out; rw [HQD.out] at this; exact this
  obtain ⟨q0, q1, q2, q3, q4, q5, q6, qf0, qf1, qf2, qf3, qf4, qf5, qf6⟩ := cells7 HX10.out.blk
  have qlt := HX10.out.blk.lt
  obtain ⟨u0, u1, u2, u3, u4, u5, u6, uf0, uf1, uf2, uf3, uf4, uf5, uf6⟩ := cells7 HWq.out.blk
  have ult := HWq.out.blk.lt
  go_wp2_with fail
  clear q0 q1 q2 q3 q4 q5 q6 qf0 qf1 qf2 qf3 qf4 qf5 qf6 qlt
  clear u0 u1 u2 u3 u4 u5 u6 uf0 uf1 uf2 uf3 uf4 uf5 uf6 ult
  have cL2 : Hid (Calls Try.prog 8 #[.pointer (some ⟨d, 0, none⟩)] (w10.alloc (.cells #[.int .u64 M.seq, .int .u64 M.epoch, .int .u64 M.res, .int .u64 M.hor, .int .u64 M.gen, .bool M.clean, .int .i64 M.image] 24)) fun e W' => e = .returned (.tuple #[.agg #[.int .u64 M.seq, .int .u64 M.epoch, .int .u64 M.res, .int .u64 M.hor, .int .u64 M.gen, .bool M.clean, .int .i64 M.image], .int .i64 0]) ∧ ∃ S', Law w d F10 S' W' ∧ Moves F10 F10 (w10.alloc (.cells #[.int .u64 M.seq, .int .u64 M.epoch, .int .u64 M.res, .int .u64 M.hor, .int .u64 M.gen, .bool M.clean, .int .i64 M.image] 24)) W') := by
    have := load_two (L10.out.alloc (.cells #[.int .u64 M.seq, .int .u64 M.epoch, .int .u64 M.res, .int .u64 M.hor, .int .u64 M.gen, .bool M.clean, .int .i64 M.image] 24)) TM.out
    rw [newer_next (by rw [HMS.out, HLAST.out])] at this
    refine this.mono (fun e W' ⟨h1, S', h2, h3, h4, h5⟩ => ⟨h1, S', h2, h5⟩)
  refine cL2.out.mono ?_
  rintro r w11 ⟨rfl, S11, hl, hm⟩
  have L11 := hide hl
  have HA11 := hide ((HA10.out.alloc (.cells #[.int .u64 M.seq, .int .u64 M.epoch, .int .u64 M.res, .int .u64 M.hor, .int .u64 M.gen, .bool M.clean, .int .i64 M.image] 24)).move hm)
  have HB11 := hide ((HB10.out.alloc (.cells #[.int .u64 M.seq, .int .u64 M.epoch, .int .u64 M.res, .int .u64 M.hor, .int .u64 M.gen, .bool M.clean, .int .i64 M.image] 24)).move hm)
  have HX11 := hide ((HX10.out.alloc (.cells #[.int .u64 M.seq, .int .u64 M.epoch, .int .u64 M.res, .int .u64 M.hor, .int .u64 M.gen, .bool M.clean, .int .i64 M.image] 24)).move hm)
  have HW11 := hide ((HWq.out.alloc (.cells #[.int .u64 M.seq, .int .u64 M.epoch, .int .u64 M.res, .int .u64 M.hor, .int .u64 M.gen, .bool M.clean, .int .i64 M.image] 24)).move hm)
  have HY11 := hide ((L10.out.hold (bkL M) 24).move hm)
  clear hl hm
  clear HA10 HB10 HX10 HWq L10
  clear cL2
  obtain ⟨q0, q1, q2, q3, q4, q5, q6, qf0, qf1, qf2, qf3, qf4, qf5, qf6⟩ := cells7 HX11.out.blk
  have qlt := HX11.out.blk.lt
  obtain ⟨u0, u1, u2, u3, u4, u5, u6, uf0, uf1, uf2, uf3, uf4, uf5, uf6⟩ := cells7 HW11.out.blk
  have ult := HW11.out.blk.lt
  obtain ⟨t0, t1, t2, t3, t4, t5, t6, tf0, tf1, tf2, tf3, tf4, tf5, tf6⟩ := cells7 HY11.out.blk
  have tlt := HY11.out.blk.lt
  have hws : IntKind.u64.wrap ((Q.seq : Int) + 1) = (M.seq : Int) := by rw [IntKind.wrap_u64, HMS.out]; have := HWORN.out; have := HQF.out.seq; have := HQS.out; omega
  go_wp2
  go_ret
  exact ⟨rfl, (L11.out.alloc _).bel⟩
end Go.Proofs.Ytcdefadeaiklbab
