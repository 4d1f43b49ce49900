/- The document's own 'Store'. -/
import Derived.Test.YtcdefadeaiklbaaRefStore
import Derived.Deep.RegionHeld
set_option linter.unusedVariables false
set_option linter.unusedSimpArgs false
set_option maxRecDepth 8000
namespace Go.Proofs.Ytcdefadeaiklbaa
open Go.RowKit Go.Deep Math

set_option maxHeartbeats 1000000 in
theorem rstore_ok_some2 (d : Nat) (F : List Nat) (S : Dv) (b : Bk) (hf : b.fits) (x : Bk) (hx : x.fits) (w : World) (h : RfAt w d F S)
    (cL : ∀ W : World, RfAt W d F S → Calls Try.prog 27 #[.pointer (some ⟨d, 0, none⟩)] W fun e w' => e = .returned (bkV x 0) ∧ RfAt w' d F S.loadDo ∧ Keep F W w') (hw : x.seq ≠ 18446744073709551615) (h0 : ¬ b.image < 0) (h1 : ¬ 2147483647 < b.image) (N : Bk) (hN : N = ⟨x.seq + 1, b.epoch, b.res, b.hor, b.gen, b.clean, (toldN b.image : Int)⟩) (hwe : S.loadDo.writeErr ((N.seq % 2 : Nat) : Int) (txt N.enc) = 0) (hfe : (S.loadDo.writeDo ((N.seq % 2 : Nat) : Int) (txt N.enc)).flushErr = 0) :
    Calls Try.prog 21 #[.pointer (some ⟨d, 0, none⟩), .agg #[.int .u64 b.seq, .int .u64 b.epoch, .int .u64 b.res, .int .u64 b.hor, .int .u64 b.gen, .bool b.clean, .int .i64 b.image]] w fun e w' => e = .returned (bkV N 0) ∧ ∃ F', RfAt w' d F' (S.loadDo.writeDo ((N.seq % 2 : Nat) : Int) (txt N.enc)).flushDo ∧ Moves F F' w w' := by
  have hA : RfAt ((w.alloc (.cells #[.int .u64 b.seq, .int .u64 b.epoch, .int .u64 b.res, .int .u64 b.hor, .int .u64 b.gen, .bool b.clean, .int .i64 b.image] 37)).alloc (.cells #[.int .u64 0, .int .u64 0, .int .u64 0, .int .u64 0, .int .u64 0, .bool false, .int .i64 0] 37)) d F S := (h.alloc _).alloc _
  have hbx : Blk ((w.alloc (.cells #[.int .u64 b.seq, .int .u64 b.epoch, .int .u64 b.res, .int .u64 b.hor, .int .u64 b.gen, .bool b.clean, .int .i64 b.image] 37)).alloc (.cells #[.int .u64 0, .int .u64 0, .int .u64 0, .int .u64 0, .int .u64 0, .bool false, .int .i64 0] 37)) w.heap.size (bkL b) 37 := (Blk.new w (bkL b) 37).alloc _
  have hbz : Blk ((w.alloc (.cells #[.int .u64 b.seq, .int .u64 b.epoch, .int .u64 b.res, .int .u64 b.hor, .int .u64 b.gen, .bool b.clean, .int .i64 b.image] 37)).alloc (.cells #[.int .u64 0, .int .u64 0, .int .u64 0, .int .u64 0, .int .u64 0, .bool false, .int .i64 0] 37)) (w.heap.size + 1) (bkL Bk.zero) 37 := by
    have := Blk.new (w.alloc (.cells #[.int .u64 b.seq, .int .u64 b.epoch, .int .u64 b.res, .int .u64 b.hor, .int .u64 b.gen, .bool b.clean, .int .i64 b.image] 37)) (bkL Bk.zero) 37
    rw [nblk_alloc] at this
    exact this
  have KA : Hid (Keep F w ((w.alloc (.cells #[.int .u64 b.seq, .int .u64 b.epoch, .int .u64 b.res, .int .u64 b.hor, .int .u64 b.gen, .bool b.clean, .int .i64 b.image] 37)).alloc (.cells #[.int .u64 0, .int .u64 0, .int .u64 0, .int .u64 0, .int .u64 0, .bool false, .int .i64 0] 37))) := ((Keep.refl F w).alloc _).alloc _
  have NF := hide (h.new w.heap.size (Nat.le_refl _))
  have NZ := hide (h.new (w.heap.size + 1) (Nat.le_succ _))
  have FL := hide h.lt
  have cL' : Hid (Calls Try.prog 27 #[.pointer (some ⟨d, 0, none⟩)] ((w.alloc (.cells #[.int .u64 b.seq, .int .u64 b.epoch, .int .u64 b.res, .int .u64 b.hor, .int .u64 b.gen, .bool b.clean, .int .i64 b.image] 37)).alloc (.cells #[.int .u64 0, .int .u64 0, .int .u64 0, .int .u64 0, .int .u64 0, .bool false, .int .i64 0] 37)) fun e w' => e = .returned (.tuple #[.agg #[.int .u64 x.seq, .int .u64 x.epoch, .int .u64 x.res, .int .u64 x.hor, .int .u64 x.gen, .bool x.clean, .int .i64 x.image], .int .i64 0]) ∧ RfAt w' d F S.loadDo ∧ Keep F ((w.alloc (.cells #[.int .u64 b.seq, .int .u64 b.epoch, .int .u64 b.res, .int .u64 b.hor, .int .u64 b.gen, .bool b.clean, .int .i64 b.image] 37)).alloc (.cells #[.int .u64 0, .int .u64 0, .int .u64 0, .int .u64 0, .int .u64 0, .bool false, .int .i64 0] 37)) w') := cL _ hA
  have HBX := hide hbx
  have HBZ := hide hbz
  have hq : ((x.seq : Int) == 18446744073709551615) = false := by
    have : ¬ (x.seq : Int) = 18446744073709551615 := by omega
    simpa using this
  have HQ := hide hw
  have hws : IntKind.u64.wrap ((x.seq : Int) + 1) = ((x.seq + 1 : Nat) : Int) := by rw [IntKind.wrap_u64]; have := hx.seq; omega
  have i0 : (b.image < 0) = False := eq_false h0
  have i1 : (2147483647 < b.image) = False := eq_false h1
  have HT : Hid ((toldN b.image : Int) = b.image) := by show _ = _; unfold toldN; rw [if_neg (by omega)]; omega
  clear h0 h1
  clear hA hbx hbz h cL hw
  go_enter Try.func21, Try.ntmps21
  go_wp2_with (first
    | (go_at_call 27; refine cL'.out.mono ?_; rintro r w1 ⟨rfl, hd1, kp1⟩; have HD1 := hide hd1; have HK1 := hide kp1; have hb1 := HBX.out.same (kp1.block _ HBX.out.lt NF.out); have hz1 := HBZ.out.same (kp1.block _ HBZ.out.lt NZ.out); have HB1 := hide hb1; have HZ1 := hide hz1; have hltb := hb1.lt; have hltz := hz1.lt; obtain ⟨z0, z1, z2, z3, z4, z5, z6, f0, f1, f2, f3, f4, f5, f6⟩ := cells7T hb1; obtain ⟨y0, y1, y2, y3, y4, y5, y6, g0, g1, g2, g3, g4, g5, g6⟩ := cells7zT hz1; clear hd1 kp1 hb1 hz1))
  generalize hW3 : (w1.setCell ⟨w.heap.size, 0, none⟩ (.int .u64 ((x.seq : Int) + 1))).alloc (.cells #[.int .u64 x.seq, .int .u64 x.epoch, .int .u64 x.res, .int .u64 x.hor, .int .u64 x.gen, .bool x.clean, .int .i64 x.image] 37) = W3
  have hne : w.heap.size + 1 ≠ w.heap.size := by omega
  have st3 : RStAt w d F F S.loadDo N W3 := by
    rw [← hW3, hN]
    have k1 : Keep F w w1 := KA.out.trans HK1.out (fun x hx => .inl hx)
    rw [HT.out]
    refine ⟨RfAt.alloc (HD1.out.same (fun k hk => ?_)) _, (HB1.out.set 0 _).alloc _, (HZ1.out.other hne _).alloc _, Moves.of_keep ((k1.setCell (.inr (Nat.le_refl _)) _).alloc _), NF.out, NZ.out⟩
    have hkn : k ≠ w.heap.size := fun e => NF.out (e ▸ hk)
    rw [blk_setCell_other _ _ _ _ hkn]
  have Nf : N.fits := by
    rw [hN]
    have := toldN_le b.image
    exact ⟨by have := hx.seq; have := HQ.out; show x.seq + 1 < _; omega, hf.epoch, hf.res, hf.hor, hf.gen, by show _ ≤ ((toldN b.image : Nat) : Int); omega, by show ((toldN b.image : Nat) : Int) ≤ _; omega⟩
  have cE := hide (refEncode_any N Nf)
  have cW : Hid (∀ (W : World), RStAt w d F F S.loadDo N W → Calls Try.prog 42 #[.pointer (some ⟨d, 0, none⟩), .int .i64 ((N.seq % 2 : Nat) : Int), .string (txt N.enc)] W fun e w' => e = .returned (.int .i64 0) ∧
      ∃ F', RStAt w d F F' (S.loadDo.writeDo ((N.seq % 2 : Nat) : Int) (txt N.enc)) N w') := fun W hs => by
    refine (rwrite_at d F S.loadDo _ (txt N.enc) W hs.dev).mono ?_
    rintro e w' ⟨rfl, hd, m⟩
    exact ⟨by rw [hwe], F, hs.move hd (Moves.of_keep m)⟩
  have cF : Hid (∀ (W : World) (F' : List Nat), RStAt w d F F' (S.loadDo.writeDo ((N.seq % 2 : Nat) : Int) (txt N.enc)) N W → Calls Try.prog 43 #[.pointer (some ⟨d, 0, none⟩)] W fun e w' => e = .returned (.int .i64 0) ∧
      ∃ F2, RStAt w d F F2 (S.loadDo.writeDo ((N.seq % 2 : Nat) : Int) (txt N.enc)).flushDo N w') := fun W F' hs => by
    refine (rflush_at d F' _ W hs.dev).mono ?_
    rintro e w' ⟨rfl, F2, hd, m⟩
    exact ⟨by rw [hfe], F2, hs.move hd m⟩
  obtain ⟨q0, q1, q2, q3, q4, q5, q6, h0, h1, h2, h3, h4, h5, h6⟩ := cells7T st3.box
  have ST3 := hide st3
  have hmod : (N.seq : Int).tmod 2 = ((N.seq % 2 : Nat) : Int) := by rw [Int.tmod_eq_emod_of_nonneg (by omega)]; omega
  generalize hk2 : ((N.seq % 2 : Nat) : Int) = k2 at *
  generalize hte : txt N.enc = te at *
  have HTE := hide hte
  have hwk : IntKind.i64.wrap k2 = k2 := by rw [IntKind.wrap_i64]; omega
  have hwk2 : IntKind.u64.wrap k2 = k2 := by rw [IntKind.wrap_u64]; omega
  have HK2 := hide hk2
  have HN := hide hN
  have HW := hide hwe
  clear st3 HD1 HK1 HB1 HZ1 z0 z1 z2 z3 z4 z5 z6 f0 f1 f2 f3 f4 f5 f6 y0 y1 y2 y3 y4 y5 y6 g0 g1 g2 g3 g4 g5 g6 hW3 KA HBX HBZ cL' Nf hN hwe hk2 hf hte HT i0 i1 hq hws hx hfe
  go_region_held (fun W => W.cell? ⟨w.heap.size, 0, none⟩ = some (.int .u64 N.seq) ∧ W.cell? ⟨w.heap.size, 1, none⟩ = some (.int .u64 N.epoch) ∧ W.cell? ⟨w.heap.size, 2, none⟩ = some (.int .u64 N.res) ∧ W.cell? ⟨w.heap.size, 3, none⟩ = some (.int .u64 N.hor) ∧ W.cell? ⟨w.heap.size, 4, none⟩ = some (.int .u64 N.gen) ∧ W.cell? ⟨w.heap.size, 5, none⟩ = some (.bool N.clean) ∧ W.cell? ⟨w.heap.size, 6, none⟩ = some (.int .i64 N.image))
    (first | exact ⟨q0, q1, q2, q3, q4, q5, q6⟩ | assumption)
    (first
      | (go_at_call 15; refine (cE.out _).mono ?_; rintro r w4 ⟨rfl, hbel⟩; have s4 := ST3.out.drew.below hbel; obtain ⟨p0, p1, p2, p3, p4, p5, p6, r0, r1, r2, r3, r4, r5, r6⟩ := cells7T s4.box; have hS := And.intro p0 (And.intro p1 (And.intro p2 (And.intro p3 (And.intro p4 (And.intro p5 p6))))); have S4 := hide s4; clear hbel s4 p0 p1 p2 p3 p4 p5 p6 r0 r1 r2 r3 r4 r5 r6)
      | (go_at_call 42; refine (cW.out _ S4.out).mono ?_; rintro r w5 ⟨rfl, F5, s5⟩; obtain ⟨p0, p1, p2, p3, p4, p5, p6, r0, r1, r2, r3, r4, r5, r6⟩ := cells7T s5.box; have hS5 := And.intro p0 (And.intro p1 (And.intro p2 (And.intro p3 (And.intro p4 (And.intro p5 p6))))); have S5 := hide s5; clear s5))
  clear q0 q1 q2 q3 q4 q5 q6 h0 h1 h2 h3 h4 h5 h6 hS hmod hwk hwk2 cE cW
  clear p0 p1 p2 p3 p4 p5 p6 r0 r1 r2 r3 r4 r5 r6 hS5
  go_wp2_with (go_at_call 43; refine (cF.out _ _ S5.out).mono ?_; rintro r w6 ⟨rfl, F6, s6⟩; have S6 := hide s6; obtain ⟨u0, u1, u2, u3, u4, u5, u6, v0, v1, v2, v3, v4, v5, v6⟩ := cells7zT s6.res; obtain ⟨p0, p1, p2, p3, p4, p5, p6, r0, r1, r2, r3, r4, r5, r6⟩ := cells7T s6.box; clear s6)
  obtain ⟨hd, hm⟩ := S6.out.fin N
  rw [← HK2.out, ← HTE.out] at hd
  exact bodyPost_ret (v := bkV N 0) (by simp [results, Try.results21, go_sem, bkV, Bk.zero, *]) rfl ⟨rfl, F6, hd, hm⟩
set_option maxHeartbeats 1000000 in
theorem rstore_f4_some2 (d : Nat) (F : List Nat) (S : Dv) (b : Bk) (hf : b.fits) (x : Bk) (hx : x.fits) (w : World) (h : RfAt w d F S)
    (cL : ∀ W : World, RfAt W d F S → Calls Try.prog 27 #[.pointer (some ⟨d, 0, none⟩)] W fun e w' => e = .returned (bkV x 0) ∧ RfAt w' d F S.loadDo ∧ Keep F W w') (hw : x.seq ≠ 18446744073709551615) (h0 : ¬ b.image < 0) (h1 : ¬ 2147483647 < b.image) (N : Bk) (hN : N = ⟨x.seq + 1, b.epoch, b.res, b.hor, b.gen, b.clean, (toldN b.image : Int)⟩) (hwe : S.loadDo.writeErr ((N.seq % 2 : Nat) : Int) (txt N.enc) = 0) (hfe : (S.loadDo.writeDo ((N.seq % 2 : Nat) : Int) (txt N.enc)).flushErr = 4) :
    Calls Try.prog 21 #[.pointer (some ⟨d, 0, none⟩), .agg #[.int .u64 b.seq, .int .u64 b.epoch, .int .u64 b.res, .int .u64 b.hor, .int .u64 b.gen, .bool b.clean, .int .i64 b.image]] w fun e w' => e = .returned (bkV Bk.zero 4) ∧ ∃ F', RfAt w' d F' (S.loadDo.writeDo ((N.seq % 2 : Nat) : Int) (txt N.enc)).flushDo ∧ Moves F F' w w' := by
  have hA : RfAt ((w.alloc (.cells #[.int .u64 b.seq, .int .u64 b.epoch, .int .u64 b.res, .int .u64 b.hor, .int .u64 b.gen, .bool b.clean, .int .i64 b.image] 37)).alloc (.cells #[.int .u64 0, .int .u64 0, .int .u64 0, .int .u64 0, .int .u64 0, .bool false, .int .i64 0] 37)) d F S := (h.alloc _).alloc _
  have hbx : Blk ((w.alloc (.cells #[.int .u64 b.seq, .int .u64 b.epoch, .int .u64 b.res, .int .u64 b.hor, .int .u64 b.gen, .bool b.clean, .int .i64 b.image] 37)).alloc (.cells #[.int .u64 0, .int .u64 0, .int .u64 0, .int .u64 0, .int .u64 0, .bool false, .int .i64 0] 37)) w.heap.size (bkL b) 37 := (Blk.new w (bkL b) 37).alloc _
  have hbz : Blk ((w.alloc (.cells #[.int .u64 b.seq, .int .u64 b.epoch, .int .u64 b.res, .int .u64 b.hor, .int .u64 b.gen, .bool b.clean, .int .i64 b.image] 37)).alloc (.cells #[.int .u64 0, .int .u64 0, .int .u64 0, .int .u64 0, .int .u64 0, .bool false, .int .i64 0] 37)) (w.heap.size + 1) (bkL Bk.zero) 37 := by
    have := Blk.new (w.alloc (.cells #[.int .u64 b.seq, .int .u64 b.epoch, .int .u64 b.res, .int .u64 b.hor, .int .u64 b.gen, .bool b.clean, .int .i64 b.image] 37)) (bkL Bk.zero) 37
    rw [nblk_alloc] at this
    exact this
  have KA : Hid (Keep F w ((w.alloc (.cells #[.int .u64 b.seq, .int .u64 b.epoch, .int .u64 b.res, .int .u64 b.hor, .int .u64 b.gen, .bool b.clean, .int .i64 b.image] 37)).alloc (.cells #[.int .u64 0, .int .u64 0, .int .u64 0, .int .u64 0, .int .u64 0, .bool false, .int .i64 0] 37))) := ((Keep.refl F w).alloc _).alloc _
  have NF := hide (h.new w.heap.size (Nat.le_refl _))
  have NZ := hide (h.new (w.heap.size + 1) (Nat.le_succ _))
  have FL := hide h.lt
  have cL' : Hid (Calls Try.prog 27 #[.pointer (some ⟨d, 0, none⟩)] ((w.alloc (.cells #[.int .u64 b.seq, .int .u64 b.epoch, .int .u64 b.res, .int .u64 b.hor, .int .u64 b.gen, .bool b.clean, .int .i64 b.image] 37)).alloc (.cells #[.int .u64 0, .int .u64 0, .int .u64 0, .int .u64 0, .int .u64 0, .bool false, .int .i64 0] 37)) fun e w' => e = .returned (.tuple #[.agg #[.int .u64 x.seq, .int .u64 x.epoch, .int .u64 x.res, .int .u64 x.hor, .int .u64 x.gen, .bool x.clean, .int .i64 x.image], .int .i64 0]) ∧ RfAt w' d F S.loadDo ∧ Keep F ((w.alloc (.cells #[.int .u64 b.seq, .int .u64 b.epoch, .int .u64 b.res, .int .u64 b.hor, .int .u64 b.gen, .bool b.clean, .int .i64 b.image] 37)).alloc (.cells #[.int .u64 0, .int .u64 0, .int .u64 0, .int .u64 0, .int .u64 0, .bool false, .int .i64 0] 37)) w') := cL _ hA
  have HBX := hide hbx
  have HBZ := hide hbz
  have hq : ((x.seq : Int) == 18446744073709551615) = false := by
    have : ¬ (x.seq : Int) = 18446744073709551615 := by omega
    simpa using this
  have HQ := hide hw
  have hws : IntKind.u64.wrap ((x.seq : Int) + 1) = ((x.seq + 1 : Nat) : Int) := by rw [IntKind.wrap_u64]; have := hx.seq; omega
  have i0 : (b.image < 0) = False := eq_false h0
  have i1 : (2147483647 < b.image) = False := eq_false h1
  have HT : Hid ((toldN b.image : Int) = b.image) := by show _ = _; unfold toldN; rw [if_neg (by omega)]; omega
  clear h0 h1
  clear hA hbx hbz h cL hw
  go_enter Try.func21, Try.ntmps21
  go_wp2_with (first
    | (go_at_call 27; refine cL'.out.mono ?_; rintro r w1 ⟨rfl, hd1, kp1⟩; have HD1 := hide hd1; have HK1 := hide kp1; have hb1 := HBX.out.same (kp1.block _ HBX.out.lt NF.out); have hz1 := HBZ.out.same (kp1.block _ HBZ.out.lt NZ.out); have HB1 := hide hb1; have HZ1 := hide hz1; have hltb := hb1.lt; have hltz := hz1.lt; obtain ⟨z0, z1, z2, z3, z4, z5, z6, f0, f1, f2, f3, f4, f5, f6⟩ := cells7T hb1; obtain ⟨y0, y1, y2, y3, y4, y5, y6, g0, g1, g2, g3, g4, g5, g6⟩ := cells7zT hz1; clear hd1 kp1 hb1 hz1))
  generalize hW3 : (w1.setCell ⟨w.heap.size, 0, none⟩ (.int .u64 ((x.seq : Int) + 1))).alloc (.cells #[.int .u64 x.seq, .int .u64 x.epoch, .int .u64 x.res, .int .u64 x.hor, .int .u64 x.gen, .bool x.clean, .int .i64 x.image] 37) = W3
  have hne : w.heap.size + 1 ≠ w.heap.size := by omega
  have st3 : RStAt w d F F S.loadDo N W3 := by
    rw [← hW3, hN]
    have k1 : Keep F w w1 := KA.out.trans HK1.out (fun x hx => .inl hx)
    rw [HT.out]
    refine ⟨RfAt.alloc (HD1.out.same (fun k hk => ?_)) _, (HB1.out.set 0 _).alloc _, (HZ1.out.other hne _).alloc _, Moves.of_keep ((k1.setCell (.inr (Nat.le_refl _)) _).alloc _), NF.out, NZ.out⟩
    have hkn : k ≠ w.heap.size := fun e => NF.out (e ▸ hk)
    rw [blk_setCell_other _ _ _ _ hkn]
  have Nf : N.fits := by
    rw [hN]
    have := toldN_le b.image
    exact ⟨by have := hx.seq; have := HQ.out; show x.seq + 1 < _; omega, hf.epoch, hf.res, hf.hor, hf.gen, by show _ ≤ ((toldN b.image : Nat) : Int); omega, by show ((toldN b.image : Nat) : Int) ≤ _; omega⟩
  have cE := hide (refEncode_any N Nf)
  have cW : Hid (∀ (W : World), RStAt w d F F S.loadDo N W → Calls Try.prog 42 #[.pointer (some ⟨d, 0, none⟩), .int .i64 ((N.seq % 2 : Nat) : Int), .string (txt N.enc)] W fun e w' => e = .returned (.int .i64 0) ∧
      ∃ F', RStAt w d F F' (S.loadDo.writeDo ((N.seq % 2 : Nat) : Int) (txt N.enc)) N w') := fun W hs => by
    refine (rwrite_at d F S.loadDo _ (txt N.enc) W hs.dev).mono ?_
    rintro e w' ⟨rfl, hd, m⟩
    exact ⟨by rw [hwe], F, hs.move hd (Moves.of_keep m)⟩
  have cF : Hid (∀ (W : World) (F' : List Nat), RStAt w d F F' (S.loadDo.writeDo ((N.seq % 2 : Nat) : Int) (txt N.enc)) N W → Calls Try.prog 43 #[.pointer (some ⟨d, 0, none⟩)] W fun e w' => e = .returned (.int .i64 4) ∧
      ∃ F2, RStAt w d F F2 (S.loadDo.writeDo ((N.seq % 2 : Nat) : Int) (txt N.enc)).flushDo N w') := fun W F' hs => by
    refine (rflush_at d F' _ W hs.dev).mono ?_
    rintro e w' ⟨rfl, F2, hd, m⟩
    exact ⟨by rw [hfe], F2, hs.move hd m⟩
  obtain ⟨q0, q1, q2, q3, q4, q5, q6, h0, h1, h2, h3, h4, h5, h6⟩ := cells7T st3.box
  have ST3 := hide st3
  have hmod : (N.seq : Int).tmod 2 = ((N.seq % 2 : Nat) : Int) := by rw [Int.tmod_eq_emod_of_nonneg (by omega)]; omega
  generalize hk2 : ((N.seq % 2 : Nat) : Int) = k2 at *
  generalize hte : txt N.enc = te at *
  have HTE := hide hte
  have hwk : IntKind.i64.wrap k2 = k2 := by rw [IntKind.wrap_i64]; omega
  have hwk2 : IntKind.u64.wrap k2 = k2 := by rw [IntKind.wrap_u64]; omega
  have HK2 := hide hk2
  have HN := hide hN
  have HW := hide hwe
  clear st3 HD1 HK1 HB1 HZ1 z0 z1 z2 z3 z4 z5 z6 f0 f1 f2 f3 f4 f5 f6 y0 y1 y2 y3 y4 y5 y6 g0 g1 g2 g3 g4 g5 g6 hW3 KA HBX HBZ cL' Nf hN hwe hk2 hf hte HT i0 i1 hq hws hx hfe
  go_region_held (fun W => W.cell? ⟨w.heap.size, 0, none⟩ = some (.int .u64 N.seq) ∧ W.cell? ⟨w.heap.size, 1, none⟩ = some (.int .u64 N.epoch) ∧ W.cell? ⟨w.heap.size, 2, none⟩ = some (.int .u64 N.res) ∧ W.cell? ⟨w.heap.size, 3, none⟩ = some (.int .u64 N.hor) ∧ W.cell? ⟨w.heap.size, 4, none⟩ = some (.int .u64 N.gen) ∧ W.cell? ⟨w.heap.size, 5, none⟩ = some (.bool N.clean) ∧ W.cell? ⟨w.heap.size, 6, none⟩ = some (.int .i64 N.image))
    (first | exact ⟨q0, q1, q2, q3, q4, q5, q6⟩ | assumption)
    (first
      | (go_at_call 15; refine (cE.out _).mono ?_; rintro r w4 ⟨rfl, hbel⟩; have s4 := ST3.out.drew.below hbel; obtain ⟨p0, p1, p2, p3, p4, p5, p6, r0, r1, r2, r3, r4, r5, r6⟩ := cells7T s4.box; have hS := And.intro p0 (And.intro p1 (And.intro p2 (And.intro p3 (And.intro p4 (And.intro p5 p6))))); have S4 := hide s4; clear hbel s4 p0 p1 p2 p3 p4 p5 p6 r0 r1 r2 r3 r4 r5 r6)
      | (go_at_call 42; refine (cW.out _ S4.out).mono ?_; rintro r w5 ⟨rfl, F5, s5⟩; obtain ⟨p0, p1, p2, p3, p4, p5, p6, r0, r1, r2, r3, r4, r5, r6⟩ := cells7T s5.box; have hS5 := And.intro p0 (And.intro p1 (And.intro p2 (And.intro p3 (And.intro p4 (And.intro p5 p6))))); have S5 := hide s5; clear s5))
  clear q0 q1 q2 q3 q4 q5 q6 h0 h1 h2 h3 h4 h5 h6 hS hmod hwk hwk2 cE cW
  clear p0 p1 p2 p3 p4 p5 p6 r0 r1 r2 r3 r4 r5 r6 hS5
  go_wp2_with (go_at_call 43; refine (cF.out _ _ S5.out).mono ?_; rintro r w6 ⟨rfl, F6, s6⟩; have S6 := hide s6; obtain ⟨u0, u1, u2, u3, u4, u5, u6, v0, v1, v2, v3, v4, v5, v6⟩ := cells7zT s6.res; obtain ⟨p0, p1, p2, p3, p4, p5, p6, r0, r1, r2, r3, r4, r5, r6⟩ := cells7T s6.box; clear s6)
  obtain ⟨hd, hm⟩ := S6.out.fin Bk.zero
  rw [← HK2.out, ← HTE.out] at hd
  exact bodyPost_ret (v := bkV Bk.zero 4) (by simp [results, Try.results21, go_sem, bkV, Bk.zero, *]) rfl ⟨rfl, F6, hd, hm⟩
set_option maxHeartbeats 1000000 in
theorem rstore_w4_some2 (d : Nat) (F : List Nat) (S : Dv) (b : Bk) (hf : b.fits) (x : Bk) (hx : x.fits) (w : World) (h : RfAt w d F S)
    (cL : ∀ W : World, RfAt W d F S → Calls Try.prog 27 #[.pointer (some ⟨d, 0, none⟩)] W fun e w' => e = .returned (bkV x 0) ∧ RfAt w' d F S.loadDo ∧ Keep F W w') (hw : x.seq ≠ 18446744073709551615) (h0 : ¬ b.image < 0) (h1 : ¬ 2147483647 < b.image) (N : Bk) (hN : N = ⟨x.seq + 1, b.epoch, b.res, b.hor, b.gen, b.clean, (toldN b.image : Int)⟩) (hwe : S.loadDo.writeErr ((N.seq % 2 : Nat) : Int) (txt N.enc) = 4) :
    Calls Try.prog 21 #[.pointer (some ⟨d, 0, none⟩), .agg #[.int .u64 b.seq, .int .u64 b.epoch, .int .u64 b.res, .int .u64 b.hor, .int .u64 b.gen, .bool b.clean, .int .i64 b.image]] w fun e w' => e = .returned (bkV Bk.zero 4) ∧ ∃ F', RfAt w' d F' (S.loadDo.writeDo ((N.seq % 2 : Nat) : Int) (txt N.enc)) ∧ Moves F F' w w' := by
  have hA : RfAt ((w.alloc (.cells #[.int .u64 b.seq, .int .u64 b.epoch, .int .u64 b.res, .int .u64 b.hor, .int .u64 b.gen, .bool b.clean, .int .i64 b.image] 37)).alloc (.cells #[.int .u64 0, .int .u64 0, .int .u64 0, .int .u64 0, .int .u64 0, .bool false, .int .i64 0] 37)) d F S := (h.alloc _).alloc _
  have hbx : Blk ((w.alloc (.cells #[.int .u64 b.seq, .int .u64 b.epoch, .int .u64 b.res, .int .u64 b.hor, .int .u64 b.gen, .bool b.clean, .int .i64 b.image] 37)).alloc (.cells #[.int .u64 0, .int .u64 0, .int .u64 0, .int .u64 0, .int .u64 0, .bool false, .int .i64 0] 37)) w.heap.size (bkL b) 37 := (Blk.new w (bkL b) 37).alloc _
  have hbz : Blk ((w.alloc (.cells #[.int .u64 b.seq, .int .u64 b.epoch, .int .u64 b.res, .int .u64 b.hor, .int .u64 b.gen, .bool b.clean, .int .i64 b.image] 37)).alloc (.cells #[.int .u64 0, .int .u64 0, .int .u64 0, .int .u64 0, .int .u64 0, .bool false, .int .i64 0] 37)) (w.heap.size + 1) (bkL Bk.zero) 37 := by
    have := Blk.new (w.alloc (.cells #[.int .u64 b.seq, .int .u64 b.epoch, .int .u64 b.res, .int .u64 b.hor, .int .u64 b.gen, .bool b.clean, .int .i64 b.image] 37)) (bkL Bk.zero) 37
    rw [nblk_alloc] at this
    exact this
  have KA : Hid (Keep F w ((w.alloc (.cells #[.int .u64 b.seq, .int .u64 b.epoch, .int .u64 b.res, .int .u64 b.hor, .int .u64 b.gen, .bool b.clean, .int .i64 b.image] 37)).alloc (.cells #[.int .u64 0, .int .u64 0, .int .u64 0, .int .u64 0, .int .u64 0, .bool false, .int .i64 0] 37))) := ((Keep.refl F w).alloc _).alloc _
  have NF := hide (h.new w.heap.size (Nat.le_refl _))
  have NZ := hide (h.new (w.heap.size + 1) (Nat.le_succ _))
  have FL := hide h.lt
  have cL' : Hid (Calls Try.prog 27 #[.pointer (some ⟨d, 0, none⟩)] ((w.alloc (.cells #[.int .u64 b.seq, .int .u64 b.epoch, .int .u64 b.res, .int .u64 b.hor, .int .u64 b.gen, .bool b.clean, .int .i64 b.image] 37)).alloc (.cells #[.int .u64 0, .int .u64 0, .int .u64 0, .int .u64 0, .int .u64 0, .bool false, .int .i64 0] 37)) fun e w' => e = .returned (.tuple #[.agg #[.int .u64 x.seq, .int .u64 x.epoch, .int .u64 x.res, .int .u64 x.hor, .int .u64 x.gen, .bool x.clean, .int .i64 x.image], .int .i64 0]) ∧ RfAt w' d F S.loadDo ∧ Keep F ((w.alloc (.cells #[.int .u64 b.seq, .int .u64 b.epoch, .int .u64 b.res, .int .u64 b.hor, .int .u64 b.gen, .bool b.clean, .int .i64 b.image] 37)).alloc (.cells #[.int .u64 0, .int .u64 0, .int .u64 0, .int .u64 0, .int .u64 0, .bool false, .int .i64 0] 37)) w') := cL _ hA
  have HBX := hide hbx
  have HBZ := hide hbz
  have hq : ((x.seq : Int) == 18446744073709551615) = false := by
    have : ¬ (x.seq : Int) = 18446744073709551615 := by omega
    simpa using this
  have HQ := hide hw
  have hws : IntKind.u64.wrap ((x.seq : Int) + 1) = ((x.seq + 1 : Nat) : Int) := by rw [IntKind.wrap_u64]; have := hx.seq; omega
  have i0 : (b.image < 0) = False := eq_false h0
  have i1 : (2147483647 < b.image) = False := eq_false h1
  have HT : Hid ((toldN b.image : Int) = b.image) := by show _ = _; unfold toldN; rw [if_neg (by omega)]; omega
  clear h0 h1
  clear hA hbx hbz h cL hw
  go_enter Try.func21, Try.ntmps21
  go_wp2_with (first
    | (go_at_call 27; refine cL'.out.mono ?_; rintro r w1 ⟨rfl, hd1, kp1⟩; have HD1 := hide hd1; have HK1 := hide kp1; have hb1 := HBX.out.same (kp1.block _ HBX.out.lt NF.out); have hz1 := HBZ.out.same (kp1.block _ HBZ.out.lt NZ.out); have HB1 := hide hb1; have HZ1 := hide hz1; have hltb := hb1.lt; have hltz := hz1.lt; obtain ⟨z0, z1, z2, z3, z4, z5, z6, f0, f1, f2, f3, f4, f5, f6⟩ := cells7T hb1; obtain ⟨y0, y1, y2, y3, y4, y5, y6, g0, g1, g2, g3, g4, g5, g6⟩ := cells7zT hz1; clear hd1 kp1 hb1 hz1))
  generalize hW3 : (w1.setCell ⟨w.heap.size, 0, none⟩ (.int .u64 ((x.seq : Int) + 1))).alloc (.cells #[.int .u64 x.seq, .int .u64 x.epoch, .int .u64 x.res, .int .u64 x.hor, .int .u64 x.gen, .bool x.clean, .int .i64 x.image] 37) = W3
  have hne : w.heap.size + 1 ≠ w.heap.size := by omega
  have st3 : RStAt w d F F S.loadDo N W3 := by
    rw [← hW3, hN]
    have k1 : Keep F w w1 := KA.out.trans HK1.out (fun x hx => .inl hx)
    rw [HT.out]
    refine ⟨RfAt.alloc (HD1.out.same (fun k hk => ?_)) _, (HB1.out.set 0 _).alloc _, (HZ1.out.other hne _).alloc _, Moves.of_keep ((k1.setCell (.inr (Nat.le_refl _)) _).alloc _), NF.out, NZ.out⟩
    have hkn : k ≠ w.heap.size := fun e => NF.out (e ▸ hk)
    rw [blk_setCell_other _ _ _ _ hkn]
  have Nf : N.fits := by
    rw [hN]
    have := toldN_le b.image
    exact ⟨by have := hx.seq; have := HQ.out; show x.seq + 1 < _; omega, hf.epoch, hf.res, hf.hor, hf.gen, by show _ ≤ ((toldN b.image : Nat) : Int); omega, by show ((toldN b.image : Nat) : Int) ≤ _; omega⟩
  have cE := hide (refEncode_any N Nf)
  have cW : Hid (∀ (W : World), RStAt w d F F S.loadDo N W → Calls Try.prog 42 #[.pointer (some ⟨d, 0, none⟩), .int .i64 ((N.seq % 2 : Nat) : Int), .string (txt N.enc)] W fun e w' => e = .returned (.int .i64 4) ∧
      ∃ F', RStAt w d F F' (S.loadDo.writeDo ((N.seq % 2 : Nat) : Int) (txt N.enc)) N w') := fun W hs => by
    refine (rwrite_at d F S.loadDo _ (txt N.enc) W hs.dev).mono ?_
    rintro e w' ⟨rfl, hd, m⟩
    exact ⟨by rw [hwe], F, hs.move hd (Moves.of_keep m)⟩
  obtain ⟨q0, q1, q2, q3, q4, q5, q6, h0, h1, h2, h3, h4, h5, h6⟩ := cells7T st3.box
  have ST3 := hide st3
  have hmod : (N.seq : Int).tmod 2 = ((N.seq % 2 : Nat) : Int) := by rw [Int.tmod_eq_emod_of_nonneg (by omega)]; omega
  generalize hk2 : ((N.seq % 2 : Nat) : Int) = k2 at *
  generalize hte : txt N.enc = te at *
  have HTE := hide hte
  have hwk : IntKind.i64.wrap k2 = k2 := by rw [IntKind.wrap_i64]; omega
  have hwk2 : IntKind.u64.wrap k2 = k2 := by rw [IntKind.wrap_u64]; omega
  have HK2 := hide hk2
  have HN := hide hN
  have HW := hide hwe
  clear st3 HD1 HK1 HB1 HZ1 z0 z1 z2 z3 z4 z5 z6 f0 f1 f2 f3 f4 f5 f6 y0 y1 y2 y3 y4 y5 y6 g0 g1 g2 g3 g4 g5 g6 hW3 KA HBX HBZ cL' Nf hN hwe hk2 hf hte HT i0 i1 hq hws hx
  go_region_held (fun W => W.cell? ⟨w.heap.size, 0, none⟩ = some (.int .u64 N.seq) ∧ W.cell? ⟨w.heap.size, 1, none⟩ = some (.int .u64 N.epoch) ∧ W.cell? ⟨w.heap.size, 2, none⟩ = some (.int .u64 N.res) ∧ W.cell? ⟨w.heap.size, 3, none⟩ = some (.int .u64 N.hor) ∧ W.cell? ⟨w.heap.size, 4, none⟩ = some (.int .u64 N.gen) ∧ W.cell? ⟨w.heap.size, 5, none⟩ = some (.bool N.clean) ∧ W.cell? ⟨w.heap.size, 6, none⟩ = some (.int .i64 N.image))
    (first | exact ⟨q0, q1, q2, q3, q4, q5, q6⟩ | assumption)
    (first
      | (go_at_call 15; refine (cE.out _).mono ?_; rintro r w4 ⟨rfl, hbel⟩; have s4 := ST3.out.drew.below hbel; obtain ⟨p0, p1, p2, p3, p4, p5, p6, r0, r1, r2, r3, r4, r5, r6⟩ := cells7T s4.box; have hS := And.intro p0 (And.intro p1 (And.intro p2 (And.intro p3 (And.intro p4 (And.intro p5 p6))))); have S4 := hide s4; clear hbel s4 p0 p1 p2 p3 p4 p5 p6 r0 r1 r2 r3 r4 r5 r6)
      | (go_at_call 42; refine (cW.out _ S4.out).mono ?_; rintro r w5 ⟨rfl, F5, s5⟩; obtain ⟨p0, p1, p2, p3, p4, p5, p6, r0, r1, r2, r3, r4, r5, r6⟩ := cells7T s5.box; have hS5 := And.intro p0 (And.intro p1 (And.intro p2 (And.intro p3 (And.intro p4 (And.intro p5 p6))))); have S5 := hide s5; clear s5))
  clear q0 q1 q2 q3 q4 q5 q6 h0 h1 h2 h3 h4 h5 h6 hS hmod hwk hwk2 cE cW
  clear p0 p1 p2 p3 p4 p5 p6 r0 r1 r2 r3 r4 r5 r6 hS5
  obtain ⟨u0, u1, u2, u3, u4, u5, u6, v0, v1, v2, v3, v4, v5, v6⟩ := cells7zT S5.out.res
  go_wp2
  obtain ⟨hd, hm⟩ := S5.out.fin Bk.zero
  rw [← HK2.out, ← HTE.out] at hd
  exact bodyPost_ret (v := bkV Bk.zero 4) (by simp [results, Try.results21, go_sem, bkV, Bk.zero, *]) rfl ⟨rfl, F5, hd, hm⟩
set_option maxHeartbeats 1000000 in
theorem rstore_ok_none2 (d : Nat) (F : List Nat) (S : Dv) (b : Bk) (hf : b.fits) (w : World) (h : RfAt w d F S)
    (cL : ∀ W : World, RfAt W d F S → Calls Try.prog 27 #[.pointer (some ⟨d, 0, none⟩)] W fun e w' => e = .returned (bkV Bk.zero 5) ∧ RfAt w' d F S.loadDo ∧ Keep F W w') (h0 : ¬ b.image < 0) (h1 : ¬ 2147483647 < b.image) (N : Bk) (hN : N = ⟨1, b.epoch, b.res, b.hor, b.gen, b.clean, (toldN b.image : Int)⟩) (hwe : S.loadDo.writeErr ((N.seq % 2 : Nat) : Int) (txt N.enc) = 0) (hfe : (S.loadDo.writeDo ((N.seq % 2 : Nat) : Int) (txt N.enc)).flushErr = 0) :
    Calls Try.prog 21 #[.pointer (some ⟨d, 0, none⟩), .agg #[.int .u64 b.seq, .int .u64 b.epoch, .int .u64 b.res, .int .u64 b.hor, .int .u64 b.gen, .bool b.clean, .int .i64 b.image]] w fun e w' => e = .returned (bkV N 0) ∧ ∃ F', RfAt w' d F' (S.loadDo.writeDo ((N.seq % 2 : Nat) : Int) (txt N.enc)).flushDo ∧ Moves F F' w w' := by
  have hA : RfAt ((w.alloc (.cells #[.int .u64 b.seq, .int .u64 b.epoch, .int .u64 b.res, .int .u64 b.hor, .int .u64 b.gen, .bool b.clean, .int .i64 b.image] 37)).alloc (.cells #[.int .u64 0, .int .u64 0, .int .u64 0, .int .u64 0, .int .u64 0, .bool false, .int .i64 0] 37)) d F S := (h.alloc _).alloc _
  have hbx : Blk ((w.alloc (.cells #[.int .u64 b.seq, .int .u64 b.epoch, .int .u64 b.res, .int .u64 b.hor, .int .u64 b.gen, .bool b.clean, .int .i64 b.image] 37)).alloc (.cells #[.int .u64 0, .int .u64 0, .int .u64 0, .int .u64 0, .int .u64 0, .bool false, .int .i64 0] 37)) w.heap.size (bkL b) 37 := (Blk.new w (bkL b) 37).alloc _
  have hbz : Blk ((w.alloc (.cells #[.int .u64 b.seq, .int .u64 b.epoch, .int .u64 b.res, .int .u64 b.hor, .int .u64 b.gen, .bool b.clean, .int .i64 b.image] 37)).alloc (.cells #[.int .u64 0, .int .u64 0, .int .u64 0, .int .u64 0, .int .u64 0, .bool false, .int .i64 0] 37)) (w.heap.size + 1) (bkL Bk.zero) 37 := by
    have := Blk.new (w.alloc (.cells #[.int .u64 b.seq, .int .u64 b.epoch, .int .u64 b.res, .int .u64 b.hor, .int .u64 b.gen, .bool b.clean, .int .i64 b.image] 37)) (bkL Bk.zero) 37
    rw [nblk_alloc] at this
    exact this
  have KA : Hid (Keep F w ((w.alloc (.cells #[.int .u64 b.seq, .int .u64 b.epoch, .int .u64 b.res, .int .u64 b.hor, .int .u64 b.gen, .bool b.clean, .int .i64 b.image] 37)).alloc (.cells #[.int .u64 0, .int .u64 0, .int .u64 0, .int .u64 0, .int .u64 0, .bool false, .int .i64 0] 37))) := ((Keep.refl F w).alloc _).alloc _
  have NF := hide (h.new w.heap.size (Nat.le_refl _))
  have NZ := hide (h.new (w.heap.size + 1) (Nat.le_succ _))
  have FL := hide h.lt
  have cL' : Hid (Calls Try.prog 27 #[.pointer (some ⟨d, 0, none⟩)] ((w.alloc (.cells #[.int .u64 b.seq, .int .u64 b.epoch, .int .u64 b.res, .int .u64 b.hor, .int .u64 b.gen, .bool b.clean, .int .i64 b.image] 37)).alloc (.cells #[.int .u64 0, .int .u64 0, .int .u64 0, .int .u64 0, .int .u64 0, .bool false, .int .i64 0] 37)) fun e w' => e = .returned (.tuple #[.agg #[.int .u64 0, .int .u64 0, .int .u64 0, .int .u64 0, .int .u64 0, .bool false, .int .i64 0], .int .i64 5]) ∧ RfAt w' d F S.loadDo ∧ Keep F ((w.alloc (.cells #[.int .u64 b.seq, .int .u64 b.epoch, .int .u64 b.res, .int .u64 b.hor, .int .u64 b.gen, .bool b.clean, .int .i64 b.image] 37)).alloc (.cells #[.int .u64 0, .int .u64 0, .int .u64 0, .int .u64 0, .int .u64 0, .bool false, .int .i64 0] 37)) w') := cL _ hA
  have HBX := hide hbx
  have HBZ := hide hbz
  have i0 : (b.image < 0) = False := eq_false h0
  have i1 : (2147483647 < b.image) = False := eq_false h1
  have HT : Hid ((toldN b.image : Int) = b.image) := by show _ = _; unfold toldN; rw [if_neg (by omega)]; omega
  clear h0 h1
  clear hA hbx hbz h cL
  go_enter Try.func21, Try.ntmps21
  go_wp2_with (first
    | (go_at_call 27; refine cL'.out.mono ?_; rintro r w1 ⟨rfl, hd1, kp1⟩; have HD1 := hide hd1; have HK1 := hide kp1; have hb1 := HBX.out.same (kp1.block _ HBX.out.lt NF.out); have hz1 := HBZ.out.same (kp1.block _ HBZ.out.lt NZ.out); have HB1 := hide hb1; have HZ1 := hide hz1; have hltb := hb1.lt; have hltz := hz1.lt; obtain ⟨z0, z1, z2, z3, z4, z5, z6, f0, f1, f2, f3, f4, f5, f6⟩ := cells7T hb1; obtain ⟨y0, y1, y2, y3, y4, y5, y6, g0, g1, g2, g3, g4, g5, g6⟩ := cells7zT hz1; clear hd1 kp1 hb1 hz1))
  generalize hW3 : (w1.setCell ⟨w.heap.size, 0, none⟩ (.int .u64 1)).alloc (.cells #[.int .u64 0, .int .u64 0, .int .u64 0, .int .u64 0, .int .u64 0, .bool false, .int .i64 0] 37) = W3
  have hne : w.heap.size + 1 ≠ w.heap.size := by omega
  have st3 : RStAt w d F F S.loadDo N W3 := by
    rw [← hW3, hN]
    have k1 : Keep F w w1 := KA.out.trans HK1.out (fun x hx => .inl hx)
    rw [HT.out]
    refine ⟨RfAt.alloc (HD1.out.same (fun k hk => ?_)) _, (HB1.out.set 0 _).alloc _, (HZ1.out.other hne _).alloc _, Moves.of_keep ((k1.setCell (.inr (Nat.le_refl _)) _).alloc _), NF.out, NZ.out⟩
    have hkn : k ≠ w.heap.size := fun e => NF.out (e ▸ hk)
    rw [blk_setCell_other _ _ _ _ hkn]
  have Nf : N.fits := by
    rw [hN]
    have := toldN_le b.image
    exact ⟨by show 1 < _; omega, hf.epoch, hf.res, hf.hor, hf.gen, by show _ ≤ ((toldN b.image : Nat) : Int); omega, by show ((toldN b.image : Nat) : Int) ≤ _; omega⟩
  have cE := hide (refEncode_any N Nf)
  have cW : Hid (∀ (W : World), RStAt w d F F S.loadDo N W → Calls Try.prog 42 #[.pointer (some ⟨d, 0, none⟩), .int .i64 ((N.seq % 2 : Nat) : Int), .string (txt N.enc)] W fun e w' => e = .returned (.int .i64 0) ∧
      ∃ F', RStAt w d F F' (S.loadDo.writeDo ((N.seq % 2 : Nat) : Int) (txt N.enc)) N w') := fun W hs => by
    refine (rwrite_at d F S.loadDo _ (txt N.enc) W hs.dev).mono ?_
    rintro e w' ⟨rfl, hd, m⟩
    exact ⟨by rw [hwe], F, hs.move hd (Moves.of_keep m)⟩
  have cF : Hid (∀ (W : World) (F' : List Nat), RStAt w d F F' (S.loadDo.writeDo ((N.seq % 2 : Nat) : Int) (txt N.enc)) N W → Calls Try.prog 43 #[.pointer (some ⟨d, 0, none⟩)] W fun e w' => e = .returned (.int .i64 0) ∧
      ∃ F2, RStAt w d F F2 (S.loadDo.writeDo ((N.seq % 2 : Nat) : Int) (txt N.enc)).flushDo N w') := fun W F' hs => by
    refine (rflush_at d F' _ W hs.dev).mono ?_
    rintro e w' ⟨rfl, F2, hd, m⟩
    exact ⟨by rw [hfe], F2, hs.move hd m⟩
  obtain ⟨q0, q1, q2, q3, q4, q5, q6, h0, h1, h2, h3, h4, h5, h6⟩ := cells7T st3.box
  have ST3 := hide st3
  have hmod : (N.seq : Int).tmod 2 = ((N.seq % 2 : Nat) : Int) := by rw [Int.tmod_eq_emod_of_nonneg (by omega)]; omega
  generalize hk2 : ((N.seq % 2 : Nat) : Int) = k2 at *
  generalize hte : txt N.enc = te at *
  have HTE := hide hte
  have hwk : IntKind.i64.wrap k2 = k2 := by rw [IntKind.wrap_i64]; omega
  have hwk2 : IntKind.u64.wrap k2 = k2 := by rw [IntKind.wrap_u64]; omega
  have HK2 := hide hk2
  have HN := hide hN
  have HW := hide hwe
  clear st3 HD1 HK1 HB1 HZ1 z0 z1 z2 z3 z4 z5 z6 f0 f1 f2 f3 f4 f5 f6 y0 y1 y2 y3 y4 y5 y6 g0 g1 g2 g3 g4 g5 g6 hW3 KA HBX HBZ cL' Nf hN hwe hk2 hf hte HT i0 i1 hfe
  go_region_held (fun W => W.cell? ⟨w.heap.size, 0, none⟩ = some (.int .u64 N.seq) ∧ W.cell? ⟨w.heap.size, 1, none⟩ = some (.int .u64 N.epoch) ∧ W.cell? ⟨w.heap.size, 2, none⟩ = some (.int .u64 N.res) ∧ W.cell? ⟨w.heap.size, 3, none⟩ = some (.int .u64 N.hor) ∧ W.cell? ⟨w.heap.size, 4, none⟩ = some (.int .u64 N.gen) ∧ W.cell? ⟨w.heap.size, 5, none⟩ = some (.bool N.clean) ∧ W.cell? ⟨w.heap.size, 6, none⟩ = some (.int .i64 N.image))
    (first | exact ⟨q0, q1, q2, q3, q4, q5, q6⟩ | assumption)
    (first
      | (go_at_call 15; refine (cE.out _).mono ?_; rintro r w4 ⟨rfl, hbel⟩; have s4 := ST3.out.drew.below hbel; obtain ⟨p0, p1, p2, p3, p4, p5, p6, r0, r1, r2, r3, r4, r5, r6⟩ := cells7T s4.box; have hS := And.intro p0 (And.intro p1 (And.intro p2 (And.intro p3 (And.intro p4 (And.intro p5 p6))))); have S4 := hide s4; clear hbel s4 p0 p1 p2 p3 p4 p5 p6 r0 r1 r2 r3 r4 r5 r6)
      | (go_at_call 42; refine (cW.out _ S4.out).mono ?_; rintro r w5 ⟨rfl, F5, s5⟩; obtain ⟨p0, p1, p2, p3, p4, p5, p6, r0, r1, r2, r3, r4, r5, r6⟩ := cells7T s5.box; have hS5 := And.intro p0 (And.intro p1 (And.intro p2 (And.intro p3 (And.intro p4 (And.intro p5 p6))))); have S5 := hide s5; clear s5))
  clear q0 q1 q2 q3 q4 q5 q6 h0 h1 h2 h3 h4 h5 h6 hS hmod hwk hwk2 cE cW
  clear p0 p1 p2 p3 p4 p5 p6 r0 r1 r2 r3 r4 r5 r6 hS5
  go_wp2_with (go_at_call 43; refine (cF.out _ _ S5.out).mono ?_; rintro r w6 ⟨rfl, F6, s6⟩; have S6 := hide s6; obtain ⟨u0, u1, u2, u3, u4, u5, u6, v0, v1, v2, v3, v4, v5, v6⟩ := cells7zT s6.res; obtain ⟨p0, p1, p2, p3, p4, p5, p6, r0, r1, r2, r3, r4, r5, r6⟩ := cells7T s6.box; clear s6)
  obtain ⟨hd, hm⟩ := S6.out.fin N
  rw [← HK2.out, ← HTE.out] at hd
  exact bodyPost_ret (v := bkV N 0) (by simp [results, Try.results21, go_sem, bkV, Bk.zero, *]) rfl ⟨rfl, F6, hd, hm⟩
set_option maxHeartbeats 1000000 in
theorem rstore_f4_none2 (d : Nat) (F : List Nat) (S : Dv) (b : Bk) (hf : b.fits) (w : World) (h : RfAt w d F S)
    (cL : ∀ W : World, RfAt W d F S → Calls Try.prog 27 #[.pointer (some ⟨d, 0, none⟩)] W fun e w' => e = .returned (bkV Bk.zero 5) ∧ RfAt w' d F S.loadDo ∧ Keep F W w') (h0 : ¬ b.image < 0) (h1 : ¬ 2147483647 < b.image) (N : Bk) (hN : N = ⟨1, b.epoch, b.res, b.hor, b.gen, b.clean, (toldN b.image : Int)⟩) (hwe : S.loadDo.writeErr ((N.seq % 2 : Nat) : Int) (txt N.enc) = 0) (hfe : (S.loadDo.writeDo ((N.seq % 2 : Nat) : Int) (txt N.enc)).flushErr = 4) :
    Calls Try.prog 21 #[.pointer (some ⟨d, 0, none⟩), .agg #[.int .u64 b.seq, .int .u64 b.epoch, .int .u64 b.res, .int .u64 b.hor, .int .u64 b.gen, .bool b.clean, .int .i64 b.image]] w fun e w' => e = .returned (bkV Bk.zero 4) ∧ ∃ F', RfAt w' d F' (S.loadDo.writeDo ((N.seq % 2 : Nat) : Int) (txt N.enc)).flushDo ∧ Moves F F' w w' := by
  have hA : RfAt ((w.alloc (.cells #[.int .u64 b.seq, .int .u64 b.epoch, .int .u64 b.res, .int .u64 b.hor, .int .u64 b.gen, .bool b.clean, .int .i64 b.image] 37)).alloc (.cells #[.int .u64 0, .int .u64 0, .int .u64 0, .int .u64 0, .int .u64 0, .bool false, .int .i64 0] 37)) d F S := (h.alloc _).alloc _
  have hbx : Blk ((w.alloc (.cells #[.int .u64 b.seq, .int .u64 b.epoch, .int .u64 b.res, .int .u64 b.hor, .int .u64 b.gen, .bool b.clean, .int .i64 b.image] 37)).alloc (.cells #[.int .u64 0, .int .u64 0, .int .u64 0, .int .u64 0, .int .u64 0, .bool false, .int .i64 0] 37)) w.heap.size (bkL b) 37 := (Blk.new w (bkL b) 37).alloc _
  have hbz : Blk ((w.alloc (.cells #[.int .u64 b.seq, .int .u64 b.epoch, .int .u64 b.res, .int .u64 b.hor, .int .u64 b.gen, .bool b.clean, .int .i64 b.image] 37)).alloc (.cells #[.int .u64 0, .int .u64 0, .int .u64 0, .int .u64 0, .int .u64 0, .bool false, .int .i64 0] 37)) (w.heap.size + 1) (bkL Bk.zero) 37 := by
    have := Blk.new (w.alloc (.cells #[.int .u64 b.seq, .int .u64 b.epoch, .int .u64 b.res, .int .u64 b.hor, .int .u64 b.gen, .bool b.clean, .int .i64 b.image] 37)) (bkL Bk.zero) 37
    rw [nblk_alloc] at this
    exact this
  have KA : Hid (Keep F w ((w.alloc (.cells #[.int .u64 b.seq, .int .u64 b.epoch, .int .u64 b.res, .int .u64 b.hor, .int .u64 b.gen, .bool b.clean, .int .i64 b.image] 37)).alloc (.cells #[.int .u64 0, .int .u64 0, .int .u64 0, .int .u64 0, .int .u64 0, .bool false, .int .i64 0] 37))) := ((Keep.refl F w).alloc _).alloc _
  have NF := hide (h.new w.heap.size (Nat.le_refl _))
  have NZ := hide (h.new (w.heap.size + 1) (Nat.le_succ _))
  have FL := hide h.lt
  have cL' : Hid (Calls Try.prog 27 #[.pointer (some ⟨d, 0, none⟩)] ((w.alloc (.cells #[.int .u64 b.seq, .int .u64 b.epoch, .int .u64 b.res, .int .u64 b.hor, .int .u64 b.gen, .bool b.clean, .int .i64 b.image] 37)).alloc (.cells #[.int .u64 0, .int .u64 0, .int .u64 0, .int .u64 0, .int .u64 0, .bool false, .int .i64 0] 37)) fun e w' => e = .returned (.tuple #[.agg #[.int .u64 0, .int .u64 0, .int .u64 0, .int .u64 0, .int .u64 0, .bool false, .int .i64 0], .int .i64 5]) ∧ RfAt w' d F S.loadDo ∧ Keep F ((w.alloc (.cells #[.int .u64 b.seq, .int .u64 b.epoch, .int .u64 b.res, .int .u64 b.hor, .int .u64 b.gen, .bool b.clean, .int .i64 b.image] 37)).alloc (.cells #[.int .u64 0, .int .u64 0, .int .u64 0, .int .u64 0, .int .u64 0, .bool false, .int .i64 0] 37)) w') := cL _ hA
  have HBX := hide hbx
  have HBZ := hide hbz
  have i0 : (b.image < 0) = False := eq_false h0
  have i1 : (2147483647 < b.image) = False := eq_false h1
  have HT : Hid ((toldN b.image : Int) = b.image) := by show _ = _; unfold toldN; rw [if_neg (by omega)]; omega
  clear h0 h1
  clear hA hbx hbz h cL
  go_enter Try.func21, Try.ntmps21
  go_wp2_with (first
    | (go_at_call 27; refine cL'.out.mono ?_; rintro r w1 ⟨rfl, hd1, kp1⟩; have HD1 := hide hd1; have HK1 := hide kp1; have hb1 := HBX.out.same (kp1.block _ HBX.out.lt NF.out); have hz1 := HBZ.out.same (kp1.block _ HBZ.out.lt NZ.out); have HB1 := hide hb1; have HZ1 := hide hz1; have hltb := hb1.lt; have hltz := hz1.lt; obtain ⟨z0, z1, z2, z3, z4, z5, z6, f0, f1, f2, f3, f4, f5, f6⟩ := cells7T hb1; obtain ⟨y0, y1, y2, y3, y4, y5, y6, g0, g1, g2, g3, g4, g5, g6⟩ := cells7zT hz1; clear hd1 kp1 hb1 hz1))
  generalize hW3 : (w1.setCell ⟨w.heap.size, 0, none⟩ (.int .u64 1)).alloc (.cells #[.int .u64 0, .int .u64 0, .int .u64 0, .int .u64 0, .int .u64 0, .bool false, .int .i64 0] 37) = W3
  have hne : w.heap.size + 1 ≠ w.heap.size := by omega
  have st3 : RStAt w d F F S.loadDo N W3 := by
    rw [← hW3, hN]
    have k1 : Keep F w w1 := KA.out.trans HK1.out (fun x hx => .inl hx)
    rw [HT.out]
    refine ⟨RfAt.alloc (HD1.out.same (fun k hk => ?_)) _, (HB1.out.set 0 _).alloc _, (HZ1.out.other hne _).alloc _, Moves.of_keep ((k1.setCell (.inr (Nat.le_refl _)) _).alloc _), NF.out, NZ.out⟩
    have hkn : k ≠ w.heap.size := fun e => NF.out (e ▸ hk)
    rw [blk_setCell_other _ _ _ _ hkn]
  have Nf : N.fits := by
    rw [hN]
    have := toldN_le b.image
    exact ⟨by show 1 < _; omega, hf.epoch, hf.res, hf.hor, hf.gen, by show _ ≤ ((toldN b.image : Nat) : Int); omega, by show ((toldN b.image : Nat) : Int) ≤ _; omega⟩
  have cE := hide (refEncode_any N Nf)
  have cW : Hid (∀ (W : World), RStAt w d F F S.loadDo N W → Calls Try.prog 42 #[.pointer (some ⟨d, 0, none⟩), .int .i64 ((N.seq % 2 : Nat) : Int), .string (txt N.enc)] W fun e w' => e = .returned (.int .i64 0) ∧
      ∃ F', RStAt w d F F' (S.loadDo.writeDo ((N.seq % 2 : Nat) : Int) (txt N.enc)) N w') := fun W hs => by
    refine (rwrite_at d F S.loadDo _ (txt N.enc) W hs.dev).mono ?_
    rintro e w' ⟨rfl, hd, m⟩
    exact ⟨by rw [hwe], F, hs.move hd (Moves.of_keep m)⟩
  have cF : Hid (∀ (W : World) (F' : List Nat), RStAt w d F F' (S.loadDo.writeDo ((N.seq % 2 : Nat) : Int) (txt N.enc)) N W → Calls Try.prog 43 #[.pointer (some ⟨d, 0, none⟩)] W fun e w' => e = .returned (.int .i64 4) ∧
      ∃ F2, RStAt w d F F2 (S.loadDo.writeDo ((N.seq % 2 : Nat) : Int) (txt N.enc)).flushDo N w') := fun W F' hs => by
    refine (rflush_at d F' _ W hs.dev).mono ?_
    rintro e w' ⟨rfl, F2, hd, m⟩
    exact ⟨by rw [hfe], F2, hs.move hd m⟩
  obtain ⟨q0, q1, q2, q3, q4, q5, q6, h0, h1, h2, h3, h4, h5, h6⟩ := cells7T st3.box
  have ST3 := hide st3
  have hmod : (N.seq : Int).tmod 2 = ((N.seq % 2 : Nat) : Int) := by rw [Int.tmod_eq_emod_of_nonneg (by omega)]; omega
  generalize hk2 : ((N.seq % 2 : Nat) : Int) = k2 at *
  generalize hte : txt N.enc = te at *
  have HTE := hide hte
  have hwk : IntKind.i64.wrap k2 = k2 := by rw [IntKind.wrap_i64]; omega
  have hwk2 : IntKind.u64.wrap k2 = k2 := by rw [IntKind.wrap_u64]; omega
  have HK2 := hide hk2
  have HN := hide hN
  have HW := hide hwe
  clear st3 HD1 HK1 HB1 HZ1 z0 z1 z2 z3 z4 z5 z6 f0 f1 f2 f3 f4 f5 f6 y0 y1 y2 y3 y4 y5 y6 g0 g1 g2 g3 g4 g5 g6 hW3 KA HBX HBZ cL' Nf hN hwe hk2 hf hte HT i0 i1 hfe
  go_region_held (fun W => W.cell? ⟨w.heap.size, 0, none⟩ = some (.int .u64 N.seq) ∧ W.cell? ⟨w.heap.size, 1, none⟩ = some (.int .u64 N.epoch) ∧ W.cell? ⟨w.heap.size, 2, none⟩ = some (.int .u64 N.res) ∧ W.cell? ⟨w.heap.size, 3, none⟩ = some (.int .u64 N.hor) ∧ W.cell? ⟨w.heap.size, 4, none⟩ = some (.int .u64 N.gen) ∧ W.cell? ⟨w.heap.size, 5, none⟩ = some (.bool N.clean) ∧ W.cell? ⟨w.heap.size, 6, none⟩ = some (.int .i64 N.image))
    (first | exact ⟨q0, q1, q2, q3, q4, q5, q6⟩ | assumption)
    (first
      | (go_at_call 15; refine (cE.out _).mono ?_; rintro r w4 ⟨rfl, hbel⟩; have s4 := ST3.out.drew.below hbel; obtain ⟨p0, p1, p2, p3, p4, p5, p6, r0, r1, r2, r3, r4, r5, r6⟩ := cells7T s4.box; have hS := And.intro p0 (And.intro p1 (And.intro p2 (And.intro p3 (And.intro p4 (And.intro p5 p6))))); have S4 := hide s4; clear hbel s4 p0 p1 p2 p3 p4 p5 p6 r0 r1 r2 r3 r4 r5 r6)
      | (go_at_call 42; refine (cW.out _ S4.out).mono ?_; rintro r w5 ⟨rfl, F5, s5⟩; obtain ⟨p0, p1, p2, p3, p4, p5, p6, r0, r1, r2, r3, r4, r5, r6⟩ := cells7T s5.box; have hS5 := And.intro p0 (And.intro p1 (And.intro p2 (And.intro p3 (And.intro p4 (And.intro p5 p6))))); have S5 := hide s5; clear s5))
  clear q0 q1 q2 q3 q4 q5 q6 h0 h1 h2 h3 h4 h5 h6 hS hmod hwk hwk2 cE cW
  clear p0 p1 p2 p3 p4 p5 p6 r0 r1 r2 r3 r4 r5 r6 hS5
  go_wp2_with (go_at_call 43; refine (cF.out _ _ S5.out).mono ?_; rintro r w6 ⟨rfl, F6, s6⟩; have S6 := hide s6; obtain ⟨u0, u1, u2, u3, u4, u5, u6, v0, v1, v2, v3, v4, v5, v6⟩ := cells7zT s6.res; obtain ⟨p0, p1, p2, p3, p4, p5, p6, r0, r1, r2, r3, r4, r5, r6⟩ := cells7T s6.box; clear s6)
  obtain ⟨hd, hm⟩ := S6.out.fin Bk.zero
  rw [← HK2.out, ← HTE.out] at hd
  exact bodyPost_ret (v := bkV Bk.zero 4) (by simp [results, Try.results21, go_sem, bkV, Bk.zero, *]) rfl ⟨rfl, F6, hd, hm⟩
set_option maxHeartbeats 1000000 in
theorem rstore_w4_none2 (d : Nat) (F : List Nat) (S : Dv) (b : Bk) (hf : b.fits) (w : World) (h : RfAt w d F S)
    (cL : ∀ W : World, RfAt W d F S → Calls Try.prog 27 #[.pointer (some ⟨d, 0, none⟩)] W fun e w' => e = .returned (bkV Bk.zero 5) ∧ RfAt w' d F S.loadDo ∧ Keep F W w') (h0 : ¬ b.image < 0) (h1 : ¬ 2147483647 < b.image) (N : Bk) (hN : N = ⟨1, b.epoch, b.res, b.hor, b.gen, b.clean, (toldN b.image : Int)⟩) (hwe : S.loadDo.writeErr ((N.seq % 2 : Nat) : Int) (txt N.enc) = 4) :
    Calls Try.prog 21 #[.pointer (some ⟨d, 0, none⟩), .agg #[.int .u64 b.seq, .int .u64 b.epoch, .int .u64 b.res, .int .u64 b.hor, .int .u64 b.gen, .bool b.clean, .int .i64 b.image]] w fun e w' => e = .returned (bkV Bk.zero 4) ∧ ∃ F', RfAt w' d F' (S.loadDo.writeDo ((N.seq % 2 : Nat) : Int) (txt N.enc)) ∧ Moves F F' w w' := by
  have hA : RfAt ((w.alloc (.cells #[.int .u64 b.seq, .int .u64 b.epoch, .int .u64 b.res, .int .u64 b.hor, .int .u64 b.gen, .bool b.clean, .int .i64 b.image] 37)).alloc (.cells #[.int .u64 0, .int .u64 0, .int .u64 0, .int .u64 0, .int .u64 0, .bool false, .int .i64 0] 37)) d F S := (h.alloc _).alloc _
  have hbx : Blk ((w.alloc (.cells #[.int .u64 b.seq, .int .u64 b.epoch, .int .u64 b.res, .int .u64 b.hor, .int .u64 b.gen, .bool b.clean, .int .i64 b.image] 37)).alloc (.cells #[.int .u64 0, .int .u64 0, .int .u64 0, .int .u64 0, .int .u64 0, .bool false, .int .i64 0] 37)) w.heap.size (bkL b) 37 := (Blk.new w (bkL b) 37).alloc _
  have hbz : Blk ((w.alloc (.cells #[.int .u64 b.seq, .int .u64 b.epoch, .int .u64 b.res, .int .u64 b.hor, .int .u64 b.gen, .bool b.clean, .int .i64 b.image] 37)).alloc (.cells #[.int .u64 0, .int .u64 0, .int .u64 0, .int .u64 0, .int .u64 0, .bool false, .int .i64 0] 37)) (w.heap.size + 1) (bkL Bk.zero) 37 := by
    have := Blk.new (w.alloc (.cells #[.int .u64 b.seq, .int .u64 b.epoch, .int .u64 b.res, .int .u64 b.hor, .int .u64 b.gen, .bool b.clean, .int .i64 b.image] 37)) (bkL Bk.zero) 37
    rw [nblk_alloc] at this
    exact this
  have KA : Hid (Keep F w ((w.alloc (.cells #[.int .u64 b.seq, .int .u64 b.epoch, .int .u64 b.res, .int .u64 b.hor, .int .u64 b.gen, .bool b.clean, .int .i64 b.image] 37)).alloc (.cells #[.int .u64 0, .int .u64 0, .int .u64 0, .int .u64 0, .int .u64 0, .bool false, .int .i64 0] 37))) := ((Keep.refl F w).alloc _).alloc _
  have NF := hide (h.new w.heap.size (Nat.le_refl _))
  have NZ := hide (h.new (w.heap.size + 1) (Nat.le_succ _))
  have FL := hide h.lt
  have cL' : Hid (Calls Try.prog 27 #[.pointer (some ⟨d, 0, none⟩)] ((w.alloc (.cells #[.int .u64 b.seq, .int .u64 b.epoch, .int .u64 b.res, .int .u64 b.hor, .int .u64 b.gen, .bool b.clean, .int .i64 b.image] 37)).alloc (.cells #[.int .u64 0, .int .u64 0, .int .u64 0, .int .u64 0, .int .u64 0, .bool false, .int .i64 0] 37)) fun e w' => e = .returned (.tuple #[.agg #[.int .u64 0, .int .u64 0, .int .u64 0, .int .u64 0, .int .u64 0, .bool false, .int .i64 0], .int .i64 5]) ∧ RfAt w' d F S.loadDo ∧ Keep F ((w.alloc (.cells #[.int .u64 b.seq, .int .u64 b.epoch, .int .u64 b.res, .int .u64 b.hor, .int .u64 b.gen, .bool b.clean, .int .i64 b.image] 37)).alloc (.cells #[.int .u64 0, .int .u64 0, .int .u64 0, .int .u64 0, .int .u64 0, .bool false, .int .i64 0] 37)) w') := cL _ hA
  have HBX := hide hbx
  have HBZ := hide hbz
  have i0 : (b.image < 0) = False := eq_false h0
  have i1 : (2147483647 < b.image) = False := eq_false h1
  have HT : Hid ((toldN b.image : Int) = b.image) := by show _ = _; unfold toldN; rw [if_neg (by omega)]; omega
  clear h0 h1
  clear hA hbx hbz h cL
  go_enter Try.func21, Try.ntmps21
  go_wp2_with (first
    | (go_at_call 27; refine cL'.out.mono ?_; rintro r w1 ⟨rfl, hd1, kp1⟩; have HD1 := hide hd1; have HK1 := hide kp1; have hb1 := HBX.out.same (kp1.block _ HBX.out.lt NF.out); have hz1 := HBZ.out.same (kp1.block _ HBZ.out.lt NZ.out); have HB1 := hide hb1; have HZ1 := hide hz1; have hltb := hb1.lt; have hltz := hz1.lt; obtain ⟨z0, z1, z2, z3, z4, z5, z6, f0, f1, f2, f3, f4, f5, f6⟩ := cells7T hb1; obtain ⟨y0, y1, y2, y3, y4, y5, y6, g0, g1, g2, g3, g4, g5, g6⟩ := cells7zT hz1; clear hd1 kp1 hb1 hz1))
  generalize hW3 : (w1.setCell ⟨w.heap.size, 0, none⟩ (.int .u64 1)).alloc (.cells #[.int .u64 0, .int .u64 0, .int .u64 0, .int .u64 0, .int .u64 0, .bool false, .int .i64 0] 37) = W3
  have hne : w.heap.size + 1 ≠ w.heap.size := by omega
  have st3 : RStAt w d F F S.loadDo N W3 := by
    rw [← hW3, hN]
    have k1 : Keep F w w1 := KA.out.trans HK1.out (fun x hx => .inl hx)
    rw [HT.out]
    refine ⟨RfAt.alloc (HD1.out.same (fun k hk => ?_)) _, (HB1.out.set 0 _).alloc _, (HZ1.out.other hne _).alloc _, Moves.of_keep ((k1.setCell (.inr (Nat.le_refl _)) _).alloc _), NF.out, NZ.out⟩
    have hkn : k ≠ w.heap.size := fun e => NF.out (e ▸ hk)
    rw [blk_setCell_other _ _ _ _ hkn]
  have Nf : N.fits := by
    rw [hN]
    have := toldN_le b.image
    exact ⟨by show 1 < _; omega, hf.epoch, hf.res, hf.hor, hf.gen, by show _ ≤ ((toldN b.image : Nat) : Int); omega, by show ((toldN b.image : Nat) : Int) ≤ _; omega⟩
  have cE := hide (refEncode_any N Nf)
  have cW : Hid (∀ (W : World), RStAt w d F F S.loadDo N W → Calls Try.prog 42 #[.pointer (some ⟨d, 0, none⟩), .int .i64 ((N.seq % 2 : Nat) : Int), .string (txt N.enc)] W fun e w' => e = .returned (.int .i64 4) ∧
      ∃ F', RStAt w d F F' (S.loadDo.writeDo ((N.seq % 2 : Nat) : Int) (txt N.enc)) N w') := fun W hs => by
    refine (rwrite_at d F S.loadDo _ (txt N.enc) W hs.dev).mono ?_
    rintro e w' ⟨rfl, hd, m⟩
    exact ⟨by rw [hwe], F, hs.move hd (Moves.of_keep m)⟩
  obtain ⟨q0, q1, q2, q3, q4, q5, q6, h0, h1, h2, h3, h4, h5, h6⟩ := cells7T st3.box
  have ST3 := hide st3
  have hmod : (N.seq : Int).tmod 2 = ((N.seq % 2 : Nat) : Int) := by rw [Int.tmod_eq_emod_of_nonneg (by omega)]; omega
  generalize hk2 : ((N.seq % 2 : Nat) : Int) = k2 at *
  generalize hte : txt N.enc = te at *
  have HTE := hide hte
  have hwk : IntKind.i64.wrap k2 = k2 := by rw [IntKind.wrap_i64]; omega
  have hwk2 : IntKind.u64.wrap k2 = k2 := by rw [IntKind.wrap_u64]; omega
  have HK2 := hide hk2
  have HN := hide hN
  have HW := hide hwe
  clear st3 HD1 HK1 HB1 HZ1 z0 z1 z2 z3 z4 z5 z6 f0 f1 f2 f3 f4 f5 f6 y0 y1 y2 y3 y4 y5 y6 g0 g1 g2 g3 g4 g5 g6 hW3 KA HBX HBZ cL' Nf hN hwe hk2 hf hte HT i0 i1
  go_region_held (fun W => W.cell? ⟨w.heap.size, 0, none⟩ = some (.int .u64 N.seq) ∧ W.cell? ⟨w.heap.size, 1, none⟩ = some (.int .u64 N.epoch) ∧ W.cell? ⟨w.heap.size, 2, none⟩ = some (.int .u64 N.res) ∧ W.cell? ⟨w.heap.size, 3, none⟩ = some (.int .u64 N.hor) ∧ W.cell? ⟨w.heap.size, 4, none⟩ = some (.int .u64 N.gen) ∧ W.cell? ⟨w.heap.size, 5, none⟩ = some (.bool N.clean) ∧ W.cell? ⟨w.heap.size, 6, none⟩ = some (.int .i64 N.image))
    (first | exact ⟨q0, q1, q2, q3, q4, q5, q6⟩ | assumption)
    (first
      | (go_at_call 15; refine (cE.out _).mono ?_; rintro r w4 ⟨rfl, hbel⟩; have s4 := ST3.out.drew.below hbel; obtain ⟨p0, p1, p2, p3, p4, p5, p6, r0, r1, r2, r3, r4, r5, r6⟩ := cells7T s4.box; have hS := And.intro p0 (And.intro p1 (And.intro p2 (And.intro p3 (And.intro p4 (And.intro p5 p6))))); have S4 := hide s4; clear hbel s4 p0 p1 p2 p3 p4 p5 p6 r0 r1 r2 r3 r4 r5 r6)
      | (go_at_call 42; refine (cW.out _ S4.out).mono ?_; rintro r w5 ⟨rfl, F5, s5⟩; obtain ⟨p0, p1, p2, p3, p4, p5, p6, r0, r1, r2, r3, r4, r5, r6⟩ := cells7T s5.box; have hS5 := And.intro p0 (And.intro p1 (And.intro p2 (And.intro p3 (And.intro p4 (And.intro p5 p6))))); have S5 := hide s5; clear s5))
  clear q0 q1 q2 q3 q4 q5 q6 h0 h1 h2 h3 h4 h5 h6 hS hmod hwk hwk2 cE cW
  clear p0 p1 p2 p3 p4 p5 p6 r0 r1 r2 r3 r4 r5 r6 hS5
  obtain ⟨u0, u1, u2, u3, u4, u5, u6, v0, v1, v2, v3, v4, v5, v6⟩ := cells7zT S5.out.res
  go_wp2
  obtain ⟨hd, hm⟩ := S5.out.fin Bk.zero
  rw [← HK2.out, ← HTE.out] at hd
  exact bodyPost_ret (v := bkV Bk.zero 4) (by simp [results, Try.results21, go_sem, bkV, Bk.zero, *]) rfl ⟨rfl, F5, hd, hm⟩
end Go.Proofs.Ytcdefadeaiklbaa
