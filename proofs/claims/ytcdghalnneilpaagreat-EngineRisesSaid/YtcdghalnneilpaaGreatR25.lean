/- Joined texts. -/
import Derived.Test.YtcdghalnneilpaaGreatR24
set_option linter.unusedVariables false
set_option linter.unusedSimpArgs false
set_option maxRecDepth 8000
set_option maxHeartbeats 8000000
namespace Go.Proofs.YtcdghalnneilpaaGreat
open Go.RowKit Go.Deep Math
def Dv.lastSeq (S : Dv) : Nat := match S.loadB with
 | some x => x.seq
 | none => 0
def Dv.nextB (S : Dv) (b : Sb) : Sb := { b with seq := S.lastSeq + 1, image := (toldN b.image : Int) }
structure StAt (w : World) (d : Nat) (F F' : List Nat) (S : Dv) (n : Sb) (W : World) : Prop where
 dev : DvAt W d F' S
 box : Blk W w.heap.size (bkL n) 30
 res : Blk W (w.heap.size + 1) (bkL Sb.zero) 30
 mv : Moves F F' w W
 nb : w.heap.size ∉ F'
 nz : w.heap.size + 1 ∉ F'
theorem StAt.below {w W W2 : World} {d : Nat} {F F' : List Nat} {S : Dv} {n : Sb} (h : StAt w d F F' S n W) (b : Below W.heap.size W W2) : StAt w d F F' S n W2 :=
 ⟨h.dev.below b, h.box.same (b.block _ h.box.lt), h.res.same (b.block _ h.res.lt), h.mv.trans (Moves.of_keep (Keep.of_below b)), h.nb, h.nz⟩
theorem StAt.move {w W W2 : World} {d : Nat} {F F' F2 : List Nat} {S S2 : Dv} {n : Sb} (h : StAt w d F F' S n W) (hd : DvAt W2 d F2 S2) (m : Moves F' F2 W W2) : StAt w d F F2 S2 n W2 := by
 have h1 := h.box.lt
 have h2 := h.res.lt
 refine ⟨hd, h.box.same (m.keep.block _ h1 h.nb), h.res.same (m.keep.block _ h2 h.nz), h.mv.trans m, fun hf => ?_, fun hf => ?_⟩
 ·rcases m.foot _ hf with h3 | h3
  ·exact h.nb h3
  ·omega
 ·rcases m.foot _ hf with h3 | h3
  ·exact h.nz h3
  ·omega
theorem StAt.drew {w W : World} {d : Nat} {F F' : List Nat} {S : Dv} {n : Sb} (h : StAt w d F F' S n W) : StAt w d F F' S n W.drew :=
 h.below (Below.refl _ _).drew
theorem StAt.fin {w W : World} {d : Nat} {F F' : List Nat} {S : Dv} {n : Sb} (h : StAt w d F F' S n W) (x : Sb) : DvAt (put7 W (w.heap.size + 1) x) d F' S /\ Moves F F' w (put7 W (w.heap.size + 1) x) :=
 ⟨put7_dv h.dev h.nz x, ⟨put7_keep h.mv.keep (.inr (Nat.le_succ _)) x, h.mv.foot⟩⟩
def stW (w : World) (b : Sb) : World := (w.alloc (.cells #[.int .u64 b.seq, .int .u64 b.epoch, .int .u64 b.res, .int .u64 b.hor, .int .u64 b.gen, .bool b.clean, .int .i64 b.image] 30)).alloc (.cells #[.int .u64 0, .int .u64 0, .int .u64 0, .int .u64 0, .int .u64 0, .bool false, .int .i64 0] 30)
theorem stW_z (w : World) (b : Sb) : Blk (stW w b) (w.heap.size + 1) (bkL Sb.zero) 30 := by
 have := Blk.new (w.alloc (.cells (bkL b).toArray 30)) (bkL Sb.zero) 30
 rw [nblk_alloc] at this
 exact this
theorem store_worn (d : Nat) (F : List Nat) (S : Dv) (b : Sb) (hf : b.fits) (x : Sb) (hx : x.fits) (w : World) (h : DvAt w d F S)
  (cL : ∀ W : World, DvAt W d F S -> Calls Tryz.prog 47 #[.pointer (some ⟨d, 0, none⟩)] W fun e w' => e = .returned (bkV x 0) /\ DvAt w' d F S.loadDo /\ Keep F W w') (hw : x.seq = 18446744073709551615) :
  Calls Tryz.prog 87 #[.pointer (some ⟨d, 0, none⟩), .agg #[.int .u64 b.seq, .int .u64 b.epoch, .int .u64 b.res, .int .u64 b.hor, .int .u64 b.gen, .bool b.clean, .int .i64 b.image]] w fun e w' => e = .returned (bkV Sb.zero 9) /\ ∃ F', DvAt w' d F' S.loadDo /\ Moves F F' w w' := by
 have hA : DvAt (stW w b) d F S := (h.alloc _).alloc _
 have hbx : Blk (stW w b) w.heap.size (bkL b) 30 := (Blk.new w (bkL b) 30).alloc _
 have hbz := stW_z w b
 have KA : Hid (Keep F w (stW w b)) := ((Keep.refl F w).alloc _).alloc _
 have NF := hide (h.new w.heap.size (Nat.le_refl _))
 have NZ := hide (h.new (w.heap.size + 1) (Nat.le_succ _))
 have FL := hide h.lt
 have cL' : Hid (Calls Tryz.prog 47 #[.pointer (some ⟨d, 0, none⟩)] (stW w b) fun e w' => e = .returned (.tuple #[.agg #[.int .u64 x.seq, .int .u64 x.epoch, .int .u64 x.res, .int .u64 x.hor, .int .u64 x.gen, .bool x.clean, .int .i64 x.image], .int .i64 0]) /\ DvAt w' d F S.loadDo /\ Keep F (stW w b) w') := cL _ hA
 have HBX := hide hbx
 have HBZ := hide hbz
 have hq : ((x.seq : Int) == 18446744073709551615) = true := by rw [hw]; rfl
 clear hA hbx hbz h cL hw
 go_enter Tryz.func87, Tryz.ntmps87
 go_wp2_with (first
  | (go_at_call 47; refine cL'.out.mono ?_; rintro r w1 ⟨rfl, hd1, kp1⟩; have HD1 := hide hd1; have HK1 := hide kp1; have hb1 := HBX.out.same (kp1.block _ HBX.out.lt NF.out); have hz1 := HBZ.out.same (kp1.block _ HBZ.out.lt NZ.out); have HB1 := hide hb1; have HZ1 := hide hz1; have hltb := hb1.lt; have hltz := hz1.lt; obtain ⟨z0, z1, z2, z3, z4, z5, z6, f0, f1, f2, f3, f4, f5, f6⟩ := cells7 hb1; obtain ⟨y0, y1, y2, y3, y4, y5, y6, g0, g1, g2, g3, g4, g5, g6⟩ := cells7z hz1; clear hd1 kp1 hb1 hz1))
 refine bodyPost_ret (v := bkV Sb.zero 9) (by simp [results, Tryz.results87, go_sem, bkV, Sb.zero, *]) rfl ⟨rfl, F, ?_, Moves.of_keep ?_⟩
 ·exact (put7_dv HD1.out NZ.out Sb.zero).alloc _
 ·exact (put7_keep (KA.out.trans HK1.out (fun x hx => .inl hx)) (.inr (Nat.le_succ _)) Sb.zero).alloc _
theorem store_ok_some (d : Nat) (F : List Nat) (S : Dv) (b : Sb) (hf : b.fits) (x : Sb) (hx : x.fits) (w : World) (h : DvAt w d F S)
  (cL : ∀ W : World, DvAt W d F S -> Calls Tryz.prog 47 #[.pointer (some ⟨d, 0, none⟩)] W fun e w' => e = .returned (bkV x 0) /\ DvAt w' d F S.loadDo /\ Keep F W w') (hw : x.seq ≠ 18446744073709551615) (N : Sb) (hN : N = ⟨x.seq + 1, b.epoch, b.res, b.hor, b.gen, b.clean, (toldN b.image : Int)⟩) (hwe : S.loadDo.writeErr ((N.seq % 2 : Nat) : Int) (txt N.enc) = 0) (hfe : (S.loadDo.writeDo ((N.seq % 2 : Nat) : Int) (txt N.enc)).flushErr = 0) :
  Calls Tryz.prog 87 #[.pointer (some ⟨d, 0, none⟩), .agg #[.int .u64 b.seq, .int .u64 b.epoch, .int .u64 b.res, .int .u64 b.hor, .int .u64 b.gen, .bool b.clean, .int .i64 b.image]] w fun e w' => e = .returned (bkV N 0) /\ ∃ F', DvAt w' d F' (S.loadDo.writeDo ((N.seq % 2 : Nat) : Int) (txt N.enc)).flushDo /\ Moves F F' w w' := by
 have hA : DvAt (stW w b) d F S := (h.alloc _).alloc _
 have hbx : Blk (stW w b) w.heap.size (bkL b) 30 := (Blk.new w (bkL b) 30).alloc _
 have hbz := stW_z w b
 have KA : Hid (Keep F w (stW w b)) := ((Keep.refl F w).alloc _).alloc _
 have NF := hide (h.new w.heap.size (Nat.le_refl _))
 have NZ := hide (h.new (w.heap.size + 1) (Nat.le_succ _))
 have FL := hide h.lt
 have cL' : Hid (Calls Tryz.prog 47 #[.pointer (some ⟨d, 0, none⟩)] (stW w b) fun e w' => e = .returned (.tuple #[.agg #[.int .u64 x.seq, .int .u64 x.epoch, .int .u64 x.res, .int .u64 x.hor, .int .u64 x.gen, .bool x.clean, .int .i64 x.image], .int .i64 0]) /\ DvAt w' d F S.loadDo /\ Keep F (stW w b) w') := cL _ hA
 have HBX := hide hbx
 have HBZ := hide hbz
 have hq : ((x.seq : Int) == 18446744073709551615) = false := by
  have : ¬ (x.seq : Int) = 18446744073709551615 := by omega
  simpa using this
 have HQ := hide hw
 have hws : IntKind.u64.wrap ((x.seq : Int) + 1) = ((x.seq + 1 : Nat) : Int) := by rw [IntKind.wrap_u64]; have := hx.seq; omega
 have ct := hide (told_any b.image)
 clear hA hbx hbz h cL hw
 go_enter Tryz.func87, Tryz.ntmps87
 go_wp2_with (first
  | (go_at_call 47; refine cL'.out.mono ?_; rintro r w1 ⟨rfl, hd1, kp1⟩; have HD1 := hide hd1; have HK1 := hide kp1; have hb1 := HBX.out.same (kp1.block _ HBX.out.lt NF.out); have hz1 := HBZ.out.same (kp1.block _ HBZ.out.lt NZ.out); have HB1 := hide hb1; have HZ1 := hide hz1; have hltb := hb1.lt; have hltz := hz1.lt; obtain ⟨z0, z1, z2, z3, z4, z5, z6, f0, f1, f2, f3, f4, f5, f6⟩ := cells7 hb1; obtain ⟨y0, y1, y2, y3, y4, y5, y6, g0, g1, g2, g3, g4, g5, g6⟩ := cells7z hz1; clear hd1 kp1 hb1 hz1)
  | (go_at_call 143; refine (ct.out _).mono ?_; rintro r w2 ⟨rfl, h2⟩; obtain rfl := h2))
 generalize hW3 : ((w1.setCell ⟨w.heap.size, 0, none⟩ (.int .u64 ((x.seq : Int) + 1))).setCell ⟨w.heap.size, 6, none⟩ (.int .i64 (toldN b.image : Nat))).alloc (.cells #[.int .u64 x.seq, .int .u64 x.epoch, .int .u64 x.res, .int .u64 x.hor, .int .u64 x.gen, .bool x.clean, .int .i64 x.image] 30) = W3
 have hne : w.heap.size + 1 ≠ w.heap.size := by omega
 have st3 : StAt w d F F S.loadDo N W3 := by
  rw [<- hW3, hN]
  have k1 : Keep F w w1 := KA.out.trans HK1.out (fun x hx => .inl hx)
  refine ⟨DvAt.alloc (HD1.out.same (fun k hk => ?_)) _, ((HB1.out.set 0 _).set 6 _).alloc _, ((HZ1.out.other hne _).other hne _).alloc _, Moves.of_keep (((k1.setCell (.inr (Nat.le_refl _)) _).setCell (.inr (Nat.le_refl _)) _).alloc _), NF.out, NZ.out⟩
  have hkn : k ≠ w.heap.size := fun e => NF.out (e ▸ hk)
  rw [blk_setCell_other _ _ _ _ hkn, blk_setCell_other _ _ _ _ hkn]
 have Nf : N.fits := by
  rw [hN]
  have := toldN_le b.image
  exact ⟨by have := hx.seq; have := HQ.out; show x.seq + 1 < _; omega, hf.epoch, hf.res, hf.hor, hf.gen, by show _ <= ((toldN b.image : Nat) : Int); omega, by show ((toldN b.image : Nat) : Int) <= _; omega⟩
 have cE := hide (encode_any N Nf)
 have cW : Hid (∀ (W : World) (g : Nat), Buf W g N.enc 0 -> w.heap.size <= g -> StAt w d F F S.loadDo N W -> Calls Tryz.prog 88 #[.pointer (some ⟨d, 0, none⟩), .int .i64 ((N.seq % 2 : Nat) : Int), .slice (some ⟨g, 0, none⟩) 64 64] W fun e w' => e = .returned (.int .i64 0) /\
   ∃ F', StAt w d F F' (S.loadDo.writeDo ((N.seq % 2 : Nat) : Int) (txt N.enc)) N w') := fun W g hb hg hs => by
  have hbs := buf_bs (n := 64) (cap := 64) hb (by rw [N.enc_length]) (Nat.le_refl _)
  refine (write_at d F S.loadDo _ _ 64 64 g N.enc (by rw [N.enc_length]) W hbs.slice (fun h => by cases h) (fun _ hf => by have := FL.out g hf; omega) hs.dev).mono ?_
  rintro e w' ⟨rfl, F', hd, m⟩
  exact ⟨by rw [show (⟨N.enc.toArray⟩ : ByteArray) = txt N.enc from rfl, hwe], F', hs.move hd m⟩
 have cF : Hid (∀ (W : World) (F' : List Nat), StAt w d F F' (S.loadDo.writeDo ((N.seq % 2 : Nat) : Int) (txt N.enc)) N W -> Calls Tryz.prog 83 #[.pointer (some ⟨d, 0, none⟩)] W fun e w' => e = .returned (.int .i64 0) /\
   ∃ F2, StAt w d F F2 (S.loadDo.writeDo ((N.seq % 2 : Nat) : Int) (txt N.enc)).flushDo N w') := fun W F' hs => by
  refine (flush_at d F' _ W hs.dev).mono ?_
  rintro e w' ⟨rfl, F2, hd, m⟩
  exact ⟨by rw [hfe], F2, hs.move hd m⟩
 obtain ⟨q0, q1, q2, q3, q4, q5, q6, h0, h1, h2, h3, h4, h5, h6⟩ := cells7 st3.box
 have ST3 := hide st3
 have hmod : (N.seq : Int).tmod 2 = ((N.seq % 2 : Nat) : Int) := by rw [Int.tmod_eq_emod_of_nonneg (by omega)]; omega
 generalize hk2 : ((N.seq % 2 : Nat) : Int) = k2 at *
 have hwk : IntKind.i64.wrap k2 = k2 := by rw [IntKind.wrap_i64]; omega
 have hwk2 : IntKind.u64.wrap k2 = k2 := by rw [IntKind.wrap_u64]; omega
 have HK2 := hide hk2
 have HN := hide hN
 have HW := hide hwe
 clear st3 HD1 HK1 HB1 HZ1 z0 z1 z2 z3 z4 z5 z6 f0 f1 f2 f3 f4 f5 f6 y0 y1 y2 y3 y4 y5 y6 g0 g1 g2 g3 g4 g5 g6 hW3 KA HBX HBZ cL' ct Nf hN hwe hk2 hf hq hws hx hfe
 go_region_held (fun W => W.cell? ⟨w.heap.size, 0, none⟩ = some (.int .u64 N.seq) /\ W.cell? ⟨w.heap.size, 1, none⟩ = some (.int .u64 N.epoch) /\ W.cell? ⟨w.heap.size, 2, none⟩ = some (.int .u64 N.res) /\ W.cell? ⟨w.heap.size, 3, none⟩ = some (.int .u64 N.hor) /\ W.cell? ⟨w.heap.size, 4, none⟩ = some (.int .u64 N.gen) /\ W.cell? ⟨w.heap.size, 5, none⟩ = some (.bool N.clean) /\ W.cell? ⟨w.heap.size, 6, none⟩ = some (.int .i64 N.image))
  (first | exact ⟨q0, q1, q2, q3, q4, q5, q6⟩ | assumption)
  (first
   | (go_at_call 144; refine (cE.out _).mono ?_; rintro r w4 ⟨g, rfl, hg, hbuf, hbel⟩; have s4 := ST3.out.drew.below hbel; obtain ⟨p0, p1, p2, p3, p4, p5, p6, r0, r1, r2, r3, r4, r5, r6⟩ := cells7 s4.box; have hS := And.intro p0 (And.intro p1 (And.intro p2 (And.intro p3 (And.intro p4 (And.intro p5 p6))))); have S4 := hide s4; have HG := hide hg; have HBUF := hide hbuf; clear hg hbuf hbel s4 p0 p1 p2 p3 p4 p5 p6 r0 r1 r2 r3 r4 r5 r6)
   | (go_at_call 88; refine (cW.out _ _ HBUF.out (by have := HG.out; have := ST3.out.mv.keep.size; have e : W3.drew.heap.size = W3.heap.size := rfl; omega) S4.out).mono ?_; rintro r w5 ⟨rfl, F5, s5⟩; obtain ⟨p0, p1, p2, p3, p4, p5, p6, r0, r1, r2, r3, r4, r5, r6⟩ := cells7 s5.box; have hS5 := And.intro p0 (And.intro p1 (And.intro p2 (And.intro p3 (And.intro p4 (And.intro p5 p6))))); have S5 := hide s5; clear s5))
 clear q0 q1 q2 q3 q4 q5 q6 h0 h1 h2 h3 h4 h5 h6 hS hmod hwk hwk2 cE cW
 clear p0 p1 p2 p3 p4 p5 p6 r0 r1 r2 r3 r4 r5 r6 hS5
 go_wp2_with (go_at_call 83; refine (cF.out _ _ S5.out).mono ?_; rintro r w6 ⟨rfl, F6, s6⟩; have S6 := hide s6; obtain ⟨u0, u1, u2, u3, u4, u5, u6, v0, v1, v2, v3, v4, v5, v6⟩ := cells7z s6.res; obtain ⟨p0, p1, p2, p3, p4, p5, p6, r0, r1, r2, r3, r4, r5, r6⟩ := cells7 s6.box; clear s6)
 obtain ⟨hd, hm⟩ := S6.out.fin N
 rw [<- HK2.out] at hd
 exact bodyPost_ret (v := bkV N 0) (by simp [results, Tryz.results87, go_sem, bkV, Sb.zero, *]) rfl ⟨rfl, F6, hd, hm⟩
theorem store_f4_some (d : Nat) (F : List Nat) (S : Dv) (b : Sb) (hf : b.fits) (x : Sb) (hx : x.fits) (w : World) (h : DvAt w d F S)
  (cL : ∀ W : World, DvAt W d F S -> Calls Tryz.prog 47 #[.pointer (some ⟨d, 0, none⟩)] W fun e w' => e = .returned (bkV x 0) /\ DvAt w' d F S.loadDo /\ Keep F W w') (hw : x.seq ≠ 18446744073709551615) (N : Sb) (hN : N = ⟨x.seq + 1, b.epoch, b.res, b.hor, b.gen, b.clean, (toldN b.image : Int)⟩) (hwe : S.loadDo.writeErr ((N.seq % 2 : Nat) : Int) (txt N.enc) = 0) (hfe : (S.loadDo.writeDo ((N.seq % 2 : Nat) : Int) (txt N.enc)).flushErr = 4) :
  Calls Tryz.prog 87 #[.pointer (some ⟨d, 0, none⟩), .agg #[.int .u64 b.seq, .int .u64 b.epoch, .int .u64 b.res, .int .u64 b.hor, .int .u64 b.gen, .bool b.clean, .int .i64 b.image]] w fun e w' => e = .returned (bkV Sb.zero 4) /\ ∃ F', DvAt w' d F' (S.loadDo.writeDo ((N.seq % 2 : Nat) : Int) (txt N.enc)).flushDo /\ Moves F F' w w' := by
 have hA : DvAt (stW w b) d F S := (h.alloc _).alloc _
 have hbx : Blk (stW w b) w.heap.size (bkL b) 30 := (Blk.new w (bkL b) 30).alloc _
 have hbz := stW_z w b
 have KA : Hid (Keep F w (stW w b)) := ((Keep.refl F w).alloc _).alloc _
 have NF := hide (h.new w.heap.size (Nat.le_refl _))
 have NZ := hide (h.new (w.heap.size + 1) (Nat.le_succ _))
 have FL := hide h.lt
 have cL' : Hid (Calls Tryz.prog 47 #[.pointer (some ⟨d, 0, none⟩)] (stW w b) fun e w' => e = .returned (.tuple #[.agg #[.int .u64 x.seq, .int .u64 x.epoch, .int .u64 x.res, .int .u64 x.hor, .int .u64 x.gen, .bool x.clean, .int .i64 x.image], .int .i64 0]) /\ DvAt w' d F S.loadDo /\ Keep F (stW w b) w') := cL _ hA
 have HBX := hide hbx
 have HBZ := hide hbz
 have hq : ((x.seq : Int) == 18446744073709551615) = false := by
  have : ¬ (x.seq : Int) = 18446744073709551615 := by omega
  simpa using this
 have HQ := hide hw
 have hws : IntKind.u64.wrap ((x.seq : Int) + 1) = ((x.seq + 1 : Nat) : Int) := by rw [IntKind.wrap_u64]; have := hx.seq; omega
 have ct := hide (told_any b.image)
 clear hA hbx hbz h cL hw
 go_enter Tryz.func87, Tryz.ntmps87
 go_wp2_with (first
  | (go_at_call 47; refine cL'.out.mono ?_; rintro r w1 ⟨rfl, hd1, kp1⟩; have HD1 := hide hd1; have HK1 := hide kp1; have hb1 := HBX.out.same (kp1.block _ HBX.out.lt NF.out); have hz1 := HBZ.out.same (kp1.block _ HBZ.out.lt NZ.out); have HB1 := hide hb1; have HZ1 := hide hz1; have hltb := hb1.lt; have hltz := hz1.lt; obtain ⟨z0, z1, z2, z3, z4, z5, z6, f0, f1, f2, f3, f4, f5, f6⟩ := cells7 hb1; obtain ⟨y0, y1, y2, y3, y4, y5, y6, g0, g1, g2, g3, g4, g5, g6⟩ := cells7z hz1; clear hd1 kp1 hb1 hz1)
  | (go_at_call 143; refine (ct.out _).mono ?_; rintro r w2 ⟨rfl, h2⟩; obtain rfl := h2))
 generalize hW3 : ((w1.setCell ⟨w.heap.size, 0, none⟩ (.int .u64 ((x.seq : Int) + 1))).setCell ⟨w.heap.size, 6, none⟩ (.int .i64 (toldN b.image : Nat))).alloc (.cells #[.int .u64 x.seq, .int .u64 x.epoch, .int .u64 x.res, .int .u64 x.hor, .int .u64 x.gen, .bool x.clean, .int .i64 x.image] 30) = W3
 have hne : w.heap.size + 1 ≠ w.heap.size := by omega
 have st3 : StAt w d F F S.loadDo N W3 := by
  rw [<- hW3, hN]
  have k1 : Keep F w w1 := KA.out.trans HK1.out (fun x hx => .inl hx)
  refine ⟨DvAt.alloc (HD1.out.same (fun k hk => ?_)) _, ((HB1.out.set 0 _).set 6 _).alloc _, ((HZ1.out.other hne _).other hne _).alloc _, Moves.of_keep (((k1.setCell (.inr (Nat.le_refl _)) _).setCell (.inr (Nat.le_refl _)) _).alloc _), NF.out, NZ.out⟩
  have hkn : k ≠ w.heap.size := fun e => NF.out (e ▸ hk)
  rw [blk_setCell_other _ _ _ _ hkn, blk_setCell_other _ _ _ _ hkn]
 have Nf : N.fits := by
  rw [hN]
  have := toldN_le b.image
  exact ⟨by have := hx.seq; have := HQ.out; show x.seq + 1 < _; omega, hf.epoch, hf.res, hf.hor, hf.gen, by show _ <= ((toldN b.image : Nat) : Int); omega, by show ((toldN b.image : Nat) : Int) <= _; omega⟩
 have cE := hide (encode_any N Nf)
 have cW : Hid (∀ (W : World) (g : Nat), Buf W g N.enc 0 -> w.heap.size <= g -> StAt w d F F S.loadDo N W -> Calls Tryz.prog 88 #[.pointer (some ⟨d, 0, none⟩), .int .i64 ((N.seq % 2 : Nat) : Int), .slice (some ⟨g, 0, none⟩) 64 64] W fun e w' => e = .returned (.int .i64 0) /\
   ∃ F', StAt w d F F' (S.loadDo.writeDo ((N.seq % 2 : Nat) : Int) (txt N.enc)) N w') := fun W g hb hg hs => by
  have hbs := buf_bs (n := 64) (cap := 64) hb (by rw [N.enc_length]) (Nat.le_refl _)
  refine (write_at d F S.loadDo _ _ 64 64 g N.enc (by rw [N.enc_length]) W hbs.slice (fun h => by cases h) (fun _ hf => by have := FL.out g hf; omega) hs.dev).mono ?_
  rintro e w' ⟨rfl, F', hd, m⟩
  exact ⟨by rw [show (⟨N.enc.toArray⟩ : ByteArray) = txt N.enc from rfl, hwe], F', hs.move hd m⟩
 have cF : Hid (∀ (W : World) (F' : List Nat), StAt w d F F' (S.loadDo.writeDo ((N.seq % 2 : Nat) : Int) (txt N.enc)) N W -> Calls Tryz.prog 83 #[.pointer (some ⟨d, 0, none⟩)] W fun e w' => e = .returned (.int .i64 4) /\
   ∃ F2, StAt w d F F2 (S.loadDo.writeDo ((N.seq % 2 : Nat) : Int) (txt N.enc)).flushDo N w') := fun W F' hs => by
  refine (flush_at d F' _ W hs.dev).mono ?_
  rintro e w' ⟨rfl, F2, hd, m⟩
  exact ⟨by rw [hfe], F2, hs.move hd m⟩
 obtain ⟨q0, q1, q2, q3, q4, q5, q6, h0, h1, h2, h3, h4, h5, h6⟩ := cells7 st3.box
 have ST3 := hide st3
 have hmod : (N.seq : Int).tmod 2 = ((N.seq % 2 : Nat) : Int) := by rw [Int.tmod_eq_emod_of_nonneg (by omega)]; omega
 generalize hk2 : ((N.seq % 2 : Nat) : Int) = k2 at *
 have hwk : IntKind.i64.wrap k2 = k2 := by rw [IntKind.wrap_i64]; omega
 have hwk2 : IntKind.u64.wrap k2 = k2 := by rw [IntKind.wrap_u64]; omega
 have HK2 := hide hk2
 have HN := hide hN
 have HW := hide hwe
 clear st3 HD1 HK1 HB1 HZ1 z0 z1 z2 z3 z4 z5 z6 f0 f1 f2 f3 f4 f5 f6 y0 y1 y2 y3 y4 y5 y6 g0 g1 g2 g3 g4 g5 g6 hW3 KA HBX HBZ cL' ct Nf hN hwe hk2 hf hq hws hx hfe
 go_region_held (fun W => W.cell? ⟨w.heap.size, 0, none⟩ = some (.int .u64 N.seq) /\ W.cell? ⟨w.heap.size, 1, none⟩ = some (.int .u64 N.epoch) /\ W.cell? ⟨w.heap.size, 2, none⟩ = some (.int .u64 N.res) /\ W.cell? ⟨w.heap.size, 3, none⟩ = some (.int .u64 N.hor) /\ W.cell? ⟨w.heap.size, 4, none⟩ = some (.int .u64 N.gen) /\ W.cell? ⟨w.heap.size, 5, none⟩ = some (.bool N.clean) /\ W.cell? ⟨w.heap.size, 6, none⟩ = some (.int .i64 N.image))
  (first | exact ⟨q0, q1, q2, q3, q4, q5, q6⟩ | assumption)
  (first
   | (go_at_call 144; refine (cE.out _).mono ?_; rintro r w4 ⟨g, rfl, hg, hbuf, hbel⟩; have s4 := ST3.out.drew.below hbel; obtain ⟨p0, p1, p2, p3, p4, p5, p6, r0, r1, r2, r3, r4, r5, r6⟩ := cells7 s4.box; have hS := And.intro p0 (And.intro p1 (And.intro p2 (And.intro p3 (And.intro p4 (And.intro p5 p6))))); have S4 := hide s4; have HG := hide hg; have HBUF := hide hbuf; clear hg hbuf hbel s4 p0 p1 p2 p3 p4 p5 p6 r0 r1 r2 r3 r4 r5 r6)
   | (go_at_call 88; refine (cW.out _ _ HBUF.out (by have := HG.out; have := ST3.out.mv.keep.size; have e : W3.drew.heap.size = W3.heap.size := rfl; omega) S4.out).mono ?_; rintro r w5 ⟨rfl, F5, s5⟩; obtain ⟨p0, p1, p2, p3, p4, p5, p6, r0, r1, r2, r3, r4, r5, r6⟩ := cells7 s5.box; have hS5 := And.intro p0 (And.intro p1 (And.intro p2 (And.intro p3 (And.intro p4 (And.intro p5 p6))))); have S5 := hide s5; clear s5))
 clear q0 q1 q2 q3 q4 q5 q6 h0 h1 h2 h3 h4 h5 h6 hS hmod hwk hwk2 cE cW
 clear p0 p1 p2 p3 p4 p5 p6 r0 r1 r2 r3 r4 r5 r6 hS5
 go_wp2_with (go_at_call 83; refine (cF.out _ _ S5.out).mono ?_; rintro r w6 ⟨rfl, F6, s6⟩; have S6 := hide s6; obtain ⟨u0, u1, u2, u3, u4, u5, u6, v0, v1, v2, v3, v4, v5, v6⟩ := cells7z s6.res; obtain ⟨p0, p1, p2, p3, p4, p5, p6, r0, r1, r2, r3, r4, r5, r6⟩ := cells7 s6.box; clear s6)
 obtain ⟨hd, hm⟩ := S6.out.fin Sb.zero
 rw [<- HK2.out] at hd
 exact bodyPost_ret (v := bkV Sb.zero 4) (by simp [results, Tryz.results87, go_sem, bkV, Sb.zero, *]) rfl ⟨rfl, F6, hd, hm⟩
theorem store_w4_some (d : Nat) (F : List Nat) (S : Dv) (b : Sb) (hf : b.fits) (x : Sb) (hx : x.fits) (w : World) (h : DvAt w d F S)
  (cL : ∀ W : World, DvAt W d F S -> Calls Tryz.prog 47 #[.pointer (some ⟨d, 0, none⟩)] W fun e w' => e = .returned (bkV x 0) /\ DvAt w' d F S.loadDo /\ Keep F W w') (hw : x.seq ≠ 18446744073709551615) (N : Sb) (hN : N = ⟨x.seq + 1, b.epoch, b.res, b.hor, b.gen, b.clean, (toldN b.image : Int)⟩) (hwe : S.loadDo.writeErr ((N.seq % 2 : Nat) : Int) (txt N.enc) = 4) :
  Calls Tryz.prog 87 #[.pointer (some ⟨d, 0, none⟩), .agg #[.int .u64 b.seq, .int .u64 b.epoch, .int .u64 b.res, .int .u64 b.hor, .int .u64 b.gen, .bool b.clean, .int .i64 b.image]] w fun e w' => e = .returned (bkV Sb.zero 4) /\ ∃ F', DvAt w' d F' (S.loadDo.writeDo ((N.seq % 2 : Nat) : Int) (txt N.enc)) /\ Moves F F' w w' := by
 have hA : DvAt (stW w b) d F S := (h.alloc _).alloc _
 have hbx : Blk (stW w b) w.heap.size (bkL b) 30 := (Blk.new w (bkL b) 30).alloc _
 have hbz := stW_z w b
 have KA : Hid (Keep F w (stW w b)) := ((Keep.refl F w).alloc _).alloc _
 have NF := hide (h.new w.heap.size (Nat.le_refl _))
 have NZ := hide (h.new (w.heap.size + 1) (Nat.le_succ _))
 have FL := hide h.lt
 have cL' : Hid (Calls Tryz.prog 47 #[.pointer (some ⟨d, 0, none⟩)] (stW w b) fun e w' => e = .returned (.tuple #[.agg #[.int .u64 x.seq, .int .u64 x.epoch, .int .u64 x.res, .int .u64 x.hor, .int .u64 x.gen, .bool x.clean, .int .i64 x.image], .int .i64 0]) /\ DvAt w' d F S.loadDo /\ Keep F (stW w b) w') := cL _ hA
 have HBX := hide hbx
 have HBZ := hide hbz
 have hq : ((x.seq : Int) == 18446744073709551615) = false := by
  have : ¬ (x.seq : Int) = 18446744073709551615 := by omega
  simpa using this
 have HQ := hide hw
 have hws : IntKind.u64.wrap ((x.seq : Int) + 1) = ((x.seq + 1 : Nat) : Int) := by rw [IntKind.wrap_u64]; have := hx.seq; omega
 have ct := hide (told_any b.image)
 clear hA hbx hbz h cL hw
 go_enter Tryz.func87, Tryz.ntmps87
 go_wp2_with (first
  | (go_at_call 47; refine cL'.out.mono ?_; rintro r w1 ⟨rfl, hd1, kp1⟩; have HD1 := hide hd1; have HK1 := hide kp1; have hb1 := HBX.out.same (kp1.block _ HBX.out.lt NF.out); have hz1 := HBZ.out.same (kp1.block _ HBZ.out.lt NZ.out); have HB1 := hide hb1; have HZ1 := hide hz1; have hltb := hb1.lt; have hltz := hz1.lt; obtain ⟨z0, z1, z2, z3, z4, z5, z6, f0, f1, f2, f3, f4, f5, f6⟩ := cells7 hb1; obtain ⟨y0, y1, y2, y3, y4, y5, y6, g0, g1, g2, g3, g4, g5, g6⟩ := cells7z hz1; clear hd1 kp1 hb1 hz1)
  | (go_at_call 143; refine (ct.out _).mono ?_; rintro r w2 ⟨rfl, h2⟩; obtain rfl := h2))
 generalize hW3 : ((w1.setCell ⟨w.heap.size, 0, none⟩ (.int .u64 ((x.seq : Int) + 1))).setCell ⟨w.heap.size, 6, none⟩ (.int .i64 (toldN b.image : Nat))).alloc (.cells #[.int .u64 x.seq, .int .u64 x.epoch, .int .u64 x.res, .int .u64 x.hor, .int .u64 x.gen, .bool x.clean, .int .i64 x.image] 30) = W3
 have hne : w.heap.size + 1 ≠ w.heap.size := by omega
 have st3 : StAt w d F F S.loadDo N W3 := by
  rw [<- hW3, hN]
  have k1 : Keep F w w1 := KA.out.trans HK1.out (fun x hx => .inl hx)
  refine ⟨DvAt.alloc (HD1.out.same (fun k hk => ?_)) _, ((HB1.out.set 0 _).set 6 _).alloc _, ((HZ1.out.other hne _).other hne _).alloc _, Moves.of_keep (((k1.setCell (.inr (Nat.le_refl _)) _).setCell (.inr (Nat.le_refl _)) _).alloc _), NF.out, NZ.out⟩
  have hkn : k ≠ w.heap.size := fun e => NF.out (e ▸ hk)
  rw [blk_setCell_other _ _ _ _ hkn, blk_setCell_other _ _ _ _ hkn]
 have Nf : N.fits := by
  rw [hN]
  have := toldN_le b.image
  exact ⟨by have := hx.seq; have := HQ.out; show x.seq + 1 < _; omega, hf.epoch, hf.res, hf.hor, hf.gen, by show _ <= ((toldN b.image : Nat) : Int); omega, by show ((toldN b.image : Nat) : Int) <= _; omega⟩
 have cE := hide (encode_any N Nf)
 have cW : Hid (∀ (W : World) (g : Nat), Buf W g N.enc 0 -> w.heap.size <= g -> StAt w d F F S.loadDo N W -> Calls Tryz.prog 88 #[.pointer (some ⟨d, 0, none⟩), .int .i64 ((N.seq % 2 : Nat) : Int), .slice (some ⟨g, 0, none⟩) 64 64] W fun e w' => e = .returned (.int .i64 4) /\
   ∃ F', StAt w d F F' (S.loadDo.writeDo ((N.seq % 2 : Nat) : Int) (txt N.enc)) N w') := fun W g hb hg hs => by
  have hbs := buf_bs (n := 64) (cap := 64) hb (by rw [N.enc_length]) (Nat.le_refl _)
  refine (write_at d F S.loadDo _ _ 64 64 g N.enc (by rw [N.enc_length]) W hbs.slice (fun h => by cases h) (fun _ hf => by have := FL.out g hf; omega) hs.dev).mono ?_
  rintro e w' ⟨rfl, F', hd, m⟩
  exact ⟨by rw [show (⟨N.enc.toArray⟩ : ByteArray) = txt N.enc from rfl, hwe], F', hs.move hd m⟩
 obtain ⟨q0, q1, q2, q3, q4, q5, q6, h0, h1, h2, h3, h4, h5, h6⟩ := cells7 st3.box
 have ST3 := hide st3
 have hmod : (N.seq : Int).tmod 2 = ((N.seq % 2 : Nat) : Int) := by rw [Int.tmod_eq_emod_of_nonneg (by omega)]; omega
 generalize hk2 : ((N.seq % 2 : Nat) : Int) = k2 at *
 have hwk : IntKind.i64.wrap k2 = k2 := by rw [IntKind.wrap_i64]; omega
 have hwk2 : IntKind.u64.wrap k2 = k2 := by rw [IntKind.wrap_u64]; omega
 have HK2 := hide hk2
 have HN := hide hN
 have HW := hide hwe
 clear st3 HD1 HK1 HB1 HZ1 z0 z1 z2 z3 z4 z5 z6 f0 f1 f2 f3 f4 f5 f6 y0 y1 y2 y3 y4 y5 y6 g0 g1 g2 g3 g4 g5 g6 hW3 KA HBX HBZ cL' ct Nf hN hwe hk2 hf hq hws hx
 go_region_held (fun W => W.cell? ⟨w.heap.size, 0, none⟩ = some (.int .u64 N.seq) /\ W.cell? ⟨w.heap.size, 1, none⟩ = some (.int .u64 N.epoch) /\ W.cell? ⟨w.heap.size, 2, none⟩ = some (.int .u64 N.res) /\ W.cell? ⟨w.heap.size, 3, none⟩ = some (.int .u64 N.hor) /\ W.cell? ⟨w.heap.size, 4, none⟩ = some (.int .u64 N.gen) /\ W.cell? ⟨w.heap.size, 5, none⟩ = some (.bool N.clean) /\ W.cell? ⟨w.heap.size, 6, none⟩ = some (.int .i64 N.image))
  (first | exact ⟨q0, q1, q2, q3, q4, q5, q6⟩ | assumption)
  (first
   | (go_at_call 144; refine (cE.out _).mono ?_; rintro r w4 ⟨g, rfl, hg, hbuf, hbel⟩; have s4 := ST3.out.drew.below hbel; obtain ⟨p0, p1, p2, p3, p4, p5, p6, r0, r1, r2, r3, r4, r5, r6⟩ := cells7 s4.box; have hS := And.intro p0 (And.intro p1 (And.intro p2 (And.intro p3 (And.intro p4 (And.intro p5 p6))))); have S4 := hide s4; have HG := hide hg; have HBUF := hide hbuf; clear hg hbuf hbel s4 p0 p1 p2 p3 p4 p5 p6 r0 r1 r2 r3 r4 r5 r6)
   | (go_at_call 88; refine (cW.out _ _ HBUF.out (by have := HG.out; have := ST3.out.mv.keep.size; have e : W3.drew.heap.size = W3.heap.size := rfl; omega) S4.out).mono ?_; rintro r w5 ⟨rfl, F5, s5⟩; obtain ⟨p0, p1, p2, p3, p4, p5, p6, r0, r1, r2, r3, r4, r5, r6⟩ := cells7 s5.box; have hS5 := And.intro p0 (And.intro p1 (And.intro p2 (And.intro p3 (And.intro p4 (And.intro p5 p6))))); have S5 := hide s5; clear s5))
 clear q0 q1 q2 q3 q4 q5 q6 h0 h1 h2 h3 h4 h5 h6 hS hmod hwk hwk2 cE cW
 clear p0 p1 p2 p3 p4 p5 p6 r0 r1 r2 r3 r4 r5 r6 hS5
 obtain ⟨u0, u1, u2, u3, u4, u5, u6, v0, v1, v2, v3, v4, v5, v6⟩ := cells7z S5.out.res
 go_wp2
 obtain ⟨hd, hm⟩ := S5.out.fin Sb.zero
 rw [<- HK2.out] at hd
 exact bodyPost_ret (v := bkV Sb.zero 4) (by simp [results, Tryz.results87, go_sem, bkV, Sb.zero, *]) rfl ⟨rfl, F5, hd, hm⟩
theorem store_ok_none (d : Nat) (F : List Nat) (S : Dv) (b : Sb) (hf : b.fits) (w : World) (h : DvAt w d F S)
  (cL : ∀ W : World, DvAt W d F S -> Calls Tryz.prog 47 #[.pointer (some ⟨d, 0, none⟩)] W fun e w' => e = .returned (bkV Sb.zero 5) /\ DvAt w' d F S.loadDo /\ Keep F W w') (N : Sb) (hN : N = ⟨1, b.epoch, b.res, b.hor, b.gen, b.clean, (toldN b.image : Int)⟩) (hwe : S.loadDo.writeErr ((N.seq % 2 : Nat) : Int) (txt N.enc) = 0) (hfe : (S.loadDo.writeDo ((N.seq % 2 : Nat) : Int) (txt N.enc)).flushErr = 0) :
  Calls Tryz.prog 87 #[.pointer (some ⟨d, 0, none⟩), .agg #[.int .u64 b.seq, .int .u64 b.epoch, .int .u64 b.res, .int .u64 b.hor, .int .u64 b.gen, .bool b.clean, .int .i64 b.image]] w fun e w' => e = .returned (bkV N 0) /\ ∃ F', DvAt w' d F' (S.loadDo.writeDo ((N.seq % 2 : Nat) : Int) (txt N.enc)).flushDo /\ Moves F F' w w' := by
 have hA : DvAt (stW w b) d F S := (h.alloc _).alloc _
 have hbx : Blk (stW w b) w.heap.size (bkL b) 30 := (Blk.new w (bkL b) 30).alloc _
 have hbz := stW_z w b
 have KA : Hid (Keep F w (stW w b)) := ((Keep.refl F w).alloc _).alloc _
 have NF := hide (h.new w.heap.size (Nat.le_refl _))
 have NZ := hide (h.new (w.heap.size + 1) (Nat.le_succ _))
 have FL := hide h.lt
 have cL' : Hid (Calls Tryz.prog 47 #[.pointer (some ⟨d, 0, none⟩)] (stW w b) fun e w' => e = .returned (.tuple #[.agg #[.int .u64 0, .int .u64 0, .int .u64 0, .int .u64 0, .int .u64 0, .bool false, .int .i64 0], .int .i64 5]) /\ DvAt w' d F S.loadDo /\ Keep F (stW w b) w') := cL _ hA
 have HBX := hide hbx
 have HBZ := hide hbz
 have ct := hide (told_any b.image)
 clear hA hbx hbz h cL
 go_enter Tryz.func87, Tryz.ntmps87
 go_wp2_with (first
  | (go_at_call 47; refine cL'.out.mono ?_; rintro r w1 ⟨rfl, hd1, kp1⟩; have HD1 := hide hd1; have HK1 := hide kp1; have hb1 := HBX.out.same (kp1.block _ HBX.out.lt NF.out); have hz1 := HBZ.out.same (kp1.block _ HBZ.out.lt NZ.out); have HB1 := hide hb1; have HZ1 := hide hz1; have hltb := hb1.lt; have hltz := hz1.lt; obtain ⟨z0, z1, z2, z3, z4, z5, z6, f0, f1, f2, f3, f4, f5, f6⟩ := cells7 hb1; obtain ⟨y0, y1, y2, y3, y4, y5, y6, g0, g1, g2, g3, g4, g5, g6⟩ := cells7z hz1; clear hd1 kp1 hb1 hz1)
  | (go_at_call 143; refine (ct.out _).mono ?_; rintro r w2 ⟨rfl, h2⟩; obtain rfl := h2))
 generalize hW3 : ((w1.setCell ⟨w.heap.size, 0, none⟩ (.int .u64 1)).setCell ⟨w.heap.size, 6, none⟩ (.int .i64 (toldN b.image : Nat))).alloc (.cells #[.int .u64 0, .int .u64 0, .int .u64 0, .int .u64 0, .int .u64 0, .bool false, .int .i64 0] 30) = W3
 have hne : w.heap.size + 1 ≠ w.heap.size := by omega
 have st3 : StAt w d F F S.loadDo N W3 := by
  rw [<- hW3, hN]
  have k1 : Keep F w w1 := KA.out.trans HK1.out (fun x hx => .inl hx)
  refine ⟨DvAt.alloc (HD1.out.same (fun k hk => ?_)) _, ((HB1.out.set 0 _).set 6 _).alloc _, ((HZ1.out.other hne _).other hne _).alloc _, Moves.of_keep (((k1.setCell (.inr (Nat.le_refl _)) _).setCell (.inr (Nat.le_refl _)) _).alloc _), NF.out, NZ.out⟩
  have hkn : k ≠ w.heap.size := fun e => NF.out (e ▸ hk)
  rw [blk_setCell_other _ _ _ _ hkn, blk_setCell_other _ _ _ _ hkn]
 have Nf : N.fits := by
  rw [hN]
  have := toldN_le b.image
  exact ⟨by show 1 < _; omega, hf.epoch, hf.res, hf.hor, hf.gen, by show _ <= ((toldN b.image : Nat) : Int); omega, by show ((toldN b.image : Nat) : Int) <= _; omega⟩
 have cE := hide (encode_any N Nf)
 have cW : Hid (∀ (W : World) (g : Nat), Buf W g N.enc 0 -> w.heap.size <= g -> StAt w d F F S.loadDo N W -> Calls Tryz.prog 88 #[.pointer (some ⟨d, 0, none⟩), .int .i64 ((N.seq % 2 : Nat) : Int), .slice (some ⟨g, 0, none⟩) 64 64] W fun e w' => e = .returned (.int .i64 0) /\
   ∃ F', StAt w d F F' (S.loadDo.writeDo ((N.seq % 2 : Nat) : Int) (txt N.enc)) N w') := fun W g hb hg hs => by
  have hbs := buf_bs (n := 64) (cap := 64) hb (by rw [N.enc_length]) (Nat.le_refl _)
  refine (write_at d F S.loadDo _ _ 64 64 g N.enc (by rw [N.enc_length]) W hbs.slice (fun h => by cases h) (fun _ hf => by have := FL.out g hf; omega) hs.dev).mono ?_
  rintro e w' ⟨rfl, F', hd, m⟩
  exact ⟨by rw [show (⟨N.enc.toArray⟩ : ByteArray) = txt N.enc from rfl, hwe], F', hs.move hd m⟩
 have cF : Hid (∀ (W : World) (F' : List Nat), StAt w d F F' (S.loadDo.writeDo ((N.seq % 2 : Nat) : Int) (txt N.enc)) N W -> Calls Tryz.prog 83 #[.pointer (some ⟨d, 0, none⟩)] W fun e w' => e = .returned (.int .i64 0) /\
   ∃ F2, StAt w d F F2 (S.loadDo.writeDo ((N.seq % 2 : Nat) : Int) (txt N.enc)).flushDo N w') := fun W F' hs => by
  refine (flush_at d F' _ W hs.dev).mono ?_
  rintro e w' ⟨rfl, F2, hd, m⟩
  exact ⟨by rw [hfe], F2, hs.move hd m⟩
 obtain ⟨q0, q1, q2, q3, q4, q5, q6, h0, h1, h2, h3, h4, h5, h6⟩ := cells7 st3.box
 have ST3 := hide st3
 have hmod : (N.seq : Int).tmod 2 = ((N.seq % 2 : Nat) : Int) := by rw [Int.tmod_eq_emod_of_nonneg (by omega)]; omega
 generalize hk2 : ((N.seq % 2 : Nat) : Int) = k2 at *
 have hwk : IntKind.i64.wrap k2 = k2 := by rw [IntKind.wrap_i64]; omega
 have hwk2 : IntKind.u64.wrap k2 = k2 := by rw [IntKind.wrap_u64]; omega
 have HK2 := hide hk2
 have HN := hide hN
 have HW := hide hwe
 clear st3 HD1 HK1 HB1 HZ1 z0 z1 z2 z3 z4 z5 z6 f0 f1 f2 f3 f4 f5 f6 y0 y1 y2 y3 y4 y5 y6 g0 g1 g2 g3 g4 g5 g6 hW3 KA HBX HBZ cL' ct Nf hN hwe hk2 hf hfe
 go_region_held (fun W => W.cell? ⟨w.heap.size, 0, none⟩ = some (.int .u64 N.seq) /\ W.cell? ⟨w.heap.size, 1, none⟩ = some (.int .u64 N.epoch) /\ W.cell? ⟨w.heap.size, 2, none⟩ = some (.int .u64 N.res) /\ W.cell? ⟨w.heap.size, 3, none⟩ = some (.int .u64 N.hor) /\ W.cell? ⟨w.heap.size, 4, none⟩ = some (.int .u64 N.gen) /\ W.cell? ⟨w.heap.size, 5, none⟩ = some (.bool N.clean) /\ W.cell? ⟨w.heap.size, 6, none⟩ = some (.int .i64 N.image))
  (first | exact ⟨q0, q1, q2, q3, q4, q5, q6⟩ | assumption)
  (first
   | (go_at_call 144; refine (cE.out _).mono ?_; rintro r w4 ⟨g, rfl, hg, hbuf, hbel⟩; have s4 := ST3.out.drew.below hbel; obtain ⟨p0, p1, p2, p3, p4, p5, p6, r0, r1, r2, r3, r4, r5, r6⟩ := cells7 s4.box; have hS := And.intro p0 (And.intro p1 (And.intro p2 (And.intro p3 (And.intro p4 (And.intro p5 p6))))); have S4 := hide s4; have HG := hide hg; have HBUF := hide hbuf; clear hg hbuf hbel s4 p0 p1 p2 p3 p4 p5 p6 r0 r1 r2 r3 r4 r5 r6)
   | (go_at_call 88; refine (cW.out _ _ HBUF.out (by have := HG.out; have := ST3.out.mv.keep.size; have e : W3.drew.heap.size = W3.heap.size := rfl; omega) S4.out).mono ?_; rintro r w5 ⟨rfl, F5, s5⟩; obtain ⟨p0, p1, p2, p3, p4, p5, p6, r0, r1, r2, r3, r4, r5, r6⟩ := cells7 s5.box; have hS5 := And.intro p0 (And.intro p1 (And.intro p2 (And.intro p3 (And.intro p4 (And.intro p5 p6))))); have S5 := hide s5; clear s5))
 clear q0 q1 q2 q3 q4 q5 q6 h0 h1 h2 h3 h4 h5 h6 hS hmod hwk hwk2 cE cW
 clear p0 p1 p2 p3 p4 p5 p6 r0 r1 r2 r3 r4 r5 r6 hS5
 go_wp2_with (go_at_call 83; refine (cF.out _ _ S5.out).mono ?_; rintro r w6 ⟨rfl, F6, s6⟩; have S6 := hide s6; obtain ⟨u0, u1, u2, u3, u4, u5, u6, v0, v1, v2, v3, v4, v5, v6⟩ := cells7z s6.res; obtain ⟨p0, p1, p2, p3, p4, p5, p6, r0, r1, r2, r3, r4, r5, r6⟩ := cells7 s6.box; clear s6)
 obtain ⟨hd, hm⟩ := S6.out.fin N
 rw [<- HK2.out] at hd
 exact bodyPost_ret (v := bkV N 0) (by simp [results, Tryz.results87, go_sem, bkV, Sb.zero, *]) rfl ⟨rfl, F6, hd, hm⟩
theorem store_f4_none (d : Nat) (F : List Nat) (S : Dv) (b : Sb) (hf : b.fits) (w : World) (h : DvAt w d F S)
  (cL : ∀ W : World, DvAt W d F S -> Calls Tryz.prog 47 #[.pointer (some ⟨d, 0, none⟩)] W fun e w' => e = .returned (bkV Sb.zero 5) /\ DvAt w' d F S.loadDo /\ Keep F W w') (N : Sb) (hN : N = ⟨1, b.epoch, b.res, b.hor, b.gen, b.clean, (toldN b.image : Int)⟩) (hwe : S.loadDo.writeErr ((N.seq % 2 : Nat) : Int) (txt N.enc) = 0) (hfe : (S.loadDo.writeDo ((N.seq % 2 : Nat) : Int) (txt N.enc)).flushErr = 4) :
  Calls Tryz.prog 87 #[.pointer (some ⟨d, 0, none⟩), .agg #[.int .u64 b.seq, .int .u64 b.epoch, .int .u64 b.res, .int .u64 b.hor, .int .u64 b.gen, .bool b.clean, .int .i64 b.image]] w fun e w' => e = .returned (bkV Sb.zero 4) /\ ∃ F', DvAt w' d F' (S.loadDo.writeDo ((N.seq % 2 : Nat) : Int) (txt N.enc)).flushDo /\ Moves F F' w w' := by
 have hA : DvAt (stW w b) d F S := (h.alloc _).alloc _
 have hbx : Blk (stW w b) w.heap.size (bkL b) 30 := (Blk.new w (bkL b) 30).alloc _
 have hbz := stW_z w b
 have KA : Hid (Keep F w (stW w b)) := ((Keep.refl F w).alloc _).alloc _
 have NF := hide (h.new w.heap.size (Nat.le_refl _))
 have NZ := hide (h.new (w.heap.size + 1) (Nat.le_succ _))
 have FL := hide h.lt
 have cL' : Hid (Calls Tryz.prog 47 #[.pointer (some ⟨d, 0, none⟩)] (stW w b) fun e w' => e = .returned (.tuple #[.agg #[.int .u64 0, .int .u64 0, .int .u64 0, .int .u64 0, .int .u64 0, .bool false, .int .i64 0], .int .i64 5]) /\ DvAt w' d F S.loadDo /\ Keep F (stW w b) w') := cL _ hA
 have HBX := hide hbx
 have HBZ := hide hbz
 have ct := hide (told_any b.image)
 clear hA hbx hbz h cL
 go_enter Tryz.func87, Tryz.ntmps87
 go_wp2_with (first
  | (go_at_call 47; refine cL'.out.mono ?_; rintro r w1 ⟨rfl, hd1, kp1⟩; have HD1 := hide hd1; have HK1 := hide kp1; have hb1 := HBX.out.same (kp1.block _ HBX.out.lt NF.out); have hz1 := HBZ.out.same (kp1.block _ HBZ.out.lt NZ.out); have HB1 := hide hb1; have HZ1 := hide hz1; have hltb := hb1.lt; have hltz := hz1.lt; obtain ⟨z0, z1, z2, z3, z4, z5, z6, f0, f1, f2, f3, f4, f5, f6⟩ := cells7 hb1; obtain ⟨y0, y1, y2, y3, y4, y5, y6, g0, g1, g2, g3, g4, g5, g6⟩ := cells7z hz1; clear hd1 kp1 hb1 hz1)
  | (go_at_call 143; refine (ct.out _).mono ?_; rintro r w2 ⟨rfl, h2⟩; obtain rfl := h2))
 generalize hW3 : ((w1.setCell ⟨w.heap.size, 0, none⟩ (.int .u64 1)).setCell ⟨w.heap.size, 6, none⟩ (.int .i64 (toldN b.image : Nat))).alloc (.cells #[.int .u64 0, .int .u64 0, .int .u64 0, .int .u64 0, .int .u64 0, .bool false, .int .i64 0] 30) = W3
 have hne : w.heap.size + 1 ≠ w.heap.size := by omega
 have st3 : StAt w d F F S.loadDo N W3 := by
  rw [<- hW3, hN]
  have k1 : Keep F w w1 := KA.out.trans HK1.out (fun x hx => .inl hx)
  refine ⟨DvAt.alloc (HD1.out.same (fun k hk => ?_)) _, ((HB1.out.set 0 _).set 6 _).alloc _, ((HZ1.out.other hne _).other hne _).alloc _, Moves.of_keep (((k1.setCell (.inr (Nat.le_refl _)) _).setCell (.inr (Nat.le_refl _)) _).alloc _), NF.out, NZ.out⟩
  have hkn : k ≠ w.heap.size := fun e => NF.out (e ▸ hk)
  rw [blk_setCell_other _ _ _ _ hkn, blk_setCell_other _ _ _ _ hkn]
 have Nf : N.fits := by
  rw [hN]
  have := toldN_le b.image
  exact ⟨by show 1 < _; omega, hf.epoch, hf.res, hf.hor, hf.gen, by show _ <= ((toldN b.image : Nat) : Int); omega, by show ((toldN b.image : Nat) : Int) <= _; omega⟩
 have cE := hide (encode_any N Nf)
 have cW : Hid (∀ (W : World) (g : Nat), Buf W g N.enc 0 -> w.heap.size <= g -> StAt w d F F S.loadDo N W -> Calls Tryz.prog 88 #[.pointer (some ⟨d, 0, none⟩), .int .i64 ((N.seq % 2 : Nat) : Int), .slice (some ⟨g, 0, none⟩) 64 64] W fun e w' => e = .returned (.int .i64 0) /\
   ∃ F', StAt w d F F' (S.loadDo.writeDo ((N.seq % 2 : Nat) : Int) (txt N.enc)) N w') := fun W g hb hg hs => by
  have hbs := buf_bs (n := 64) (cap := 64) hb (by rw [N.enc_length]) (Nat.le_refl _)
  refine (write_at d F S.loadDo _ _ 64 64 g N.enc (by rw [N.enc_length]) W hbs.slice (fun h => by cases h) (fun _ hf => by have := FL.out g hf; omega) hs.dev).mono ?_
  rintro e w' ⟨rfl, F', hd, m⟩
  exact ⟨by rw [show (⟨N.enc.toArray⟩ : ByteArray) = txt N.enc from rfl, hwe], F', hs.move hd m⟩
 have cF : Hid (∀ (W : World) (F' : List Nat), StAt w d F F' (S.loadDo.writeDo ((N.seq % 2 : Nat) : Int) (txt N.enc)) N W -> Calls Tryz.prog 83 #[.pointer (some ⟨d, 0, none⟩)] W fun e w' => e = .returned (.int .i64 4) /\
   ∃ F2, StAt w d F F2 (S.loadDo.writeDo ((N.seq % 2 : Nat) : Int) (txt N.enc)).flushDo N w') := fun W F' hs => by
  refine (flush_at d F' _ W hs.dev).mono ?_
  rintro e w' ⟨rfl, F2, hd, m⟩
  exact ⟨by rw [hfe], F2, hs.move hd m⟩
 obtain ⟨q0, q1, q2, q3, q4, q5, q6, h0, h1, h2, h3, h4, h5, h6⟩ := cells7 st3.box
 have ST3 := hide st3
 have hmod : (N.seq : Int).tmod 2 = ((N.seq % 2 : Nat) : Int) := by rw [Int.tmod_eq_emod_of_nonneg (by omega)]; omega
 generalize hk2 : ((N.seq % 2 : Nat) : Int) = k2 at *
 have hwk : IntKind.i64.wrap k2 = k2 := by rw [IntKind.wrap_i64]; omega
 have hwk2 : IntKind.u64.wrap k2 = k2 := by rw [IntKind.wrap_u64]; omega
 have HK2 := hide hk2
 have HN := hide hN
 have HW := hide hwe
 clear st3 HD1 HK1 HB1 HZ1 z0 z1 z2 z3 z4 z5 z6 f0 f1 f2 f3 f4 f5 f6 y0 y1 y2 y3 y4 y5 y6 g0 g1 g2 g3 g4 g5 g6 hW3 KA HBX HBZ cL' ct Nf hN hwe hk2 hf hfe
 go_region_held (fun W => W.cell? ⟨w.heap.size, 0, none⟩ = some (.int .u64 N.seq) /\ W.cell? ⟨w.heap.size, 1, none⟩ = some (.int .u64 N.epoch) /\ W.cell? ⟨w.heap.size, 2, none⟩ = some (.int .u64 N.res) /\ W.cell? ⟨w.heap.size, 3, none⟩ = some (.int .u64 N.hor) /\ W.cell? ⟨w.heap.size, 4, none⟩ = some (.int .u64 N.gen) /\ W.cell? ⟨w.heap.size, 5, none⟩ = some (.bool N.clean) /\ W.cell? ⟨w.heap.size, 6, none⟩ = some (.int .i64 N.image))
  (first | exact ⟨q0, q1, q2, q3, q4, q5, q6⟩ | assumption)
  (first
   | (go_at_call 144; refine (cE.out _).mono ?_; rintro r w4 ⟨g, rfl, hg, hbuf, hbel⟩; have s4 := ST3.out.drew.below hbel; obtain ⟨p0, p1, p2, p3, p4, p5, p6, r0, r1, r2, r3, r4, r5, r6⟩ := cells7 s4.box; have hS := And.intro p0 (And.intro p1 (And.intro p2 (And.intro p3 (And.intro p4 (And.intro p5 p6))))); have S4 := hide s4; have HG := hide hg; have HBUF := hide hbuf; clear hg hbuf hbel s4 p0 p1 p2 p3 p4 p5 p6 r0 r1 r2 r3 r4 r5 r6)
   | (go_at_call 88; refine (cW.out _ _ HBUF.out (by have := HG.out; have := ST3.out.mv.keep.size; have e : W3.drew.heap.size = W3.heap.size := rfl; omega) S4.out).mono ?_; rintro r w5 ⟨rfl, F5, s5⟩; obtain ⟨p0, p1, p2, p3, p4, p5, p6, r0, r1, r2, r3, r4, r5, r6⟩ := cells7 s5.box; have hS5 := And.intro p0 (And.intro p1 (And.intro p2 (And.intro p3 (And.intro p4 (And.intro p5 p6))))); have S5 := hide s5; clear s5))
 clear q0 q1 q2 q3 q4 q5 q6 h0 h1 h2 h3 h4 h5 h6 hS hmod hwk hwk2 cE cW
 clear p0 p1 p2 p3 p4 p5 p6 r0 r1 r2 r3 r4 r5 r6 hS5
 go_wp2_with (go_at_call 83; refine (cF.out _ _ S5.out).mono ?_; rintro r w6 ⟨rfl, F6, s6⟩; have S6 := hide s6; obtain ⟨u0, u1, u2, u3, u4, u5, u6, v0, v1, v2, v3, v4, v5, v6⟩ := cells7z s6.res; obtain ⟨p0, p1, p2, p3, p4, p5, p6, r0, r1, r2, r3, r4, r5, r6⟩ := cells7 s6.box; clear s6)
 obtain ⟨hd, hm⟩ := S6.out.fin Sb.zero
 rw [<- HK2.out] at hd
 exact bodyPost_ret (v := bkV Sb.zero 4) (by simp [results, Tryz.results87, go_sem, bkV, Sb.zero, *]) rfl ⟨rfl, F6, hd, hm⟩
theorem store_w4_none (d : Nat) (F : List Nat) (S : Dv) (b : Sb) (hf : b.fits) (w : World) (h : DvAt w d F S)
  (cL : ∀ W : World, DvAt W d F S -> Calls Tryz.prog 47 #[.pointer (some ⟨d, 0, none⟩)] W fun e w' => e = .returned (bkV Sb.zero 5) /\ DvAt w' d F S.loadDo /\ Keep F W w') (N : Sb) (hN : N = ⟨1, b.epoch, b.res, b.hor, b.gen, b.clean, (toldN b.image : Int)⟩) (hwe : S.loadDo.writeErr ((N.seq % 2 : Nat) : Int) (txt N.enc) = 4) :
  Calls Tryz.prog 87 #[.pointer (some ⟨d, 0, none⟩), .agg #[.int .u64 b.seq, .int .u64 b.epoch, .int .u64 b.res, .int .u64 b.hor, .int .u64 b.gen, .bool b.clean, .int .i64 b.image]] w fun e w' => e = .returned (bkV Sb.zero 4) /\ ∃ F', DvAt w' d F' (S.loadDo.writeDo ((N.seq % 2 : Nat) : Int) (txt N.enc)) /\ Moves F F' w w' := by
 have hA : DvAt (stW w b) d F S := (h.alloc _).alloc _
 have hbx : Blk (stW w b) w.heap.size (bkL b) 30 := (Blk.new w (bkL b) 30).alloc _
 have hbz := stW_z w b
 have KA : Hid (Keep F w (stW w b)) := ((Keep.refl F w).alloc _).alloc _
 have NF := hide (h.new w.heap.size (Nat.le_refl _))
 have NZ := hide (h.new (w.heap.size + 1) (Nat.le_succ _))
 have FL := hide h.lt
 have cL' : Hid (Calls Tryz.prog 47 #[.pointer (some ⟨d, 0, none⟩)] (stW w b) fun e w' => e = .returned (.tuple #[.agg #[.int .u64 0, .int .u64 0, .int .u64 0, .int .u64 0, .int .u64 0, .bool false, .int .i64 0], .int .i64 5]) /\ DvAt w' d F S.loadDo /\ Keep F (stW w b) w') := cL _ hA
 have HBX := hide hbx
 have HBZ := hide hbz
 have ct := hide (told_any b.image)
 clear hA hbx hbz h cL
 go_enter Tryz.func87, Tryz.ntmps87
 go_wp2_with (first
  | (go_at_call 47; refine cL'.out.mono ?_; rintro r w1 ⟨rfl, hd1, kp1⟩; have HD1 := hide hd1; have HK1 := hide kp1; have hb1 := HBX.out.same (kp1.block _ HBX.out.lt NF.out); have hz1 := HBZ.out.same (kp1.block _ HBZ.out.lt NZ.out); have HB1 := hide hb1; have HZ1 := hide hz1; have hltb := hb1.lt; have hltz := hz1.lt; obtain ⟨z0, z1, z2, z3, z4, z5, z6, f0, f1, f2, f3, f4, f5, f6⟩ := cells7 hb1; obtain ⟨y0, y1, y2, y3, y4, y5, y6, g0, g1, g2, g3, g4, g5, g6⟩ := cells7z hz1; clear hd1 kp1 hb1 hz1)
  | (go_at_call 143; refine (ct.out _).mono ?_; rintro r w2 ⟨rfl, h2⟩; obtain rfl := h2))
 generalize hW3 : ((w1.setCell ⟨w.heap.size, 0, none⟩ (.int .u64 1)).setCell ⟨w.heap.size, 6, none⟩ (.int .i64 (toldN b.image : Nat))).alloc (.cells #[.int .u64 0, .int .u64 0, .int .u64 0, .int .u64 0, .int .u64 0, .bool false, .int .i64 0] 30) = W3
 have hne : w.heap.size + 1 ≠ w.heap.size := by omega
 have st3 : StAt w d F F S.loadDo N W3 := by
  rw [<- hW3, hN]
  have k1 : Keep F w w1 := KA.out.trans HK1.out (fun x hx => .inl hx)
  refine ⟨DvAt.alloc (HD1.out.same (fun k hk => ?_)) _, ((HB1.out.set 0 _).set 6 _).alloc _, ((HZ1.out.other hne _).other hne _).alloc _, Moves.of_keep (((k1.setCell (.inr (Nat.le_refl _)) _).setCell (.inr (Nat.le_refl _)) _).alloc _), NF.out, NZ.out⟩
  have hkn : k ≠ w.heap.size := fun e => NF.out (e ▸ hk)
  rw [blk_setCell_other _ _ _ _ hkn, blk_setCell_other _ _ _ _ hkn]
 have Nf : N.fits := by
  rw [hN]
  have := toldN_le b.image
  exact ⟨by show 1 < _; omega, hf.epoch, hf.res, hf.hor, hf.gen, by show _ <= ((toldN b.image : Nat) : Int); omega, by show ((toldN b.image : Nat) : Int) <= _; omega⟩
 have cE := hide (encode_any N Nf)
 have cW : Hid (∀ (W : World) (g : Nat), Buf W g N.enc 0 -> w.heap.size <= g -> StAt w d F F S.loadDo N W -> Calls Tryz.prog 88 #[.pointer (some ⟨d, 0, none⟩), .int .i64 ((N.seq % 2 : Nat) : Int), .slice (some ⟨g, 0, none⟩) 64 64] W fun e w' => e = .returned (.int .i64 4) /\
   ∃ F', StAt w d F F' (S.loadDo.writeDo ((N.seq % 2 : Nat) : Int) (txt N.enc)) N w') := fun W g hb hg hs => by
  have hbs := buf_bs (n := 64) (cap := 64) hb (by rw [N.enc_length]) (Nat.le_refl _)
  refine (write_at d F S.loadDo _ _ 64 64 g N.enc (by rw [N.enc_length]) W hbs.slice (fun h => by cases h) (fun _ hf => by have := FL.out g hf; omega) hs.dev).mono ?_
  rintro e w' ⟨rfl, F', hd, m⟩
  exact ⟨by rw [show (⟨N.enc.toArray⟩ : ByteArray) = txt N.enc from rfl, hwe], F', hs.move hd m⟩
 obtain ⟨q0, q1, q2, q3, q4, q5, q6, h0, h1, h2, h3, h4, h5, h6⟩ := cells7 st3.box
 have ST3 := hide st3
 have hmod : (N.seq : Int).tmod 2 = ((N.seq % 2 : Nat) : Int) := by rw [Int.tmod_eq_emod_of_nonneg (by omega)]; omega
 generalize hk2 : ((N.seq % 2 : Nat) : Int) = k2 at *
 have hwk : IntKind.i64.wrap k2 = k2 := by rw [IntKind.wrap_i64]; omega
 have hwk2 : IntKind.u64.wrap k2 = k2 := by rw [IntKind.wrap_u64]; omega
 have HK2 := hide hk2
 have HN := hide hN
 have HW := hide hwe
 clear st3 HD1 HK1 HB1 HZ1 z0 z1 z2 z3 z4 z5 z6 f0 f1 f2 f3 f4 f5 f6 y0 y1 y2 y3 y4 y5 y6 g0 g1 g2 g3 g4 g5 g6 hW3 KA HBX HBZ cL' ct Nf hN hwe hk2 hf
 go_region_held (fun W => W.cell? ⟨w.heap.size, 0, none⟩ = some (.int .u64 N.seq) /\ W.cell? ⟨w.heap.size, 1, none⟩ = some (.int .u64 N.epoch) /\ W.cell? ⟨w.heap.size, 2, none⟩ = some (.int .u64 N.res) /\ W.cell? ⟨w.heap.size, 3, none⟩ = some (.int .u64 N.hor) /\ W.cell? ⟨w.heap.size, 4, none⟩ = some (.int .u64 N.gen) /\ W.cell? ⟨w.heap.size, 5, none⟩ = some (.bool N.clean) /\ W.cell? ⟨w.heap.size, 6, none⟩ = some (.int .i64 N.image))
  (first | exact ⟨q0, q1, q2, q3, q4, q5, q6⟩ | assumption)
  (first
   | (go_at_call 144; refine (cE.out _).mono ?_; rintro r w4 ⟨g, rfl, hg, hbuf, hbel⟩; have s4 := ST3.out.drew.below hbel; obtain ⟨p0, p1, p2, p3, p4, p5, p6, r0, r1, r2, r3, r4, r5, r6⟩ := cells7 s4.box; have hS := And.intro p0 (And.intro p1 (And.intro p2 (And.intro p3 (And.intro p4 (And.intro p5 p6))))); have S4 := hide s4; have HG := hide hg; have HBUF := hide hbuf; clear hg hbuf hbel s4 p0 p1 p2 p3 p4 p5 p6 r0 r1 r2 r3 r4 r5 r6)
   | (go_at_call 88; refine (cW.out _ _ HBUF.out (by have := HG.out; have := ST3.out.mv.keep.size; have e : W3.drew.heap.size = W3.heap.size := rfl; omega) S4.out).mono ?_; rintro r w5 ⟨rfl, F5, s5⟩; obtain ⟨p0, p1, p2, p3, p4, p5, p6, r0, r1, r2, r3, r4, r5, r6⟩ := cells7 s5.box; have hS5 := And.intro p0 (And.intro p1 (And.intro p2 (And.intro p3 (And.intro p4 (And.intro p5 p6))))); have S5 := hide s5; clear s5))
 clear q0 q1 q2 q3 q4 q5 q6 h0 h1 h2 h3 h4 h5 h6 hS hmod hwk hwk2 cE cW
 clear p0 p1 p2 p3 p4 p5 p6 r0 r1 r2 r3 r4 r5 r6 hS5
 obtain ⟨u0, u1, u2, u3, u4, u5, u6, v0, v1, v2, v3, v4, v5, v6⟩ := cells7z S5.out.res
 go_wp2
 obtain ⟨hd, hm⟩ := S5.out.fin Sb.zero
 rw [<- HK2.out] at hd
 exact bodyPost_ret (v := bkV Sb.zero 4) (by simp [results, Tryz.results87, go_sem, bkV, Sb.zero, *]) rfl ⟨rfl, F5, hd, hm⟩
end Go.Proofs.YtcdghalnneilpaaGreat
