/- The document's own 'Store'. -/
import Derived.Test.YtcdefadeaiklbaaRefLoad
import Derived.Deep.RegionHeld
set_option linter.unusedVariables false
set_option linter.unusedSimpArgs false
set_option maxRecDepth 8000
namespace Go.Proofs.Ytcdefadeaiklbaa
open Go.RowKit Go.Deep Math

/-- The state when a block is being stored: its box, the result's box, the device. -/
structure RStAt (w : World) (d : Nat) (F F' : List Nat) (S : Dv) (n : Bk) (W : World) : Prop where
  dev : RfAt W d F' S
  box : Blk W w.heap.size (bkL n) 37
  res : Blk W (w.heap.size + 1) (bkL Bk.zero) 37
  mv : Moves F F' w W
  nb : w.heap.size ∉ F'
  nz : w.heap.size + 1 ∉ F'
theorem RStAt.below {w W W2 : World} {d : Nat} {F F' : List Nat} {S : Dv} {n : Bk} (h : RStAt w d F F' S n W) (b : Below W.heap.size W W2) : RStAt w d F F' S n W2 :=
  ⟨h.dev.below b, h.box.same (b.block _ h.box.lt), h.res.same (b.block _ h.res.lt), h.mv.trans (Moves.of_keep (Keep.of_below b)), h.nb, h.nz⟩
theorem RStAt.move {w W W2 : World} {d : Nat} {F F' F2 : List Nat} {S S2 : Dv} {n : Bk} (h : RStAt w d F F' S n W) (hd : RfAt W2 d F2 S2) (m : Moves F' F2 W W2) : RStAt w d F F2 S2 n W2 := by
  have h1 := h.box.lt
  have h2 := h.res.lt
  refine ⟨hd, h.box.same (m.keep.block _ h1 h.nb), h.res.same (m.keep.block _ h2 h.nz), h.mv.trans m, fun hf => ?_, fun hf => ?_⟩
  · rcases m.foot _ hf with h3 | h3
    · exact h.nb h3
    · omega
  · rcases m.foot _ hf with h3 | h3
    · exact h.nz h3
    · omega
theorem RStAt.drew {w W : World} {d : Nat} {F F' : List Nat} {S : Dv} {n : Bk} (h : RStAt w d F F' S n W) : RStAt w d F F' S n W.drew :=
  h.below (Below.refl _ _).drew
theorem RStAt.fin {w W : World} {d : Nat} {F F' : List Nat} {S : Dv} {n : Bk} (h : RStAt w d F F' S n W) (x : Bk) : RfAt (put7 W (w.heap.size + 1) x) d F' S ∧ Moves F F' w (put7 W (w.heap.size + 1) x) :=
  ⟨put7_rf h.dev h.nz x, ⟨put7_keep h.mv.keep (.inr (Nat.le_succ _)) x, h.mv.foot⟩⟩

set_option maxHeartbeats 1000000 in
theorem rstore_bad1 (d : Nat) (F : List Nat) (S : Dv) (b : Bk) (hf : b.fits) (w : World) (h : RfAt w d F S)
    (cL : ∀ W : World, RfAt W d F S → Calls Try.prog 27 #[.pointer (some ⟨d, 0, none⟩)] W fun e w' => e = .returned (bkV Bk.zero 1) ∧ RfAt w' d F S ∧ Keep F W w') :
    Calls Try.prog 21 #[.pointer (some ⟨d, 0, none⟩), .agg #[.int .u64 b.seq, .int .u64 b.epoch, .int .u64 b.res, .int .u64 b.hor, .int .u64 b.gen, .bool b.clean, .int .i64 b.image]] w fun e w' => e = .returned (bkV Bk.zero 1) ∧ ∃ F', RfAt w' d F' S ∧ Moves F F' w w' := by
  have hA : RfAt ((w.alloc (.cells #[.int .u64 b.seq, .int .u64 b.epoch, .int .u64 b.res, .int .u64 b.hor, .int .u64 b.gen, .bool b.clean, .int .i64 b.image] 37)).alloc (.cells #[.int .u64 0, .int .u64 0, .int .u64 0, .int .u64 0, .int .u64 0, .bool false, .int .i64 0] 37)) d F S := (h.alloc _).alloc _
  have hbx : Blk ((w.alloc (.cells #[.int .u64 b.seq, .int .u64 b.epoch, .int .u64 b.res, .int .u64 b.hor, .int .u64 b.gen, .bool b.clean, .int .i64 b.image] 37)).alloc (.cells #[.int .u64 0, .int .u64 0, .int .u64 0, .int .u64 0, .int .u64 0, .bool false, .int .i64 0] 37)) w.heap.size (bkL b) 37 := (Blk.new w (bkL b) 37).alloc _
  have hbz : Blk ((w.alloc (.cells #[.int .u64 b.seq, .int .u64 b.epoch, .int .u64 b.res, .int .u64 b.hor, .int .u64 b.gen, .bool b.clean, .int .i64 b.image] 37)).alloc (.cells #[.int .u64 0, .int .u64 0, .int .u64 0, .int .u64 0, .int .u64 0, .bool false, .int .i64 0] 37)) (w.heap.size + 1) (bkL Bk.zero) 37 := by
    have := Blk.new (w.alloc (.cells #[.int .u64 b.seq, .int .u64 b.epoch, .int .u64 b.res, .int .u64 b.hor, .int .u64 b.gen, .bool b.clean, .int .i64 b.image] 37)) (bkL Bk.zero) 37
    rw [nblk_alloc] at this
    exact this
  have KA : Hid (Keep F w ((w.alloc (.cells #[.int .u64 b.seq, .int .u64 b.epoch, .int .u64 b.res, .int .u64 b.hor, .int .u64 b.gen, .bool b.clean, .int .i64 b.image] 37)).alloc (.cells #[.int .u64 0, .int .u64 0, .int .u64 0, .int .u64 0, .int .u64 0, .bool false, .int .i64 0] 37))) := ((Keep.refl F w).alloc _).alloc _
  have NF := hide (h.new w.heap.size (Nat.le_refl _))
  have NZ := hide (h.new (w.heap.size + 1) (Nat.le_succ _))
  have FL := hide h.lt
  have cL' : Hid (Calls Try.prog 27 #[.pointer (some ⟨d, 0, none⟩)] ((w.alloc (.cells #[.int .u64 b.seq, .int .u64 b.epoch, .int .u64 b.res, .int .u64 b.hor, .int .u64 b.gen, .bool b.clean, .int .i64 b.image] 37)).alloc (.cells #[.int .u64 0, .int .u64 0, .int .u64 0, .int .u64 0, .int .u64 0, .bool false, .int .i64 0] 37)) fun e w' => e = .returned (.tuple #[.agg #[.int .u64 0, .int .u64 0, .int .u64 0, .int .u64 0, .int .u64 0, .bool false, .int .i64 0], .int .i64 1]) ∧ RfAt w' d F S ∧ Keep F ((w.alloc (.cells #[.int .u64 b.seq, .int .u64 b.epoch, .int .u64 b.res, .int .u64 b.hor, .int .u64 b.gen, .bool b.clean, .int .i64 b.image] 37)).alloc (.cells #[.int .u64 0, .int .u64 0, .int .u64 0, .int .u64 0, .int .u64 0, .bool false, .int .i64 0] 37)) w') := cL _ hA
  have HBX := hide hbx
  have HBZ := hide hbz
  clear hA hbx hbz h cL
  go_enter Try.func21, Try.ntmps21
  go_wp2_with (first
    | (go_at_call 27; refine cL'.out.mono ?_; rintro r w1 ⟨rfl, hd1, kp1⟩; have HD1 := hide hd1; have HK1 := hide kp1; have hb1 := HBX.out.same (kp1.block _ HBX.out.lt NF.out); have hz1 := HBZ.out.same (kp1.block _ HBZ.out.lt NZ.out); have HB1 := hide hb1; have HZ1 := hide hz1; have hltb := hb1.lt; have hltz := hz1.lt; obtain ⟨z0, z1, z2, z3, z4, z5, z6, f0, f1, f2, f3, f4, f5, f6⟩ := cells7T hb1; obtain ⟨y0, y1, y2, y3, y4, y5, y6, g0, g1, g2, g3, g4, g5, g6⟩ := cells7zT hz1; clear hd1 kp1 hb1 hz1))
  refine bodyPost_ret (v := bkV Bk.zero 1) (by simp [results, Try.results21, go_sem, bkV, Bk.zero, *]) rfl ⟨rfl, F, ?_, Moves.of_keep ?_⟩
  · exact (put7_rf HD1.out NZ.out Bk.zero).alloc _
  · exact (put7_keep (KA.out.trans HK1.out (fun x hx => .inl hx)) (.inr (Nat.le_succ _)) Bk.zero).alloc _
set_option maxHeartbeats 1000000 in
theorem rstore_bad4 (d : Nat) (F : List Nat) (S : Dv) (b : Bk) (hf : b.fits) (w : World) (h : RfAt w d F S)
    (cL : ∀ W : World, RfAt W d F S → Calls Try.prog 27 #[.pointer (some ⟨d, 0, none⟩)] W fun e w' => e = .returned (bkV Bk.zero 4) ∧ RfAt w' d F S ∧ Keep F W w') :
    Calls Try.prog 21 #[.pointer (some ⟨d, 0, none⟩), .agg #[.int .u64 b.seq, .int .u64 b.epoch, .int .u64 b.res, .int .u64 b.hor, .int .u64 b.gen, .bool b.clean, .int .i64 b.image]] w fun e w' => e = .returned (bkV Bk.zero 4) ∧ ∃ F', RfAt w' d F' S ∧ Moves F F' w w' := by
  have hA : RfAt ((w.alloc (.cells #[.int .u64 b.seq, .int .u64 b.epoch, .int .u64 b.res, .int .u64 b.hor, .int .u64 b.gen, .bool b.clean, .int .i64 b.image] 37)).alloc (.cells #[.int .u64 0, .int .u64 0, .int .u64 0, .int .u64 0, .int .u64 0, .bool false, .int .i64 0] 37)) d F S := (h.alloc _).alloc _
  have hbx : Blk ((w.alloc (.cells #[.int .u64 b.seq, .int .u64 b.epoch, .int .u64 b.res, .int .u64 b.hor, .int .u64 b.gen, .bool b.clean, .int .i64 b.image] 37)).alloc (.cells #[.int .u64 0, .int .u64 0, .int .u64 0, .int .u64 0, .int .u64 0, .bool false, .int .i64 0] 37)) w.heap.size (bkL b) 37 := (Blk.new w (bkL b) 37).alloc _
  have hbz : Blk ((w.alloc (.cells #[.int .u64 b.seq, .int .u64 b.epoch, .int .u64 b.res, .int .u64 b.hor, .int .u64 b.gen, .bool b.clean, .int .i64 b.image] 37)).alloc (.cells #[.int .u64 0, .int .u64 0, .int .u64 0, .int .u64 0, .int .u64 0, .bool false, .int .i64 0] 37)) (w.heap.size + 1) (bkL Bk.zero) 37 := by
    have := Blk.new (w.alloc (.cells #[.int .u64 b.seq, .int .u64 b.epoch, .int .u64 b.res, .int .u64 b.hor, .int .u64 b.gen, .bool b.clean, .int .i64 b.image] 37)) (bkL Bk.zero) 37
    rw [nblk_alloc] at this
    exact this
  have KA : Hid (Keep F w ((w.alloc (.cells #[.int .u64 b.seq, .int .u64 b.epoch, .int .u64 b.res, .int .u64 b.hor, .int .u64 b.gen, .bool b.clean, .int .i64 b.image] 37)).alloc (.cells #[.int .u64 0, .int .u64 0, .int .u64 0, .int .u64 0, .int .u64 0, .bool false, .int .i64 0] 37))) := ((Keep.refl F w).alloc _).alloc _
  have NF := hide (h.new w.heap.size (Nat.le_refl _))
  have NZ := hide (h.new (w.heap.size + 1) (Nat.le_succ _))
  have FL := hide h.lt
  have cL' : Hid (Calls Try.prog 27 #[.pointer (some ⟨d, 0, none⟩)] ((w.alloc (.cells #[.int .u64 b.seq, .int .u64 b.epoch, .int .u64 b.res, .int .u64 b.hor, .int .u64 b.gen, .bool b.clean, .int .i64 b.image] 37)).alloc (.cells #[.int .u64 0, .int .u64 0, .int .u64 0, .int .u64 0, .int .u64 0, .bool false, .int .i64 0] 37)) fun e w' => e = .returned (.tuple #[.agg #[.int .u64 0, .int .u64 0, .int .u64 0, .int .u64 0, .int .u64 0, .bool false, .int .i64 0], .int .i64 4]) ∧ RfAt w' d F S ∧ Keep F ((w.alloc (.cells #[.int .u64 b.seq, .int .u64 b.epoch, .int .u64 b.res, .int .u64 b.hor, .int .u64 b.gen, .bool b.clean, .int .i64 b.image] 37)).alloc (.cells #[.int .u64 0, .int .u64 0, .int .u64 0, .int .u64 0, .int .u64 0, .bool false, .int .i64 0] 37)) w') := cL _ hA
  have HBX := hide hbx
  have HBZ := hide hbz
  clear hA hbx hbz h cL
  go_enter Try.func21, Try.ntmps21
  go_wp2_with (first
    | (go_at_call 27; refine cL'.out.mono ?_; rintro r w1 ⟨rfl, hd1, kp1⟩; have HD1 := hide hd1; have HK1 := hide kp1; have hb1 := HBX.out.same (kp1.block _ HBX.out.lt NF.out); have hz1 := HBZ.out.same (kp1.block _ HBZ.out.lt NZ.out); have HB1 := hide hb1; have HZ1 := hide hz1; have hltb := hb1.lt; have hltz := hz1.lt; obtain ⟨z0, z1, z2, z3, z4, z5, z6, f0, f1, f2, f3, f4, f5, f6⟩ := cells7T hb1; obtain ⟨y0, y1, y2, y3, y4, y5, y6, g0, g1, g2, g3, g4, g5, g6⟩ := cells7zT hz1; clear hd1 kp1 hb1 hz1))
  refine bodyPost_ret (v := bkV Bk.zero 4) (by simp [results, Try.results21, go_sem, bkV, Bk.zero, *]) rfl ⟨rfl, F, ?_, Moves.of_keep ?_⟩
  · exact (put7_rf HD1.out NZ.out Bk.zero).alloc _
  · exact (put7_keep (KA.out.trans HK1.out (fun x hx => .inl hx)) (.inr (Nat.le_succ _)) Bk.zero).alloc _
set_option maxHeartbeats 1000000 in
theorem rstore_worn (d : Nat) (F : List Nat) (S : Dv) (b : Bk) (hf : b.fits) (x : Bk) (hx : x.fits) (w : World) (h : RfAt w d F S)
    (cL : ∀ W : World, RfAt W d F S → Calls Try.prog 27 #[.pointer (some ⟨d, 0, none⟩)] W fun e w' => e = .returned (bkV x 0) ∧ RfAt w' d F S.loadDo ∧ Keep F W w') (hw : x.seq = 18446744073709551615) :
    Calls Try.prog 21 #[.pointer (some ⟨d, 0, none⟩), .agg #[.int .u64 b.seq, .int .u64 b.epoch, .int .u64 b.res, .int .u64 b.hor, .int .u64 b.gen, .bool b.clean, .int .i64 b.image]] w fun e w' => e = .returned (bkV Bk.zero 9) ∧ ∃ F', RfAt w' d F' S.loadDo ∧ Moves F F' w w' := by
  have hA : RfAt ((w.alloc (.cells #[.int .u64 b.seq, .int .u64 b.epoch, .int .u64 b.res, .int .u64 b.hor, .int .u64 b.gen, .bool b.clean, .int .i64 b.image] 37)).alloc (.cells #[.int .u64 0, .int .u64 0, .int .u64 0, .int .u64 0, .int .u64 0, .bool false, .int .i64 0] 37)) d F S := (h.alloc _).alloc _
  have hbx : Blk ((w.alloc (.cells #[.int .u64 b.seq, .int .u64 b.epoch, .int .u64 b.res, .int .u64 b.hor, .int .u64 b.gen, .bool b.clean, .int .i64 b.image] 37)).alloc (.cells #[.int .u64 0, .int .u64 0, .int .u64 0, .int .u64 0, .int .u64 0, .bool false, .int .i64 0] 37)) w.heap.size (bkL b) 37 := (Blk.new w (bkL b) 37).alloc _
  have hbz : Blk ((w.alloc (.cells #[.int .u64 b.seq, .int .u64 b.epoch, .int .u64 b.res, .int .u64 b.hor, .int .u64 b.gen, .bool b.clean, .int .i64 b.image] 37)).alloc (.cells #[.int .u64 0, .int .u64 0, .int .u64 0, .int .u64 0, .int .u64 0, .bool false, .int .i64 0] 37)) (w.heap.size + 1) (bkL Bk.zero) 37 := by
    have := Blk.new (w.alloc (.cells #[.int .u64 b.seq, .int .u64 b.epoch, .int .u64 b.res, .int .u64 b.hor, .int .u64 b.gen, .bool b.clean, .int .i64 b.image] 37)) (bkL Bk.zero) 37
    rw [nblk_alloc] at this
    exact this
  have KA : Hid (Keep F w ((w.alloc (.cells #[.int .u64 b.seq, .int .u64 b.epoch, .int .u64 b.res, .int .u64 b.hor, .int .u64 b.gen, .bool b.clean, .int .i64 b.image] 37)).alloc (.cells #[.int .u64 0, .int .u64 0, .int .u64 0, .int .u64 0, .int .u64 0, .bool false, .int .i64 0] 37))) := ((Keep.refl F w).alloc _).alloc _
  have NF := hide (h.new w.heap.size (Nat.le_refl _))
  have NZ := hide (h.new (w.heap.size + 1) (Nat.le_succ _))
  have FL := hide h.lt
  have cL' : Hid (Calls Try.prog 27 #[.pointer (some ⟨d, 0, none⟩)] ((w.alloc (.cells #[.int .u64 b.seq, .int .u64 b.epoch, .int .u64 b.res, .int .u64 b.hor, .int .u64 b.gen, .bool b.clean, .int .i64 b.image] 37)).alloc (.cells #[.int .u64 0, .int .u64 0, .int .u64 0, .int .u64 0, .int .u64 0, .bool false, .int .i64 0] 37)) fun e w' => e = .returned (.tuple #[.agg #[.int .u64 x.seq, .int .u64 x.epoch, .int .u64 x.res, .int .u64 x.hor, .int .u64 x.gen, .bool x.clean, .int .i64 x.image], .int .i64 0]) ∧ RfAt w' d F S.loadDo ∧ Keep F ((w.alloc (.cells #[.int .u64 b.seq, .int .u64 b.epoch, .int .u64 b.res, .int .u64 b.hor, .int .u64 b.gen, .bool b.clean, .int .i64 b.image] 37)).alloc (.cells #[.int .u64 0, .int .u64 0, .int .u64 0, .int .u64 0, .int .u64 0, .bool false, .int .i64 0] 37)) w') := cL _ hA
  have HBX := hide hbx
  have HBZ := hide hbz
  have hq : ((x.seq : Int) == 18446744073709551615) = true := by rw [hw]; rfl
  clear hA hbx hbz h cL hw
  go_enter Try.func21, Try.ntmps21
  go_wp2_with (first
    | (go_at_call 27; refine cL'.out.mono ?_; rintro r w1 ⟨rfl, hd1, kp1⟩; have HD1 := hide hd1; have HK1 := hide kp1; have hb1 := HBX.out.same (kp1.block _ HBX.out.lt NF.out); have hz1 := HBZ.out.same (kp1.block _ HBZ.out.lt NZ.out); have HB1 := hide hb1; have HZ1 := hide hz1; have hltb := hb1.lt; have hltz := hz1.lt; obtain ⟨z0, z1, z2, z3, z4, z5, z6, f0, f1, f2, f3, f4, f5, f6⟩ := cells7T hb1; obtain ⟨y0, y1, y2, y3, y4, y5, y6, g0, g1, g2, g3, g4, g5, g6⟩ := cells7zT hz1; clear hd1 kp1 hb1 hz1))
  refine bodyPost_ret (v := bkV Bk.zero 9) (by simp [results, Try.results21, go_sem, bkV, Bk.zero, *]) rfl ⟨rfl, F, ?_, Moves.of_keep ?_⟩
  · exact (put7_rf HD1.out NZ.out Bk.zero).alloc _
  · exact (put7_keep (KA.out.trans HK1.out (fun x hx => .inl hx)) (.inr (Nat.le_succ _)) Bk.zero).alloc _
end Go.Proofs.Ytcdefadeaiklbaa
