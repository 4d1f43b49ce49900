/- Joined texts. -/
import Derived.Test.YtcdghalnneilpaaGreatR23
set_option linter.unusedVariables false
set_option linter.unusedSimpArgs false
set_option maxRecDepth 8000
set_option maxHeartbeats 8000000
namespace Go.Proofs.YtcdghalnneilpaaGreat
open Go.RowKit Go.Deep Math
def newer : Option Sb -> Option Sb -> Option Sb
 | a, none => a
 | none, some y => some y
 | some x, some y => if x.seq < y.seq then some y else some x
def Dv.loadB (S : Dv) : Option Sb := newer (S.slotB 0) (S.slotB 1)
def Dv.loadV (S : Dv) : Value := if S.cs.length < 2 then bkV Sb.zero 1 else if S.off = true then bkV Sb.zero 4 else slotV S.loadB
def Dv.loadDo (S : Dv) : Dv := if S.cs.length < 2 then S else if S.off = true then S else (S.readDo 0).readDo 1
theorem spages_at (d : Nat) (F : List Nat) (S : Dv) (w : World) (h : DvAt w d F S) : Calls Tryz.prog 46 #[.pointer (some ⟨d, 0, none⟩)] w fun e w' => e = .returned (.int .i64 S.cs.length) /\ w' = w := by
 obtain ⟨p, pd, wa, wc, rfl, h⟩ := h
 exact pages_any d p pd wa wc S w h
theorem spower_at (d : Nat) (F : List Nat) (S : Dv) (w : World) (h : DvAt w d F S) : Calls Tryz.prog 101 #[.pointer (some ⟨d, 0, none⟩)] w fun e w' => e = .returned (.bool (!S.off)) /\ w' = w := by
 obtain ⟨p, pd, wa, wc, rfl, h⟩ := h
 exact power_any d p pd wa wc S w h
theorem readDo_cs (S : Dv) (k : Int) : (S.readDo k).cs = S.cs := by unfold Dv.readDo; split <;> (try split) <;> rfl
theorem readDo_off (S : Dv) (k : Int) : (S.readDo k).off = S.off := by unfold Dv.readDo; split <;> (try split) <;> rfl
theorem readDo_armed (S : Dv) (k : Int) : (S.readDo k).armed = S.armed := by unfold Dv.readDo; split <;> (try split) <;> rfl
theorem readDo_losses (S : Dv) (k : Int) : (S.readDo k).losses = S.losses := by unfold Dv.readDo; split <;> (try split) <;> rfl
theorem slotB_cs {S T : Dv} (h : S.cs = T.cs) (k : Nat) : S.slotB k = T.slotB k := by unfold Dv.slotB; rw [h]
theorem loadDo_cs (S : Dv) : S.loadDo.cs = S.cs := by unfold Dv.loadDo; split; rfl; split; rfl; rw [readDo_cs, readDo_cs]
theorem loadDo_off (S : Dv) : S.loadDo.off = S.off := by unfold Dv.loadDo; split; rfl; split; rfl; rw [readDo_off, readDo_off]
theorem loadDo_armed (S : Dv) : S.loadDo.armed = S.armed := by unfold Dv.loadDo; split; rfl; split; rfl; rw [readDo_armed, readDo_armed]
theorem loadDo_losses (S : Dv) : S.loadDo.losses = S.losses := by unfold Dv.loadDo; split; rfl; split; rfl; rw [readDo_losses, readDo_losses]
theorem load_few (d : Nat) (F : List Nat) (S : Dv) (w : World) (h : DvAt w d F S) (hs : S.cs.length < 2) :
  Calls Tryz.prog 47 #[.pointer (some ⟨d, 0, none⟩)] w fun e w' => e = .returned (bkV Sb.zero 1) /\ DvAt w' d F S /\ Keep F w w' := by
 have hA : DvAt (w.alloc (.cells #[.int .u64 0, .int .u64 0, .int .u64 0, .int .u64 0, .int .u64 0, .bool false, .int .i64 0] 30)) d F S := h.alloc _
 have cp := hide (spages_at d F S _ hA)
 have h2 : ((S.cs.length : Int) < 2) = True := eq_true (by omega)
 have HA := hide hA
 clear hA hs
 go_enter Tryz.func47, Tryz.ntmps47
 go_wp2_with (first
  | (go_at_call 46; refine cp.out.mono ?_; rintro r wx ⟨rfl, hx⟩; obtain rfl := hx))
 exact bodyPost_ret (v := bkV Sb.zero 1) (by simp [results, Tryz.results47, go_sem, bkV, Sb.zero, *]) rfl ⟨rfl, h.alloc _, (Keep.refl F w).alloc _⟩
theorem load_off (d : Nat) (F : List Nat) (S : Dv) (w : World) (h : DvAt w d F S) (hs : 2 <= S.cs.length /\ S.off = true) :
  Calls Tryz.prog 47 #[.pointer (some ⟨d, 0, none⟩)] w fun e w' => e = .returned (bkV Sb.zero 4) /\ DvAt w' d F S /\ Keep F w w' := by
 have hA : DvAt (w.alloc (.cells #[.int .u64 0, .int .u64 0, .int .u64 0, .int .u64 0, .int .u64 0, .bool false, .int .i64 0] 30)) d F S := h.alloc _
 have cp := hide (spages_at d F S _ hA)
 have h2 : ((S.cs.length : Int) < 2) = False := eq_false (by omega)
 have cw := hide (spower_at d F S _ hA)
 rw [hs.2] at cw
 have HA := hide hA
 clear hA hs
 go_enter Tryz.func47, Tryz.ntmps47
 go_wp2_with (first
  | (go_at_call 46; refine cp.out.mono ?_; rintro r wx ⟨rfl, hx⟩; obtain rfl := hx)
  | (go_at_call 101; refine cw.out.mono ?_; rintro r wx ⟨rfl, hx⟩; obtain rfl := hx))
 exact bodyPost_ret (v := bkV Sb.zero 4) (by simp [results, Tryz.results47, go_sem, bkV, Sb.zero, *]) rfl ⟨rfl, h.alloc _, (Keep.refl F w).alloc _⟩
theorem load_0 (d : Nat) (F : List Nat) (S : Dv) (w : World) (h : DvAt w d F S) (h2l : 2 <= S.cs.length) (hoff : S.off = false) (ha : S.slotB 0 = none) (hb : S.slotB 1 = none) :
  Calls Tryz.prog 47 #[.pointer (some ⟨d, 0, none⟩)] w fun e w' => e = .returned (bkV Sb.zero 5) /\ DvAt w' d F ((S.readDo 0).readDo 1) /\ Keep F w w' := by
 have hA : DvAt (w.alloc (.cells #[.int .u64 0, .int .u64 0, .int .u64 0, .int .u64 0, .int .u64 0, .bool false, .int .i64 0] 30)) d F S := h.alloc _
 have hz : Blk (w.alloc (.cells #[.int .u64 0, .int .u64 0, .int .u64 0, .int .u64 0, .int .u64 0, .bool false, .int .i64 0] 30)) w.heap.size (bkL Sb.zero) 30 := Blk.new _ _ _
 have NF := hide (h.new w.heap.size (Nat.le_refl _))
 have KA : Hid (Keep F w (w.alloc (.cells #[.int .u64 0, .int .u64 0, .int .u64 0, .int .u64 0, .int .u64 0, .bool false, .int .i64 0] 30))) := (Keep.refl F w).alloc _
 have HZ := hide hz
 have cp := hide (spages_at d F S _ hA)
 have h2 : ((S.cs.length : Int) < 2) = False := eq_false (by omega)
 have cw := hide (spower_at d F S _ hA)
 rw [hoff] at cw
 have c0 : Hid (Calls Tryz.prog 103 #[.pointer (some ⟨d, 0, none⟩), .int .i64 0] (w.alloc (.cells #[.int .u64 0, .int .u64 0, .int .u64 0, .int .u64 0, .int .u64 0, .bool false, .int .i64 0] 30)) fun e w' => e = .returned (.tuple #[.agg #[.int .u64 0, .int .u64 0, .int .u64 0, .int .u64 0, .int .u64 0, .bool false, .int .i64 0], .int .i64 5]) /\ DvAt w' d F (S.readDo 0) /\ Keep F (w.alloc (.cells #[.int .u64 0, .int .u64 0, .int .u64 0, .int .u64 0, .int .u64 0, .bool false, .int .i64 0] 30)) w') := by
  have := slot_any d F S 0 (by omega) hoff _ hA
  rw [ha] at this
  exact this
 have c1 : Hid (∀ W : World, DvAt W d F (S.readDo 0) -> Calls Tryz.prog 103 #[.pointer (some ⟨d, 0, none⟩), .int .i64 1] W fun e w' => e = .returned (.tuple #[.agg #[.int .u64 0, .int .u64 0, .int .u64 0, .int .u64 0, .int .u64 0, .bool false, .int .i64 0], .int .i64 5]) /\ DvAt w' d F ((S.readDo 0).readDo 1) /\ Keep F W w') := fun W hW => by
  have := slot_any d F (S.readDo 0) 1 (by rw [readDo_cs]; omega) (by rw [readDo_off]; exact hoff) W hW
  rw [slotB_cs (readDo_cs S 0), hb] at this
  exact this
 have HA := hide hA
 clear hA hz h h2l hoff ha hb
 go_enter Tryz.func47, Tryz.ntmps47
 go_wp2_with (first
  | (go_at_call 46; refine cp.out.mono ?_; rintro r wx ⟨rfl, hx⟩; obtain rfl := hx)
  | (go_at_call 101; refine cw.out.mono ?_; rintro r wx ⟨rfl, hx⟩; obtain rfl := hx))
 refine c0.out.mono ?_
 rintro r w1 ⟨rfl, hd1, kp1⟩
 have HD1 := hide hd1
 have HK1 := hide kp1
 have HB1 := hide (HZ.out.same (kp1.block _ HZ.out.lt NF.out))
 clear hd1 kp1 cp cw c0
 go_wp2_with fail
 refine (c1.out _ (HD1.out.alloc _)).mono ?_
 rintro r w2 ⟨rfl, hd2, kp2⟩
 have hbz := (HB1.out.alloc (.cells #[.int .u64 0, .int .u64 0, .int .u64 0, .int .u64 0, .int .u64 0, .bool false, .int .i64 0] 30)).same (kp2.block _ (HB1.out.alloc _).lt NF.out)
 have hbn : Blk w2 w1.heap.size (bkL Sb.zero) 30 := (Blk.new w1 (bkL Sb.zero) 30).same (kp2.block _ (Blk.new w1 (bkL Sb.zero) 30).lt (HD1.out.new _ (Nat.le_refl _)))
 have hne : w.heap.size ≠ w1.heap.size := Nat.ne_of_lt (by have := HB1.out.lt; exact this)
 have hne2 := Ne.symm hne
 have hltz := hbz.lt
 have hltn := hbn.lt
 obtain ⟨z0, z1, z2, z3, z4, z5, z6, f0, f1, f2, f3, f4, f5, f6⟩ := cells7z hbz
 obtain ⟨y0, y1, y2, y3, y4, y5, y6, g0, g1, g2, g3, g4, g5, g6⟩ := cells7z hbn
 have HD2 := hide hd2
 have HK2 := hide kp2
 have HBZ := hide hbz
 have HBN := hide hbn
 clear hd2 kp2 c1 hbz hbn
 go_wp2
 have KK : Keep F w w2 := (KA.out.trans HK1.out (fun x hx => .inl hx)).trans (((Keep.refl F w1).alloc _).trans HK2.out (fun x hx => .inl hx)) (fun x hx => .inl hx)
 refine bodyPost_ret (v := bkV Sb.zero 5) (by simp [results, Tryz.results47, go_sem, bkV, Sb.zero, *]) rfl ⟨rfl, ?_, ?_⟩
 ·exact (put7_dv HD2.out NF.out Sb.zero).alloc _
 ·exact (put7_keep KK (.inr (Nat.le_refl _)) Sb.zero).alloc _
theorem load_1 (d : Nat) (F : List Nat) (S : Dv) (y : Sb) (w : World) (h : DvAt w d F S) (h2l : 2 <= S.cs.length) (hoff : S.off = false) (ha : S.slotB 0 = none) (hb : S.slotB 1 = some y) :
  Calls Tryz.prog 47 #[.pointer (some ⟨d, 0, none⟩)] w fun e w' => e = .returned (bkV y 0) /\ DvAt w' d F ((S.readDo 0).readDo 1) /\ Keep F w w' := by
 have hA : DvAt (w.alloc (.cells #[.int .u64 0, .int .u64 0, .int .u64 0, .int .u64 0, .int .u64 0, .bool false, .int .i64 0] 30)) d F S := h.alloc _
 have hz : Blk (w.alloc (.cells #[.int .u64 0, .int .u64 0, .int .u64 0, .int .u64 0, .int .u64 0, .bool false, .int .i64 0] 30)) w.heap.size (bkL Sb.zero) 30 := Blk.new _ _ _
 have NF := hide (h.new w.heap.size (Nat.le_refl _))
 have KA : Hid (Keep F w (w.alloc (.cells #[.int .u64 0, .int .u64 0, .int .u64 0, .int .u64 0, .int .u64 0, .bool false, .int .i64 0] 30))) := (Keep.refl F w).alloc _
 have HZ := hide hz
 have cp := hide (spages_at d F S _ hA)
 have h2 : ((S.cs.length : Int) < 2) = False := eq_false (by omega)
 have cw := hide (spower_at d F S _ hA)
 rw [hoff] at cw
 have c0 : Hid (Calls Tryz.prog 103 #[.pointer (some ⟨d, 0, none⟩), .int .i64 0] (w.alloc (.cells #[.int .u64 0, .int .u64 0, .int .u64 0, .int .u64 0, .int .u64 0, .bool false, .int .i64 0] 30)) fun e w' => e = .returned (.tuple #[.agg #[.int .u64 0, .int .u64 0, .int .u64 0, .int .u64 0, .int .u64 0, .bool false, .int .i64 0], .int .i64 5]) /\ DvAt w' d F (S.readDo 0) /\ Keep F (w.alloc (.cells #[.int .u64 0, .int .u64 0, .int .u64 0, .int .u64 0, .int .u64 0, .bool false, .int .i64 0] 30)) w') := by
  have := slot_any d F S 0 (by omega) hoff _ hA
  rw [ha] at this
  exact this
 have c1 : Hid (∀ W : World, DvAt W d F (S.readDo 0) -> Calls Tryz.prog 103 #[.pointer (some ⟨d, 0, none⟩), .int .i64 1] W fun e w' => e = .returned (.tuple #[.agg #[.int .u64 y.seq, .int .u64 y.epoch, .int .u64 y.res, .int .u64 y.hor, .int .u64 y.gen, .bool y.clean, .int .i64 y.image], .int .i64 0]) /\ DvAt w' d F ((S.readDo 0).readDo 1) /\ Keep F W w') := fun W hW => by
  have := slot_any d F (S.readDo 0) 1 (by rw [readDo_cs]; omega) (by rw [readDo_off]; exact hoff) W hW
  rw [slotB_cs (readDo_cs S 0), hb] at this
  exact this
 have HA := hide hA
 clear hA hz h h2l hoff ha hb
 go_enter Tryz.func47, Tryz.ntmps47
 go_wp2_with (first
  | (go_at_call 46; refine cp.out.mono ?_; rintro r wx ⟨rfl, hx⟩; obtain rfl := hx)
  | (go_at_call 101; refine cw.out.mono ?_; rintro r wx ⟨rfl, hx⟩; obtain rfl := hx))
 refine c0.out.mono ?_
 rintro r w1 ⟨rfl, hd1, kp1⟩
 have HD1 := hide hd1
 have HK1 := hide kp1
 have HB1 := hide (HZ.out.same (kp1.block _ HZ.out.lt NF.out))
 clear hd1 kp1 cp cw c0
 go_wp2_with fail
 refine (c1.out _ (HD1.out.alloc _)).mono ?_
 rintro r w2 ⟨rfl, hd2, kp2⟩
 have hbz := (HB1.out.alloc (.cells #[.int .u64 0, .int .u64 0, .int .u64 0, .int .u64 0, .int .u64 0, .bool false, .int .i64 0] 30)).same (kp2.block _ (HB1.out.alloc _).lt NF.out)
 have hbn : Blk w2 w1.heap.size (bkL Sb.zero) 30 := (Blk.new w1 (bkL Sb.zero) 30).same (kp2.block _ (Blk.new w1 (bkL Sb.zero) 30).lt (HD1.out.new _ (Nat.le_refl _)))
 have hne : w.heap.size ≠ w1.heap.size := Nat.ne_of_lt (by have := HB1.out.lt; exact this)
 have hne2 := Ne.symm hne
 have hltz := hbz.lt
 have hltn := hbn.lt
 obtain ⟨z0, z1, z2, z3, z4, z5, z6, f0, f1, f2, f3, f4, f5, f6⟩ := cells7z hbz
 obtain ⟨y0, y1, y2, y3, y4, y5, y6, g0, g1, g2, g3, g4, g5, g6⟩ := cells7z hbn
 have HD2 := hide hd2
 have HK2 := hide kp2
 have HBZ := hide hbz
 have HBN := hide hbn
 clear hd2 kp2 c1 hbz hbn
 go_wp2
 have KK : Keep F w w2 := (KA.out.trans HK1.out (fun x hx => .inl hx)).trans (((Keep.refl F w1).alloc _).trans HK2.out (fun x hx => .inl hx)) (fun x hx => .inl hx)
 refine bodyPost_ret (v := bkV y 0) (by simp [results, Tryz.results47, go_sem, bkV, *]) rfl ⟨rfl, ?_, ?_⟩
 ·exact (put7_dv (put7_dv HD2.out (HD1.out.new _ (Nat.le_refl _)) y) NF.out y).alloc _
 ·exact (put7_keep (put7_keep KK (.inr (by have := KA.out.size; have := HK1.out.size; omega)) y) (.inr (Nat.le_refl _)) y).alloc _
theorem load_2 (d : Nat) (F : List Nat) (S : Dv) (x : Sb) (w : World) (h : DvAt w d F S) (h2l : 2 <= S.cs.length) (hoff : S.off = false) (ha : S.slotB 0 = some x) (hb : S.slotB 1 = none) :
  Calls Tryz.prog 47 #[.pointer (some ⟨d, 0, none⟩)] w fun e w' => e = .returned (bkV x 0) /\ DvAt w' d F ((S.readDo 0).readDo 1) /\ Keep F w w' := by
 have hA : DvAt (w.alloc (.cells #[.int .u64 0, .int .u64 0, .int .u64 0, .int .u64 0, .int .u64 0, .bool false, .int .i64 0] 30)) d F S := h.alloc _
 have hz : Blk (w.alloc (.cells #[.int .u64 0, .int .u64 0, .int .u64 0, .int .u64 0, .int .u64 0, .bool false, .int .i64 0] 30)) w.heap.size (bkL Sb.zero) 30 := Blk.new _ _ _
 have NF := hide (h.new w.heap.size (Nat.le_refl _))
 have KA : Hid (Keep F w (w.alloc (.cells #[.int .u64 0, .int .u64 0, .int .u64 0, .int .u64 0, .int .u64 0, .bool false, .int .i64 0] 30))) := (Keep.refl F w).alloc _
 have HZ := hide hz
 have cp := hide (spages_at d F S _ hA)
 have h2 : ((S.cs.length : Int) < 2) = False := eq_false (by omega)
 have cw := hide (spower_at d F S _ hA)
 rw [hoff] at cw
 have c0 : Hid (Calls Tryz.prog 103 #[.pointer (some ⟨d, 0, none⟩), .int .i64 0] (w.alloc (.cells #[.int .u64 0, .int .u64 0, .int .u64 0, .int .u64 0, .int .u64 0, .bool false, .int .i64 0] 30)) fun e w' => e = .returned (.tuple #[.agg #[.int .u64 x.seq, .int .u64 x.epoch, .int .u64 x.res, .int .u64 x.hor, .int .u64 x.gen, .bool x.clean, .int .i64 x.image], .int .i64 0]) /\ DvAt w' d F (S.readDo 0) /\ Keep F (w.alloc (.cells #[.int .u64 0, .int .u64 0, .int .u64 0, .int .u64 0, .int .u64 0, .bool false, .int .i64 0] 30)) w') := by
  have := slot_any d F S 0 (by omega) hoff _ hA
  rw [ha] at this
  exact this
 have c1 : Hid (∀ W : World, DvAt W d F (S.readDo 0) -> Calls Tryz.prog 103 #[.pointer (some ⟨d, 0, none⟩), .int .i64 1] W fun e w' => e = .returned (.tuple #[.agg #[.int .u64 0, .int .u64 0, .int .u64 0, .int .u64 0, .int .u64 0, .bool false, .int .i64 0], .int .i64 5]) /\ DvAt w' d F ((S.readDo 0).readDo 1) /\ Keep F W w') := fun W hW => by
  have := slot_any d F (S.readDo 0) 1 (by rw [readDo_cs]; omega) (by rw [readDo_off]; exact hoff) W hW
  rw [slotB_cs (readDo_cs S 0), hb] at this
  exact this
 have HA := hide hA
 clear hA hz h h2l hoff ha hb
 go_enter Tryz.func47, Tryz.ntmps47
 go_wp2_with (first
  | (go_at_call 46; refine cp.out.mono ?_; rintro r wx ⟨rfl, hx⟩; obtain rfl := hx)
  | (go_at_call 101; refine cw.out.mono ?_; rintro r wx ⟨rfl, hx⟩; obtain rfl := hx))
 refine c0.out.mono ?_
 rintro r w1 ⟨rfl, hd1, kp1⟩
 have HD1 := hide hd1
 have HK1 := hide kp1
 have HB1 := hide (HZ.out.same (kp1.block _ HZ.out.lt NF.out))
 clear hd1 kp1 cp cw c0
 go_wp2_with fail
 refine (c1.out _ (HD1.out.alloc _)).mono ?_
 rintro r w2 ⟨rfl, hd2, kp2⟩
 have hbz := (HB1.out.alloc (.cells #[.int .u64 x.seq, .int .u64 x.epoch, .int .u64 x.res, .int .u64 x.hor, .int .u64 x.gen, .bool x.clean, .int .i64 x.image] 30)).same (kp2.block _ (HB1.out.alloc _).lt NF.out)
 have hbn : Blk w2 w1.heap.size (bkL x) 30 := (Blk.new w1 (bkL x) 30).same (kp2.block _ (Blk.new w1 (bkL x) 30).lt (HD1.out.new _ (Nat.le_refl _)))
 have hne : w.heap.size ≠ w1.heap.size := Nat.ne_of_lt (by have := HB1.out.lt; exact this)
 have hne2 := Ne.symm hne
 have hltz := hbz.lt
 have hltn := hbn.lt
 obtain ⟨z0, z1, z2, z3, z4, z5, z6, f0, f1, f2, f3, f4, f5, f6⟩ := cells7z hbz
 obtain ⟨y0, y1, y2, y3, y4, y5, y6, g0, g1, g2, g3, g4, g5, g6⟩ := cells7 hbn
 have HD2 := hide hd2
 have HK2 := hide kp2
 have HBZ := hide hbz
 have HBN := hide hbn
 clear hd2 kp2 c1 hbz hbn
 go_wp2
 have KK : Keep F w w2 := (KA.out.trans HK1.out (fun x hx => .inl hx)).trans (((Keep.refl F w1).alloc _).trans HK2.out (fun x hx => .inl hx)) (fun x hx => .inl hx)
 refine bodyPost_ret (v := bkV x 0) (by simp [results, Tryz.results47, go_sem, bkV, Sb.zero, *]) rfl ⟨rfl, ?_, ?_⟩
 ·exact (put7_dv HD2.out NF.out x).alloc _
 ·exact (put7_keep KK (.inr (Nat.le_refl _)) x).alloc _
theorem load_3 (d : Nat) (F : List Nat) (S : Dv) (x : Sb) (y : Sb) (w : World) (h : DvAt w d F S) (h2l : 2 <= S.cs.length) (hoff : S.off = false) (ha : S.slotB 0 = some x) (hb : S.slotB 1 = some y) (hlt : x.seq < y.seq) :
  Calls Tryz.prog 47 #[.pointer (some ⟨d, 0, none⟩)] w fun e w' => e = .returned (bkV y 0) /\ DvAt w' d F ((S.readDo 0).readDo 1) /\ Keep F w w' := by
 have hA : DvAt (w.alloc (.cells #[.int .u64 0, .int .u64 0, .int .u64 0, .int .u64 0, .int .u64 0, .bool false, .int .i64 0] 30)) d F S := h.alloc _
 have hz : Blk (w.alloc (.cells #[.int .u64 0, .int .u64 0, .int .u64 0, .int .u64 0, .int .u64 0, .bool false, .int .i64 0] 30)) w.heap.size (bkL Sb.zero) 30 := Blk.new _ _ _
 have NF := hide (h.new w.heap.size (Nat.le_refl _))
 have KA : Hid (Keep F w (w.alloc (.cells #[.int .u64 0, .int .u64 0, .int .u64 0, .int .u64 0, .int .u64 0, .bool false, .int .i64 0] 30))) := (Keep.refl F w).alloc _
 have HZ := hide hz
 have cp := hide (spages_at d F S _ hA)
 have h2 : ((S.cs.length : Int) < 2) = False := eq_false (by omega)
 have cw := hide (spower_at d F S _ hA)
 rw [hoff] at cw
 have c0 : Hid (Calls Tryz.prog 103 #[.pointer (some ⟨d, 0, none⟩), .int .i64 0] (w.alloc (.cells #[.int .u64 0, .int .u64 0, .int .u64 0, .int .u64 0, .int .u64 0, .bool false, .int .i64 0] 30)) fun e w' => e = .returned (.tuple #[.agg #[.int .u64 x.seq, .int .u64 x.epoch, .int .u64 x.res, .int .u64 x.hor, .int .u64 x.gen, .bool x.clean, .int .i64 x.image], .int .i64 0]) /\ DvAt w' d F (S.readDo 0) /\ Keep F (w.alloc (.cells #[.int .u64 0, .int .u64 0, .int .u64 0, .int .u64 0, .int .u64 0, .bool false, .int .i64 0] 30)) w') := by
  have := slot_any d F S 0 (by omega) hoff _ hA
  rw [ha] at this
  exact this
 have c1 : Hid (∀ W : World, DvAt W d F (S.readDo 0) -> Calls Tryz.prog 103 #[.pointer (some ⟨d, 0, none⟩), .int .i64 1] W fun e w' => e = .returned (.tuple #[.agg #[.int .u64 y.seq, .int .u64 y.epoch, .int .u64 y.res, .int .u64 y.hor, .int .u64 y.gen, .bool y.clean, .int .i64 y.image], .int .i64 0]) /\ DvAt w' d F ((S.readDo 0).readDo 1) /\ Keep F W w') := fun W hW => by
  have := slot_any d F (S.readDo 0) 1 (by rw [readDo_cs]; omega) (by rw [readDo_off]; exact hoff) W hW
  rw [slotB_cs (readDo_cs S 0), hb] at this
  exact this
 have hl : ((x.seq : Int) < (y.seq : Int)) = True := eq_true (by omega)
 have HA := hide hA
 clear hA hz h h2l hoff ha hb hlt
 go_enter Tryz.func47, Tryz.ntmps47
 go_wp2_with (first
  | (go_at_call 46; refine cp.out.mono ?_; rintro r wx ⟨rfl, hx⟩; obtain rfl := hx)
  | (go_at_call 101; refine cw.out.mono ?_; rintro r wx ⟨rfl, hx⟩; obtain rfl := hx))
 refine c0.out.mono ?_
 rintro r w1 ⟨rfl, hd1, kp1⟩
 have HD1 := hide hd1
 have HK1 := hide kp1
 have HB1 := hide (HZ.out.same (kp1.block _ HZ.out.lt NF.out))
 clear hd1 kp1 cp cw c0
 go_wp2_with fail
 refine (c1.out _ (HD1.out.alloc _)).mono ?_
 rintro r w2 ⟨rfl, hd2, kp2⟩
 have hbz := (HB1.out.alloc (.cells #[.int .u64 x.seq, .int .u64 x.epoch, .int .u64 x.res, .int .u64 x.hor, .int .u64 x.gen, .bool x.clean, .int .i64 x.image] 30)).same (kp2.block _ (HB1.out.alloc _).lt NF.out)
 have hbn : Blk w2 w1.heap.size (bkL x) 30 := (Blk.new w1 (bkL x) 30).same (kp2.block _ (Blk.new w1 (bkL x) 30).lt (HD1.out.new _ (Nat.le_refl _)))
 have hne : w.heap.size ≠ w1.heap.size := Nat.ne_of_lt (by have := HB1.out.lt; exact this)
 have hne2 := Ne.symm hne
 have hltz := hbz.lt
 have hltn := hbn.lt
 obtain ⟨z0, z1, z2, z3, z4, z5, z6, f0, f1, f2, f3, f4, f5, f6⟩ := cells7z hbz
 obtain ⟨y0, y1, y2, y3, y4, y5, y6, g0, g1, g2, g3, g4, g5, g6⟩ := cells7 hbn
 have HD2 := hide hd2
 have HK2 := hide kp2
 have HBZ := hide hbz
 have HBN := hide hbn
 clear hd2 kp2 c1 hbz hbn
 go_wp2
 have KK : Keep F w w2 := (KA.out.trans HK1.out (fun x hx => .inl hx)).trans (((Keep.refl F w1).alloc _).trans HK2.out (fun x hx => .inl hx)) (fun x hx => .inl hx)
 refine bodyPost_ret (v := bkV y 0) (by simp [results, Tryz.results47, go_sem, bkV, *]) rfl ⟨rfl, ?_, ?_⟩
 ·exact (put7_dv (put7_dv HD2.out (HD1.out.new _ (Nat.le_refl _)) y) NF.out y).alloc _
 ·exact (put7_keep (put7_keep KK (.inr (by have := KA.out.size; have := HK1.out.size; omega)) y) (.inr (Nat.le_refl _)) y).alloc _
theorem load_4 (d : Nat) (F : List Nat) (S : Dv) (x : Sb) (y : Sb) (w : World) (h : DvAt w d F S) (h2l : 2 <= S.cs.length) (hoff : S.off = false) (ha : S.slotB 0 = some x) (hb : S.slotB 1 = some y) (hlt : ¬ x.seq < y.seq) :
  Calls Tryz.prog 47 #[.pointer (some ⟨d, 0, none⟩)] w fun e w' => e = .returned (bkV x 0) /\ DvAt w' d F ((S.readDo 0).readDo 1) /\ Keep F w w' := by
 have hA : DvAt (w.alloc (.cells #[.int .u64 0, .int .u64 0, .int .u64 0, .int .u64 0, .int .u64 0, .bool false, .int .i64 0] 30)) d F S := h.alloc _
 have hz : Blk (w.alloc (.cells #[.int .u64 0, .int .u64 0, .int .u64 0, .int .u64 0, .int .u64 0, .bool false, .int .i64 0] 30)) w.heap.size (bkL Sb.zero) 30 := Blk.new _ _ _
 have NF := hide (h.new w.heap.size (Nat.le_refl _))
 have KA : Hid (Keep F w (w.alloc (.cells #[.int .u64 0, .int .u64 0, .int .u64 0, .int .u64 0, .int .u64 0, .bool false, .int .i64 0] 30))) := (Keep.refl F w).alloc _
 have HZ := hide hz
 have cp := hide (spages_at d F S _ hA)
 have h2 : ((S.cs.length : Int) < 2) = False := eq_false (by omega)
 have cw := hide (spower_at d F S _ hA)
 rw [hoff] at cw
 have c0 : Hid (Calls Tryz.prog 103 #[.pointer (some ⟨d, 0, none⟩), .int .i64 0] (w.alloc (.cells #[.int .u64 0, .int .u64 0, .int .u64 0, .int .u64 0, .int .u64 0, .bool false, .int .i64 0] 30)) fun e w' => e = .returned (.tuple #[.agg #[.int .u64 x.seq, .int .u64 x.epoch, .int .u64 x.res, .int .u64 x.hor, .int .u64 x.gen, .bool x.clean, .int .i64 x.image], .int .i64 0]) /\ DvAt w' d F (S.readDo 0) /\ Keep F (w.alloc (.cells #[.int .u64 0, .int .u64 0, .int .u64 0, .int .u64 0, .int .u64 0, .bool false, .int .i64 0] 30)) w') := by
  have := slot_any d F S 0 (by omega) hoff _ hA
  rw [ha] at this
  exact this
 have c1 : Hid (∀ W : World, DvAt W d F (S.readDo 0) -> Calls Tryz.prog 103 #[.pointer (some ⟨d, 0, none⟩), .int .i64 1] W fun e w' => e = .returned (.tuple #[.agg #[.int .u64 y.seq, .int .u64 y.epoch, .int .u64 y.res, .int .u64 y.hor, .int .u64 y.gen, .bool y.clean, .int .i64 y.image], .int .i64 0]) /\ DvAt w' d F ((S.readDo 0).readDo 1) /\ Keep F W w') := fun W hW => by
  have := slot_any d F (S.readDo 0) 1 (by rw [readDo_cs]; omega) (by rw [readDo_off]; exact hoff) W hW
  rw [slotB_cs (readDo_cs S 0), hb] at this
  exact this
 have hl : ((x.seq : Int) < (y.seq : Int)) = False := eq_false (by omega)
 have HA := hide hA
 clear hA hz h h2l hoff ha hb hlt
 go_enter Tryz.func47, Tryz.ntmps47
 go_wp2_with (first
  | (go_at_call 46; refine cp.out.mono ?_; rintro r wx ⟨rfl, hx⟩; obtain rfl := hx)
  | (go_at_call 101; refine cw.out.mono ?_; rintro r wx ⟨rfl, hx⟩; obtain rfl := hx))
 refine c0.out.mono ?_
 rintro r w1 ⟨rfl, hd1, kp1⟩
 have HD1 := hide hd1
 have HK1 := hide kp1
 have HB1 := hide (HZ.out.same (kp1.block _ HZ.out.lt NF.out))
 clear hd1 kp1 cp cw c0
 go_wp2_with fail
 refine (c1.out _ (HD1.out.alloc _)).mono ?_
 rintro r w2 ⟨rfl, hd2, kp2⟩
 have hbz := (HB1.out.alloc (.cells #[.int .u64 x.seq, .int .u64 x.epoch, .int .u64 x.res, .int .u64 x.hor, .int .u64 x.gen, .bool x.clean, .int .i64 x.image] 30)).same (kp2.block _ (HB1.out.alloc _).lt NF.out)
 have hbn : Blk w2 w1.heap.size (bkL x) 30 := (Blk.new w1 (bkL x) 30).same (kp2.block _ (Blk.new w1 (bkL x) 30).lt (HD1.out.new _ (Nat.le_refl _)))
 have hne : w.heap.size ≠ w1.heap.size := Nat.ne_of_lt (by have := HB1.out.lt; exact this)
 have hne2 := Ne.symm hne
 have hltz := hbz.lt
 have hltn := hbn.lt
 obtain ⟨z0, z1, z2, z3, z4, z5, z6, f0, f1, f2, f3, f4, f5, f6⟩ := cells7z hbz
 obtain ⟨y0, y1, y2, y3, y4, y5, y6, g0, g1, g2, g3, g4, g5, g6⟩ := cells7 hbn
 have HD2 := hide hd2
 have HK2 := hide kp2
 have HBZ := hide hbz
 have HBN := hide hbn
 clear hd2 kp2 c1 hbz hbn
 go_wp2
 have KK : Keep F w w2 := (KA.out.trans HK1.out (fun x hx => .inl hx)).trans (((Keep.refl F w1).alloc _).trans HK2.out (fun x hx => .inl hx)) (fun x hx => .inl hx)
 refine bodyPost_ret (v := bkV x 0) (by simp [results, Tryz.results47, go_sem, bkV, Sb.zero, *]) rfl ⟨rfl, ?_, ?_⟩
 ·exact (put7_dv HD2.out NF.out x).alloc _
 ·exact (put7_keep KK (.inr (Nat.le_refl _)) x).alloc _
theorem load_any (d : Nat) (F : List Nat) (S : Dv) (w : World) (h : DvAt w d F S) :
  Calls Tryz.prog 47 #[.pointer (some ⟨d, 0, none⟩)] w fun e w' => e = .returned S.loadV /\ DvAt w' d F S.loadDo /\ Keep F w w' := by
 by_cases h2 : S.cs.length < 2
 ·have e1 : S.loadV = bkV Sb.zero 1 := by unfold Dv.loadV; rw [if_pos h2]
  have e2 : S.loadDo = S := by unfold Dv.loadDo; rw [if_pos h2]
  rw [e1, e2]
  exact load_few d F S w h h2
 ·cases ho : S.off with
  | true =>
   have e1 : S.loadV = bkV Sb.zero 4 := by unfold Dv.loadV; rw [if_neg h2, if_pos ho]
   have e2 : S.loadDo = S := by unfold Dv.loadDo; rw [if_neg h2, if_pos ho]
   rw [e1, e2]
   exact load_off d F S w h ⟨by omega, ho⟩
  | false =>
   have e1 : S.loadV = slotV (newer (S.slotB 0) (S.slotB 1)) := by unfold Dv.loadV; rw [if_neg h2, if_neg (by rw [ho]; decide)]; rfl
   have e2 : S.loadDo = (S.readDo 0).readDo 1 := by unfold Dv.loadDo; rw [if_neg h2, if_neg (by rw [ho]; decide)]
   rw [e1, e2]
   cases ha : S.slotB 0 with
   | none =>
    cases hb : S.slotB 1 with
    | none => exact load_0 d F S w h (by omega) ho ha hb
    | some y => exact load_1 d F S y w h (by omega) ho ha hb
   | some x =>
    cases hb : S.slotB 1 with
    | none => exact load_2 d F S x w h (by omega) ho ha hb
    | some y =>
     by_cases hl : x.seq < y.seq
     ·have e3 : newer (some x) (some y) = some y := by simp [newer, hl]
      rw [e3]
      exact load_3 d F S x y w h (by omega) ho ha hb hl
     ·have e3 : newer (some x) (some y) = some x := by simp [newer, hl]
      rw [e3]
      exact load_4 d F S x y w h (by omega) ho ha hb hl
end Go.Proofs.YtcdghalnneilpaaGreat
