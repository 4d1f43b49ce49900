/- The document's own 'Encode', 'own'. -/
import Derived.Test.YtcdefadeaiklbaaCut
import Derived.Deep.RegionHeld
set_option linter.unusedVariables false
set_option linter.unusedSimpArgs false
set_option maxRecDepth 8000
namespace Go.Proofs.Ytcdefadeaiklbaa
open Go.RowKit Go.Deep Math

theorem cells7_at {w : World} {g : Nat} {t : TypeId} {n1 n2 n3 n4 n5 : Nat} {c : Bool} {im : Int} (h : Blk w g [.int .u64 n1, .int .u64 n2, .int .u64 n3, .int .u64 n4, .int .u64 n5, .bool c, .int .i64 im] t) :
    w.cell? ⟨g, 0, none⟩ = some (.int .u64 n1) ∧ w.cell? ⟨g, 1, none⟩ = some (.int .u64 n2) ∧ w.cell? ⟨g, 2, none⟩ = some (.int .u64 n3) ∧ w.cell? ⟨g, 3, none⟩ = some (.int .u64 n4) ∧ w.cell? ⟨g, 4, none⟩ = some (.int .u64 n5) ∧ w.cell? ⟨g, 5, none⟩ = some (.bool c) ∧ w.cell? ⟨g, 6, none⟩ = some (.int .i64 im) :=
  ⟨h.cell rfl, h.cell rfl, h.cell rfl, h.cell rfl, h.cell rfl, h.cell rfl, h.cell rfl⟩
set_option maxHeartbeats 1000000 in
theorem own_any (b : Bk) (w : World) : Calls Try.prog 16 #[.agg #[.int .u64 b.seq, .int .u64 b.epoch, .int .u64 b.res, .int .u64 b.hor, .int .u64 b.gen, .bool b.clean, .int .i64 b.image]] w fun e w' => e = .returned (.agg #[.int .u64 b.seq, .int .u64 b.epoch, .int .u64 b.res, .int .u64 b.hor, .int .u64 b.gen, .bool b.clean, .int .i64 b.image]) ∧ Below w.heap.size w w' := by
  go_enter Try.func16, Try.ntmps16
  go_wp2
  exact bodyPost_ret (v := .agg #[.int .u64 b.seq, .int .u64 b.epoch, .int .u64 b.res, .int .u64 b.hor, .int .u64 b.gen, .bool b.clean, .int .i64 b.image]) (by simp [results, Try.results16, go_sem]) rfl ⟨rfl, ((Below.refl _ _).alloc (Nat.le_refl _) _).alloc (by rw [nblk_alloc]; omega) _⟩
theorem txt_mk4 : (⟨#[83, 85, 80, 69]⟩ : ByteArray) = txt mk4 := rfl
theorem txt_five (b : Bk) : (⟨#[83, 85, 80, 69]⟩ : ByteArray) ++ txt (low b.seq 8) ++ txt (low b.epoch 8) ++ txt (low b.res 8) ++ txt (low b.hor 8) ++ txt (low b.gen 8) = txt (mk4 ++ lows b.nums) := by
  rw [txt_mk4, txt_append, txt_append, txt_append, txt_append, txt_append]
  simp [Bk.nums, lows]
theorem txt_head (b : Bk) : txt (mk4 ++ lows b.nums) ++ txt (low (bitN b.clean) 4) ++ txt (low (toldN b.image) 4) ++ txt (low 0 8) = txt b.head := by
  rw [txt_append, txt_append, txt_append, head_is]

set_option maxHeartbeats 2000000 in
theorem refEnc_true0 (b : Bk) (hf : b.fits) (hc : b.clean = true) (h0 : b.image < 0) (w : World) :
    Calls Try.prog 15 #[.agg #[.int .u64 b.seq, .int .u64 b.epoch, .int .u64 b.res, .int .u64 b.hor, .int .u64 b.gen, .bool b.clean, .int .i64 b.image]] w fun e w' => e = .returned (.string (txt b.enc)) ∧ Below w.heap.size w w' := by
  rw [hc]
  obtain ⟨tn, htn⟩ : ∃ tn, tn = toldN b.image := ⟨_, rfl⟩
  have htl : tn ≤ 2147483647 := by rw [htn]; exact toldN_le _
  have TN : Hid (tn = 0) := by
    show _ = _
    rw [htn]; unfold toldN; rw [if_pos (.inl h0)]
  have F5 := hide (txt_five b)
  have FH := hide (txt_head b)
  rw [← htn, hc] at FH
  have FE : Hid (txt b.head ++ txt (low (crcN b.head) 4) = txt b.enc) := by show _ = _; rw [txt_append]; rfl
  have c1 : Hid (∀ W, Calls Try.prog 39 #[.int .u64 (b.seq : Int), .int .i64 8] W fun e w' => e = .returned (.string (txt (low b.seq 8))) ∧ Below W.heap.size W w') := fun W => low_any b.seq 8 hf.seq (by omega) W
  have s1 : (txt (low b.seq 8)).size = 8 := by rw [txt_size, low_length]
  have c2 : Hid (∀ W, Calls Try.prog 39 #[.int .u64 (b.epoch : Int), .int .i64 8] W fun e w' => e = .returned (.string (txt (low b.epoch 8))) ∧ Below W.heap.size W w') := fun W => low_any b.epoch 8 hf.epoch (by omega) W
  have s2 : (txt (low b.epoch 8)).size = 8 := by rw [txt_size, low_length]
  have c3 : Hid (∀ W, Calls Try.prog 39 #[.int .u64 (b.res : Int), .int .i64 8] W fun e w' => e = .returned (.string (txt (low b.res 8))) ∧ Below W.heap.size W w') := fun W => low_any b.res 8 hf.res (by omega) W
  have s3 : (txt (low b.res 8)).size = 8 := by rw [txt_size, low_length]
  have c4 : Hid (∀ W, Calls Try.prog 39 #[.int .u64 (b.hor : Int), .int .i64 8] W fun e w' => e = .returned (.string (txt (low b.hor 8))) ∧ Below W.heap.size W w') := fun W => low_any b.hor 8 hf.hor (by omega) W
  have s4 : (txt (low b.hor 8)).size = 8 := by rw [txt_size, low_length]
  have c5 : Hid (∀ W, Calls Try.prog 39 #[.int .u64 (b.gen : Int), .int .i64 8] W fun e w' => e = .returned (.string (txt (low b.gen 8))) ∧ Below W.heap.size W w') := fun W => low_any b.gen 8 hf.gen (by omega) W
  have s5 : (txt (low b.gen 8)).size = 8 := by rw [txt_size, low_length]
  have c6 : Hid (∀ W, Calls Try.prog 39 #[.int .u64 1, .int .i64 4] W fun e w' => e = .returned (.string (txt (low (bitN true) 4))) ∧ Below W.heap.size W w') := fun W => low_any 1 4 (by omega) (by omega) W
  have s6 : (txt (low (bitN true) 4)).size = 4 := by rw [txt_size, low_length]
  have c7 : Hid (∀ W, Calls Try.prog 39 #[.int .u64 0, .int .i64 4] W fun e w' => e = .returned (.string (txt (low tn 4))) ∧ Below W.heap.size W w') := fun W => by
    have := low_any tn 4 (by omega) (by omega) W
    rw [TN.out] at this ⊢; exact this
  have s7 : (txt (low tn 4)).size = 4 := by rw [txt_size, low_length]
  have c8 : Hid (∀ W, Calls Try.prog 39 #[.int .u64 0, .int .i64 8] W fun e w' => e = .returned (.string (txt (low 0 8))) ∧ Below W.heap.size W w') := fun W => low_any 0 8 (by omega) (by omega) W
  have s8 : (txt (low 0 8)).size = 8 := by rw [txt_size, low_length]
  have c9 : Hid (∀ W, Calls Try.prog 40 #[.string (txt b.head)] W fun e w' => e = .returned (.int .u64 (crcN b.head : Int)) ∧ Below W.heap.size W w') := fun W => crcT_any b.head (by rw [b.head_length]; omega) W
  have c10 : Hid (∀ W, Calls Try.prog 39 #[.int .u64 (crcN b.head : Int), .int .i64 4] W fun e w' => e = .returned (.string (txt (low (crcN b.head) 4))) ∧ Below W.heap.size W w') := fun W => low_any (crcN b.head) 4 (by have := crcN_lt b.head; omega) (by omega) W
  have s9 : (txt b.head).size = 60 := by rw [txt_size, b.head_length]
  have s10 : (txt (low (crcN b.head) 4)).size = 4 := by rw [txt_size, low_length]
  have s0 : (txt (mk4 ++ lows b.nums)).size = 44 := by rw [txt_size]; simp [mk4, Bk.nums, lows, low_length]
  have H0 : Hid (∀ W : World, Below (w.alloc (.cells #[.int .u64 b.seq, .int .u64 b.epoch, .int .u64 b.res, .int .u64 b.hor, .int .u64 b.gen, .bool b.clean, .int .i64 b.image] 37)).heap.size (w.alloc (.cells #[.int .u64 b.seq, .int .u64 b.epoch, .int .u64 b.res, .int .u64 b.hor, .int .u64 b.gen, .bool b.clean, .int .i64 b.image] 37)) W → W.cell? ⟨w.heap.size, 0, none⟩ = some (.int .u64 b.seq) ∧ W.cell? ⟨w.heap.size, 1, none⟩ = some (.int .u64 b.epoch) ∧ W.cell? ⟨w.heap.size, 2, none⟩ = some (.int .u64 b.res) ∧ W.cell? ⟨w.heap.size, 3, none⟩ = some (.int .u64 b.hor) ∧ W.cell? ⟨w.heap.size, 4, none⟩ = some (.int .u64 b.gen) ∧ W.cell? ⟨w.heap.size, 5, none⟩ = some (.bool b.clean) ∧ W.cell? ⟨w.heap.size, 6, none⟩ = some (.int .i64 b.image)) := fun W h =>
    cells7_at ((Blk.new w (bkL b) 37).same (h.block _ (Blk.new w (bkL b) 37).lt))
  have i0 : ((0 : Int) ≤ b.image) = False := eq_false (by omega)
  have A : Hid (Below (w.alloc (.cells #[.int .u64 b.seq, .int .u64 b.epoch, .int .u64 b.res, .int .u64 b.hor, .int .u64 b.gen, .bool true, .int .i64 b.image] 37)).heap.size (w.alloc (.cells #[.int .u64 b.seq, .int .u64 b.epoch, .int .u64 b.res, .int .u64 b.hor, .int .u64 b.gen, .bool true, .int .i64 b.image] 37)) (w.alloc (.cells #[.int .u64 b.seq, .int .u64 b.epoch, .int .u64 b.res, .int .u64 b.hor, .int .u64 b.gen, .bool true, .int .i64 b.image] 37)).drew) := (Below.refl _ _).drew
  rw [hc] at H0
  generalize txt (low b.seq 8) = t1 at *
  generalize txt (low b.epoch 8) = t2 at *
  generalize txt (low b.res 8) = t3 at *
  generalize txt (low b.hor 8) = t4 at *
  generalize txt (low b.gen 8) = t5 at *
  generalize txt (low (bitN true) 4) = t6 at *
  generalize txt (low tn 4) = t7 at *
  generalize txt (low 0 8) = t8 at *
  generalize txt (low (crcN b.head) 4) = t10 at *
  generalize crcN b.head = cr at *
  generalize txt b.head = hb at *
  generalize txt (mk4 ++ lows b.nums) = h5 at *
  generalize txt b.enc = eb at *
  clear h0 htl htn hf
  go_enter Try.func15, Try.ntmps15
  go_wp2_with fail
  go_region_held (fun W => W.cell? ⟨w.heap.size, 0, none⟩ = some (.int .u64 b.seq) ∧ W.cell? ⟨w.heap.size, 1, none⟩ = some (.int .u64 b.epoch) ∧ W.cell? ⟨w.heap.size, 2, none⟩ = some (.int .u64 b.res) ∧ W.cell? ⟨w.heap.size, 3, none⟩ = some (.int .u64 b.hor) ∧ W.cell? ⟨w.heap.size, 4, none⟩ = some (.int .u64 b.gen) ∧ W.cell? ⟨w.heap.size, 5, none⟩ = some (.bool true) ∧ W.cell? ⟨w.heap.size, 6, none⟩ = some (.int .i64 b.image))
    (exact H0.out _ A.out)
    (first
      | (go_at_call 39; refine (c1.out _).mono ?_; clear c1; rintro r wx ⟨rfl, hx⟩; replace A := hide (A.out.trans (hx.mono A.out.size)); clear hx)
      | (go_at_call 39; refine (c2.out _).mono ?_; clear c2; rintro r wx ⟨rfl, hx⟩; replace A := hide (A.out.trans (hx.mono A.out.size)); clear hx)
      | (go_at_call 39; refine (c3.out _).mono ?_; clear c3; rintro r wx ⟨rfl, hx⟩; replace A := hide (A.out.trans (hx.mono A.out.size)); clear hx)
      | (go_at_call 39; refine (c4.out _).mono ?_; clear c4; rintro r wx ⟨rfl, hx⟩; replace A := hide (A.out.trans (hx.mono A.out.size)); clear hx)
      | (go_at_call 39; refine (c5.out _).mono ?_; clear c5; rintro r wx ⟨rfl, hx⟩; replace A := hide (A.out.trans (hx.mono A.out.size)); clear hx))
  rw [F5.out]
  clear s1 s2 s3 s4 s5 F5
  obtain ⟨z0, z1, z2, z3, z4, z5, z6⟩ := H0.out _ A.out
  clear H0
  go_wp2_with fail
  refine (c6.out _).mono ?_
  rintro r wa ⟨rfl, hx⟩
  replace A := hide (A.out.trans (hx.mono A.out.size))
  clear hx z0 z1 z2 z3 z4 z5 z6
  go_wp2_with fail
  refine (c7.out _).mono ?_
  rintro r wb ⟨rfl, hx⟩
  replace A := hide (A.out.trans (hx.mono A.out.size))
  clear hx
  go_wp2_with fail
  refine (c8.out _).mono ?_
  rintro r wc ⟨rfl, hx⟩
  replace A := hide (A.out.trans (hx.mono A.out.size))
  clear hx
  go_wp2_with fail
  rw [FH.out]
  refine (c9.out _).mono ?_
  rintro r wd ⟨rfl, hx⟩
  replace A := hide (A.out.trans (hx.mono A.out.size))
  clear hx
  go_wp2_with fail
  refine (c10.out _).mono ?_
  rintro r we ⟨rfl, hx⟩
  replace A := hide (A.out.trans (hx.mono A.out.size))
  clear hx
  go_wp2
  go_ret
  exact ⟨by rw [← FE.out]; rfl, ((Below.refl w.heap.size w).alloc (Nat.le_refl _) _).trans (A.out.mono (by rw [nblk_alloc]; omega))⟩
set_option maxHeartbeats 2000000 in
theorem refEnc_true1 (b : Bk) (hf : b.fits) (hc : b.clean = true) (h0 : 2147483647 < b.image) (w : World) :
    Calls Try.prog 15 #[.agg #[.int .u64 b.seq, .int .u64 b.epoch, .int .u64 b.res, .int .u64 b.hor, .int .u64 b.gen, .bool b.clean, .int .i64 b.image]] w fun e w' => e = .returned (.string (txt b.enc)) ∧ Below w.heap.size w w' := by
  rw [hc]
  obtain ⟨tn, htn⟩ : ∃ tn, tn = toldN b.image := ⟨_, rfl⟩
  have htl : tn ≤ 2147483647 := by rw [htn]; exact toldN_le _
  have TN : Hid (tn = 0) := by
    show _ = _
    rw [htn]; unfold toldN; rw [if_pos (.inr h0)]
  have F5 := hide (txt_five b)
  have FH := hide (txt_head b)
  rw [← htn, hc] at FH
  have FE : Hid (txt b.head ++ txt (low (crcN b.head) 4) = txt b.enc) := by show _ = _; rw [txt_append]; rfl
  have c1 : Hid (∀ W, Calls Try.prog 39 #[.int .u64 (b.seq : Int), .int .i64 8] W fun e w' => e = .returned (.string (txt (low b.seq 8))) ∧ Below W.heap.size W w') := fun W => low_any b.seq 8 hf.seq (by omega) W
  have s1 : (txt (low b.seq 8)).size = 8 := by rw [txt_size, low_length]
  have c2 : Hid (∀ W, Calls Try.prog 39 #[.int .u64 (b.epoch : Int), .int .i64 8] W fun e w' => e = .returned (.string (txt (low b.epoch 8))) ∧ Below W.heap.size W w') := fun W => low_any b.epoch 8 hf.epoch (by omega) W
  have s2 : (txt (low b.epoch 8)).size = 8 := by rw [txt_size, low_length]
  have c3 : Hid (∀ W, Calls Try.prog 39 #[.int .u64 (b.res : Int), .int .i64 8] W fun e w' => e = .returned (.string (txt (low b.res 8))) ∧ Below W.heap.size W w') := fun W => low_any b.res 8 hf.res (by omega) W
  have s3 : (txt (low b.res 8)).size = 8 := by rw [txt_size, low_length]
  have c4 : Hid (∀ W, Calls Try.prog 39 #[.int .u64 (b.hor : Int), .int .i64 8] W fun e w' => e = .returned (.string (txt (low b.hor 8))) ∧ Below W.heap.size W w') := fun W => low_any b.hor 8 hf.hor (by omega) W
  have s4 : (txt (low b.hor 8)).size = 8 := by rw [txt_size, low_length]
  have c5 : Hid (∀ W, Calls Try.prog 39 #[.int .u64 (b.gen : Int), .int .i64 8] W fun e w' => e = .returned (.string (txt (low b.gen 8))) ∧ Below W.heap.size W w') := fun W => low_any b.gen 8 hf.gen (by omega) W
  have s5 : (txt (low b.gen 8)).size = 8 := by rw [txt_size, low_length]
  have c6 : Hid (∀ W, Calls Try.prog 39 #[.int .u64 1, .int .i64 4] W fun e w' => e = .returned (.string (txt (low (bitN true) 4))) ∧ Below W.heap.size W w') := fun W => low_any 1 4 (by omega) (by omega) W
  have s6 : (txt (low (bitN true) 4)).size = 4 := by rw [txt_size, low_length]
  have c7 : Hid (∀ W, Calls Try.prog 39 #[.int .u64 0, .int .i64 4] W fun e w' => e = .returned (.string (txt (low tn 4))) ∧ Below W.heap.size W w') := fun W => by
    have := low_any tn 4 (by omega) (by omega) W
    rw [TN.out] at this ⊢; exact this
  have s7 : (txt (low tn 4)).size = 4 := by rw [txt_size, low_length]
  have c8 : Hid (∀ W, Calls Try.prog 39 #[.int .u64 0, .int .i64 8] W fun e w' => e = .returned (.string (txt (low 0 8))) ∧ Below W.heap.size W w') := fun W => low_any 0 8 (by omega) (by omega) W
  have s8 : (txt (low 0 8)).size = 8 := by rw [txt_size, low_length]
  have c9 : Hid (∀ W, Calls Try.prog 40 #[.string (txt b.head)] W fun e w' => e = .returned (.int .u64 (crcN b.head : Int)) ∧ Below W.heap.size W w') := fun W => crcT_any b.head (by rw [b.head_length]; omega) W
  have c10 : Hid (∀ W, Calls Try.prog 39 #[.int .u64 (crcN b.head : Int), .int .i64 4] W fun e w' => e = .returned (.string (txt (low (crcN b.head) 4))) ∧ Below W.heap.size W w') := fun W => low_any (crcN b.head) 4 (by have := crcN_lt b.head; omega) (by omega) W
  have s9 : (txt b.head).size = 60 := by rw [txt_size, b.head_length]
  have s10 : (txt (low (crcN b.head) 4)).size = 4 := by rw [txt_size, low_length]
  have s0 : (txt (mk4 ++ lows b.nums)).size = 44 := by rw [txt_size]; simp [mk4, Bk.nums, lows, low_length]
  have H0 : Hid (∀ W : World, Below (w.alloc (.cells #[.int .u64 b.seq, .int .u64 b.epoch, .int .u64 b.res, .int .u64 b.hor, .int .u64 b.gen, .bool b.clean, .int .i64 b.image] 37)).heap.size (w.alloc (.cells #[.int .u64 b.seq, .int .u64 b.epoch, .int .u64 b.res, .int .u64 b.hor, .int .u64 b.gen, .bool b.clean, .int .i64 b.image] 37)) W → W.cell? ⟨w.heap.size, 0, none⟩ = some (.int .u64 b.seq) ∧ W.cell? ⟨w.heap.size, 1, none⟩ = some (.int .u64 b.epoch) ∧ W.cell? ⟨w.heap.size, 2, none⟩ = some (.int .u64 b.res) ∧ W.cell? ⟨w.heap.size, 3, none⟩ = some (.int .u64 b.hor) ∧ W.cell? ⟨w.heap.size, 4, none⟩ = some (.int .u64 b.gen) ∧ W.cell? ⟨w.heap.size, 5, none⟩ = some (.bool b.clean) ∧ W.cell? ⟨w.heap.size, 6, none⟩ = some (.int .i64 b.image)) := fun W h =>
    cells7_at ((Blk.new w (bkL b) 37).same (h.block _ (Blk.new w (bkL b) 37).lt))
  have i0 : ((0 : Int) ≤ b.image) = True := eq_true (by omega)
  have i1 : (b.image ≤ 2147483647) = False := eq_false (by omega)
  have A : Hid (Below (w.alloc (.cells #[.int .u64 b.seq, .int .u64 b.epoch, .int .u64 b.res, .int .u64 b.hor, .int .u64 b.gen, .bool true, .int .i64 b.image] 37)).heap.size (w.alloc (.cells #[.int .u64 b.seq, .int .u64 b.epoch, .int .u64 b.res, .int .u64 b.hor, .int .u64 b.gen, .bool true, .int .i64 b.image] 37)) (w.alloc (.cells #[.int .u64 b.seq, .int .u64 b.epoch, .int .u64 b.res, .int .u64 b.hor, .int .u64 b.gen, .bool true, .int .i64 b.image] 37)).drew) := (Below.refl _ _).drew
  rw [hc] at H0
  generalize txt (low b.seq 8) = t1 at *
  generalize txt (low b.epoch 8) = t2 at *
  generalize txt (low b.res 8) = t3 at *
  generalize txt (low b.hor 8) = t4 at *
  generalize txt (low b.gen 8) = t5 at *
  generalize txt (low (bitN true) 4) = t6 at *
  generalize txt (low tn 4) = t7 at *
  generalize txt (low 0 8) = t8 at *
  generalize txt (low (crcN b.head) 4) = t10 at *
  generalize crcN b.head = cr at *
  generalize txt b.head = hb at *
  generalize txt (mk4 ++ lows b.nums) = h5 at *
  generalize txt b.enc = eb at *
  clear h0 htl htn hf
  go_enter Try.func15, Try.ntmps15
  go_wp2_with fail
  go_region_held (fun W => W.cell? ⟨w.heap.size, 0, none⟩ = some (.int .u64 b.seq) ∧ W.cell? ⟨w.heap.size, 1, none⟩ = some (.int .u64 b.epoch) ∧ W.cell? ⟨w.heap.size, 2, none⟩ = some (.int .u64 b.res) ∧ W.cell? ⟨w.heap.size, 3, none⟩ = some (.int .u64 b.hor) ∧ W.cell? ⟨w.heap.size, 4, none⟩ = some (.int .u64 b.gen) ∧ W.cell? ⟨w.heap.size, 5, none⟩ = some (.bool true) ∧ W.cell? ⟨w.heap.size, 6, none⟩ = some (.int .i64 b.image))
    (exact H0.out _ A.out)
    (first
      | (go_at_call 39; refine (c1.out _).mono ?_; clear c1; rintro r wx ⟨rfl, hx⟩; replace A := hide (A.out.trans (hx.mono A.out.size)); clear hx)
      | (go_at_call 39; refine (c2.out _).mono ?_; clear c2; rintro r wx ⟨rfl, hx⟩; replace A := hide (A.out.trans (hx.mono A.out.size)); clear hx)
      | (go_at_call 39; refine (c3.out _).mono ?_; clear c3; rintro r wx ⟨rfl, hx⟩; replace A := hide (A.out.trans (hx.mono A.out.size)); clear hx)
      | (go_at_call 39; refine (c4.out _).mono ?_; clear c4; rintro r wx ⟨rfl, hx⟩; replace A := hide (A.out.trans (hx.mono A.out.size)); clear hx)
      | (go_at_call 39; refine (c5.out _).mono ?_; clear c5; rintro r wx ⟨rfl, hx⟩; replace A := hide (A.out.trans (hx.mono A.out.size)); clear hx))
  rw [F5.out]
  clear s1 s2 s3 s4 s5 F5
  obtain ⟨z0, z1, z2, z3, z4, z5, z6⟩ := H0.out _ A.out
  clear H0
  go_wp2_with fail
  refine (c6.out _).mono ?_
  rintro r wa ⟨rfl, hx⟩
  replace A := hide (A.out.trans (hx.mono A.out.size))
  clear hx z0 z1 z2 z3 z4 z5 z6
  go_wp2_with fail
  refine (c7.out _).mono ?_
  rintro r wb ⟨rfl, hx⟩
  replace A := hide (A.out.trans (hx.mono A.out.size))
  clear hx
  go_wp2_with fail
  refine (c8.out _).mono ?_
  rintro r wc ⟨rfl, hx⟩
  replace A := hide (A.out.trans (hx.mono A.out.size))
  clear hx
  go_wp2_with fail
  rw [FH.out]
  refine (c9.out _).mono ?_
  rintro r wd ⟨rfl, hx⟩
  replace A := hide (A.out.trans (hx.mono A.out.size))
  clear hx
  go_wp2_with fail
  refine (c10.out _).mono ?_
  rintro r we ⟨rfl, hx⟩
  replace A := hide (A.out.trans (hx.mono A.out.size))
  clear hx
  go_wp2
  go_ret
  exact ⟨by rw [← FE.out]; rfl, ((Below.refl w.heap.size w).alloc (Nat.le_refl _) _).trans (A.out.mono (by rw [nblk_alloc]; omega))⟩
set_option maxHeartbeats 2000000 in
theorem refEnc_true2 (b : Bk) (hf : b.fits) (hc : b.clean = true) (h0 : ¬ b.image < 0) (h1 : ¬ 2147483647 < b.image) (w : World) :
    Calls Try.prog 15 #[.agg #[.int .u64 b.seq, .int .u64 b.epoch, .int .u64 b.res, .int .u64 b.hor, .int .u64 b.gen, .bool b.clean, .int .i64 b.image]] w fun e w' => e = .returned (.string (txt b.enc)) ∧ Below w.heap.size w w' := by
  rw [hc]
  obtain ⟨tn, htn⟩ : ∃ tn, tn = toldN b.image := ⟨_, rfl⟩
  have htl : tn ≤ 2147483647 := by rw [htn]; exact toldN_le _
  have TN : Hid (IntKind.u64.wrap b.image = (tn : Int)) := by
    show _ = _
    rw [htn]; unfold toldN; rw [if_neg (by omega), IntKind.wrap_u64]; omega
  have F5 := hide (txt_five b)
  have FH := hide (txt_head b)
  rw [← htn, hc] at FH
  have FE : Hid (txt b.head ++ txt (low (crcN b.head) 4) = txt b.enc) := by show _ = _; rw [txt_append]; rfl
  have c1 : Hid (∀ W, Calls Try.prog 39 #[.int .u64 (b.seq : Int), .int .i64 8] W fun e w' => e = .returned (.string (txt (low b.seq 8))) ∧ Below W.heap.size W w') := fun W => low_any b.seq 8 hf.seq (by omega) W
  have s1 : (txt (low b.seq 8)).size = 8 := by rw [txt_size, low_length]
  have c2 : Hid (∀ W, Calls Try.prog 39 #[.int .u64 (b.epoch : Int), .int .i64 8] W fun e w' => e = .returned (.string (txt (low b.epoch 8))) ∧ Below W.heap.size W w') := fun W => low_any b.epoch 8 hf.epoch (by omega) W
  have s2 : (txt (low b.epoch 8)).size = 8 := by rw [txt_size, low_length]
  have c3 : Hid (∀ W, Calls Try.prog 39 #[.int .u64 (b.res : Int), .int .i64 8] W fun e w' => e = .returned (.string (txt (low b.res 8))) ∧ Below W.heap.size W w') := fun W => low_any b.res 8 hf.res (by omega) W
  have s3 : (txt (low b.res 8)).size = 8 := by rw [txt_size, low_length]
  have c4 : Hid (∀ W, Calls Try.prog 39 #[.int .u64 (b.hor : Int), .int .i64 8] W fun e w' => e = .returned (.string (txt (low b.hor 8))) ∧ Below W.heap.size W w') := fun W => low_any b.hor 8 hf.hor (by omega) W
  have s4 : (txt (low b.hor 8)).size = 8 := by rw [txt_size, low_length]
  have c5 : Hid (∀ W, Calls Try.prog 39 #[.int .u64 (b.gen : Int), .int .i64 8] W fun e w' => e = .returned (.string (txt (low b.gen 8))) ∧ Below W.heap.size W w') := fun W => low_any b.gen 8 hf.gen (by omega) W
  have s5 : (txt (low b.gen 8)).size = 8 := by rw [txt_size, low_length]
  have c6 : Hid (∀ W, Calls Try.prog 39 #[.int .u64 1, .int .i64 4] W fun e w' => e = .returned (.string (txt (low (bitN true) 4))) ∧ Below W.heap.size W w') := fun W => low_any 1 4 (by omega) (by omega) W
  have s6 : (txt (low (bitN true) 4)).size = 4 := by rw [txt_size, low_length]
  have c7 : Hid (∀ W, Calls Try.prog 39 #[.int .u64 (tn : Int), .int .i64 4] W fun e w' => e = .returned (.string (txt (low tn 4))) ∧ Below W.heap.size W w') := fun W => by
    have := low_any tn 4 (by omega) (by omega) W
    exact this
  have s7 : (txt (low tn 4)).size = 4 := by rw [txt_size, low_length]
  have c8 : Hid (∀ W, Calls Try.prog 39 #[.int .u64 0, .int .i64 8] W fun e w' => e = .returned (.string (txt (low 0 8))) ∧ Below W.heap.size W w') := fun W => low_any 0 8 (by omega) (by omega) W
  have s8 : (txt (low 0 8)).size = 8 := by rw [txt_size, low_length]
  have c9 : Hid (∀ W, Calls Try.prog 40 #[.string (txt b.head)] W fun e w' => e = .returned (.int .u64 (crcN b.head : Int)) ∧ Below W.heap.size W w') := fun W => crcT_any b.head (by rw [b.head_length]; omega) W
  have c10 : Hid (∀ W, Calls Try.prog 39 #[.int .u64 (crcN b.head : Int), .int .i64 4] W fun e w' => e = .returned (.string (txt (low (crcN b.head) 4))) ∧ Below W.heap.size W w') := fun W => low_any (crcN b.head) 4 (by have := crcN_lt b.head; omega) (by omega) W
  have s9 : (txt b.head).size = 60 := by rw [txt_size, b.head_length]
  have s10 : (txt (low (crcN b.head) 4)).size = 4 := by rw [txt_size, low_length]
  have s0 : (txt (mk4 ++ lows b.nums)).size = 44 := by rw [txt_size]; simp [mk4, Bk.nums, lows, low_length]
  have H0 : Hid (∀ W : World, Below (w.alloc (.cells #[.int .u64 b.seq, .int .u64 b.epoch, .int .u64 b.res, .int .u64 b.hor, .int .u64 b.gen, .bool b.clean, .int .i64 b.image] 37)).heap.size (w.alloc (.cells #[.int .u64 b.seq, .int .u64 b.epoch, .int .u64 b.res, .int .u64 b.hor, .int .u64 b.gen, .bool b.clean, .int .i64 b.image] 37)) W → W.cell? ⟨w.heap.size, 0, none⟩ = some (.int .u64 b.seq) ∧ W.cell? ⟨w.heap.size, 1, none⟩ = some (.int .u64 b.epoch) ∧ W.cell? ⟨w.heap.size, 2, none⟩ = some (.int .u64 b.res) ∧ W.cell? ⟨w.heap.size, 3, none⟩ = some (.int .u64 b.hor) ∧ W.cell? ⟨w.heap.size, 4, none⟩ = some (.int .u64 b.gen) ∧ W.cell? ⟨w.heap.size, 5, none⟩ = some (.bool b.clean) ∧ W.cell? ⟨w.heap.size, 6, none⟩ = some (.int .i64 b.image)) := fun W h =>
    cells7_at ((Blk.new w (bkL b) 37).same (h.block _ (Blk.new w (bkL b) 37).lt))
  have i0 : ((0 : Int) ≤ b.image) = True := eq_true (by omega)
  have i1 : (b.image ≤ 2147483647) = True := eq_true (by omega)
  have hwt := TN.out
  have A : Hid (Below (w.alloc (.cells #[.int .u64 b.seq, .int .u64 b.epoch, .int .u64 b.res, .int .u64 b.hor, .int .u64 b.gen, .bool true, .int .i64 b.image] 37)).heap.size (w.alloc (.cells #[.int .u64 b.seq, .int .u64 b.epoch, .int .u64 b.res, .int .u64 b.hor, .int .u64 b.gen, .bool true, .int .i64 b.image] 37)) (w.alloc (.cells #[.int .u64 b.seq, .int .u64 b.epoch, .int .u64 b.res, .int .u64 b.hor, .int .u64 b.gen, .bool true, .int .i64 b.image] 37)).drew) := (Below.refl _ _).drew
  rw [hc] at H0
  generalize txt (low b.seq 8) = t1 at *
  generalize txt (low b.epoch 8) = t2 at *
  generalize txt (low b.res 8) = t3 at *
  generalize txt (low b.hor 8) = t4 at *
  generalize txt (low b.gen 8) = t5 at *
  generalize txt (low (bitN true) 4) = t6 at *
  generalize txt (low tn 4) = t7 at *
  generalize txt (low 0 8) = t8 at *
  generalize txt (low (crcN b.head) 4) = t10 at *
  generalize crcN b.head = cr at *
  generalize txt b.head = hb at *
  generalize txt (mk4 ++ lows b.nums) = h5 at *
  generalize txt b.enc = eb at *
  clear h0 h1 htl htn hf
  go_enter Try.func15, Try.ntmps15
  go_wp2_with fail
  go_region_held (fun W => W.cell? ⟨w.heap.size, 0, none⟩ = some (.int .u64 b.seq) ∧ W.cell? ⟨w.heap.size, 1, none⟩ = some (.int .u64 b.epoch) ∧ W.cell? ⟨w.heap.size, 2, none⟩ = some (.int .u64 b.res) ∧ W.cell? ⟨w.heap.size, 3, none⟩ = some (.int .u64 b.hor) ∧ W.cell? ⟨w.heap.size, 4, none⟩ = some (.int .u64 b.gen) ∧ W.cell? ⟨w.heap.size, 5, none⟩ = some (.bool true) ∧ W.cell? ⟨w.heap.size, 6, none⟩ = some (.int .i64 b.image))
    (exact H0.out _ A.out)
    (first
      | (go_at_call 39; refine (c1.out _).mono ?_; clear c1; rintro r wx ⟨rfl, hx⟩; replace A := hide (A.out.trans (hx.mono A.out.size)); clear hx)
      | (go_at_call 39; refine (c2.out _).mono ?_; clear c2; rintro r wx ⟨rfl, hx⟩; replace A := hide (A.out.trans (hx.mono A.out.size)); clear hx)
      | (go_at_call 39; refine (c3.out _).mono ?_; clear c3; rintro r wx ⟨rfl, hx⟩; replace A := hide (A.out.trans (hx.mono A.out.size)); clear hx)
      | (go_at_call 39; refine (c4.out _).mono ?_; clear c4; rintro r wx ⟨rfl, hx⟩; replace A := hide (A.out.trans (hx.mono A.out.size)); clear hx)
      | (go_at_call 39; refine (c5.out _).mono ?_; clear c5; rintro r wx ⟨rfl, hx⟩; replace A := hide (A.out.trans (hx.mono A.out.size)); clear hx))
  rw [F5.out]
  clear s1 s2 s3 s4 s5 F5
  obtain ⟨z0, z1, z2, z3, z4, z5, z6⟩ := H0.out _ A.out
  clear H0
  go_wp2_with fail
  refine (c6.out _).mono ?_
  rintro r wa ⟨rfl, hx⟩
  replace A := hide (A.out.trans (hx.mono A.out.size))
  clear hx z0 z1 z2 z3 z4 z5 z6
  go_wp2_with fail
  refine (c7.out _).mono ?_
  rintro r wb ⟨rfl, hx⟩
  replace A := hide (A.out.trans (hx.mono A.out.size))
  clear hx
  go_wp2_with fail
  refine (c8.out _).mono ?_
  rintro r wc ⟨rfl, hx⟩
  replace A := hide (A.out.trans (hx.mono A.out.size))
  clear hx
  go_wp2_with fail
  rw [FH.out]
  refine (c9.out _).mono ?_
  rintro r wd ⟨rfl, hx⟩
  replace A := hide (A.out.trans (hx.mono A.out.size))
  clear hx
  go_wp2_with fail
  refine (c10.out _).mono ?_
  rintro r we ⟨rfl, hx⟩
  replace A := hide (A.out.trans (hx.mono A.out.size))
  clear hx
  go_wp2
  go_ret
  exact ⟨by rw [← FE.out]; rfl, ((Below.refl w.heap.size w).alloc (Nat.le_refl _) _).trans (A.out.mono (by rw [nblk_alloc]; omega))⟩
set_option maxHeartbeats 2000000 in
theorem refEnc_false0 (b : Bk) (hf : b.fits) (hc : b.clean = false) (h0 : b.image < 0) (w : World) :
    Calls Try.prog 15 #[.agg #[.int .u64 b.seq, .int .u64 b.epoch, .int .u64 b.res, .int .u64 b.hor, .int .u64 b.gen, .bool b.clean, .int .i64 b.image]] w fun e w' => e = .returned (.string (txt b.enc)) ∧ Below w.heap.size w w' := by
  rw [hc]
  obtain ⟨tn, htn⟩ : ∃ tn, tn = toldN b.image := ⟨_, rfl⟩
  have htl : tn ≤ 2147483647 := by rw [htn]; exact toldN_le _
  have TN : Hid (tn = 0) := by
    show _ = _
    rw [htn]; unfold toldN; rw [if_pos (.inl h0)]
  have F5 := hide (txt_five b)
  have FH := hide (txt_head b)
  rw [← htn, hc] at FH
  have FE : Hid (txt b.head ++ txt (low (crcN b.head) 4) = txt b.enc) := by show _ = _; rw [txt_append]; rfl
  have c1 : Hid (∀ W, Calls Try.prog 39 #[.int .u64 (b.seq : Int), .int .i64 8] W fun e w' => e = .returned (.string (txt (low b.seq 8))) ∧ Below W.heap.size W w') := fun W => low_any b.seq 8 hf.seq (by omega) W
  have s1 : (txt (low b.seq 8)).size = 8 := by rw [txt_size, low_length]
  have c2 : Hid (∀ W, Calls Try.prog 39 #[.int .u64 (b.epoch : Int), .int .i64 8] W fun e w' => e = .returned (.string (txt (low b.epoch 8))) ∧ Below W.heap.size W w') := fun W => low_any b.epoch 8 hf.epoch (by omega) W
  have s2 : (txt (low b.epoch 8)).size = 8 := by rw [txt_size, low_length]
  have c3 : Hid (∀ W, Calls Try.prog 39 #[.int .u64 (b.res : Int), .int .i64 8] W fun e w' => e = .returned (.string (txt (low b.res 8))) ∧ Below W.heap.size W w') := fun W => low_any b.res 8 hf.res (by omega) W
  have s3 : (txt (low b.res 8)).size = 8 := by rw [txt_size, low_length]
  have c4 : Hid (∀ W, Calls Try.prog 39 #[.int .u64 (b.hor : Int), .int .i64 8] W fun e w' => e = .returned (.string (txt (low b.hor 8))) ∧ Below W.heap.size W w') := fun W => low_any b.hor 8 hf.hor (by omega) W
  have s4 : (txt (low b.hor 8)).size = 8 := by rw [txt_size, low_length]
  have c5 : Hid (∀ W, Calls Try.prog 39 #[.int .u64 (b.gen : Int), .int .i64 8] W fun e w' => e = .returned (.string (txt (low b.gen 8))) ∧ Below W.heap.size W w') := fun W => low_any b.gen 8 hf.gen (by omega) W
  have s5 : (txt (low b.gen 8)).size = 8 := by rw [txt_size, low_length]
  have c6 : Hid (∀ W, Calls Try.prog 39 #[.int .u64 0, .int .i64 4] W fun e w' => e = .returned (.string (txt (low (bitN false) 4))) ∧ Below W.heap.size W w') := fun W => low_any 0 4 (by omega) (by omega) W
  have s6 : (txt (low (bitN false) 4)).size = 4 := by rw [txt_size, low_length]
  have c7 : Hid (∀ W, Calls Try.prog 39 #[.int .u64 0, .int .i64 4] W fun e w' => e = .returned (.string (txt (low tn 4))) ∧ Below W.heap.size W w') := fun W => by
    have := low_any tn 4 (by omega) (by omega) W
    rw [TN.out] at this ⊢; exact this
  have s7 : (txt (low tn 4)).size = 4 := by rw [txt_size, low_length]
  have c8 : Hid (∀ W, Calls Try.prog 39 #[.int .u64 0, .int .i64 8] W fun e w' => e = .returned (.string (txt (low 0 8))) ∧ Below W.heap.size W w') := fun W => low_any 0 8 (by omega) (by omega) W
  have s8 : (txt (low 0 8)).size = 8 := by rw [txt_size, low_length]
  have c9 : Hid (∀ W, Calls Try.prog 40 #[.string (txt b.head)] W fun e w' => e = .returned (.int .u64 (crcN b.head : Int)) ∧ Below W.heap.size W w') := fun W => crcT_any b.head (by rw [b.head_length]; omega) W
  have c10 : Hid (∀ W, Calls Try.prog 39 #[.int .u64 (crcN b.head : Int), .int .i64 4] W fun e w' => e = .returned (.string (txt (low (crcN b.head) 4))) ∧ Below W.heap.size W w') := fun W => low_any (crcN b.head) 4 (by have := crcN_lt b.head; omega) (by omega) W
  have s9 : (txt b.head).size = 60 := by rw [txt_size, b.head_length]
  have s10 : (txt (low (crcN b.head) 4)).size = 4 := by rw [txt_size, low_length]
  have s0 : (txt (mk4 ++ lows b.nums)).size = 44 := by rw [txt_size]; simp [mk4, Bk.nums, lows, low_length]
  have H0 : Hid (∀ W : World, Below (w.alloc (.cells #[.int .u64 b.seq, .int .u64 b.epoch, .int .u64 b.res, .int .u64 b.hor, .int .u64 b.gen, .bool b.clean, .int .i64 b.image] 37)).heap.size (w.alloc (.cells #[.int .u64 b.seq, .int .u64 b.epoch, .int .u64 b.res, .int .u64 b.hor, .int .u64 b.gen, .bool b.clean, .int .i64 b.image] 37)) W → W.cell? ⟨w.heap.size, 0, none⟩ = some (.int .u64 b.seq) ∧ W.cell? ⟨w.heap.size, 1, none⟩ = some (.int .u64 b.epoch) ∧ W.cell? ⟨w.heap.size, 2, none⟩ = some (.int .u64 b.res) ∧ W.cell? ⟨w.heap.size, 3, none⟩ = some (.int .u64 b.hor) ∧ W.cell? ⟨w.heap.size, 4, none⟩ = some (.int .u64 b.gen) ∧ W.cell? ⟨w.heap.size, 5, none⟩ = some (.bool b.clean) ∧ W.cell? ⟨w.heap.size, 6, none⟩ = some (.int .i64 b.image)) := fun W h =>
    cells7_at ((Blk.new w (bkL b) 37).same (h.block _ (Blk.new w (bkL b) 37).lt))
  have i0 : ((0 : Int) ≤ b.image) = False := eq_false (by omega)
  have A : Hid (Below (w.alloc (.cells #[.int .u64 b.seq, .int .u64 b.epoch, .int .u64 b.res, .int .u64 b.hor, .int .u64 b.gen, .bool false, .int .i64 b.image] 37)).heap.size (w.alloc (.cells #[.int .u64 b.seq, .int .u64 b.epoch, .int .u64 b.res, .int .u64 b.hor, .int .u64 b.gen, .bool false, .int .i64 b.image] 37)) (w.alloc (.cells #[.int .u64 b.seq, .int .u64 b.epoch, .int .u64 b.res, .int .u64 b.hor, .int .u64 b.gen, .bool false, .int .i64 b.image] 37)).drew) := (Below.refl _ _).drew
  rw [hc] at H0
  generalize txt (low b.seq 8) = t1 at *
  generalize txt (low b.epoch 8) = t2 at *
  generalize txt (low b.res 8) = t3 at *
  generalize txt (low b.hor 8) = t4 at *
  generalize txt (low b.gen 8) = t5 at *
  generalize txt (low (bitN false) 4) = t6 at *
  generalize txt (low tn 4) = t7 at *
  generalize txt (low 0 8) = t8 at *
  generalize txt (low (crcN b.head) 4) = t10 at *
  generalize crcN b.head = cr at *
  generalize txt b.head = hb at *
  generalize txt (mk4 ++ lows b.nums) = h5 at *
  generalize txt b.enc = eb at *
  clear h0 htl htn hf
  go_enter Try.func15, Try.ntmps15
  go_wp2_with fail
  go_region_held (fun W => W.cell? ⟨w.heap.size, 0, none⟩ = some (.int .u64 b.seq) ∧ W.cell? ⟨w.heap.size, 1, none⟩ = some (.int .u64 b.epoch) ∧ W.cell? ⟨w.heap.size, 2, none⟩ = some (.int .u64 b.res) ∧ W.cell? ⟨w.heap.size, 3, none⟩ = some (.int .u64 b.hor) ∧ W.cell? ⟨w.heap.size, 4, none⟩ = some (.int .u64 b.gen) ∧ W.cell? ⟨w.heap.size, 5, none⟩ = some (.bool false) ∧ W.cell? ⟨w.heap.size, 6, none⟩ = some (.int .i64 b.image))
    (exact H0.out _ A.out)
    (first
      | (go_at_call 39; refine (c1.out _).mono ?_; clear c1; rintro r wx ⟨rfl, hx⟩; replace A := hide (A.out.trans (hx.mono A.out.size)); clear hx)
      | (go_at_call 39; refine (c2.out _).mono ?_; clear c2; rintro r wx ⟨rfl, hx⟩; replace A := hide (A.out.trans (hx.mono A.out.size)); clear hx)
      | (go_at_call 39; refine (c3.out _).mono ?_; clear c3; rintro r wx ⟨rfl, hx⟩; replace A := hide (A.out.trans (hx.mono A.out.size)); clear hx)
      | (go_at_call 39; refine (c4.out _).mono ?_; clear c4; rintro r wx ⟨rfl, hx⟩; replace A := hide (A.out.trans (hx.mono A.out.size)); clear hx)
      | (go_at_call 39; refine (c5.out _).mono ?_; clear c5; rintro r wx ⟨rfl, hx⟩; replace A := hide (A.out.trans (hx.mono A.out.size)); clear hx))
  rw [F5.out]
  clear s1 s2 s3 s4 s5 F5
  obtain ⟨z0, z1, z2, z3, z4, z5, z6⟩ := H0.out _ A.out
  clear H0
  go_wp2_with fail
  refine (c6.out _).mono ?_
  rintro r wa ⟨rfl, hx⟩
  replace A := hide (A.out.trans (hx.mono A.out.size))
  clear hx z0 z1 z2 z3 z4 z5 z6
  go_wp2_with fail
  refine (c7.out _).mono ?_
  rintro r wb ⟨rfl, hx⟩
  replace A := hide (A.out.trans (hx.mono A.out.size))
  clear hx
  go_wp2_with fail
  refine (c8.out _).mono ?_
  rintro r wc ⟨rfl, hx⟩
  replace A := hide (A.out.trans (hx.mono A.out.size))
  clear hx
  go_wp2_with fail
  rw [FH.out]
  refine (c9.out _).mono ?_
  rintro r wd ⟨rfl, hx⟩
  replace A := hide (A.out.trans (hx.mono A.out.size))
  clear hx
  go_wp2_with fail
  refine (c10.out _).mono ?_
  rintro r we ⟨rfl, hx⟩
  replace A := hide (A.out.trans (hx.mono A.out.size))
  clear hx
  go_wp2
  go_ret
  exact ⟨by rw [← FE.out]; rfl, ((Below.refl w.heap.size w).alloc (Nat.le_refl _) _).trans (A.out.mono (by rw [nblk_alloc]; omega))⟩
set_option maxHeartbeats 2000000 in
theorem refEnc_false1 (b : Bk) (hf : b.fits) (hc : b.clean = false) (h0 : 2147483647 < b.image) (w : World) :
    Calls Try.prog 15 #[.agg #[.int .u64 b.seq, .int .u64 b.epoch, .int .u64 b.res, .int .u64 b.hor, .int .u64 b.gen, .bool b.clean, .int .i64 b.image]] w fun e w' => e = .returned (.string (txt b.enc)) ∧ Below w.heap.size w w' := by
  rw [hc]
  obtain ⟨tn, htn⟩ : ∃ tn, tn = toldN b.image := ⟨_, rfl⟩
  have htl : tn ≤ 2147483647 := by rw [htn]; exact toldN_le _
  have TN : Hid (tn = 0) := by
    show _ = _
    rw [htn]; unfold toldN; rw [if_pos (.inr h0)]
  have F5 := hide (txt_five b)
  have FH := hide (txt_head b)
  rw [← htn, hc] at FH
  have FE : Hid (txt b.head ++ txt (low (crcN b.head) 4) = txt b.enc) := by show _ = _; rw [txt_append]; rfl
  have c1 : Hid (∀ W, Calls Try.prog 39 #[.int .u64 (b.seq : Int), .int .i64 8] W fun e w' => e = .returned (.string (txt (low b.seq 8))) ∧ Below W.heap.size W w') := fun W => low_any b.seq 8 hf.seq (by omega) W
  have s1 : (txt (low b.seq 8)).size = 8 := by rw [txt_size, low_length]
  have c2 : Hid (∀ W, Calls Try.prog 39 #[.int .u64 (b.epoch : Int), .int .i64 8] W fun e w' => e = .returned (.string (txt (low b.epoch 8))) ∧ Below W.heap.size W w') := fun W => low_any b.epoch 8 hf.epoch (by omega) W
  have s2 : (txt (low b.epoch 8)).size = 8 := by rw [txt_size, low_length]
  have c3 : Hid (∀ W, Calls Try.prog 39 #[.int .u64 (b.res : Int), .int .i64 8] W fun e w' => e = .returned (.string (txt (low b.res 8))) ∧ Below W.heap.size W w') := fun W => low_any b.res 8 hf.res (by omega) W
  have s3 : (txt (low b.res 8)).size = 8 := by rw [txt_size, low_length]
  have c4 : Hid (∀ W, Calls Try.prog 39 #[.int .u64 (b.hor : Int), .int .i64 8] W fun e w' => e = .returned (.string (txt (low b.hor 8))) ∧ Below W.heap.size W w') := fun W => low_any b.hor 8 hf.hor (by omega) W
  have s4 : (txt (low b.hor 8)).size = 8 := by rw [txt_size, low_length]
  have c5 : Hid (∀ W, Calls Try.prog 39 #[.int .u64 (b.gen : Int), .int .i64 8] W fun e w' => e = .returned (.string (txt (low b.gen 8))) ∧ Below W.heap.size W w') := fun W => low_any b.gen 8 hf.gen (by omega) W
  have s5 : (txt (low b.gen 8)).size = 8 := by rw [txt_size, low_length]
  have c6 : Hid (∀ W, Calls Try.prog 39 #[.int .u64 0, .int .i64 4] W fun e w' => e = .returned (.string (txt (low (bitN false) 4))) ∧ Below W.heap.size W w') := fun W => low_any 0 4 (by omega) (by omega) W
  have s6 : (txt (low (bitN false) 4)).size = 4 := by rw [txt_size, low_length]
  have c7 : Hid (∀ W, Calls Try.prog 39 #[.int .u64 0, .int .i64 4] W fun e w' => e = .returned (.string (txt (low tn 4))) ∧ Below W.heap.size W w') := fun W => by
    have := low_any tn 4 (by omega) (by omega) W
    rw [TN.out] at this ⊢; exact this
  have s7 : (txt (low tn 4)).size = 4 := by rw [txt_size, low_length]
  have c8 : Hid (∀ W, Calls Try.prog 39 #[.int .u64 0, .int .i64 8] W fun e w' => e = .returned (.string (txt (low 0 8))) ∧ Below W.heap.size W w') := fun W => low_any 0 8 (by omega) (by omega) W
  have s8 : (txt (low 0 8)).size = 8 := by rw [txt_size, low_length]
  have c9 : Hid (∀ W, Calls Try.prog 40 #[.string (txt b.head)] W fun e w' => e = .returned (.int .u64 (crcN b.head : Int)) ∧ Below W.heap.size W w') := fun W => crcT_any b.head (by rw [b.head_length]; omega) W
  have c10 : Hid (∀ W, Calls Try.prog 39 #[.int .u64 (crcN b.head : Int), .int .i64 4] W fun e w' => e = .returned (.string (txt (low (crcN b.head) 4))) ∧ Below W.heap.size W w') := fun W => low_any (crcN b.head) 4 (by have := crcN_lt b.head; omega) (by omega) W
  have s9 : (txt b.head).size = 60 := by rw [txt_size, b.head_length]
  have s10 : (txt (low (crcN b.head) 4)).size = 4 := by rw [txt_size, low_length]
  have s0 : (txt (mk4 ++ lows b.nums)).size = 44 := by rw [txt_size]; simp [mk4, Bk.nums, lows, low_length]
  have H0 : Hid (∀ W : World, Below (w.alloc (.cells #[.int .u64 b.seq, .int .u64 b.epoch, .int .u64 b.res, .int .u64 b.hor, .int .u64 b.gen, .bool b.clean, .int .i64 b.image] 37)).heap.size (w.alloc (.cells #[.int .u64 b.seq, .int .u64 b.epoch, .int .u64 b.res, .int .u64 b.hor, .int .u64 b.gen, .bool b.clean, .int .i64 b.image] 37)) W → W.cell? ⟨w.heap.size, 0, none⟩ = some (.int .u64 b.seq) ∧ W.cell? ⟨w.heap.size, 1, none⟩ = some (.int .u64 b.epoch) ∧ W.cell? ⟨w.heap.size, 2, none⟩ = some (.int .u64 b.res) ∧ W.cell? ⟨w.heap.size, 3, none⟩ = some (.int .u64 b.hor) ∧ W.cell? ⟨w.heap.size, 4, none⟩ = some (.int .u64 b.gen) ∧ W.cell? ⟨w.heap.size, 5, none⟩ = some (.bool b.clean) ∧ W.cell? ⟨w.heap.size, 6, none⟩ = some (.int .i64 b.image)) := fun W h =>
    cells7_at ((Blk.new w (bkL b) 37).same (h.block _ (Blk.new w (bkL b) 37).lt))
  have i0 : ((0 : Int) ≤ b.image) = True := eq_true (by omega)
  have i1 : (b.image ≤ 2147483647) = False := eq_false (by omega)
  have A : Hid (Below (w.alloc (.cells #[.int .u64 b.seq, .int .u64 b.epoch, .int .u64 b.res, .int .u64 b.hor, .int .u64 b.gen, .bool false, .int .i64 b.image] 37)).heap.size (w.alloc (.cells #[.int .u64 b.seq, .int .u64 b.epoch, .int .u64 b.res, .int .u64 b.hor, .int .u64 b.gen, .bool false, .int .i64 b.image] 37)) (w.alloc (.cells #[.int .u64 b.seq, .int .u64 b.epoch, .int .u64 b.res, .int .u64 b.hor, .int .u64 b.gen, .bool false, .int .i64 b.image] 37)).drew) := (Below.refl _ _).drew
  rw [hc] at H0
  generalize txt (low b.seq 8) = t1 at *
  generalize txt (low b.epoch 8) = t2 at *
  generalize txt (low b.res 8) = t3 at *
  generalize txt (low b.hor 8) = t4 at *
  generalize txt (low b.gen 8) = t5 at *
  generalize txt (low (bitN false) 4) = t6 at *
  generalize txt (low tn 4) = t7 at *
  generalize txt (low 0 8) = t8 at *
  generalize txt (low (crcN b.head) 4) = t10 at *
  generalize crcN b.head = cr at *
  generalize txt b.head = hb at *
  generalize txt (mk4 ++ lows b.nums) = h5 at *
  generalize txt b.enc = eb at *
  clear h0 htl htn hf
  go_enter Try.func15, Try.ntmps15
  go_wp2_with fail
  go_region_held (fun W => W.cell? ⟨w.heap.size, 0, none⟩ = some (.int .u64 b.seq) ∧ W.cell? ⟨w.heap.size, 1, none⟩ = some (.int .u64 b.epoch) ∧ W.cell? ⟨w.heap.size, 2, none⟩ = some (.int .u64 b.res) ∧ W.cell? ⟨w.heap.size, 3, none⟩ = some (.int .u64 b.hor) ∧ W.cell? ⟨w.heap.size, 4, none⟩ = some (.int .u64 b.gen) ∧ W.cell? ⟨w.heap.size, 5, none⟩ = some (.bool false) ∧ W.cell? ⟨w.heap.size, 6, none⟩ = some (.int .i64 b.image))
    (exact H0.out _ A.out)
    (first
      | (go_at_call 39; refine (c1.out _).mono ?_; clear c1; rintro r wx ⟨rfl, hx⟩; replace A := hide (A.out.trans (hx.mono A.out.size)); clear hx)
      | (go_at_call 39; refine (c2.out _).mono ?_; clear c2; rintro r wx ⟨rfl, hx⟩; replace A := hide (A.out.trans (hx.mono A.out.size)); clear hx)
      | (go_at_call 39; refine (c3.out _).mono ?_; clear c3; rintro r wx ⟨rfl, hx⟩; replace A := hide (A.out.trans (hx.mono A.out.size)); clear hx)
      | (go_at_call 39; refine (c4.out _).mono ?_; clear c4; rintro r wx ⟨rfl, hx⟩; replace A := hide (A.out.trans (hx.mono A.out.size)); clear hx)
      | (go_at_call 39; refine (c5.out _).mono ?_; clear c5; rintro r wx ⟨rfl, hx⟩; replace A := hide (A.out.trans (hx.mono A.out.size)); clear hx))
  rw [F5.out]
  clear s1 s2 s3 s4 s5 F5
  obtain ⟨z0, z1, z2, z3, z4, z5, z6⟩ := H0.out _ A.out
  clear H0
  go_wp2_with fail
  refine (c6.out _).mono ?_
  rintro r wa ⟨rfl, hx⟩
  replace A := hide (A.out.trans (hx.mono A.out.size))
  clear hx z0 z1 z2 z3 z4 z5 z6
  go_wp2_with fail
  refine (c7.out _).mono ?_
  rintro r wb ⟨rfl, hx⟩
  replace A := hide (A.out.trans (hx.mono A.out.size))
  clear hx
  go_wp2_with fail
  refine (c8.out _).mono ?_
  rintro r wc ⟨rfl, hx⟩
  replace A := hide (A.out.trans (hx.mono A.out.size))
  clear hx
  go_wp2_with fail
  rw [FH.out]
  refine (c9.out _).mono ?_
  rintro r wd ⟨rfl, hx⟩
  replace A := hide (A.out.trans (hx.mono A.out.size))
  clear hx
  go_wp2_with fail
  refine (c10.out _).mono ?_
  rintro r we ⟨rfl, hx⟩
  replace A := hide (A.out.trans (hx.mono A.out.size))
  clear hx
  go_wp2
  go_ret
  exact ⟨by rw [← FE.out]; rfl, ((Below.refl w.heap.size w).alloc (Nat.le_refl _) _).trans (A.out.mono (by rw [nblk_alloc]; omega))⟩
set_option maxHeartbeats 2000000 in
theorem refEnc_false2 (b : Bk) (hf : b.fits) (hc : b.clean = false) (h0 : ¬ b.image < 0) (h1 : ¬ 2147483647 < b.image) (w : World) :
    Calls Try.prog 15 #[.agg #[.int .u64 b.seq, .int .u64 b.epoch, .int .u64 b.res, .int .u64 b.hor, .int .u64 b.gen, .bool b.clean, .int .i64 b.image]] w fun e w' => e = .returned (.string (txt b.enc)) ∧ Below w.heap.size w w' := by
  rw [hc]
  obtain ⟨tn, htn⟩ : ∃ tn, tn = toldN b.image := ⟨_, rfl⟩
  have htl : tn ≤ 2147483647 := by rw [htn]; exact toldN_le _
  have TN : Hid (IntKind.u64.wrap b.image = (tn : Int)) := by
    show _ = _
    rw [htn]; unfold toldN; rw [if_neg (by omega), IntKind.wrap_u64]; omega
  have F5 := hide (txt_five b)
  have FH := hide (txt_head b)
  rw [← htn, hc] at FH
  have FE : Hid (txt b.head ++ txt (low (crcN b.head) 4) = txt b.enc) := by show _ = _; rw [txt_append]; rfl
  have c1 : Hid (∀ W, Calls Try.prog 39 #[.int .u64 (b.seq : Int), .int .i64 8] W fun e w' => e = .returned (.string (txt (low b.seq 8))) ∧ Below W.heap.size W w') := fun W => low_any b.seq 8 hf.seq (by omega) W
  have s1 : (txt (low b.seq 8)).size = 8 := by rw [txt_size, low_length]
  have c2 : Hid (∀ W, Calls Try.prog 39 #[.int .u64 (b.epoch : Int), .int .i64 8] W fun e w' => e = .returned (.string (txt (low b.epoch 8))) ∧ Below W.heap.size W w') := fun W => low_any b.epoch 8 hf.epoch (by omega) W
  have s2 : (txt (low b.epoch 8)).size = 8 := by rw [txt_size, low_length]
  have c3 : Hid (∀ W, Calls Try.prog 39 #[.int .u64 (b.res : Int), .int .i64 8] W fun e w' => e = .returned (.string (txt (low b.res 8))) ∧ Below W.heap.size W w') := fun W => low_any b.res 8 hf.res (by omega) W
  have s3 : (txt (low b.res 8)).size = 8 := by rw [txt_size, low_length]
  have c4 : Hid (∀ W, Calls Try.prog 39 #[.int .u64 (b.hor : Int), .int .i64 8] W fun e w' => e = .returned (.string (txt (low b.hor 8))) ∧ Below W.heap.size W w') := fun W => low_any b.hor 8 hf.hor (by omega) W
  have s4 : (txt (low b.hor 8)).size = 8 := by rw [txt_size, low_length]
  have c5 : Hid (∀ W, Calls Try.prog 39 #[.int .u64 (b.gen : Int), .int .i64 8] W fun e w' => e = .returned (.string (txt (low b.gen 8))) ∧ Below W.heap.size W w') := fun W => low_any b.gen 8 hf.gen (by omega) W
  have s5 : (txt (low b.gen 8)).size = 8 := by rw [txt_size, low_length]
  have c6 : Hid (∀ W, Calls Try.prog 39 #[.int .u64 0, .int .i64 4] W fun e w' => e = .returned (.string (txt (low (bitN false) 4))) ∧ Below W.heap.size W w') := fun W => low_any 0 4 (by omega) (by omega) W
  have s6 : (txt (low (bitN false) 4)).size = 4 := by rw [txt_size, low_length]
  have c7 : Hid (∀ W, Calls Try.prog 39 #[.int .u64 (tn : Int), .int .i64 4] W fun e w' => e = .returned (.string (txt (low tn 4))) ∧ Below W.heap.size W w') := fun W => by
    have := low_any tn 4 (by omega) (by omega) W
    exact this
  have s7 : (txt (low tn 4)).size = 4 := by rw [txt_size, low_length]
  have c8 : Hid (∀ W, Calls Try.prog 39 #[.int .u64 0, .int .i64 8] W fun e w' => e = .returned (.string (txt (low 0 8))) ∧ Below W.heap.size W w') := fun W => low_any 0 8 (by omega) (by omega) W
  have s8 : (txt (low 0 8)).size = 8 := by rw [txt_size, low_length]
  have c9 : Hid (∀ W, Calls Try.prog 40 #[.string (txt b.head)] W fun e w' => e = .returned (.int .u64 (crcN b.head : Int)) ∧ Below W.heap.size W w') := fun W => crcT_any b.head (by rw [b.head_length]; omega) W
  have c10 : Hid (∀ W, Calls Try.prog 39 #[.int .u64 (crcN b.head : Int), .int .i64 4] W fun e w' => e = .returned (.string (txt (low (crcN b.head) 4))) ∧ Below W.heap.size W w') := fun W => low_any (crcN b.head) 4 (by have := crcN_lt b.head; omega) (by omega) W
  have s9 : (txt b.head).size = 60 := by rw [txt_size, b.head_length]
  have s10 : (txt (low (crcN b.head) 4)).size = 4 := by rw [txt_size, low_length]
  have s0 : (txt (mk4 ++ lows b.nums)).size = 44 := by rw [txt_size]; simp [mk4, Bk.nums, lows, low_length]
  have H0 : Hid (∀ W : World, Below (w.alloc (.cells #[.int .u64 b.seq, .int .u64 b.epoch, .int .u64 b.res, .int .u64 b.hor, .int .u64 b.gen, .bool b.clean, .int .i64 b.image] 37)).heap.size (w.alloc (.cells #[.int .u64 b.seq, .int .u64 b.epoch, .int .u64 b.res, .int .u64 b.hor, .int .u64 b.gen, .bool b.clean, .int .i64 b.image] 37)) W → W.cell? ⟨w.heap.size, 0, none⟩ = some (.int .u64 b.seq) ∧ W.cell? ⟨w.heap.size, 1, none⟩ = some (.int .u64 b.epoch) ∧ W.cell? ⟨w.heap.size, 2, none⟩ = some (.int .u64 b.res) ∧ W.cell? ⟨w.heap.size, 3, none⟩ = some (.int .u64 b.hor) ∧ W.cell? ⟨w.heap.size, 4, none⟩ = some (.int .u64 b.gen) ∧ W.cell? ⟨w.heap.size, 5, none⟩ = some (.bool b.clean) ∧ W.cell? ⟨w.heap.size, 6, none⟩ = some (.int .i64 b.image)) := fun W h =>
    cells7_at ((Blk.new w (bkL b) 37).same (h.block _ (Blk.new w (bkL b) 37).lt))
  have i0 : ((0 : Int) ≤ b.image) = True := eq_true (by omega)
  have i1 : (b.image ≤ 2147483647) = True := eq_true (by omega)
  have hwt := TN.out
  have A : Hid (Below (w.alloc (.cells #[.int .u64 b.seq, .int .u64 b.epoch, .int .u64 b.res, .int .u64 b.hor, .int .u64 b.gen, .bool false, .int .i64 b.image] 37)).heap.size (w.alloc (.cells #[.int .u64 b.seq, .int .u64 b.epoch, .int .u64 b.res, .int .u64 b.hor, .int .u64 b.gen, .bool false, .int .i64 b.image] 37)) (w.alloc (.cells #[.int .u64 b.seq, .int .u64 b.epoch, .int .u64 b.res, .int .u64 b.hor, .int .u64 b.gen, .bool false, .int .i64 b.image] 37)).drew) := (Below.refl _ _).drew
  rw [hc] at H0
  generalize txt (low b.seq 8) = t1 at *
  generalize txt (low b.epoch 8) = t2 at *
  generalize txt (low b.res 8) = t3 at *
  generalize txt (low b.hor 8) = t4 at *
  generalize txt (low b.gen 8) = t5 at *
  generalize txt (low (bitN false) 4) = t6 at *
  generalize txt (low tn 4) = t7 at *
  generalize txt (low 0 8) = t8 at *
  generalize txt (low (crcN b.head) 4) = t10 at *
  generalize crcN b.head = cr at *
  generalize txt b.head = hb at *
  generalize txt (mk4 ++ lows b.nums) = h5 at *
  generalize txt b.enc = eb at *
  clear h0 h1 htl htn hf
  go_enter Try.func15, Try.ntmps15
  go_wp2_with fail
  go_region_held (fun W => W.cell? ⟨w.heap.size, 0, none⟩ = some (.int .u64 b.seq) ∧ W.cell? ⟨w.heap.size, 1, none⟩ = some (.int .u64 b.epoch) ∧ W.cell? ⟨w.heap.size, 2, none⟩ = some (.int .u64 b.res) ∧ W.cell? ⟨w.heap.size, 3, none⟩ = some (.int .u64 b.hor) ∧ W.cell? ⟨w.heap.size, 4, none⟩ = some (.int .u64 b.gen) ∧ W.cell? ⟨w.heap.size, 5, none⟩ = some (.bool false) ∧ W.cell? ⟨w.heap.size, 6, none⟩ = some (.int .i64 b.image))
    (exact H0.out _ A.out)
    (first
      | (go_at_call 39; refine (c1.out _).mono ?_; clear c1; rintro r wx ⟨rfl, hx⟩; replace A := hide (A.out.trans (hx.mono A.out.size)); clear hx)
      | (go_at_call 39; refine (c2.out _).mono ?_; clear c2; rintro r wx ⟨rfl, hx⟩; replace A := hide (A.out.trans (hx.mono A.out.size)); clear hx)
      | (go_at_call 39; refine (c3.out _).mono ?_; clear c3; rintro r wx ⟨rfl, hx⟩; replace A := hide (A.out.trans (hx.mono A.out.size)); clear hx)
      | (go_at_call 39; refine (c4.out _).mono ?_; clear c4; rintro r wx ⟨rfl, hx⟩; replace A := hide (A.out.trans (hx.mono A.out.size)); clear hx)
      | (go_at_call 39; refine (c5.out _).mono ?_; clear c5; rintro r wx ⟨rfl, hx⟩; replace A := hide (A.out.trans (hx.mono A.out.size)); clear hx))
  rw [F5.out]
  clear s1 s2 s3 s4 s5 F5
  obtain ⟨z0, z1, z2, z3, z4, z5, z6⟩ := H0.out _ A.out
  clear H0
  go_wp2_with fail
  refine (c6.out _).mono ?_
  rintro r wa ⟨rfl, hx⟩
  replace A := hide (A.out.trans (hx.mono A.out.size))
  clear hx z0 z1 z2 z3 z4 z5 z6
  go_wp2_with fail
  refine (c7.out _).mono ?_
  rintro r wb ⟨rfl, hx⟩
  replace A := hide (A.out.trans (hx.mono A.out.size))
  clear hx
  go_wp2_with fail
  refine (c8.out _).mono ?_
  rintro r wc ⟨rfl, hx⟩
  replace A := hide (A.out.trans (hx.mono A.out.size))
  clear hx
  go_wp2_with fail
  rw [FH.out]
  refine (c9.out _).mono ?_
  rintro r wd ⟨rfl, hx⟩
  replace A := hide (A.out.trans (hx.mono A.out.size))
  clear hx
  go_wp2_with fail
  refine (c10.out _).mono ?_
  rintro r we ⟨rfl, hx⟩
  replace A := hide (A.out.trans (hx.mono A.out.size))
  clear hx
  go_wp2
  go_ret
  exact ⟨by rw [← FE.out]; rfl, ((Below.refl w.heap.size w).alloc (Nat.le_refl _) _).trans (A.out.mono (by rw [nblk_alloc]; omega))⟩

theorem refEncode_any (b : Bk) (hf : b.fits) (w : World) : Calls Try.prog 15 #[.agg #[.int .u64 b.seq, .int .u64 b.epoch, .int .u64 b.res, .int .u64 b.hor, .int .u64 b.gen, .bool b.clean, .int .i64 b.image]] w fun e w' => e = .returned (.string (txt b.enc)) ∧ Below w.heap.size w w' := by
  cases hc : b.clean with
  | true =>
    rw [← hc]
    by_cases h0 : b.image < 0
    · exact refEnc_true0 b hf hc h0 w
    · by_cases h1 : 2147483647 < b.image
      · exact refEnc_true1 b hf hc h1 w
      · exact refEnc_true2 b hf hc h0 h1 w
  | false =>
    rw [← hc]
    by_cases h0 : b.image < 0
    · exact refEnc_false0 b hf hc h0 w
    · by_cases h1 : 2147483647 < b.image
      · exact refEnc_false1 b hf hc h1 w
      · exact refEnc_false2 b hf hc h0 h1 w
end Go.Proofs.Ytcdefadeaiklbaa
