/- 'Store', whole; a device that a law holds. -/
import Derived.Test.YtcdefadeaiklbaaStore
set_option linter.unusedVariables false
set_option linter.unusedSimpArgs false
set_option maxRecDepth 8000
namespace Go.Proofs.Ytcdefadeaiklbaa
open Go.RowKit Go.Deep Math

theorem decB_of_dec {l : List UInt8} {b : Bk} (h : dec l = some b) : 64 ≤ l.length ∧ b = decB l ∧ b.enc = l.take 64 := by
  unfold dec at h
  split at h
  · cases h
  · rename_i h1
    split at h
    · rename_i h2
      cases h
      exact ⟨by omega, rfl, h2⟩
    · cases h
theorem dec_fits {l : List UInt8} {b : Bk} (h : dec l = some b) : b.fits := by
  obtain ⟨h1, h2, _⟩ := decB_of_dec h
  rw [h2]
  exact decB_fits l h1
theorem slotB_fits {S : Dv} {k : Nat} {b : Bk} (h : S.slotB k = some b) : b.fits := by
  unfold Dv.slotB at h
  split at h
  · rename_i c _
    unfold pgBk at h
    split at h
    · exact dec_fits h
    · cases h
  · cases h
theorem loadB_fits {S : Dv} {b : Bk} (h : S.loadB = some b) : b.fits := by
  unfold Dv.loadB at h
  cases ha : S.slotB 0 with
  | none =>
    cases hb : S.slotB 1 with
    | none => rw [ha, hb] at h; cases h
    | some y => rw [ha, hb] at h; cases h; exact slotB_fits hb
  | some x =>
    cases hb : S.slotB 1 with
    | none => rw [ha, hb] at h; cases h; exact slotB_fits ha
    | some y =>
      rw [ha, hb] at h
      simp only [newer] at h
      split at h
      · cases h; exact slotB_fits hb
      · cases h; exact slotB_fits ha

/-- What Store answers, and what it leaves. -/
def Dv.wrote (S : Dv) (n : Bk) : Dv := S.loadDo.writeDo ((n.seq % 2 : Nat) : Int) (txt n.enc)
def Dv.storeB (S : Dv) (b : Bk) : Bk := if S.cs.length < 2 then Bk.zero else if S.off = true then Bk.zero else if S.lastSeq = 18446744073709551615 then Bk.zero else if S.armed = 1 then Bk.zero else if S.armed = 2 then Bk.zero else S.nextB b
def Dv.storeE (S : Dv) : Int := if S.cs.length < 2 then 1 else if S.off = true then 4 else if S.lastSeq = 18446744073709551615 then 9 else if S.armed = 1 then 4 else if S.armed = 2 then 4 else 0
def Dv.storeDo (S : Dv) (b : Bk) : Dv := if S.cs.length < 2 then S else if S.off = true then S else if S.lastSeq = 18446744073709551615 then S.loadDo else if S.armed = 1 then S.wrote (S.nextB b) else (S.wrote (S.nextB b)).flushDo

theorem wrote_err (S : Dv) (n : Bk) (h2 : 2 ≤ S.cs.length) (ho : S.off = false) : S.loadDo.writeErr ((n.seq % 2 : Nat) : Int) (txt n.enc) = if S.armed = 1 then 4 else 0 := by
  have hs : (txt n.enc).size = 64 := by rw [txt_size, n.enc_length]
  have hh : S.loadDo.has ((n.seq % 2 : Nat) : Int) = true := has_nat (by rw [loadDo_cs]; omega)
  have hg : S.loadDo.gone = decide (S.armed = 1) := by unfold Dv.gone; rw [loadDo_off, loadDo_armed, ho]; rfl
  unfold Dv.writeErr
  rw [if_neg (by omega)]
  unfold Dv.putErr
  rw [if_neg (by rw [hh]; decide), hg]
  by_cases h : S.armed = 1 <;> simp [h]
theorem wrote_is (S : Dv) (n : Bk) (h2 : 2 ≤ S.cs.length) (ho : S.off = false) (ha : S.armed ≠ 1) : S.wrote n = { S.loadDo.used with cs := putAt S.cs (n.seq % 2) (.whole (txt n.enc)), wr := wrap64 (S.loadDo.wr + 1) } := by
  have hs : (txt n.enc).size = 64 := by rw [txt_size, n.enc_length]
  have hh : S.loadDo.has ((n.seq % 2 : Nat) : Int) = true := has_nat (by rw [loadDo_cs]; omega)
  have hg : S.loadDo.gone = false := by unfold Dv.gone; rw [loadDo_off, loadDo_armed, ho]; simp [ha]
  unfold Dv.wrote Dv.writeDo
  rw [if_neg (by omega)]
  unfold Dv.putDo
  rw [if_neg (by rw [hh]; decide), if_neg (by rw [hg]; decide), loadDo_cs, Int.toNat_natCast]
theorem used_off (S : Dv) (ha : S.armed ≠ 1) : S.used.off = S.off := by
  unfold Dv.used; split
  · rfl
  · rfl
theorem used_armed (S : Dv) (ho : S.off = false) (ha : S.armed ≠ 1) : S.used.armed = S.armed - 1 := by
  unfold Dv.used; split
  · rename_i h
    rcases h with h | h
    · rw [ho] at h; cases h
    · omega
  · rfl
theorem flush_err (S : Dv) (n : Bk) (h2 : 2 ≤ S.cs.length) (ho : S.off = false) (ha : S.armed ≠ 1) : (S.wrote n).flushErr = if S.armed = 2 then 4 else 0 := by
  have e1 : (S.wrote n).off = false := by
    rw [wrote_is S n h2 ho ha]
    show S.loadDo.used.off = false
    rw [used_off _ (by rw [loadDo_armed]; exact ha), loadDo_off, ho]
  have e2 : (S.wrote n).armed = S.armed - 1 := by
    rw [wrote_is S n h2 ho ha]
    show S.loadDo.used.armed = _
    rw [used_armed _ (by rw [loadDo_off]; exact ho) (by rw [loadDo_armed]; exact ha), loadDo_armed]
  unfold Dv.flushErr Dv.gone
  rw [e1, e2]
  by_cases h : S.armed = 2
  · simp [h]
  · have : ¬ S.armed - 1 = 1 := by omega
    simp [h, this]

set_option maxHeartbeats 1000000 in
theorem store_bad1 (d : Nat) (F : List Nat) (S : Dv) (b : Bk) (w : World) (h : DvAt w d F S)
    (cL : ∀ W : World, DvAt W d F S → Calls Try.prog 11 #[.pointer (some ⟨d, 0, none⟩)] W fun e w' => e = .returned (bkV Bk.zero 1) ∧ DvAt w' d F S ∧ Keep F W w') :
    Calls Try.prog 12 #[.pointer (some ⟨d, 0, none⟩), .agg #[.int .u64 b.seq, .int .u64 b.epoch, .int .u64 b.res, .int .u64 b.hor, .int .u64 b.gen, .bool b.clean, .int .i64 b.image]] w fun e w' => e = .returned (bkV Bk.zero 1) ∧ DvAt w' d F S ∧ Keep F w w' := by
  have hA : DvAt ((w.alloc (.cells #[.int .u64 b.seq, .int .u64 b.epoch, .int .u64 b.res, .int .u64 b.hor, .int .u64 b.gen, .bool b.clean, .int .i64 b.image] 29)).alloc (.cells #[.int .u64 0, .int .u64 0, .int .u64 0, .int .u64 0, .int .u64 0, .bool false, .int .i64 0] 29)) d F S := (h.alloc _).alloc _
  have hbz : Blk ((w.alloc (.cells #[.int .u64 b.seq, .int .u64 b.epoch, .int .u64 b.res, .int .u64 b.hor, .int .u64 b.gen, .bool b.clean, .int .i64 b.image] 29)).alloc (.cells #[.int .u64 0, .int .u64 0, .int .u64 0, .int .u64 0, .int .u64 0, .bool false, .int .i64 0] 29)) (w.heap.size + 1) (bkL Bk.zero) 29 := by
    have := Blk.new (w.alloc (.cells #[.int .u64 b.seq, .int .u64 b.epoch, .int .u64 b.res, .int .u64 b.hor, .int .u64 b.gen, .bool b.clean, .int .i64 b.image] 29)) (bkL Bk.zero) 29
    rw [nblk_alloc] at this
    exact this
  have KA : Hid (Keep F w ((w.alloc (.cells #[.int .u64 b.seq, .int .u64 b.epoch, .int .u64 b.res, .int .u64 b.hor, .int .u64 b.gen, .bool b.clean, .int .i64 b.image] 29)).alloc (.cells #[.int .u64 0, .int .u64 0, .int .u64 0, .int .u64 0, .int .u64 0, .bool false, .int .i64 0] 29))) := ((Keep.refl F w).alloc _).alloc _
  have NZ := hide (h.new (w.heap.size + 1) (Nat.le_succ _))
  have cL' : Hid (Calls Try.prog 11 #[.pointer (some ⟨d, 0, none⟩)] ((w.alloc (.cells #[.int .u64 b.seq, .int .u64 b.epoch, .int .u64 b.res, .int .u64 b.hor, .int .u64 b.gen, .bool b.clean, .int .i64 b.image] 29)).alloc (.cells #[.int .u64 0, .int .u64 0, .int .u64 0, .int .u64 0, .int .u64 0, .bool false, .int .i64 0] 29)) fun e w' => e = .returned (.tuple #[.agg #[.int .u64 0, .int .u64 0, .int .u64 0, .int .u64 0, .int .u64 0, .bool false, .int .i64 0], .int .i64 1]) ∧ DvAt w' d F S ∧ Keep F ((w.alloc (.cells #[.int .u64 b.seq, .int .u64 b.epoch, .int .u64 b.res, .int .u64 b.hor, .int .u64 b.gen, .bool b.clean, .int .i64 b.image] 29)).alloc (.cells #[.int .u64 0, .int .u64 0, .int .u64 0, .int .u64 0, .int .u64 0, .bool false, .int .i64 0] 29)) w') := cL _ hA
  have HBZ := hide hbz
  clear hA hbz h cL
  go_enter Try.func12, Try.ntmps12
  go_wp2_with (first
    | (go_at_call 11; refine cL'.out.mono ?_; rintro r w1 ⟨rfl, hd1, kp1⟩; have HD1 := hide hd1; have HK1 := hide kp1; have hz1 := HBZ.out.same (kp1.block _ HBZ.out.lt NZ.out); have HZ1 := hide hz1; have hltz := hz1.lt; obtain ⟨y0, y1, y2, y3, y4, y5, y6, g0, g1, g2, g3, g4, g5, g6⟩ := cells7z hz1; clear hd1 kp1 hz1))
  refine bodyPost_ret (v := bkV Bk.zero 1) (by simp [results, Try.results12, go_sem, bkV, Bk.zero, *]) rfl ⟨rfl, ?_, ?_⟩
  · exact (put7_dv HD1.out NZ.out Bk.zero).alloc _
  · exact (put7_keep (KA.out.trans HK1.out (fun x hx => .inl hx)) (.inr (Nat.le_succ _)) Bk.zero).alloc _

set_option maxHeartbeats 1000000 in
theorem store_bad4 (d : Nat) (F : List Nat) (S : Dv) (b : Bk) (w : World) (h : DvAt w d F S)
    (cL : ∀ W : World, DvAt W d F S → Calls Try.prog 11 #[.pointer (some ⟨d, 0, none⟩)] W fun e w' => e = .returned (bkV Bk.zero 4) ∧ DvAt w' d F S ∧ Keep F W w') :
    Calls Try.prog 12 #[.pointer (some ⟨d, 0, none⟩), .agg #[.int .u64 b.seq, .int .u64 b.epoch, .int .u64 b.res, .int .u64 b.hor, .int .u64 b.gen, .bool b.clean, .int .i64 b.image]] w fun e w' => e = .returned (bkV Bk.zero 4) ∧ DvAt w' d F S ∧ Keep F w w' := by
  have hA : DvAt ((w.alloc (.cells #[.int .u64 b.seq, .int .u64 b.epoch, .int .u64 b.res, .int .u64 b.hor, .int .u64 b.gen, .bool b.clean, .int .i64 b.image] 29)).alloc (.cells #[.int .u64 0, .int .u64 0, .int .u64 0, .int .u64 0, .int .u64 0, .bool false, .int .i64 0] 29)) d F S := (h.alloc _).alloc _
  have hbz : Blk ((w.alloc (.cells #[.int .u64 b.seq, .int .u64 b.epoch, .int .u64 b.res, .int .u64 b.hor, .int .u64 b.gen, .bool b.clean, .int .i64 b.image] 29)).alloc (.cells #[.int .u64 0, .int .u64 0, .int .u64 0, .int .u64 0, .int .u64 0, .bool false, .int .i64 0] 29)) (w.heap.size + 1) (bkL Bk.zero) 29 := by
    have := Blk.new (w.alloc (.cells #[.int .u64 b.seq, .int .u64 b.epoch, .int .u64 b.res, .int .u64 b.hor, .int .u64 b.gen, .bool b.clean, .int .i64 b.image] 29)) (bkL Bk.zero) 29
    rw [nblk_alloc] at this
    exact this
  have KA : Hid (Keep F w ((w.alloc (.cells #[.int .u64 b.seq, .int .u64 b.epoch, .int .u64 b.res, .int .u64 b.hor, .int .u64 b.gen, .bool b.clean, .int .i64 b.image] 29)).alloc (.cells #[.int .u64 0, .int .u64 0, .int .u64 0, .int .u64 0, .int .u64 0, .bool false, .int .i64 0] 29))) := ((Keep.refl F w).alloc _).alloc _
  have NZ := hide (h.new (w.heap.size + 1) (Nat.le_succ _))
  have cL' : Hid (Calls Try.prog 11 #[.pointer (some ⟨d, 0, none⟩)] ((w.alloc (.cells #[.int .u64 b.seq, .int .u64 b.epoch, .int .u64 b.res, .int .u64 b.hor, .int .u64 b.gen, .bool b.clean, .int .i64 b.image] 29)).alloc (.cells #[.int .u64 0, .int .u64 0, .int .u64 0, .int .u64 0, .int .u64 0, .bool false, .int .i64 0] 29)) fun e w' => e = .returned (.tuple #[.agg #[.int .u64 0, .int .u64 0, .int .u64 0, .int .u64 0, .int .u64 0, .bool false, .int .i64 0], .int .i64 4]) ∧ DvAt w' d F S ∧ Keep F ((w.alloc (.cells #[.int .u64 b.seq, .int .u64 b.epoch, .int .u64 b.res, .int .u64 b.hor, .int .u64 b.gen, .bool b.clean, .int .i64 b.image] 29)).alloc (.cells #[.int .u64 0, .int .u64 0, .int .u64 0, .int .u64 0, .int .u64 0, .bool false, .int .i64 0] 29)) w') := cL _ hA
  have HBZ := hide hbz
  clear hA hbz h cL
  go_enter Try.func12, Try.ntmps12
  go_wp2_with (first
    | (go_at_call 11; refine cL'.out.mono ?_; rintro r w1 ⟨rfl, hd1, kp1⟩; have HD1 := hide hd1; have HK1 := hide kp1; have hz1 := HBZ.out.same (kp1.block _ HBZ.out.lt NZ.out); have HZ1 := hide hz1; have hltz := hz1.lt; obtain ⟨y0, y1, y2, y3, y4, y5, y6, g0, g1, g2, g3, g4, g5, g6⟩ := cells7z hz1; clear hd1 kp1 hz1))
  refine bodyPost_ret (v := bkV Bk.zero 4) (by simp [results, Try.results12, go_sem, bkV, Bk.zero, *]) rfl ⟨rfl, ?_, ?_⟩
  · exact (put7_dv HD1.out NZ.out Bk.zero).alloc _
  · exact (put7_keep (KA.out.trans HK1.out (fun x hx => .inl hx)) (.inr (Nat.le_succ _)) Bk.zero).alloc _

theorem store_any (d : Nat) (F : List Nat) (S : Dv) (b : Bk) (hf : b.fits) (w : World) (h : DvAt w d F S) :
    Calls Try.prog 12 #[.pointer (some ⟨d, 0, none⟩), .agg #[.int .u64 b.seq, .int .u64 b.epoch, .int .u64 b.res, .int .u64 b.hor, .int .u64 b.gen, .bool b.clean, .int .i64 b.image]] w fun e w' =>
      e = .returned (bkV (S.storeB b) S.storeE) ∧ ∃ F', DvAt w' d F' (S.storeDo b) ∧ Moves F F' w w' := by
  have cL := fun (W : World) (hW : DvAt W d F S) => load_any d F S W hW
  by_cases h2 : S.cs.length < 2
  · have e1 : S.storeB b = Bk.zero := by unfold Dv.storeB; rw [if_pos h2]
    have e2 : S.storeE = 1 := by unfold Dv.storeE; rw [if_pos h2]
    have e3 : S.storeDo b = S := by unfold Dv.storeDo; rw [if_pos h2]
    have e4 : S.loadV = bkV Bk.zero 1 := by unfold Dv.loadV; rw [if_pos h2]
    have e5 : S.loadDo = S := by unfold Dv.loadDo; rw [if_pos h2]
    rw [e4, e5] at cL
    rw [e1, e2, e3]
    refine (store_bad1 d F S b w h cL).mono ?_
    rintro e w' ⟨rfl, hd, hk⟩
    exact ⟨rfl, F, hd, Moves.of_keep hk⟩
  cases ho : S.off with
  | true =>
    have e1 : S.storeB b = Bk.zero := by unfold Dv.storeB; rw [if_neg h2, if_pos ho]
    have e2 : S.storeE = 4 := by unfold Dv.storeE; rw [if_neg h2, if_pos ho]
    have e3 : S.storeDo b = S := by unfold Dv.storeDo; rw [if_neg h2, if_pos ho]
    have e4 : S.loadV = bkV Bk.zero 4 := by unfold Dv.loadV; rw [if_neg h2, if_pos ho]
    have e5 : S.loadDo = S := by unfold Dv.loadDo; rw [if_neg h2, if_pos ho]
    rw [e4, e5] at cL
    rw [e1, e2, e3]
    refine (store_bad4 d F S b w h cL).mono ?_
    rintro e w' ⟨rfl, hd, hk⟩
    exact ⟨rfl, F, hd, Moves.of_keep hk⟩
  | false =>
    have hno : ¬ S.off = true := by rw [ho]; decide
    have e4 : S.loadV = slotV S.loadB := by unfold Dv.loadV; rw [if_neg h2, if_neg hno]
    rw [e4] at cL
    have hE := wrote_err S (S.nextB b) (by omega) ho
    by_cases hw : S.lastSeq = 18446744073709551615
    · have e1 : S.storeB b = Bk.zero := by unfold Dv.storeB; rw [if_neg h2, if_neg hno, if_pos hw]
      have e2 : S.storeE = 9 := by unfold Dv.storeE; rw [if_neg h2, if_neg hno, if_pos hw]
      have e3 : S.storeDo b = S.loadDo := by unfold Dv.storeDo; rw [if_neg h2, if_neg hno, if_pos hw]
      rw [e1, e2, e3]
      cases hl : S.loadB with
      | none => unfold Dv.lastSeq at hw; rw [hl] at hw; simp at hw
      | some x =>
        rw [hl] at cL
        have hx : x.seq = 18446744073709551615 := by unfold Dv.lastSeq at hw; rw [hl] at hw; exact hw
        exact store_worn d F S b hf x (loadB_fits hl) w h cL hx
    · by_cases ha1 : S.armed = 1
      · have e1 : S.storeB b = Bk.zero := by unfold Dv.storeB; rw [if_neg h2, if_neg hno, if_neg hw, if_pos ha1]
        have e2 : S.storeE = 4 := by unfold Dv.storeE; rw [if_neg h2, if_neg hno, if_neg hw, if_pos ha1]
        have e3 : S.storeDo b = S.wrote (S.nextB b) := by unfold Dv.storeDo; rw [if_neg h2, if_neg hno, if_neg hw, if_pos ha1]
        rw [e1, e2, e3]
        rw [if_pos ha1] at hE
        cases hl : S.loadB with
        | none =>
          rw [hl] at cL
          exact store_w4_none d F S b hf w h cL (S.nextB b) (by unfold Dv.nextB Dv.lastSeq; rw [hl]) hE
        | some x =>
          rw [hl] at cL
          have hx : x.seq ≠ 18446744073709551615 := by unfold Dv.lastSeq at hw; rw [hl] at hw; exact hw
          exact store_w4_some d F S b hf x (loadB_fits hl) w h cL hx (S.nextB b) (by unfold Dv.nextB Dv.lastSeq; rw [hl]) hE
      · rw [if_neg ha1] at hE
        have hF := flush_err S (S.nextB b) (by omega) ho ha1
        have e3 : S.storeDo b = (S.wrote (S.nextB b)).flushDo := by unfold Dv.storeDo; rw [if_neg h2, if_neg hno, if_neg hw, if_neg ha1]
        rw [e3]
        by_cases ha2 : S.armed = 2
        · have e1 : S.storeB b = Bk.zero := by unfold Dv.storeB; rw [if_neg h2, if_neg hno, if_neg hw, if_neg ha1, if_pos ha2]
          have e2 : S.storeE = 4 := by unfold Dv.storeE; rw [if_neg h2, if_neg hno, if_neg hw, if_neg ha1, if_pos ha2]
          rw [e1, e2]
          rw [if_pos ha2] at hF
          cases hl : S.loadB with
          | none =>
            rw [hl] at cL
            exact store_f4_none d F S b hf w h cL (S.nextB b) (by unfold Dv.nextB Dv.lastSeq; rw [hl]) hE hF
          | some x =>
            rw [hl] at cL
            have hx : x.seq ≠ 18446744073709551615 := by unfold Dv.lastSeq at hw; rw [hl] at hw; exact hw
            exact store_f4_some d F S b hf x (loadB_fits hl) w h cL hx (S.nextB b) (by unfold Dv.nextB Dv.lastSeq; rw [hl]) hE hF
        · have e1 : S.storeB b = S.nextB b := by unfold Dv.storeB; rw [if_neg h2, if_neg hno, if_neg hw, if_neg ha1, if_neg ha2]
          have e2 : S.storeE = 0 := by unfold Dv.storeE; rw [if_neg h2, if_neg hno, if_neg hw, if_neg ha1, if_neg ha2]
          rw [e1, e2]
          rw [if_neg ha2] at hF
          cases hl : S.loadB with
          | none =>
            rw [hl] at cL
            exact store_ok_none d F S b hf w h cL (S.nextB b) (by unfold Dv.nextB Dv.lastSeq; rw [hl]) hE hF
          | some x =>
            rw [hl] at cL
            have hx : x.seq ≠ 18446744073709551615 := by unfold Dv.lastSeq at hw; rw [hl] at hw; exact hw
            exact store_ok_some d F S b hf x (loadB_fits hl) w h cL hx (S.nextB b) (by unfold Dv.nextB Dv.lastSeq; rw [hl]) hE hF

/-! ### A device that a law holds -/
structure Law (w0 : World) (d : Nat) (F : List Nat) (S : Dv) (W : World) : Prop where
  dev : DvAt W d F S
  low : ∀ k ∈ F, w0.heap.size ≤ k
  bel : Below w0.heap.size w0 W
theorem Law.move {w0 W W' : World} {d : Nat} {F F' : List Nat} {S S' : Dv} (h : Law w0 d F S W) (hd : DvAt W' d F' S') (m : Moves F F' W W') : Law w0 d F' S' W' := by
  have hs := h.bel.size
  refine ⟨hd, fun k hk => ?_, h.bel.trans (m.keep.below h.low hs)⟩
  rcases m.foot k hk with h1 | h1
  · exact h.low k h1
  · omega
theorem Law.below {w0 W W' : World} {d : Nat} {F : List Nat} {S : Dv} (h : Law w0 d F S W) (b : Below W.heap.size W W') : Law w0 d F S W' := h.move (h.dev.below b) (Moves.of_keep (Keep.of_below b))
theorem Law.alloc {w0 W : World} {d : Nat} {F : List Nat} {S : Dv} (h : Law w0 d F S W) (o : Obj) : Law w0 d F S (W.alloc o) := h.below ((Below.refl _ _).alloc (Nat.le_refl _) _)
/-- A variable of the law's, apart from the device. -/
structure Held (W : World) (F : List Nat) (k : Nat) (L : List Value) (t : TypeId) : Prop where
  blk : Blk W k L t
  off : k ∉ F
theorem Held.move {W W' : World} {F F' : List Nat} {k : Nat} {L : List Value} {t : TypeId} (h : Held W F k L t) (m : Moves F F' W W') : Held W' F' k L t := by
  have hl := h.blk.lt
  refine ⟨h.blk.same (m.keep.block _ hl h.off), fun hf => ?_⟩
  rcases m.foot k hf with h1 | h1
  · exact h.off h1
  · omega
theorem Held.below {W W' : World} {F : List Nat} {k : Nat} {L : List Value} {t : TypeId} (h : Held W F k L t) (b : Below W.heap.size W W') : Held W' F k L t := h.move (Moves.of_keep (Keep.of_below b))
theorem Held.alloc {W : World} {F : List Nat} {k : Nat} {L : List Value} {t : TypeId} (h : Held W F k L t) (o : Obj) : Held (W.alloc o) F k L t := h.below ((Below.refl _ _).alloc (Nat.le_refl _) _)
theorem Law.hold {w0 W : World} {d : Nat} {F : List Nat} {S : Dv} (h : Law w0 d F S W) (L : List Value) (t : TypeId) : Held (W.alloc (.cells L.toArray t)) F W.heap.size L t := ⟨Blk.new _ _ _, h.dev.new _ (Nat.le_refl _)⟩

theorem load_law {w0 W : World} {d : Nat} {F : List Nat} {S : Dv} (h : Law w0 d F S W) :
    Calls Try.prog 11 #[.pointer (some ⟨d, 0, none⟩)] W fun e W' => e = .returned S.loadV ∧ Law w0 d F S.loadDo W' ∧ Moves F F W W' := by
  refine (load_any d F S W h.dev).mono ?_
  rintro e W' ⟨rfl, hd, hk⟩
  exact ⟨rfl, h.move hd (Moves.of_keep hk), Moves.of_keep hk⟩
theorem store_law {w0 W : World} {d : Nat} {F : List Nat} {S : Dv} (h : Law w0 d F S W) (b : Bk) (hf : b.fits) :
    Calls Try.prog 12 #[.pointer (some ⟨d, 0, none⟩), .agg #[.int .u64 b.seq, .int .u64 b.epoch, .int .u64 b.res, .int .u64 b.hor, .int .u64 b.gen, .bool b.clean, .int .i64 b.image]] W fun e W' => e = .returned (bkV (S.storeB b) S.storeE) ∧ ∃ F', Law w0 d F' (S.storeDo b) W' ∧ Moves F F' W W' := by
  refine (store_any d F S b hf W h.dev).mono ?_
  rintro e W' ⟨rfl, F', hd, hm⟩
  exact ⟨rfl, F', h.move hd hm, hm⟩
theorem new_law {w0 W : World} (b : Below w0.heap.size w0 W) (n : Nat) (h1 : 1 ≤ n) (h2 : n ≤ 4096) :
    Calls Try.prog 10 #[.int .i64 n] W fun e W' => ∃ d F, e = .returned (.tuple #[.pointer (some ⟨d, 0, none⟩), .int .i64 0]) ∧ Law w0 d F (Dv.fresh n) W' ∧ Below W.heap.size W W' := by
  have hs := b.size
  refine (new_any n h1 h2 W).mono ?_
  rintro e W' ⟨rfl, hd, hb⟩
  refine ⟨W.heap.size + 1, foot (W.heap.size + 1) W.heap.size none, rfl, ⟨⟨_, _, _, _, rfl, hd⟩, fun k hk => ?_, b.trans (hb.mono hs)⟩, hb⟩
  simp [foot] at hk
  omega
end Go.Proofs.Ytcdefadeaiklbaa
