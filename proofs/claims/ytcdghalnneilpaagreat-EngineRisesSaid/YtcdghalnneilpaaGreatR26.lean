/- Joined texts. -/
import Derived.Test.YtcdghalnneilpaaGreatR25
set_option linter.unusedVariables false
set_option linter.unusedSimpArgs false
set_option maxRecDepth 8000
set_option maxHeartbeats 8000000
namespace Go.Proofs.YtcdghalnneilpaaGreat
open Go.RowKit Go.Deep Math
theorem decB_of_dec {l : List UInt8} {b : Sb} (h : dec l = some b) : 64 <= l.length /\ b = decB l /\ b.enc = l.take 64 := by
 unfold dec at h
 split at h
 ·cases h
 ·rename_i h1
  split at h
  ·rename_i h2
   cases h
   exact ⟨by omega, rfl, h2⟩
  ·cases h
theorem dec_fits {l : List UInt8} {b : Sb} (h : dec l = some b) : b.fits := by
 obtain ⟨h1, h2, _⟩ := decB_of_dec h
 rw [h2]
 exact decB_fits l h1
theorem slotB_fits {S : Dv} {k : Nat} {b : Sb} (h : S.slotB k = some b) : b.fits := by
 unfold Dv.slotB at h
 split at h
 ·rename_i c _
  unfold pgBk at h
  split at h
  ·exact dec_fits h
  ·cases h
 ·cases h
theorem loadB_fits {S : Dv} {b : Sb} (h : S.loadB = some b) : b.fits := by
 unfold Dv.loadB at h
 cases ha : S.slotB 0 with
 | none =>
  cases hb : S.slotB 1 with
  | none => rw [ha, hb] at h; cases h
  | some y => rw [ha, hb] at h; cases h; exact slotB_fits hb
 | some x =>
  cases hb : S.slotB 1 with
  | none => rw [ha, hb] at h; cases h; exact slotB_fits ha
  | some y =>
   rw [ha, hb] at h
   simp only [newer] at h
   split at h
   ·cases h; exact slotB_fits hb
   ·cases h; exact slotB_fits ha
def Dv.wrote (S : Dv) (n : Sb) : Dv := S.loadDo.writeDo ((n.seq % 2 : Nat) : Int) (txt n.enc)
def Dv.storeB (S : Dv) (b : Sb) : Sb := if S.cs.length < 2 then Sb.zero else if S.off = true then Sb.zero else if S.lastSeq = 18446744073709551615 then Sb.zero else if S.armed = 1 then Sb.zero else if S.armed = 2 then Sb.zero else S.nextB b
def Dv.storeE (S : Dv) : Int := if S.cs.length < 2 then 1 else if S.off = true then 4 else if S.lastSeq = 18446744073709551615 then 9 else if S.armed = 1 then 4 else if S.armed = 2 then 4 else 0
def Dv.storeDo (S : Dv) (b : Sb) : Dv := if S.cs.length < 2 then S else if S.off = true then S else if S.lastSeq = 18446744073709551615 then S.loadDo else if S.armed = 1 then S.wrote (S.nextB b) else (S.wrote (S.nextB b)).flushDo
theorem wrote_err (S : Dv) (n : Sb) (h2 : 2 <= S.cs.length) (ho : S.off = false) : S.loadDo.writeErr ((n.seq % 2 : Nat) : Int) (txt n.enc) = if S.armed = 1 then 4 else 0 := by
 have hs : (txt n.enc).size = 64 := by rw [txt_size, n.enc_length]
 have hh : S.loadDo.has ((n.seq % 2 : Nat) : Int) = true := has_nat (by rw [loadDo_cs]; omega)
 have hg : S.loadDo.gone = decide (S.armed = 1) := by unfold Dv.gone; rw [loadDo_off, loadDo_armed, ho]; rfl
 unfold Dv.writeErr
 rw [if_neg (by omega)]
 unfold Dv.putErr
 rw [if_neg (by rw [hh]; decide), hg]
 by_cases h : S.armed = 1 <;> simp [h]
theorem wrote_is (S : Dv) (n : Sb) (h2 : 2 <= S.cs.length) (ho : S.off = false) (ha : S.armed ≠ 1) : S.wrote n = { S.loadDo.used with cs := putAt S.cs (n.seq % 2) (.whole (txt n.enc)), wr := wrap64 (S.loadDo.wr + 1) } := by
 have hs : (txt n.enc).size = 64 := by rw [txt_size, n.enc_length]
 have hh : S.loadDo.has ((n.seq % 2 : Nat) : Int) = true := has_nat (by rw [loadDo_cs]; omega)
 have hg : S.loadDo.gone = false := by unfold Dv.gone; rw [loadDo_off, loadDo_armed, ho]; simp [ha]
 unfold Dv.wrote Dv.writeDo
 rw [if_neg (by omega)]
 unfold Dv.putDo
 rw [if_neg (by rw [hh]; decide), if_neg (by rw [hg]; decide), loadDo_cs, Int.toNat_natCast]
theorem flush_err (S : Dv) (n : Sb) (h2 : 2 <= S.cs.length) (ho : S.off = false) (ha : S.armed ≠ 1) : (S.wrote n).flushErr = if S.armed = 2 then 4 else 0 := by
 have e1 : (S.wrote n).off = false := by
  rw [wrote_is S n h2 ho ha]
  show S.loadDo.used.off = false
  rw [used_off _ (by rw [loadDo_armed]; exact ha), loadDo_off, ho]
 have e2 : (S.wrote n).armed = S.armed - 1 := by
  rw [wrote_is S n h2 ho ha]
  show S.loadDo.used.armed = _
  rw [used_armed _ (by rw [loadDo_off]; exact ho) (by rw [loadDo_armed]; exact ha), loadDo_armed]
 unfold Dv.flushErr Dv.gone
 rw [e1, e2]
 by_cases h : S.armed = 2
 ·simp [h]
 ·have : ¬ S.armed - 1 = 1 := by omega
  simp [h, this]
theorem store_bad1 (d : Nat) (F : List Nat) (S : Dv) (b : Sb) (w : World) (h : DvAt w d F S)
  (cL : ∀ W : World, DvAt W d F S -> Calls Tryz.prog 47 #[.pointer (some ⟨d, 0, none⟩)] W fun e w' => e = .returned (bkV Sb.zero 1) /\ DvAt w' d F S /\ Keep F W w') :
  Calls Tryz.prog 87 #[.pointer (some ⟨d, 0, none⟩), .agg #[.int .u64 b.seq, .int .u64 b.epoch, .int .u64 b.res, .int .u64 b.hor, .int .u64 b.gen, .bool b.clean, .int .i64 b.image]] w fun e w' => e = .returned (bkV Sb.zero 1) /\ DvAt w' d F S /\ Keep F w w' := by
 have hA : DvAt (stW w b) d F S := (h.alloc _).alloc _
 have hbz : Blk (stW w b) (w.heap.size + 1) (bkL Sb.zero) 30 := by
  have := Blk.new (w.alloc (.cells #[.int .u64 b.seq, .int .u64 b.epoch, .int .u64 b.res, .int .u64 b.hor, .int .u64 b.gen, .bool b.clean, .int .i64 b.image] 30)) (bkL Sb.zero) 30
  rw [nblk_alloc] at this
  exact this
 have KA : Hid (Keep F w (stW w b)) := ((Keep.refl F w).alloc _).alloc _
 have NZ := hide (h.new (w.heap.size + 1) (Nat.le_succ _))
 have cL' : Hid (Calls Tryz.prog 47 #[.pointer (some ⟨d, 0, none⟩)] (stW w b) fun e w' => e = .returned (.tuple #[.agg #[.int .u64 0, .int .u64 0, .int .u64 0, .int .u64 0, .int .u64 0, .bool false, .int .i64 0], .int .i64 1]) /\ DvAt w' d F S /\ Keep F (stW w b) w') := cL _ hA
 have HBZ := hide hbz
 clear hA hbz h cL
 go_enter Tryz.func87, Tryz.ntmps87
 go_wp2_with (first
  | (go_at_call 47; refine cL'.out.mono ?_; rintro r w1 ⟨rfl, hd1, kp1⟩; have HD1 := hide hd1; have HK1 := hide kp1; have hz1 := HBZ.out.same (kp1.block _ HBZ.out.lt NZ.out); have HZ1 := hide hz1; have hltz := hz1.lt; obtain ⟨y0, y1, y2, y3, y4, y5, y6, g0, g1, g2, g3, g4, g5, g6⟩ := cells7z hz1; clear hd1 kp1 hz1))
 refine bodyPost_ret (v := bkV Sb.zero 1) (by simp [results, Tryz.results87, go_sem, bkV, Sb.zero, *]) rfl ⟨rfl, ?_, ?_⟩
 ·exact (put7_dv HD1.out NZ.out Sb.zero).alloc _
 ·exact (put7_keep (KA.out.trans HK1.out (fun x hx => .inl hx)) (.inr (Nat.le_succ _)) Sb.zero).alloc _
theorem store_bad4 (d : Nat) (F : List Nat) (S : Dv) (b : Sb) (w : World) (h : DvAt w d F S)
  (cL : ∀ W : World, DvAt W d F S -> Calls Tryz.prog 47 #[.pointer (some ⟨d, 0, none⟩)] W fun e w' => e = .returned (bkV Sb.zero 4) /\ DvAt w' d F S /\ Keep F W w') :
  Calls Tryz.prog 87 #[.pointer (some ⟨d, 0, none⟩), .agg #[.int .u64 b.seq, .int .u64 b.epoch, .int .u64 b.res, .int .u64 b.hor, .int .u64 b.gen, .bool b.clean, .int .i64 b.image]] w fun e w' => e = .returned (bkV Sb.zero 4) /\ DvAt w' d F S /\ Keep F w w' := by
 have hA : DvAt (stW w b) d F S := (h.alloc _).alloc _
 have hbz : Blk (stW w b) (w.heap.size + 1) (bkL Sb.zero) 30 := by
  have := Blk.new (w.alloc (.cells #[.int .u64 b.seq, .int .u64 b.epoch, .int .u64 b.res, .int .u64 b.hor, .int .u64 b.gen, .bool b.clean, .int .i64 b.image] 30)) (bkL Sb.zero) 30
  rw [nblk_alloc] at this
  exact this
 have KA : Hid (Keep F w (stW w b)) := ((Keep.refl F w).alloc _).alloc _
 have NZ := hide (h.new (w.heap.size + 1) (Nat.le_succ _))
 have cL' : Hid (Calls Tryz.prog 47 #[.pointer (some ⟨d, 0, none⟩)] (stW w b) fun e w' => e = .returned (.tuple #[.agg #[.int .u64 0, .int .u64 0, .int .u64 0, .int .u64 0, .int .u64 0, .bool false, .int .i64 0], .int .i64 4]) /\ DvAt w' d F S /\ Keep F (stW w b) w') := cL _ hA
 have HBZ := hide hbz
 clear hA hbz h cL
 go_enter Tryz.func87, Tryz.ntmps87
 go_wp2_with (first
  | (go_at_call 47; refine cL'.out.mono ?_; rintro r w1 ⟨rfl, hd1, kp1⟩; have HD1 := hide hd1; have HK1 := hide kp1; have hz1 := HBZ.out.same (kp1.block _ HBZ.out.lt NZ.out); have HZ1 := hide hz1; have hltz := hz1.lt; obtain ⟨y0, y1, y2, y3, y4, y5, y6, g0, g1, g2, g3, g4, g5, g6⟩ := cells7z hz1; clear hd1 kp1 hz1))
 refine bodyPost_ret (v := bkV Sb.zero 4) (by simp [results, Tryz.results87, go_sem, bkV, Sb.zero, *]) rfl ⟨rfl, ?_, ?_⟩
 ·exact (put7_dv HD1.out NZ.out Sb.zero).alloc _
 ·exact (put7_keep (KA.out.trans HK1.out (fun x hx => .inl hx)) (.inr (Nat.le_succ _)) Sb.zero).alloc _
theorem store_any (d : Nat) (F : List Nat) (S : Dv) (b : Sb) (hf : b.fits) (w : World) (h : DvAt w d F S) :
  Calls Tryz.prog 87 #[.pointer (some ⟨d, 0, none⟩), .agg #[.int .u64 b.seq, .int .u64 b.epoch, .int .u64 b.res, .int .u64 b.hor, .int .u64 b.gen, .bool b.clean, .int .i64 b.image]] w fun e w' =>
   e = .returned (bkV (S.storeB b) S.storeE) /\ ∃ F', DvAt w' d F' (S.storeDo b) /\ Moves F F' w w' := by
 have cL := fun (W : World) (hW : DvAt W d F S) => load_any d F S W hW
 by_cases h2 : S.cs.length < 2
 ·have e1 : S.storeB b = Sb.zero := by unfold Dv.storeB; rw [if_pos h2]
  have e2 : S.storeE = 1 := by unfold Dv.storeE; rw [if_pos h2]
  have e3 : S.storeDo b = S := by unfold Dv.storeDo; rw [if_pos h2]
  have e4 : S.loadV = bkV Sb.zero 1 := by unfold Dv.loadV; rw [if_pos h2]
  have e5 : S.loadDo = S := by unfold Dv.loadDo; rw [if_pos h2]
  rw [e4, e5] at cL
  rw [e1, e2, e3]
  refine (store_bad1 d F S b w h cL).mono ?_
  rintro e w' ⟨rfl, hd, hk⟩
  exact ⟨rfl, F, hd, Moves.of_keep hk⟩
 cases ho : S.off with
 | true =>
  have e1 : S.storeB b = Sb.zero := by unfold Dv.storeB; rw [if_neg h2, if_pos ho]
  have e2 : S.storeE = 4 := by unfold Dv.storeE; rw [if_neg h2, if_pos ho]
  have e3 : S.storeDo b = S := by unfold Dv.storeDo; rw [if_neg h2, if_pos ho]
  have e4 : S.loadV = bkV Sb.zero 4 := by unfold Dv.loadV; rw [if_neg h2, if_pos ho]
  have e5 : S.loadDo = S := by unfold Dv.loadDo; rw [if_neg h2, if_pos ho]
  rw [e4, e5] at cL
  rw [e1, e2, e3]
  refine (store_bad4 d F S b w h cL).mono ?_
  rintro e w' ⟨rfl, hd, hk⟩
  exact ⟨rfl, F, hd, Moves.of_keep hk⟩
 | false =>
  have hno : ¬ S.off = true := by rw [ho]; decide
  have e4 : S.loadV = slotV S.loadB := by unfold Dv.loadV; rw [if_neg h2, if_neg hno]
  rw [e4] at cL
  have hE := wrote_err S (S.nextB b) (by omega) ho
  by_cases hw : S.lastSeq = 18446744073709551615
  ·have e1 : S.storeB b = Sb.zero := by unfold Dv.storeB; rw [if_neg h2, if_neg hno, if_pos hw]
   have e2 : S.storeE = 9 := by unfold Dv.storeE; rw [if_neg h2, if_neg hno, if_pos hw]
   have e3 : S.storeDo b = S.loadDo := by unfold Dv.storeDo; rw [if_neg h2, if_neg hno, if_pos hw]
   rw [e1, e2, e3]
   cases hl : S.loadB with
   | none => unfold Dv.lastSeq at hw; rw [hl] at hw; simp at hw
   | some x =>
    rw [hl] at cL
    have hx : x.seq = 18446744073709551615 := by unfold Dv.lastSeq at hw; rw [hl] at hw; exact hw
    exact store_worn d F S b hf x (loadB_fits hl) w h cL hx
  ·by_cases ha1 : S.armed = 1
   ·have e1 : S.storeB b = Sb.zero := by unfold Dv.storeB; rw [if_neg h2, if_neg hno, if_neg hw, if_pos ha1]
    have e2 : S.storeE = 4 := by unfold Dv.storeE; rw [if_neg h2, if_neg hno, if_neg hw, if_pos ha1]
    have e3 : S.storeDo b = S.wrote (S.nextB b) := by unfold Dv.storeDo; rw [if_neg h2, if_neg hno, if_neg hw, if_pos ha1]
    rw [e1, e2, e3]
    rw [if_pos ha1] at hE
    cases hl : S.loadB with
    | none =>
     rw [hl] at cL
     exact store_w4_none d F S b hf w h cL (S.nextB b) (by unfold Dv.nextB Dv.lastSeq; rw [hl]) hE
    | some x =>
     rw [hl] at cL
     have hx : x.seq ≠ 18446744073709551615 := by unfold Dv.lastSeq at hw; rw [hl] at hw; exact hw
     exact store_w4_some d F S b hf x (loadB_fits hl) w h cL hx (S.nextB b) (by unfold Dv.nextB Dv.lastSeq; rw [hl]) hE
   ·rw [if_neg ha1] at hE
    have hF := flush_err S (S.nextB b) (by omega) ho ha1
    have e3 : S.storeDo b = (S.wrote (S.nextB b)).flushDo := by unfold Dv.storeDo; rw [if_neg h2, if_neg hno, if_neg hw, if_neg ha1]
    rw [e3]
    by_cases ha2 : S.armed = 2
    ·have e1 : S.storeB b = Sb.zero := by unfold Dv.storeB; rw [if_neg h2, if_neg hno, if_neg hw, if_neg ha1, if_pos ha2]
     have e2 : S.storeE = 4 := by unfold Dv.storeE; rw [if_neg h2, if_neg hno, if_neg hw, if_neg ha1, if_pos ha2]
     rw [e1, e2]
     rw [if_pos ha2] at hF
     cases hl : S.loadB with
     | none =>
      rw [hl] at cL
      exact store_f4_none d F S b hf w h cL (S.nextB b) (by unfold Dv.nextB Dv.lastSeq; rw [hl]) hE hF
     | some x =>
      rw [hl] at cL
      have hx : x.seq ≠ 18446744073709551615 := by unfold Dv.lastSeq at hw; rw [hl] at hw; exact hw
      exact store_f4_some d F S b hf x (loadB_fits hl) w h cL hx (S.nextB b) (by unfold Dv.nextB Dv.lastSeq; rw [hl]) hE hF
    ·have e1 : S.storeB b = S.nextB b := by unfold Dv.storeB; rw [if_neg h2, if_neg hno, if_neg hw, if_neg ha1, if_neg ha2]
     have e2 : S.storeE = 0 := by unfold Dv.storeE; rw [if_neg h2, if_neg hno, if_neg hw, if_neg ha1, if_neg ha2]
     rw [e1, e2]
     rw [if_neg ha2] at hF
     cases hl : S.loadB with
     | none =>
      rw [hl] at cL
      exact store_ok_none d F S b hf w h cL (S.nextB b) (by unfold Dv.nextB Dv.lastSeq; rw [hl]) hE hF
     | some x =>
      rw [hl] at cL
      have hx : x.seq ≠ 18446744073709551615 := by unfold Dv.lastSeq at hw; rw [hl] at hw; exact hw
      exact store_ok_some d F S b hf x (loadB_fits hl) w h cL hx (S.nextB b) (by unfold Dv.nextB Dv.lastSeq; rw [hl]) hE hF
theorem slotB_pg (S : Dv) (k : Nat) : S.slotB k = (S.pg k).bind pgBk := by
 unfold Dv.slotB Dv.pg
 cases S.cs[k]? <;> rfl
theorem pgBk_enc (n : Sb) (hf : n.fits) : pgBk (.whole (txt n.enc)) = some n.told := by
 show dec (full (txt n.enc)).data.toList = _
 rw [full_data]
 have e : (txt n.enc).data.toList = n.enc := rfl
 rw [e]
 exact dec_enc n hf _
theorem nextB_fits (S : Dv) (b : Sb) (hf : b.fits) (hl : S.lastSeq + 1 < 18446744073709551616) : (S.nextB b).fits := by
 have := toldN_le b.image
 exact ⟨hl, hf.epoch, hf.res, hf.hor, hf.gen, by show _ <= ((toldN b.image : Nat) : Int); omega, by show ((toldN b.image : Nat) : Int) <= _; omega⟩
theorem told_idem (i : Int) : toldN ((toldN i : Nat) : Int) = toldN i := by
 have := toldN_le i
 unfold toldN at *
 split <;> split <;> omega
theorem nextB_told (S : Dv) (b : Sb) : (S.nextB b).told = S.nextB b := by
 unfold Sb.told Dv.nextB
 simp only [told_idem]
theorem lastSeq_lt (S : Dv) : S.lastSeq < 18446744073709551616 := by
 unfold Dv.lastSeq
 cases h : S.loadB with
 | none => simp
 | some x => exact (loadB_fits h).seq
structure Two (S : Dv) (a b : Option Sb) : Prop where
 len : 2 <= S.cs.length
 off : S.off = false
 s0 : S.slotB 0 = a
 s1 : S.slotB 1 = b
theorem Two.fresh (n : Nat) (h : 2 <= n) : Two (Dv.fresh n) none none := by
 have hg : ∀ k, k < 2 -> (Dv.fresh n).slotB k = none := fun k hk => by
  unfold Dv.slotB Dv.fresh
  simp only [List.getElem?_replicate]
  rw [if_pos (by omega)]
  rfl
 exact ⟨by simpa [Dv.fresh] using h, rfl, hg 0 (by omega), hg 1 (by omega)⟩
theorem Two.loadB {S : Dv} {a b : Option Sb} (h : Two S a b) : S.loadB = newer a b := by unfold Dv.loadB; rw [h.s0, h.s1]
theorem Two.loadV {S : Dv} {a b : Option Sb} (h : Two S a b) : S.loadV = slotV (newer a b) := by
 have := h.len
 unfold Dv.loadV
 rw [if_neg (by omega), if_neg (by rw [h.off]; decide), h.loadB]
def lastS (a b : Option Sb) : Nat := match newer a b with
 | some x => x.seq
 | none => 0
theorem Two.lastSeq {S : Dv} {a b : Option Sb} (h : Two S a b) : S.lastSeq = lastS a b := by unfold Dv.lastSeq lastS; rw [h.loadB]; cases newer a b <;> rfl
def nxt (a b : Option Sb) (x : Sb) : Sb := { x with seq := lastS a b + 1, image := (toldN x.image : Int) }
theorem Two.nextB {S : Dv} {a b : Option Sb} (h : Two S a b) (x : Sb) : S.nextB x = nxt a b x := by unfold Dv.nextB nxt; rw [h.lastSeq]
theorem slot_written (S T : Dv) (n : Sb) (hlen : 2 <= S.cs.length) (hT : ∀ j, T.pg j = if j = n.seq % 2 /\ j < S.cs.length then some (.whole (txt n.enc)) else S.pg j) (hf : n.fits) (ht : n.told = n) (j : Nat) (hj : j < 2) :
  T.slotB j = if j = n.seq % 2 then some n else S.slotB j := by
 rw [slotB_pg, hT j]
 by_cases h : j = n.seq % 2
 ·rw [if_pos ⟨h, by omega⟩, if_pos h, Option.bind_some, pgBk_enc n hf, ht]
 ·rw [if_neg (fun hh => h hh.1), if_neg h, slotB_pg]
theorem pg_wrote (S : Dv) (n : Sb) (h2 : 2 <= S.cs.length) (ho : S.off = false) (ha : S.armed ≠ 1) (j : Nat) : (S.wrote n).pg j = if j = n.seq % 2 /\ j < S.cs.length then some (.whole (txt n.enc)) else S.pg j := by
 rw [wrote_is S n h2 ho ha]
 show ((putAt S.cs (n.seq % 2) (.whole (txt n.enc)))[j]?).map (·.now) = _
 rw [putAt_get]
 rfl
theorem flushed_is (S : Dv) (n : Sb) (h2 : 2 <= S.cs.length) (ho : S.off = false) (ha : S.armed ≠ 1) (ha2 : S.armed ≠ 2) : (S.wrote n).flushDo = { (S.wrote n).used with cs := (S.wrote n).cs.map Cl.flush, fl := wrap64 ((S.wrote n).fl + 1) } := by
 have e := flush_err S n h2 ho ha
 rw [if_neg ha2] at e
 unfold Dv.flushErr at e
 unfold Dv.flushDo
 split
 ·rename_i hg; rw [if_pos hg] at e; cases e
 ·rfl
theorem wrote_off (S : Dv) (n : Sb) (h2 : 2 <= S.cs.length) (ho : S.off = false) (ha : S.armed ≠ 1) : (S.wrote n).off = false /\ (S.wrote n).armed = S.armed - 1 /\ (S.wrote n).cs.length = S.cs.length := by
 rw [wrote_is S n h2 ho ha]
 refine ⟨?_, ?_, ?_⟩
 ·show S.loadDo.used.off = false
  rw [used_off _ (by rw [loadDo_armed]; exact ha), loadDo_off, ho]
 ·show S.loadDo.used.armed = _
  rw [used_armed _ (by rw [loadDo_off]; exact ho) (by rw [loadDo_armed]; exact ha), loadDo_armed]
 ·show (putAt _ _ _).length = _
  rw [putAt_length]
theorem Two.store {S : Dv} {a b : Option Sb} (h : Two S a b) (x : Sb) (hf : x.fits) (hl : lastS a b ≠ 18446744073709551615) (h1 : S.armed ≠ 1) (h2 : S.armed ≠ 2) :
  S.storeE = 0 /\ S.storeB x = nxt a b x /\ (nxt a b x).fits /\ Two (S.storeDo x) (if (nxt a b x).seq % 2 = 0 then some (nxt a b x) else a) (if (nxt a b x).seq % 2 = 1 then some (nxt a b x) else b) /\ (S.storeDo x).armed = S.armed - 2 := by
 have hlen := h.len
 have hno : ¬ S.off = true := by rw [h.off]; decide
 have hn2 : ¬ S.cs.length < 2 := by omega
 have hls : ¬ S.lastSeq = 18446744073709551615 := by rw [h.lastSeq]; exact hl
 have hlt := lastSeq_lt S
 have hfit : (S.nextB x).fits := nextB_fits S x hf (by omega)
 have eD : S.storeDo x = (S.wrote (S.nextB x)).flushDo := by unfold Dv.storeDo; rw [if_neg hn2, if_neg hno, if_neg hls, if_neg h1]
 obtain ⟨w1, w2, w3⟩ := wrote_off S (S.nextB x) hlen h.off h1
 have hpg : ∀ j, (S.storeDo x).pg j = if j = (S.nextB x).seq % 2 /\ j < S.cs.length then some (.whole (txt (S.nextB x).enc)) else S.pg j := fun j => by
  rw [eD, flushed_is S _ hlen h.off h1 h2]
  show (((S.wrote (S.nextB x)).cs.map Cl.flush)[j]?).map (·.now) = _
  rw [flush_get]
  exact pg_wrote S _ hlen h.off h1 j
 have hs := slot_written S (S.storeDo x) (S.nextB x) hlen hpg hfit (nextB_told S x)
 have e := h.nextB x
 refine ⟨?_, ?_, by rw [<- e]; exact hfit, ⟨?_, ?_, ?_, ?_⟩, ?_⟩
 ·unfold Dv.storeE; rw [if_neg hn2, if_neg hno, if_neg hls, if_neg h1, if_neg h2]
 ·unfold Dv.storeB; rw [if_neg hn2, if_neg hno, if_neg hls, if_neg h1, if_neg h2, e]
 ·rw [eD, flushed_is S _ hlen h.off h1 h2]
  show 2 <= (List.map _ _).length
  rw [List.length_map, w3]; exact hlen
 ·rw [eD, flushed_is S _ hlen h.off h1 h2]
  show (S.wrote (S.nextB x)).used.off = false
  rw [used_off _ (by rw [w2]; omega), w1]
 ·rw [hs 0 (by omega), e, h.s0]
  simp only [eq_comm]
 ·rw [hs 1 (by omega), e, h.s1]
  simp only [eq_comm]
 ·rw [eD, flushed_is S _ hlen h.off h1 h2]
  show (S.wrote (S.nextB x)).used.armed = _
  rw [used_armed _ w1 (by rw [w2]; omega), w2]
  omega
structure En where
 losses : Int
 b : Sb
 last : Nat
def enL (d : Nat) (E : En) (jp sp lp mp : Value) : List Value := [.pointer (some ⟨d, 0, none⟩), .int .i64 E.losses, .int .u64 E.b.seq, .int .u64 E.b.epoch, .int .u64 E.b.res, .int .u64 E.b.hor, .int .u64 E.b.gen, .bool E.b.clean, .int .i64 E.b.image, .int .u64 E.last, jp, sp, lp, mp]
section
variable {w : World} {x d : Nat} {F : List Nat} {S : Dv} {E : En} {jp sp lp mp : Value}
theorem done_any (hb : Blk w x (enL d E jp sp lp mp) 104) (h : DvAt w d F S) :
  Calls Tryz.prog 80 #[.pointer (some ⟨x, 0, none⟩)] w fun e w' => e = .returned (.bool (S.losses != E.losses)) /\ ∃ q, w' = w.drewN q := by
 have c0 := hb.cell (i := 0) rfl
 have c1 := hb.cell (i := 1) rfl
 have cL : Hid (∀ W : World, W.heap = w.heap -> Calls Tryz.prog 48 #[.pointer (some ⟨d, 0, none⟩)] W fun e w' => e = .returned (.int .i64 S.losses) /\ w' = W) := fun W hW => by
  obtain ⟨p, pd, wa, wc, rfl, hd⟩ := (h.same (w' := W) (fun _ _ => by rw [hW]))
  exact losses_any d p pd wa wc S W hd
 clear h hb
 go_enter Tryz.func80, Tryz.ntmps80
 go_wp2_with fail
 go_quiet (first | (go_at_call 48; refine Calls.quiet_of_same (cL.out _ ?_); rfl))
 go_wp2
 go_ret
 exact ⟨rfl, _, rfl⟩
theorem block_any (hb : Blk w x (enL d E jp sp lp mp) 104) :
  Calls Tryz.prog 34 #[.pointer (some ⟨x, 0, none⟩)] w fun e w' => e = .returned E.b.val /\ Below w.heap.size w w' := by
 have hA := hb.same (w' := w.alloc (.cells #[.int .u64 0, .int .u64 0, .int .u64 0, .int .u64 0, .int .u64 0, .bool false, .int .i64 0] 30)) (blk_alloc_lt _ _ _ hb.lt)
 have c2 := hA.cell (i := 2) rfl
 have c3 := hA.cell (i := 3) rfl
 have c4 := hA.cell (i := 4) rfl
 have c5 := hA.cell (i := 5) rfl
 have c6 := hA.cell (i := 6) rfl
 have c7 := hA.cell (i := 7) rfl
 have c8 := hA.cell (i := 8) rfl
 have B := hide ((Below.refl w.heap.size w).alloc (Nat.le_refl _) (.cells #[.int .u64 0, .int .u64 0, .int .u64 0, .int .u64 0, .int .u64 0, .bool false, .int .i64 0] 30))
 clear hA hb
 go_enter Tryz.func34, Tryz.ntmps34
 go_wp2
 exact bodyPost_ret (v := E.b.val) (by simp [results, Tryz.results34, go_sem, Sb.val]) rfl ⟨rfl, (Below.refl _ _).alloc (Nat.le_refl _) _⟩
end
end Go.Proofs.YtcdghalnneilpaaGreat
