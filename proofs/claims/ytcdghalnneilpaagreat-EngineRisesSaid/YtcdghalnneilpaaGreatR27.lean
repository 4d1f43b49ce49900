/- Joined texts. -/
import Derived.Test.YtcdghalnneilpaaGreatR26
set_option linter.unusedVariables false
set_option linter.unusedSimpArgs false
set_option maxRecDepth 8000
set_option maxHeartbeats 8000000
namespace Go.Proofs.YtcdghalnneilpaaGreat
open Go.RowKit Go.Deep Math
theorem enz87 (args : Array Value) (w : World) : (callFunc 87 args).run Tryz.prog w = .ok (.enter 87 args) w := enters_of Tryz.func87 (by kernel_rfl) rfl args w
def SetC (W0 : World) (d : Nat) (F : List Nat) (S : Dv) (b : Sb) (g : Nat) (s : Nat) (W : World) : Prop := if s = 0 then W = W0 else if s = 1 then ∃ F', DvAt W d F' (S.storeDo b) /\ Moves F F' W0 W else ∃ W1 F', DvAt W1 d F' (S.storeDo b) /\ Moves F F' W0 W1 /\ W = put7 W1 g (S.storeB b)
def put8 (w : World) (x : Nat) (b : Sb) : World :=
 ((((((w.setCell ⟨x, 2, none⟩ (.int .u64 b.seq)).setCell ⟨x, 3, none⟩ (.int .u64 b.epoch)).setCell ⟨x, 4, none⟩ (.int .u64 b.res)).setCell ⟨x, 5, none⟩ (.int .u64 b.hor)).setCell ⟨x, 6, none⟩ (.int .u64 b.gen)).setCell ⟨x, 7, none⟩ (.bool b.clean)).setCell ⟨x, 8, none⟩ (.int .i64 b.image)
theorem put8_keep {F : List Nat} {a w : World} {g : Nat} (h : Keep F a w) (hg : g ∈ F \/ a.heap.size <= g) (b : Sb) : Keep F a (put8 w g b) :=
 ((((((h.setCell hg _).setCell hg _).setCell hg _).setCell hg _).setCell hg _).setCell hg _).setCell hg _
theorem put8_far (w : World) (g k : Nat) (b : Sb) (h : k ≠ g) : (put8 w g b).heap[k]? = w.heap[k]? := by
 unfold put8
 rw [blk_setCell_other _ _ _ _ h, blk_setCell_other _ _ _ _ h, blk_setCell_other _ _ _ _ h, blk_setCell_other _ _ _ _ h, blk_setCell_other _ _ _ _ h, blk_setCell_other _ _ _ _ h, blk_setCell_other _ _ _ _ h]
theorem put8_dv {w : World} {d g : Nat} {F : List Nat} {S : Dv} (h : DvAt w d F S) (hg : g ∉ F) (b : Sb) : DvAt (put8 w g b) d F S :=
 h.same (fun k hk => put8_far _ _ _ _ (fun e => hg (e ▸ hk)))
theorem put8_blk {w : World} {x d : Nat} {E : En} {jp sp lp mp : Value} (h : Blk w x (enL d E jp sp lp mp) 104) (b : Sb) : Blk (put8 w x b) x (enL d { E with b := b } jp sp lp mp) 104 :=
 ((((((h.set 2 _).set 3 _).set 4 _).set 5 _).set 6 _).set 7 _).set 8 _
section
variable {w : World} {x d : Nat} {F : List Nat} {S : Dv} {E : En} {jp sp lp mp : Value}
theorem set_done (hb : Blk w x (enL d E jp sp lp mp) 104) (h : DvAt w d F S) (hl : S.losses ≠ E.losses) (b : Sb) :
  Calls Tryz.prog 35 #[.pointer (some ⟨x, 0, none⟩), b.val] w fun e w' => e = .returned (.int .i64 4) /\ Below w.heap.size w w' := by
 have hA := hb.same (w' := w.alloc (.cells #[.int .u64 b.seq, .int .u64 b.epoch, .int .u64 b.res, .int .u64 b.hor, .int .u64 b.gen, .bool b.clean, .int .i64 b.image] 30)) (blk_alloc_lt _ _ _ hb.lt)
 have cD := hide (done_any hA (h.alloc _))
 have B := hide ((Below.refl w.heap.size w).alloc (Nat.le_refl _) (.cells #[.int .u64 b.seq, .int .u64 b.epoch, .int .u64 b.res, .int .u64 b.hor, .int .u64 b.gen, .bool b.clean, .int .i64 b.image] 30))
 have hne : (S.losses != E.losses) = true := by simpa using hl
 clear hA hb h hl
 unfold Sb.val
 go_enter Tryz.func35, Tryz.ntmps35
 go_wp2_with fail
 refine cD.out.mono ?_
 rintro r w1 ⟨rfl, q, rfl⟩
 rw [hne]
 clear cD
 go_wp2
 go_ret
 exact ⟨rfl, below_q B.out q⟩
theorem set_go (hb : Blk w x (enL d E jp sp lp mp) 104) (h : DvAt w d F S) (hx : x ∉ F) (hl : S.losses = E.losses) (b : Sb) (hf : b.fits) :
  Calls Tryz.prog 35 #[.pointer (some ⟨x, 0, none⟩), b.val] w fun e w' => e = .returned (.int .i64 S.storeE) /\ ∃ F', DvAt w' d F' (S.storeDo b) /\ Blk w' x (enL d (if S.storeE = 0 then { E with b := S.storeB b } else E) jp sp lp mp) 104 /\ Keep (x :: F) w w' /\ ∀ k ∈ F', k ∈ F \/ w.heap.size <= k := by
 have hA := hb.same (w' := w.alloc (.cells #[.int .u64 b.seq, .int .u64 b.epoch, .int .u64 b.res, .int .u64 b.hor, .int .u64 b.gen, .bool b.clean, .int .i64 b.image] 30)) (blk_alloc_lt _ _ _ hb.lt)
 have hB : Blk (w.alloc (.cells #[.int .u64 b.seq, .int .u64 b.epoch, .int .u64 b.res, .int .u64 b.hor, .int .u64 b.gen, .bool b.clean, .int .i64 b.image] 30)) w.heap.size (bkL b) 30 := Blk.new w (bkL b) 30
 have hD := h.alloc (.cells #[.int .u64 b.seq, .int .u64 b.epoch, .int .u64 b.res, .int .u64 b.hor, .int .u64 b.gen, .bool b.clean, .int .i64 b.image] 30)
 have cD := hide (done_any hA hD)
 have hg : w.heap.size ∉ F := h.new _ (Nat.le_refl _)
 have hxw := hb.lt
 have cS : Hid (∀ q, Calls Tryz.prog 87 #[.pointer (some ⟨d, 0, none⟩), .agg #[.int .u64 b.seq, .int .u64 b.epoch, .int .u64 b.res, .int .u64 b.hor, .int .u64 b.gen, .bool b.clean, .int .i64 b.image]] (((w.alloc (.cells #[.int .u64 b.seq, .int .u64 b.epoch, .int .u64 b.res, .int .u64 b.hor, .int .u64 b.gen, .bool b.clean, .int .i64 b.image] 30)).drewN q).drew) fun e w' => e = .returned (bkV (S.storeB b) S.storeE) /\ ∃ F', DvAt w' d F' (S.storeDo b) /\ Moves F F' (((w.alloc (.cells #[.int .u64 b.seq, .int .u64 b.epoch, .int .u64 b.res, .int .u64 b.hor, .int .u64 b.gen, .bool b.clean, .int .i64 b.image] 30)).drewN q).drew) w') := fun q => store_any d F S b hf _ (hD.same (fun _ _ => rfl))
 have hne : (S.losses != E.losses) = false := by simpa using hl
 have K0 : Hid (Keep F w (w.alloc (.cells #[.int .u64 b.seq, .int .u64 b.epoch, .int .u64 b.res, .int .u64 b.hor, .int .u64 b.gen, .bool b.clean, .int .i64 b.image] 30))) := (Keep.refl F w).alloc _
 have HA := hide hA
 have HB := hide hB
 have hsz : (w.alloc (.cells #[.int .u64 b.seq, .int .u64 b.epoch, .int .u64 b.res, .int .u64 b.hor, .int .u64 b.gen, .bool b.clean, .int .i64 b.image] 30)).heap.size = w.heap.size + 1 := nblk_alloc _ _
 have HN := hide hsz
 have HG := hide hg
 have HX := hide hx
 have HW := hide hxw
 clear hA hb h hl hD hB hf hsz hg hx hxw
 unfold Sb.val
 obtain ⟨nb, hnb⟩ : ∃ nb, S.storeB b = nb := ⟨_, rfl⟩
 obtain ⟨er, her⟩ : ∃ er, S.storeE = er := ⟨_, rfl⟩
 have NBE := hide hnb
 have ERE := hide her
 rw [her, hnb]
 clear hnb her
 go_enter Tryz.func35, Tryz.ntmps35
 go_wp2_with fail
 refine cD.out.mono ?_
 rintro r w1 ⟨rfl, q, rfl⟩
 rw [hne]
 clear cD hne
 go_wp2_with fail
 have C0 := hide (HA.out.cell (i := 0) rfl)
 have CS : Hid (∀ W', SetC (((w.alloc (.cells #[.int .u64 b.seq, .int .u64 b.epoch, .int .u64 b.res, .int .u64 b.hor, .int .u64 b.gen, .bool b.clean, .int .i64 b.image] 30)).drewN q).drew) d F S b w.heap.size 0 W' -> Calls Tryz.prog 87 #[.pointer (some ⟨d, 0, none⟩), .agg #[.int .u64 b.seq, .int .u64 b.epoch, .int .u64 b.res, .int .u64 b.hor, .int .u64 b.gen, .bool b.clean, .int .i64 b.image]] W' fun e w' => e = .returned (.tuple #[.agg #[.int .u64 nb.seq, .int .u64 nb.epoch, .int .u64 nb.res, .int .u64 nb.hor, .int .u64 nb.gen, .bool nb.clean, .int .i64 nb.image], .int .i64 er]) /\ SetC (((w.alloc (.cells #[.int .u64 b.seq, .int .u64 b.epoch, .int .u64 b.res, .int .u64 b.hor, .int .u64 b.gen, .bool b.clean, .int .i64 b.image] 30)).drewN q).drew) d F S b w.heap.size 1 w') := fun W' hW => by
  cases (show W' = _ from hW)
  refine (cS.out q).mono ?_
  rintro e w' ⟨rfl, hF⟩
  refine ⟨?_, hF⟩
  rw [NBE.out, ERE.out]
  rfl
 have x9 : ∀ W', SetC (((w.alloc (.cells #[.int .u64 b.seq, .int .u64 b.epoch, .int .u64 b.res, .int .u64 b.hor, .int .u64 b.gen, .bool b.clean, .int .i64 b.image] 30)).drewN q).drew) d F S b w.heap.size 1 W' -> Blk W' w.heap.size (bkL b) 30 := fun W' hW => by
  obtain ⟨F', hd, hm⟩ := hW
  exact (HB.out).same (hm.keep.block _ (by show _ < (w.alloc _).heap.size; rw [HN.out]; omega) HG.out)
 have x9c : ∀ W', SetC (((w.alloc (.cells #[.int .u64 b.seq, .int .u64 b.epoch, .int .u64 b.res, .int .u64 b.hor, .int .u64 b.gen, .bool b.clean, .int .i64 b.image] 30)).drewN q).drew) d F S b w.heap.size 1 W' -> SetC (((w.alloc (.cells #[.int .u64 b.seq, .int .u64 b.epoch, .int .u64 b.res, .int .u64 b.hor, .int .u64 b.gen, .bool b.clean, .int .i64 b.image] 30)).drewN q).drew) d F S b w.heap.size 2 (put7 W' w.heap.size nb) := fun W' hW => by
  obtain ⟨F', hd, hm⟩ := hW
  exact ⟨W', F', hd, hm, by rw [NBE.out]⟩
 refine wp_region_chain (by kernel_rfl) (by kernel_rfl) (fun jx => ([.pointer (some ⟨x, 0, none⟩), .pointer (some ⟨x, 0, none⟩), .pointer (some ⟨x, 0, none⟩), .pointer (some ⟨d, 0, none⟩), .agg #[.int .u64 b.seq, .int .u64 b.epoch, .int .u64 b.res, .int .u64 b.hor, .int .u64 b.gen, .bool b.clean, .int .i64 b.image], .tuple #[.agg #[.int .u64 nb.seq, .int .u64 nb.epoch, .int .u64 nb.res, .int .u64 nb.hor, .int .u64 nb.gen, .bool nb.clean, .int .i64 nb.image], .int .i64 er], .tuple #[.agg #[.int .u64 nb.seq, .int .u64 nb.epoch, .int .u64 nb.res, .int .u64 nb.hor, .int .u64 nb.gen, .bool nb.clean, .int .i64 nb.image], .int .i64 er], .agg #[.int .u64 nb.seq, .int .u64 nb.epoch, .int .u64 nb.res, .int .u64 nb.hor, .int .u64 nb.gen, .bool nb.clean, .int .i64 nb.image], .int .i64 er, undef, .int .i64 er] : List Value).getD jx undef) [5, 9] (by kernel_rfl) (SetC (((w.alloc (.cells #[.int .u64 b.seq, .int .u64 b.epoch, .int .u64 b.res, .int .u64 b.hor, .int .u64 b.gen, .bool b.clean, .int .i64 b.image] 30)).drewN q).drew) d F S b w.heap.size) (rfl) ?_ ?_
 ·intro jx ox hi sx w' ev hlm hks hc hin hout hcst hfn
  have hltx : jx < 11 := by
   have := (Array.getElem?_eq_some_iff.1 hi).1
   simpa using this
  match jx, hltx with
  | 0, _ =>
   cases hi
   have e0 : ev (.tmp 0) = .pointer (some ⟨x, 0, none⟩) := hout 0
   rw [if_neg (by decide)]
   refine .inl ⟨w', ?_, hc⟩
   simp [execOp, e0, hcst, go_sem]
  | 1, _ =>
   cases hi
   have e0 : ev (.tmp 9) = .pointer (some ⟨x, 0, none⟩) := hin 9 0 ⟨0, .data⟩
   rw [if_neg (by decide)]
   refine .inl ⟨w', ?_, hc⟩
   simp [execOp, e0, hcst, go_sem]
  | 2, _ =>
   cases hi
   have e0 : ev (.tmp 10) = .pointer (some ⟨x, 0, none⟩) := hin 10 1 ⟨1, .data⟩
   rw [if_neg (by decide)]
   refine .inl ⟨w', ?_, hc⟩
   simp [execOp, e0, hcst, go_sem]
  | 3, _ =>
   cases hi
   have e0 : ev (.tmp 11) = .pointer (some ⟨x, 0, none⟩) := hin 11 2 ⟨2, .data⟩
   rw [if_neg (by decide)]
   refine .inl ⟨w', ?_, hc⟩
   show _ = Result.ok (Next.value (.pointer (some ⟨d, 0, none⟩))) w'
   have hl2 : sx <= 0 := Nat.le_trans hlm (Nat.le_of_eq (by kernel_rfl))
   have hs0 : sx = 0 := by omega
   subst hs0
   have hq : w'.cell? ⟨x, 0, none⟩ = some (.pointer (some ⟨d, 0, none⟩)) := by rw [show w' = _ from hc]; exact C0.out
   simp [execOp, e0, hq, hcst, go_sem]
  | 4, _ =>
   cases hi
   have e0 : ev (.tmp 3) = .pointer (some ⟨w.heap.size, 0, none⟩) := hout 3
   rw [if_neg (by decide)]
   refine .inl ⟨w', ?_, hc⟩
   show _ = Result.ok (Next.value (.agg #[.int .u64 b.seq, .int .u64 b.epoch, .int .u64 b.res, .int .u64 b.hor, .int .u64 b.gen, .bool b.clean, .int .i64 b.image])) w'
   have hl2 : sx <= 0 := Nat.le_trans hlm (Nat.le_of_eq (by kernel_rfl))
   have hs0 : sx = 0 := by omega
   subst hs0
   obtain ⟨y0, y1, y2, y3, y4, y5, y6, _⟩ := cells7 (show Blk w' w.heap.size (bkL b) 30 by rw [show w' = _ from hc]; exact HB.out)
   simp [execOp, e0, hcst, go_sem, *]
  | 5, _ =>
   cases hi
   have e0 : ev (.tmp 12) = .pointer (some ⟨d, 0, none⟩) := hin 12 3 ⟨3, .data⟩
   have e1 : ev (.tmp 13) = .agg #[.int .u64 b.seq, .int .u64 b.epoch, .int .u64 b.res, .int .u64 b.hor, .int .u64 b.gen, .bool b.clean, .int .i64 b.image] := hin 13 4 ⟨4, .data⟩
   rw [if_pos (by decide)]
   have hsx : sx = 0 := hks 0 rfl
   subst hsx
   refine .inr (.inr ⟨87, #[.pointer (some ⟨d, 0, none⟩), .agg #[.int .u64 b.seq, .int .u64 b.epoch, .int .u64 b.res, .int .u64 b.hor, .int .u64 b.gen, .bool b.clean, .int .i64 b.image]], ?_, ?_⟩)
   ·have ef := hfn 87
    simp [execOp, resolve, invoke, ef, hcst, e0, e1, Result.andThen]
    exact enz87 _ _
   ·exact CS.out w' hc
  | 6, _ =>
   cases hi
   have e0 : ev (.tmp 14) = .tuple #[.agg #[.int .u64 nb.seq, .int .u64 nb.epoch, .int .u64 nb.res, .int .u64 nb.hor, .int .u64 nb.gen, .bool nb.clean, .int .i64 nb.image], .int .i64 er] := hin 14 5 ⟨5, .data⟩
   rw [if_neg (by decide)]
   refine .inl ⟨w', ?_, hc⟩
   simp [execOp, e0, hcst, go_sem]
  | 7, _ =>
   cases hi
   have e0 : ev (.tmp 8) = .tuple #[.agg #[.int .u64 nb.seq, .int .u64 nb.epoch, .int .u64 nb.res, .int .u64 nb.hor, .int .u64 nb.gen, .bool nb.clean, .int .i64 nb.image], .int .i64 er] := hin 8 6 ⟨6, .data⟩
   rw [if_neg (by decide)]
   refine .inl ⟨w', ?_, hc⟩
   simp [execOp, e0, hcst, go_sem]
  | 8, _ =>
   cases hi
   have e0 : ev (.tmp 8) = .tuple #[.agg #[.int .u64 nb.seq, .int .u64 nb.epoch, .int .u64 nb.res, .int .u64 nb.hor, .int .u64 nb.gen, .bool nb.clean, .int .i64 nb.image], .int .i64 er] := hin 8 6 ⟨6, .data⟩
   rw [if_neg (by decide)]
   refine .inl ⟨w', ?_, hc⟩
   simp [execOp, e0, hcst, go_sem]
  | 9, _ =>
   cases hi
   have e0 : ev (.tmp 3) = .pointer (some ⟨w.heap.size, 0, none⟩) := hout 3
   have e1 : ev (.tmp 15) = .agg #[.int .u64 nb.seq, .int .u64 nb.epoch, .int .u64 nb.res, .int .u64 nb.hor, .int .u64 nb.gen, .bool nb.clean, .int .i64 nb.image] := hin 15 7 ⟨7, .data⟩
   rw [if_pos (by decide)]
   have hsx : sx = 1 := hks 1 rfl
   subst hsx
   obtain ⟨W1, hW1⟩ : ∃ W1, w' = W1 := ⟨_, rfl⟩
   subst hW1
   obtain ⟨y0, y1, y2, y3, y4, y5, y6, g0, g1, g2, g3, g4, g5, g6⟩ := cells7 (x9 w' hc)
   refine .inr (.inl ⟨rfl, put7 w' w.heap.size nb, ?_, x9c w' hc⟩)
   simp [execOp, e0, e1, hcst, go_sem, put7, *]
  | 10, _ =>
   cases hi
   have e0 : ev (.tmp 16) = .int .i64 er := hin 16 8 ⟨8, .data⟩
   rw [if_neg (by decide)]
   refine .inl ⟨w', ?_, hc⟩
   simp [execOp, e0, hcst, go_sem]
 ·intro w7 hc
  simp only [lexF, Act.put, List.setIfInBounds_toArray, List.set_cons_succ, List.set_cons_zero, List.getD_cons_succ, List.getD_cons_zero]
  obtain ⟨W1, F', hd, hm, hw7⟩ : ∃ W1 F', DvAt W1 d F' (S.storeDo b) /\ Moves F F' (((w.alloc (.cells #[.int .u64 b.seq, .int .u64 b.epoch, .int .u64 b.res, .int .u64 b.hor, .int .u64 b.gen, .bool b.clean, .int .i64 b.image] 30)).drewN q).drew) W1 /\ w7 = put7 W1 w.heap.size (S.storeB b) := hc
  rw [NBE.out] at hw7
  have hgF : w.heap.size ∉ F' := fun hk => by
   rcases hm.foot _ hk with h1 | h1
   ·exact HG.out h1
   ·have h2 : (w.alloc (.cells #[.int .u64 b.seq, .int .u64 b.epoch, .int .u64 b.res, .int .u64 b.hor, .int .u64 b.gen, .bool b.clean, .int .i64 b.image] 30)).heap.size <= w.heap.size := h1
    rw [HN.out] at h2; omega
  have hB1 := x9 W1 ⟨F', hd, hm⟩
  have hX1 : Blk W1 x (enL d E jp sp lp mp) 104 := HA.out.same (hm.keep.block _ (by show x < (w.alloc (.cells #[.int .u64 b.seq, .int .u64 b.epoch, .int .u64 b.res, .int .u64 b.hor, .int .u64 b.gen, .bool b.clean, .int .i64 b.image] 30)).heap.size; rw [HN.out]; have := HW.out; omega) HX.out)
  have hxg : x ≠ w.heap.size := by have := HW.out; omega
  have hB7 : Blk w7 w.heap.size (bkL nb) 30 := by rw [hw7]; exact put7_blk hB1 nb
  have hX7 : Blk w7 x (enL d E jp sp lp mp) 104 := hX1.same (by rw [hw7]; exact put7_far _ _ _ _ hxg)
  have hD7 : DvAt w7 d F' (S.storeDo b) := by rw [hw7]; exact put7_dv hd hgF nb
  have hK7 : Keep F w w7 := by
   rw [hw7]
   have k1 : Keep F w (((w.alloc (.cells #[.int .u64 b.seq, .int .u64 b.epoch, .int .u64 b.res, .int .u64 b.hor, .int .u64 b.gen, .bool b.clean, .int .i64 b.image] 30)).drewN q).drew) := ⟨K0.out.os, K0.out.tape, K0.out.output, K0.out.size, K0.out.block⟩
   exact put7_keep (k1.trans hm.keep (fun k hk => .inl hk)) (.inr (Nat.le_refl _)) nb
  have hF' : ∀ k ∈ F', k ∈ F \/ w.heap.size <= k := fun k hk => by
   rcases hm.foot k hk with h1 | h1
   ·exact .inl h1
   ·have h2 : (w.alloc (.cells #[.int .u64 b.seq, .int .u64 b.epoch, .int .u64 b.res, .int .u64 b.hor, .int .u64 b.gen, .bool b.clean, .int .i64 b.image] 30)).heap.size <= k := h1
    rw [HN.out] at h2; exact .inr (by omega)
  have hxF' : x ∉ F' := fun hk => by
   rcases hF' _ hk with h1 | h1
   ·exact HX.out h1
   ·have := HW.out; omega
  have HX7 := hide hX7
  have HD7 := hide hD7
  have HK7 := hide hK7
  have HF' := hide hF'
  have HXF := hide hxF'
  obtain ⟨y0, y1, y2, y3, y4, y5, y6, g0, g1, g2, g3, g4, g5, g6⟩ := cells7 hB7
  clear hw7 hgF hB1 hX1 hB7 hD7 hK7 hF' hxF' hd hm x9 x9c CS C0 cS K0 HA HB HN HG NBE ERE hxg
  by_cases hz : er = 0
  ·subst hz
   have f2 := hX7.frozen 2
   have f3 := hX7.frozen 3
   have f4 := hX7.frozen 4
   have f5 := hX7.frozen 5
   have f6 := hX7.frozen 6
   have f7 := hX7.frozen 7
   have f8 := hX7.frozen 8
   have d2 := hX7.cell (i := 2) rfl
   have d3 := hX7.cell (i := 3) rfl
   have d4 := hX7.cell (i := 4) rfl
   have d5 := hX7.cell (i := 5) rfl
   have d6 := hX7.cell (i := 6) rfl
   have d7 := hX7.cell (i := 7) rfl
   have d8 := hX7.cell (i := 8) rfl
   clear hX7
   go_wp2
   go_ret
   refine ⟨rfl, F', ?_, ?_, ?_, HF'.out⟩
   ·exact put8_dv HD7.out HXF.out nb
   ·exact put8_blk HX7.out nb
   ·exact put8_keep (HK7.out.mono (fun k hk => .inl (List.mem_cons_of_mem _ hk))) (.inl (List.mem_cons_self ..)) nb
  ·have hne : (er != 0) = true := by simpa using hz
   have hnq : ¬ er = 0 := hz
   clear hX7
   go_wp2
   go_ret
   exact ⟨rfl, F', HD7.out, HX7.out, HK7.out.mono (fun k hk => .inl (List.mem_cons_of_mem _ hk)), HF'.out⟩
end
def En.setE (E : En) (S : Dv) : Int := if S.losses = E.losses then S.storeE else 4
def En.setD (E : En) (S : Dv) (b : Sb) : Dv := if S.losses = E.losses then S.storeDo b else S
def En.setB (E : En) (S : Dv) (b : Sb) : En := if E.setE S = 0 then { E with b := S.storeB b } else E
def SetPost (w : World) (x d : Nat) (F : List Nat) (S : Dv) (E : En) (jp sp lp mp : Value) (b : Sb) (w' : World) : Prop :=
 ∃ F', DvAt w' d F' (E.setD S b) /\ Blk w' x (enL d (E.setB S b) jp sp lp mp) 104 /\ Keep (x :: F) w w' /\ ∀ k ∈ F', k ∈ F \/ w.heap.size <= k
section
variable {w : World} {x d : Nat} {F : List Nat} {S : Dv} {E : En} {jp sp lp mp : Value}
theorem set_any (hb : Blk w x (enL d E jp sp lp mp) 104) (h : DvAt w d F S) (hx : x ∉ F) (b : Sb) (hf : b.fits) :
  Calls Tryz.prog 35 #[.pointer (some ⟨x, 0, none⟩), b.val] w fun e w' => e = .returned (.int .i64 (E.setE S)) /\ SetPost w x d F S E jp sp lp mp b w' := by
 by_cases hl : S.losses = E.losses
 ·refine (set_go hb h hx hl b hf).mono ?_
  rintro e w' ⟨rfl, F', h1, h2, h3, h4⟩
  have e1 : E.setE S = S.storeE := if_pos hl
  have e2 : E.setD S b = S.storeDo b := if_pos hl
  have e3 : E.setB S b = if S.storeE = 0 then { E with b := S.storeB b } else E := by unfold En.setB; rw [e1]
  exact ⟨by rw [e1], F', by rw [e2]; exact h1, by rw [e3]; exact h2, h3, h4⟩
 ·refine (set_done hb h hl b).mono ?_
  rintro e w' ⟨rfl, hB⟩
  have e1 : E.setE S = 4 := if_neg hl
  have e2 : E.setD S b = S := if_neg hl
  have e3 : E.setB S b = E := by unfold En.setB; rw [e1]; exact if_neg (by decide)
  exact ⟨by rw [e1], F, by rw [e2]; exact h.below hB, by rw [e3]; exact hb.same (hB.block _ hb.lt), Keep.of_below hB, fun k hk => .inl hk⟩
theorem version_near (hb : Blk w x (enL d E jp sp lp mp) 104) (hl : E.last < 18446744073709551615) (hn : E.last ≠ E.b.res) :
  Calls Tryz.prog 23 #[.pointer (some ⟨x, 0, none⟩)] w fun e w' => e = .returned (.tuple #[.int .u64 ((E.last + 1 : Nat) : Int), .int .i64 0]) /\ Blk w' x (enL d { E with last := E.last + 1 } jp sp lp mp) 104 /\ Keep [x] w w' := by
 have c9 := hb.cell (i := 9) rfl
 have c4 := hb.cell (i := 4) rfl
 have f9 := hb.frozen 9
 have HB := hide hb
 have e1 : ((E.last : Int) == 18446744073709551615) = false := by simp; omega
 have e2 : ((E.last : Int) == (E.b.res : Int)) = false := by simp; omega
 have e1' : ¬ (E.last : Int) = 18446744073709551615 := by omega
 have e2' : ¬ (E.last : Int) = (E.b.res : Int) := by omega
 have e3 : ((E.last : Int) + 1) % 18446744073709551616 = (E.last : Int) + 1 := by omega
 clear hb hl hn
 go_enter Tryz.func23, Tryz.ntmps23
 go_wp2_with fail
 go_quiet (fail)
 go_wp2
 refine bodyPost_ret (v := .tuple #[.int .u64 ((E.last : Int) + 1), .int .i64 0]) (by simp [results, Tryz.results23, go_sem]) rfl ⟨rfl, ?_, ?_⟩
 ·exact (HB.out.same (w' := w.drewN nq) rfl).set 9 (.int .u64 ((E.last : Int) + 1))
 ·exact (keep_q w nq).setCell (p := ⟨x, 9, none⟩) (.inl (List.mem_singleton.2 rfl)) _
def Sb.more (b : Sb) : Sb := { b with res := b.res + min 64 (18446744073709551615 - b.res) }
theorem Sb.more_fits {b : Sb} (h : b.fits) : b.more.fits := ⟨h.seq, h.epoch, by show b.res + min 64 (18446744073709551615 - b.res) < _; have := h.res; omega, h.hor, h.gen, h.image0, h.image1⟩
theorem version_far (hb : Blk w x (enL d E jp sp lp mp) 104) (h : DvAt w d F S) (hx : x ∉ F) (hf : E.b.fits) (hl : E.last < 18446744073709551615) (hn : E.last = E.b.res) :
  Calls Tryz.prog 23 #[.pointer (some ⟨x, 0, none⟩)] w fun e w' => e = .returned (if E.setE S = 0 then .tuple #[.int .u64 ((E.last + 1 : Nat) : Int), .int .i64 0] else .tuple #[.int .u64 0, .int .i64 (E.setE S)]) /\ ∃ F', DvAt w' d F' (E.setD S E.b.more) /\ Blk w' x (enL d (if E.setE S = 0 then { E.setB S E.b.more with last := E.last + 1 } else E) jp sp lp mp) 104 /\ Keep (x :: F) w w' /\ ∀ k ∈ F', k ∈ F \/ w.heap.size <= k := by
 have c9 := hb.cell (i := 9) rfl
 have c2 := hb.cell (i := 2) rfl
 have c3 := hb.cell (i := 3) rfl
 have c4 := hb.cell (i := 4) rfl
 have c5 := hb.cell (i := 5) rfl
 have c6 := hb.cell (i := 6) rfl
 have c7 := hb.cell (i := 7) rfl
 have c8 := hb.cell (i := 8) rfl
 rw [hn] at c9
 have HB := hide hb
 have H := hide h
 have HX := hide hx
 have HF := hide hf
 have HN := hide hn
 have e1 : ((E.b.res : Int) == 18446744073709551615) = false := by simp; omega
 have e1' : ¬ (E.b.res : Int) = 18446744073709551615 := by omega
 have e4 : (18446744073709551615 - (E.b.res : Int)) % 18446744073709551616 = 18446744073709551615 - (E.b.res : Int) := by omega
 clear hb hl hn h hx hf
 obtain ⟨er, her⟩ : ∃ er, E.setE S = er := ⟨_, rfl⟩
 obtain ⟨E1, hE1⟩ : ∃ E1, E.setB S E.b.more = E1 := ⟨_, rfl⟩
 have HER := hide her
 have HE1 := hide hE1
 rw [her, hE1]
 clear her hE1
 go_enter Tryz.func23, Tryz.ntmps23
 go_wp2_with fail
 go_quiet (fail)
 have HBq := HB.out.same (w' := w.drewN nq) rfl
 have Kq := hide (keep_q (F := []) w nq)
 have Hq : Hid (DvAt (w.drewN nq) d F S) := H.out.same (fun _ _ => rfl)
 have hszq : Hid ((w.drewN nq).heap.size = w.heap.size) := rfl
 clear c9 c2 c3 c4 c5 c6 c7 c8
 generalize w.drewN nq = W at *
 have c9 := HBq.cell (i := 9) rfl
 have c2 := HBq.cell (i := 2) rfl
 have c3 := HBq.cell (i := 3) rfl
 have c4 := HBq.cell (i := 4) rfl
 have c5 := HBq.cell (i := 5) rfl
 have c6 := HBq.cell (i := 6) rfl
 have c7 := HBq.cell (i := 7) rfl
 have c8 := HBq.cell (i := 8) rfl
 have HBW := hide HBq
 clear HBq
 go_wp2_with fail
 have e5 : ((E.b.res : Int) + min 64 (18446744073709551615 - (E.b.res : Int))) = ((E.b.more.res : Nat) : Int) := by
  have := HF.out.res
  show _ = (((E.b.res + min 64 (18446744073709551615 - E.b.res)) : Nat) : Int)
  omega
 rw [e5]
 have KA : Hid (Keep [] w (W.alloc (.cells #[.int .u64 E.b.seq, .int .u64 E.b.epoch, .int .u64 E.b.more.res, .int .u64 E.b.hor, .int .u64 E.b.gen, .bool E.b.clean, .int .i64 E.b.image] 30))) := Kq.out.alloc _
 have hDA : DvAt (W.alloc (.cells #[.int .u64 E.b.seq, .int .u64 E.b.epoch, .int .u64 E.b.more.res, .int .u64 E.b.hor, .int .u64 E.b.gen, .bool E.b.clean, .int .i64 E.b.image] 30)) d F S := Hq.out.alloc _
 have hBA : Blk (W.alloc (.cells #[.int .u64 E.b.seq, .int .u64 E.b.epoch, .int .u64 E.b.more.res, .int .u64 E.b.hor, .int .u64 E.b.gen, .bool E.b.clean, .int .i64 E.b.image] 30)) x (enL d E jp sp lp mp) 104 := HBW.out.same (blk_alloc_lt _ _ _ HBW.out.lt)
 refine (set_any hBA hDA HX.out E.b.more (Sb.more_fits HF.out)).mono ?_
 rintro r w1 ⟨rfl, F', hd1, hb1, hk1, hf1⟩
 rw [HER.out]
 rw [HE1.out] at hb1
 have hlast : E1.last = E.last := by rw [<- HE1.out]; unfold En.setB; split <;> rfl
 have hK : Keep (x :: F) w w1 := (KA.out.mono (fun k hk => by cases hk)).trans hk1 (fun k hk => .inl hk)
 have hF : ∀ k ∈ F', k ∈ F \/ w.heap.size <= k := fun k hk => by
  rcases hf1 k hk with h1 | h1
  ·exact .inl h1
  ·exact .inr (Nat.le_trans KA.out.size h1)
 have HD1 := hide hd1
 have HK1 := hide hK
 have HF1 := hide hF
 have HB1 := hide hb1
 have HX1 : Hid (er ≠ 0 -> E1 = E) := fun hz => by rw [<- HE1.out]; exact if_neg (by rw [HER.out]; exact hz)
 clear c9 c2 c3 c4 c5 c6 c7 c8 hd1 hK hF hk1 hf1 hDA hBA KA e5 e4
 by_cases hz : er = 0
 ·subst hz
  have c9 := hb1.cell (i := 9) rfl
  rw [hlast] at c9
  have f9 := hb1.frozen 9
  have hl2 : (E.last : Int) ≠ 18446744073709551615 := by rw [HN.out]; exact e1'
  have hl3 : E.last < 18446744073709551616 := by rw [HN.out]; exact HF.out.res
  have e3 : ((E.last : Int) + 1) % 18446744073709551616 = (E.last : Int) + 1 := by omega
  clear hb1 hlast hl2 hl3 HX1 HER HE1
  go_wp2
  refine bodyPost_ret (v := .tuple #[.int .u64 ((E.last : Int) + 1), .int .i64 0]) (by simp [results, Tryz.results23, go_sem]) rfl ⟨rfl, F', ?_, ?_, ?_, HF1.out⟩
  ·exact HD1.out.same (fun k hk => blk_setCell_other _ _ _ _ (fun e => by
    rcases HF1.out k hk with h1 | h1
    ·exact HX.out (by rw [show k = x from e] at h1; exact h1)
    ·have := HB.out.lt; rw [show k = x from e] at h1; exact absurd this (by omega)))
  ·exact HB1.out.set 9 (.int .u64 ((E.last : Int) + 1))
  ·exact HK1.out.setCell (p := ⟨x, 9, none⟩) (.inl (List.mem_cons_self ..)) _
 ·have hne : (er != 0) = true := by simpa using hz
  rw [HX1.out hz] at HB1
  clear hb1 hlast HX1 HER HE1
  go_wp2
  exact bodyPost_ret (v := .tuple #[.int .u64 0, .int .i64 er]) (by simp [results, Tryz.results23, go_sem]) rfl ⟨by simp [hz], F', HD1.out, by simpa [hz] using HB1.out, HK1.out, HF1.out⟩
end
end Go.Proofs.YtcdghalnneilpaaGreat
