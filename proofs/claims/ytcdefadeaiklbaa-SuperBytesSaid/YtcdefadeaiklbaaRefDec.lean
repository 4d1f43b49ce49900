/- The document's own 'Decode'. -/
import Derived.Test.YtcdefadeaiklbaaRefEnc
import Derived.Deep.RegionHeld
import Derived.Deep.RegionHeld3
set_option linter.unusedVariables false
set_option linter.unusedSimpArgs false
set_option maxRecDepth 8000
namespace Go.Proofs.Ytcdefadeaiklbaa
open Go.RowKit Go.Deep Math

theorem idx_str (s : ByteArray) (k : Nat) (h : k < s.size) (W : World) : (Instr.index 9 (.string s) (.int .i64 (k : Nat))).run Try.prog W = .ok (.int .u8 ((s[k]'h).toNat : Int)) W := by
  simp [Instr.index, run_underlying Try.underlying9, asIntOf, go_sem, h]
def bkB (b : Bk) (e : Bool) : Value := .tuple #[.agg #[.int .u64 b.seq, .int .u64 b.epoch, .int .u64 b.res, .int .u64 b.hor, .int .u64 b.gen, .bool b.clean, .int .i64 b.image], .bool e]
def decB2 : Option Bk → Value
  | none => bkB Bk.zero false
  | some b => bkB b true
set_option maxHeartbeats 1000000 in
theorem refDec_short (l : List UInt8) (w : World) (hs : l.length < 64) : Calls Try.prog 17 #[.string (txt l)] w fun e w' => e = .returned (bkB Bk.zero false) ∧ Below w.heap.size w w' := by
  have hz : (txt l).size = l.length := txt_size l
  have hlt : (((txt l).size : Int) < 64) = True := eq_true (by omega)
  clear hz hs
  generalize txt l = s at *
  go_enter Try.func17, Try.ntmps17
  go_wp2
  exact bodyPost_ret (v := bkB Bk.zero false) (by simp [results, Try.results17, go_sem, bkB, Bk.zero]) rfl ⟨rfl, (Below.refl _ _).alloc (Nat.le_refl _) _⟩

set_option maxHeartbeats 6000000 in
theorem refDec_long (l : List UInt8) (w : World) (hs : 64 ≤ l.length) (hsm : l.length ≤ 1000000) : Calls Try.prog 17 #[.string (txt l)] w fun e w' => e = .returned (decB2 (dec l)) ∧ Below w.heap.size w w' := by
  have hz : (txt l).size = l.length := txt_size l
  have hlt : (((txt l).size : Int) < 64) = False := eq_false (by omega)
  have FF := hide (decB_fits l hs)
  have DD : Hid (dec l = if (decB l).enc = l.take 64 then some (decB l) else none) := by show _ = _; unfold dec; rw [if_neg (by omega)]
  obtain ⟨U, hU⟩ : ∃ U : Nat → Nat → Nat, U = fun i j => up (sl l i j) := ⟨_, rfl⟩
  have cU : Hid (∀ (i j : Nat) (W : World), i ≤ j → (j : Int) ≤ ((txt l).size : Int) → j - i ≤ 8 → Calls Try.prog 41 #[.string ((txt l).extract i j)] W fun e w' => e = .returned (.int .u64 (U i j : Int)) ∧ w' = W) := fun i j W h1 h2 h3 => by
    rw [txt_extract, hU]
    exact up_any (sl l i j) (by rw [sl_length _ _ _ (by omega)]; exact h3) W
  have E7 : Hid ((txt l).extract 0 64 = txt (l.take 64)) := by show _ = _; rw [txt_extract]; unfold sl; rw [List.drop_zero]
  have k12 : (12 : Int) ≤ ((txt l).size : Int) := by omega
  have k20 : (20 : Int) ≤ ((txt l).size : Int) := by omega
  have k28 : (28 : Int) ≤ ((txt l).size : Int) := by omega
  have k36 : (36 : Int) ≤ ((txt l).size : Int) := by omega
  have k44 : (44 : Int) ≤ ((txt l).size : Int) := by omega
  have k44' : (44 : Int) < ((txt l).size : Int) := by omega
  have k52 : (52 : Int) ≤ ((txt l).size : Int) := by omega
  have k64 : (64 : Int) ≤ ((txt l).size : Int) := by omega
  have n44 : 44 < (txt l).size := by omega
  obtain ⟨xx, hxx⟩ : ∃ xx : Int, xx = ((l.getD 44 0).toNat : Int) := ⟨_, rfl⟩
  have hI : ∀ W : World, (Instr.index 9 (.string (txt l)) (.int .i64 44)).run Try.prog W = .ok (.int .u8 xx) W := fun W => by
    have := idx_str (txt l) 44 n44 W
    rw [txt_get l 44 (by omega) n44, ← hxx] at this
    exact this
  have hX : Hid ((xx == 1) = (decB l).clean) := by
    show _ = decide (l.getD 44 0 = 1)
    rw [hxx]
    by_cases hh : l.getD 44 0 = 1
    · rw [hh]; rfl
    · rw [decide_eq_false hh]
      have : ¬ ((l.getD 44 0).toNat : Int) = 1 := fun e => hh (UInt8.toNat_inj.1 (by simpa using (Int.ofNat.inj e)))
      simpa using this
  have hU48 : U 48 52 < 4294967296 := by
    have h1 := up_lt (sl l 48 52)
    rw [sl_length _ _ _ (by omega)] at h1
    have e : (256 : Nat) ^ (52 - 48) = 4294967296 := by decide
    rw [hU]
    show up (sl l 48 52) < _
    omega
  have hwi : IntKind.i64.wrap (U 48 52 : Int) = (U 48 52 : Int) := by rw [IntKind.wrap_i64]; omega
  have VV : Hid (U 4 12 = (decB l).seq ∧ U 12 20 = (decB l).epoch ∧ U 20 28 = (decB l).res ∧ U 28 36 = (decB l).hor ∧ U 36 44 = (decB l).gen ∧ ((U 48 52 : Nat) : Int) = (decB l).image) := by rw [hU]; exact ⟨rfl, rfl, rfl, rfl, rfl, rfl⟩
  have cE := hide (refEncode_any (decB l) FF.out)
  generalize hB : decB l = B at *
  clear hU48 hU hz hs hsm hB hxx n44 k44'
  have TE : Hid (¬ B.enc = l.take 64 → ((txt B.enc).toList == (txt (l.take 64)).toList) = false) := fun h => by rw [txt_list, txt_list]; simpa using h
  have TQ : Hid (B.enc = l.take 64 → txt B.enc = txt (l.take 64)) := fun h => by rw [h]
  generalize txt (l.take 64) = t7 at *
  generalize txt l = s at *
  generalize txt B.enc = t8 at *
  have Bz : Blk ((w.alloc (.cells #[.int .u64 0, .int .u64 0, .int .u64 0, .int .u64 0, .int .u64 0, .bool false, .int .i64 0] 37)).alloc (.cells #[.int .u64 0, .int .u64 0, .int .u64 0, .int .u64 0, .int .u64 0, .bool false, .int .i64 0] 37)) (w.heap.size + 1) (bkL Bk.zero) 37 := by
    have := Blk.new (w.alloc (.cells #[.int .u64 0, .int .u64 0, .int .u64 0, .int .u64 0, .int .u64 0, .bool false, .int .i64 0] 37)) (bkL Bk.zero) 37
    rw [nblk_alloc] at this
    exact this
  have Be : Blk ((w.alloc (.cells #[.int .u64 0, .int .u64 0, .int .u64 0, .int .u64 0, .int .u64 0, .bool false, .int .i64 0] 37)).alloc (.cells #[.int .u64 (U 4 12), .int .u64 (U 12 20), .int .u64 (U 20 28), .int .u64 (U 28 36), .int .u64 (U 36 44), .bool (xx == 1), .int .i64 (U 48 52)] 37)) (w.heap.size + 1) [.int .u64 (U 4 12), .int .u64 (U 12 20), .int .u64 (U 20 28), .int .u64 (U 28 36), .int .u64 (U 36 44), .bool (xx == 1), .int .i64 (U 48 52)] 37 := by
    have := Blk.new (w.alloc (.cells #[.int .u64 0, .int .u64 0, .int .u64 0, .int .u64 0, .int .u64 0, .bool false, .int .i64 0] 37)) [.int .u64 (U 4 12), .int .u64 (U 12 20), .int .u64 (U 20 28), .int .u64 (U 28 36), .int .u64 (U 36 44), .bool (xx == 1), .int .i64 (U 48 52)] 37
    rw [nblk_alloc] at this
    exact this
  have HBz := hide Bz
  have HBe := hide Be
  clear Bz Be
  go_enter Try.func17, Try.ntmps17
  go_wp2_with fail
  apply stage (S := fun W => Below w.heap.size w W ∧ Blk W w.heap.size (bkL Bk.zero) 37 ∧ Blk W (w.heap.size + 1) [.int .u64 (U 4 12), .int .u64 (U 12 20), .int .u64 (U 20 28), .int .u64 (U 28 36), .int .u64 (U 36 44), .bool (xx == 1), .int .i64 (U 48 52)] 37)
  · intro H
    go_region_held3 (fun W => True)
      (trivial)
      (first
        | (go_at_call 41; refine (cU.out _ _ _ (by omega) (by omega) (by omega)).mono ?_; rintro r wx ⟨rfl, rfl⟩))
    all_goals first
      | exact H _ ⟨(((Below.refl _ _).alloc (Nat.le_refl _) _).alloc (by rw [nblk_alloc]; omega) _).drew, (Blk.new w (bkL Bk.zero) 37).alloc _, HBe.out⟩
      | exact H _ ⟨((((((((((Below.refl _ _).alloc (Nat.le_refl _) _).alloc (by rw [nblk_alloc]; omega) _).setCell (Nat.le_succ _) _).setCell (Nat.le_succ _) _).setCell (Nat.le_succ _) _).setCell (Nat.le_succ _) _).setCell (Nat.le_succ _) _).setCell (Nat.le_succ _) _).setCell (Nat.le_succ _) _).drew, ((((((((Blk.new w (bkL Bk.zero) 37).alloc _).other (Nat.ne_of_lt (Nat.lt_succ_self _)) _).other (Nat.ne_of_lt (Nat.lt_succ_self _)) _).other (Nat.ne_of_lt (Nat.lt_succ_self _)) _).other (Nat.ne_of_lt (Nat.lt_succ_self _)) _).other (Nat.ne_of_lt (Nat.lt_succ_self _)) _).other (Nat.ne_of_lt (Nat.lt_succ_self _)) _).other (Nat.ne_of_lt (Nat.lt_succ_self _)) _, ((((((HBz.out.set 0 _).set 1 _).set 2 _).set 3 _).set 4 _).set 5 _).set 6 _⟩
  intro W2 hW2
  obtain ⟨v1, v2, v3, v4, v5, v6⟩ := VV.out
  rw [v1, v2, v3, v4, v5, v6, hX.out] at hW2
  rw [v1, v2, v3, v4, v5, v6, hX.out]
  clear v1 v2 v3 v4 v5 v6 VV HBz HBe hwi cU hI hX
  have bx : Blk W2 (w.heap.size + 1) (bkL B) 37 := hW2.2.2
  obtain ⟨x0, x1, x2, x3, x4, x5, x6⟩ := cells7_at bx
  have e7 := E7.out
  have HW2 := hide hW2
  clear hW2 bx
  by_cases heq : B.enc = l.take 64
  · have DV : Hid (dec l = some B) := by show _ = _; rw [DD.out, if_pos heq]
    have e8 := TQ.out heq
    subst e8
    clear heq DD TE TQ
    go_wp2_with fail
    go_region_held (fun W => W.cell? ⟨w.heap.size + 1, 0, none⟩ = some (.int .u64 B.seq) ∧ W.cell? ⟨w.heap.size + 1, 1, none⟩ = some (.int .u64 B.epoch) ∧ W.cell? ⟨w.heap.size + 1, 2, none⟩ = some (.int .u64 B.res) ∧ W.cell? ⟨w.heap.size + 1, 3, none⟩ = some (.int .u64 B.hor) ∧ W.cell? ⟨w.heap.size + 1, 4, none⟩ = some (.int .u64 B.gen) ∧ W.cell? ⟨w.heap.size + 1, 5, none⟩ = some (.bool B.clean) ∧ W.cell? ⟨w.heap.size + 1, 6, none⟩ = some (.int .i64 B.image))
      (first | exact ⟨x0, x1, x2, x3, x4, x5, x6⟩ | assumption)
      (first | (go_at_call 15; refine (cE.out _).mono ?_; rintro r wx ⟨rfl, hbel⟩; have hb2 : Below w.heap.size w wx := HW2.out.1.drew.trans (hbel.mono HW2.out.1.size); have bz := HW2.out.2.1.same (hbel.block _ HW2.out.2.1.lt); have bx2 := HW2.out.2.2.same (hbel.block _ HW2.out.2.2.lt); have HB2 := hide hb2; have BZ := hide bz; have hS := cells7_at bx2; clear hbel hb2 bz bx2))
    obtain ⟨z0, z1, z2, z3, z4, z5, z6⟩ := cells7_at BZ.out
    have f0 := BZ.out.frozen 0
    have f1 := BZ.out.frozen 1
    have f2 := BZ.out.frozen 2
    have f3 := BZ.out.frozen 3
    have f4 := BZ.out.frozen 4
    have f5 := BZ.out.frozen 5
    have f6 := BZ.out.frozen 6
    obtain ⟨y0, y1, y2, y3, y4, y5, y6⟩ := hS
    clear x0 x1 x2 x3 x4 x5 x6 cE
    go_wp2
    rw [DV.out]
    exact bodyPost_ret (v := bkB B true) (by simp [results, Try.results17, go_sem, bkB, Bk.zero, *]) rfl ⟨rfl, ((((((HB2.out.setCell (Nat.le_refl _) _).setCell (Nat.le_refl _) _).setCell (Nat.le_refl _) _).setCell (Nat.le_refl _) _).setCell (Nat.le_refl _) _).setCell (Nat.le_refl _) _).setCell (Nat.le_refl _) _⟩
  · have DV : Hid (dec l = none) := by show _ = _; rw [DD.out, if_neg heq]
    have hne := TE.out heq
    clear heq DD TE TQ
    go_wp2_with fail
    go_region_held (fun W => W.cell? ⟨w.heap.size + 1, 0, none⟩ = some (.int .u64 B.seq) ∧ W.cell? ⟨w.heap.size + 1, 1, none⟩ = some (.int .u64 B.epoch) ∧ W.cell? ⟨w.heap.size + 1, 2, none⟩ = some (.int .u64 B.res) ∧ W.cell? ⟨w.heap.size + 1, 3, none⟩ = some (.int .u64 B.hor) ∧ W.cell? ⟨w.heap.size + 1, 4, none⟩ = some (.int .u64 B.gen) ∧ W.cell? ⟨w.heap.size + 1, 5, none⟩ = some (.bool B.clean) ∧ W.cell? ⟨w.heap.size + 1, 6, none⟩ = some (.int .i64 B.image))
      (first | exact ⟨x0, x1, x2, x3, x4, x5, x6⟩ | assumption)
      (first | (go_at_call 15; refine (cE.out _).mono ?_; rintro r wx ⟨rfl, hbel⟩; have hb2 : Below w.heap.size w wx := HW2.out.1.drew.trans (hbel.mono HW2.out.1.size); have bz := HW2.out.2.1.same (hbel.block _ HW2.out.2.1.lt); have bx2 := HW2.out.2.2.same (hbel.block _ HW2.out.2.2.lt); have HB2 := hide hb2; have BZ := hide bz; have hS := cells7_at bx2; clear hbel hb2 bz bx2))
    obtain ⟨z0, z1, z2, z3, z4, z5, z6⟩ := cells7_at BZ.out
    have f0 := BZ.out.frozen 0
    have f1 := BZ.out.frozen 1
    have f2 := BZ.out.frozen 2
    have f3 := BZ.out.frozen 3
    have f4 := BZ.out.frozen 4
    have f5 := BZ.out.frozen 5
    have f6 := BZ.out.frozen 6
    obtain ⟨y0, y1, y2, y3, y4, y5, y6⟩ := hS
    clear x0 x1 x2 x3 x4 x5 x6 cE
    go_wp2
    rw [DV.out]
    exact bodyPost_ret (v := bkB Bk.zero false) (by simp [results, Try.results17, go_sem, bkB, Bk.zero, *]) rfl ⟨rfl, ((((((HB2.out.setCell (Nat.le_refl _) _).setCell (Nat.le_refl _) _).setCell (Nat.le_refl _) _).setCell (Nat.le_refl _) _).setCell (Nat.le_refl _) _).setCell (Nat.le_refl _) _).setCell (Nat.le_refl _) _⟩

theorem refDecode_any (l : List UInt8) (hsm : l.length ≤ 1000000) (w : World) : Calls Try.prog 17 #[.string (txt l)] w fun e w' => e = .returned (decB2 (dec l)) ∧ Below w.heap.size w w' := by
  by_cases hs : l.length < 64
  · have e : dec l = none := by unfold dec; rw [if_pos hs]
    rw [e]
    exact refDec_short l w hs
  · exact refDec_long l w (by omega) hsm
end Go.Proofs.Ytcdefadeaiklbaa
