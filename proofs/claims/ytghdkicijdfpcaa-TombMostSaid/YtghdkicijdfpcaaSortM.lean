/- The sort of a row of numbers, round by round: given how long a row its parts are known for. -/
import Derived.Test.YtghdkicijdfpcaaSortL
import Derived.Test.YtghdkicijdfpcaaSortE
import Derived.Test.YtghdkicijdfpcaaSortF
import Derived.Test.YtghdkicijdfpcaaSortD
import Derived.Sort.Walk13a
import Derived.Sort.AssemblyPlain
import Derived.Deep.Cut
set_option linter.unusedVariables false
set_option linter.unusedSimpArgs false
set_option maxRecDepth 8000
namespace Go.Proofs.Ytghdkicijdfpcaa
open Go.RowKit Go.Deep Go.Sort

theorem swo64 : SWO lt64 := ⟨fun x => by simp [lt64], fun x y z h1 h2 => by simp [lt64] at h1 h2 ⊢; omega, fun x y z h1 h2 => by simp [lt64] at h1 h2 ⊢; omega⟩
/-- The parts that are known for rows shorter than L alone. -/
structure Cal (L : Nat) : Prop where
  brk : ∀ (w0 : World) (blk N cap a b : Nat) (d : Array Nat) (W : World), d.size = N → SR w0 W blk d → a + 8 ≤ b → b ≤ N → b < a + L → N ≤ 1000000 →
    Calls Try.prog 71 #[.slice (some ⟨blk, 0, none⟩) N cap, .int .i64 a, .int .i64 b] W fun e W' => e = .returned (.tuple #[]) ∧ SR w0 W' blk (Sort.breakPatterns d a b)
  piv : ∀ (w0 : World) (blk N cap a b : Nat) (d : Array Nat) (W : World), d.size = N → SR w0 W blk d → a + 8 ≤ b → b ≤ N → b < a + L → N ≤ 1000000 →
    Calls Try.prog 72 #[.slice (some ⟨blk, 0, none⟩) N cap, .int .i64 a, .int .i64 b] W fun e W' => e = .returned (.tuple #[.int .i64 ((Sort.choosePivot lt64 d a b).1 : Nat), .int .i64 (hintI (Sort.choosePivot lt64 d a b).2)]) ∧ SR w0 W' blk d
  par : ∀ (w0 : World) (blk N cap a b : Nat) (d : Array Nat) (W : World), d.size = N → SR w0 W blk d → a + 8 ≤ b → b ≤ N → b < a + L → N ≤ 1000000 →
    Calls Try.prog 74 #[.slice (some ⟨blk, 0, none⟩) N cap, .int .i64 a, .int .i64 b] W fun e W' => e = .returned (.bool (Sort.partialInsertionSort lt64 d a b).2) ∧ SR w0 W' blk (Sort.partialInsertionSort lt64 d a b).1
  len : ∀ n, n < L → ∀ w : World, Calls Try.prog 64 #[.int .u64 (n : Int)] w fun e w' => e = .returned (.int .i64 (bitsLen n : Nat)) ∧ w' = w
theorem cal32 : Cal 32 where
  len := fun n hn w => len_small n hn w
  brk := fun w0 blk N cap a b d W h1 h2 h3 h4 h5 h6 => break_short w0 blk N cap a b d W h1 h2 h3 h4 h5 h6
  piv := fun w0 blk N cap a b d W h1 h2 h3 h4 h5 h6 => pivot_short w0 blk N cap a b d W h1 h2 h3 h4 (by omega) h6
  par := fun w0 blk N cap a b d W h1 h2 h3 h4 h5 h6 => pins_short w0 blk N cap a b d W h1 h2 (by omega) h4 (by omega) h6
theorem hintI_two {h : Hint} (e : hintI h = 2) : h = .decreasing := by cases h <;> simp [hintI] at e ⊢
theorem eighth64 {x y p q : Nat} (h1 : q ≤ p) (h2 : y ≤ x) : decide (((x : Int) - (y : Int)) / 8 ≤ (p : Int) - (q : Int)) = decide (p - q ≥ (x - y) / 8) := by
  exact decide_eq_decide.2 ⟨fun h => by omega, fun h => by omega⟩

set_option maxHeartbeats 8000000 in
theorem pdq_by (L : Nat) (hL : L ≤ 1000000) (C : Cal L) : ∀ (K : Nat) (w0 : World) (blk N cap a b limit : Nat) (d : Array Nat) (W : World), b - a < K → d.size = N → SR w0 W blk d → a ≤ b → b ≤ N → b < a + L → N ≤ 1000000 → limit ≤ 2000000 → Sort.Below lt64 a b d →
    Calls Try.prog 63 #[.slice (some ⟨blk, 0, none⟩) N cap, .int .i64 a, .int .i64 b, .int .i64 limit] W fun e W' => e = .returned (.tuple #[]) ∧ SR w0 W' blk (pdq lt64 d a b limit true true) := by
  intro K
  induction K with
  | zero => intro _ _ _ _ _ _ _ _ _ h; exact absurd h (Nat.not_lt_zero _)
  | succ K ih =>
    intro w0 blk N cap a b limit d W hK hN hS hab hb hbL hsz hlimit hBel0
    have IH := hide' ih
    have S0 := hide' (show d.size = N ∧ SR w0 W blk d ∧ Sort.Below lt64 a b d from ⟨hN, hS, hBel0⟩)
    clear ih hN hS hBel0
    go_enter Try.func63, Try.ntmps63
    go_wp2_with fail
    go_loopg [1, 2, 3, 8, 9] (b - a) (fun k s1 s2 s3 s8 s9 wr => ∃ (a' b' lim : Nat) (wb wp : Bool) (dk : Array Nat), s1 = .int .i64 a' ∧ s2 = .int .i64 b' ∧ s3 = .int .i64 lim ∧ s8 = .bool wb ∧ s9 = .bool wp ∧
      a' ≤ b' ∧ b' ≤ N ∧ b' < a' + L ∧ b' - a' ≤ k ∧ k ≤ b - a ∧ lim ≤ limit ∧ Hid (dk.size = N ∧ SR w0 wr blk dk ∧ Sort.Below lt64 a' b' dk ∧ pdq lt64 dk a' b' lim wb wp = pdq lt64 d a b limit true true))
    case atStart => exact ⟨a, b, limit, true, true, d, rfl, rfl, rfl, rfl, rfl, hab, hb, hbL, Nat.le_refl _, Nat.le_refl _, Nat.le_refl _, S0.out.1, S0.out.2.1, S0.out.2.2, rfl⟩
    case round =>
      obtain ⟨a', b', lim, wb, wp, dk, rfl, rfl, rfl, rfl, rfl, hab', hb', hbL', hk, hkN, hlim, KK⟩ := hrel
      by_cases h12 : b' - a' ≤ 12
      · have h12z : (b' : Int) - (a' : Int) ≤ 12 := by omega
        have cI := hide' (ins_any w0 blk N cap a' b' dk wr KK.out.1 KK.out.2.1 hab' hb' hsz)
        go_wp2_with fail
        refine cI.out.mono ?_
        rintro e w1 ⟨rfl, t1⟩
        have T1 := hide' t1
        clear t1 cI
        go_wp2
        refine bodyPost_ret (results_none rfl _ _ _) rfl ?_
        exact ⟨rfl, by rw [← KK.out.2.2.2, pdq_small h12]; exact T1.out⟩
      · have h12z : ¬ ((b' : Int) - (a' : Int) ≤ 12) := by omega
        by_cases hl0 : lim = 0
        · subst hl0
          have cH := hide' (heap_any w0 blk N cap a' b' dk wr KK.out.1 KK.out.2.1 (by omega) hb' hsz)
          go_wp2_with fail
          refine cH.out.mono ?_
          rintro e w1 ⟨rfl, t1⟩
          have T1 := hide' t1
          clear t1 cH
          go_wp2
          refine bodyPost_ret (results_none rfl _ _ _) rfl ?_
          exact ⟨rfl, by rw [← KK.out.2.2.2, pdq_heap h12 rfl]; exact T1.out⟩
        · have hl0z : ¬ ((lim : Int) = 0) := by omega
          have F := hide' (rd_facts (limit := lim) (wb := wb) (wp := wp) swo64 partialInsertionSort_holds reverseRange_holds (show a' < b' by omega) (show b' ≤ dk.size by have := KK.out.1; omega) KK.out.2.2.1)
          obtain ⟨R, hR⟩ : ∃ R, R = rd lt64 dk a' b' lim wb wp := ⟨_, rfl⟩
          rw [← hR] at F
          have hlim' : R.lim ≤ limit := by rw [hR]; exact Nat.le_trans rd_lim_le hlim
          have hpv1 : a' ≤ R.pivot := F.out.2.2.2.2.2.1.1
          have hpv2 : R.pivot < b' := F.out.2.2.2.2.2.1.2
          have hc1 : a' ≤ R.c.1 := F.out.2.2.1.1
          have hc2 : R.c.1 < b' := F.out.2.2.1.2
          have Z1 : Hid (R.d1.size = N) := F.out.1.trans KK.out.1
          have Z2 : Hid (R.d2.size = N) := F.out.2.2.2.1.trans KK.out.1
          have Z3 : Hid (R.pi.1.size = N) := F.out.2.2.2.2.2.2.1.trans KK.out.1
          have HR := hide' hR
          clear hR
          go_upto_if 35 with fail
          go_cut [3] from 19 (fun s3 wc => s3 = .int .i64 (R.lim : Nat) ∧ Hid (SR w0 wc blk R.d1))
          case first =>
            cases wb
            · have cB := hide' (C.brk w0 blk N cap a' b' dk wr KK.out.1 KK.out.2.1 (by omega) hb' hbL' hsz)
              go_wp2_with fail
              refine cB.out.mono ?_
              rintro e w1 ⟨rfl, t1⟩
              have T1 := hide' t1
              clear t1 cB
              go_wp2_with fail
              go_meet
              case rel =>
                refine ⟨?_, ?_⟩
                · rw [HR.out]
                  show Value.int .i64 ((lim : Int) - 1) = Value.int .i64 ((lim - 1 : Nat) : Int)
                  congr 1
                  omega
                · rw [HR.out]; exact T1.out
            · go_wp2_with fail
              go_meet
              case rel => exact ⟨by rw [HR.out]; rfl, by rw [HR.out]; exact KK.out.2.1⟩
          case rest =>
            obtain ⟨rfl, D1⟩ := hcut
            have cP := hide' (C.piv w0 blk N cap a' b' R.d1 wc Z1.out D1.out (by omega) hb' hbL' hsz)
            have eC : Sort.choosePivot lt64 R.d1 a' b' = R.c := by rw [HR.out]; rfl
            rw [eC] at cP
            clear eC
            go_upto_if 50 with (go_at_call 72; refine cP.out.mono ?_; rintro e w2 ⟨rfl, t2⟩; have D2 := hide' t2; clear t2)
            go_cut [11, 12] from 19 (fun s11 s12 wc => s11 = .int .i64 (R.pivot : Nat) ∧ s12 = .int .i64 (hintI R.hint) ∧ Hid (SR w0 wc blk R.d2))
            case first =>
              by_cases hh : R.c.2 = .decreasing
              · have hcode : hintI R.c.2 = 2 := by rw [hh]; rfl
                have EE : Hid (R.d2 = reverseRange R.d1 a' b' ∧ R.pivot = (b' - 1) - (R.c.1 - a') ∧ R.hint = .increasing) := by
                  have hh' := hh
                  rw [HR.out] at hh' ⊢
                  exact rd_dec hh'
                have cV := hide' (rev_any w0 blk N cap a' b' R.d1 w2 Z1.out D2.out (by omega) hb' hsz)
                go_wp2_with fail
                refine cV.out.mono ?_
                rintro e w3 ⟨rfl, t3⟩
                have T3 := hide' t3
                clear t3 cV
                go_wp2_with fail
                go_meet
                case rel =>
                  refine ⟨?_, by rw [EE.out.2.2]; rfl, by rw [EE.out.1]; exact T3.out⟩
                  rw [EE.out.2.1]
                  congr 1
                  omega
              · have hcode : ¬ (hintI R.c.2 = 2) := fun h => hh (hintI_two h)
                have EE : Hid (R.d2 = R.d1 ∧ R.pivot = R.c.1 ∧ R.hint = R.c.2) := by
                  have hh' := hh
                  rw [HR.out] at hh' ⊢
                  exact rd_not hh'
                go_wp2_with fail
                go_meet
                case rel => exact ⟨by rw [EE.out.2.1], by rw [EE.out.2.2], by rw [EE.out.1]; exact D2.out⟩
            case rest =>
              obtain ⟨rfl, rfl, D3⟩ := hcut
              go_upto_region 15 with fail
              go_cut [12, 68] from 19 (fun s12 s68 wx => s12 = .int .i64 (hintI R.hint) ∧ s68 = .bool (wb && wp && decide (R.hint = .increasing)) ∧ Hid (SR w0 wx blk R.d2))
              case first =>
                cases wb <;> cases wp <;> cases hh3 : R.hint <;>
                  (have hcode3 := congrArg hintI hh3
                   simp only [hintI] at hcode3
                   go_wp2_with fail
                   go_meet
                   exact ⟨by simp [hh3, hintI], by simp [hh3, hintI], D3.out⟩)
              case rest =>
                obtain ⟨rfl, rfl, D4⟩ := hcut
                go_upto_if 68 with fail
                go_cut [] from 19 (fun wx => R.pi.2 = false ∧ Hid (SR w0 wx blk R.pi.1))
                case first =>
                  cases h68 : (wb && wp && decide (R.hint = .increasing))
                  · have EP : Hid (R.pi = (R.d2, false)) := by
                      have h' := h68
                      rw [HR.out] at h' ⊢
                      exact rd_pi_no h'
                    go_wp2_with fail
                    go_meet
                    case rel => exact ⟨by rw [EP.out], by rw [EP.out]; exact D4.out⟩
                  · have EP : Hid (R.pi = partialInsertionSort lt64 R.d2 a' b') := by
                      have h' := h68
                      rw [HR.out] at h' ⊢
                      exact rd_pi_yes h'
                    have cN := hide' (C.par w0 blk N cap a' b' R.d2 wc Z2.out D4.out (by omega) hb' hbL' hsz)
                    rw [← EP.out] at cN
                    cases hp2 : R.pi.2
                    · rw [hp2] at cN
                      go_wp2_with fail
                      refine cN.out.mono ?_
                      rintro e w4 ⟨rfl, t4⟩
                      have T4 := hide' t4
                      clear t4 cN
                      go_wp2_with fail
                      go_meet
                      case rel => exact ⟨hp2, T4.out⟩
                    · rw [hp2] at cN
                      go_wp2_with fail
                      refine cN.out.mono ?_
                      rintro e w4 ⟨rfl, t4⟩
                      have T4 := hide' t4
                      clear t4 cN
                      go_wp2_with fail
                      (try simp only [Exit.inBlock, Exit.then])
                      refine bodyPost_ret (results_none rfl _ _ _) rfl ?_
                      refine ⟨rfl, ?_⟩
                      rw [← KK.out.2.2.2, pdq_done h12 hl0 (by rw [← HR.out]; exact hp2), ← HR.out]
                      exact T4.out
                case rest =>
                  obtain ⟨hp2, D5⟩ := hcut
                  have HP2 := hide' hp2
                  clear hp2
                  obtain ⟨G, g1, g2, g3⟩ := D5.out.fam
                  rw [Z3.out] at g2 g3
                  have HG := hide' g1
                  have YP := g2 R.pivot (by omega)
                  have ZP := g3 R.pivot (by omega)
                  have ipv : (R.pivot : Int) < (N : Int) := by omega
                  go_upto_region 17 with fail
                  go_cut [87] from 19 (fun s87 wx => s87 = .bool (decide (a' > 0) && !lt64 R.pi.1[a' - 1]! R.pi.1[R.pivot]!) ∧ Hid (SR w0 wx blk R.pi.1))
                  case first =>
                    rcases Nat.eq_zero_or_pos a' with ha0 | ha0
                    · have ha0z : decide ((0 : Int) < (a' : Int)) = false := decide_eq_false (by omega)
                      have ha0v : decide (0 < a') = false := decide_eq_false (by omega)
                      have ha0y : ¬ ((0 : Int) < (a' : Int)) := by omega
                      have HA0 := hide' ha0
                      clear ha0 g1 g2 g3
                      go_big_quiet (fail)
                      go_wp2_with fail
                      go_meet
                      case rel => exact ⟨by simp [HA0.out], D5.out.drewN _⟩
                    · have ha0y : (0 : Int) < (a' : Int) := by omega
                      have ha0z : decide ((0 : Int) < (a' : Int)) = true := decide_eq_true (by omega)
                      have ha0v : decide (0 < a') = true := decide_eq_true (by omega)
                      obtain ⟨p, hp⟩ : ∃ p, a' = p + 1 := ⟨a' - 1, by omega⟩
                      have e1 : (a' : Int) - 1 = (p : Int) := by omega
                      have hpN : (p : Int) < (N : Int) := by omega
                      have Yp := g2 p (by omega)
                      have Zp := g3 p (by omega)
                      have HP := hide' hp
                      have cL : Hid (∀ W, Calls Try.prog 75 #[.int .u64 (G p : Int), .int .u64 (G R.pivot : Int)] W fun e w' => e = .returned (.bool (lt64 (G p) (G R.pivot))) ∧ w' = W) := fun W => less_any _ _ _
                      clear g1 g2 g3 hp
                      go_big_quiet (first | (go_at_call 75; refine Calls.quiet_of_same (cL.out _)))
                      go_wp2_with fail
                      go_meet
                      case rel =>
                        refine ⟨?_, D5.out.drewN _⟩
                        have e2 : a' - 1 = p := by have := HP.out; omega
                        rw [e2, ← HG.out, ← HG.out]
                        simp [ha0]
                  case rest =>
                    obtain ⟨rfl, D6⟩ := hcut
                    clear g1 g2 g3 YP ZP HG
                    cases h87 : (decide (a' > 0) && !lt64 R.pi.1[a' - 1]! R.pi.1[R.pivot]!)
                    · obtain ⟨mid, ap, d4, hx⟩ : ∃ mid ap d4, partition lt64 R.pi.1 a' b' R.pivot = (mid, ap, d4) := ⟨(partition lt64 R.pi.1 a' b' R.pivot).1, (partition lt64 R.pi.1 a' b' R.pivot).2.1, (partition lt64 R.pi.1 a' b' R.pivot).2.2, rfl⟩
                      have RP := hide' (round_part swo64 (partition_holds lt64) hpv1 hpv2 (show b' ≤ R.pi.1.size by rw [Z3.out]; exact hb') F.out.2.2.2.2.2.2.2 hx)
                      have hm1 : a' ≤ mid := RP.out.1
                      have hm2 : mid < b' := RP.out.2.1
                      have Z4 : Hid (d4.size = N) := RP.out.2.2.1.trans Z3.out
                      have cQ := hide' (part_any w0 blk N cap a' b' R.pivot R.pi.1 wc Z3.out D6.out (by omega) hb' hpv1 hpv2 hsz)
                      rw [hx] at cQ
                      have X := hide' hx
                      have H87 := hide' h87
                      clear hx
                      go_upto_if 113 with (go_at_call 77; refine cQ.out.mono ?_; rintro e w7 ⟨rfl, t7⟩; have D7 := hide' t7; clear t7)
                      by_cases h4 : mid - a' < b' - mid
                      · have h4z : (mid : Int) - (a' : Int) < (b' : Int) - (mid : Int) := by omega
                        have cI := hide' (IH.out w0 blk N cap a' mid R.lim d4 w7 (by omega) Z4.out D7.out hm1 (by omega) (by omega) hsz (by omega) RP.out.2.2.2.1)
                        have PS := hide' (pdq_sorts lt64 swo64 d4 a' mid R.lim true true hm1 (by rw [Z4.out]; omega) RP.out.2.2.2.1)
                        go_wp2_with fail
                        refine cI.out.mono ?_
                        rintro e w8 ⟨rfl, t8⟩
                        have D8 := hide' t8
                        clear t8 cI
                        go_wp2_with fail
                        go_roundg (b' - (mid + 1))
                        case measure => omega
                        case rel =>
                          refine ⟨mid + 1, b', R.lim, decide (mid - a' ≥ (b' - a') / 8), ap, pdq lt64 d4 a' mid R.lim true true, by go_num, rfl, rfl, ?_, rfl, by omega, hb', by omega, Nat.le_refl _, by omega, hlim', PS.out.1.1.trans Z4.out, D8.out, (RP.out.2.2.2.2.2.1 _ PS.out.1 PS.out.2).1, ?_⟩
                          · exact congrArg Value.bool (eighth64 hm1 hab')
                          · rw [← KK.out.2.2.2, pdq_left h12 hl0 (by rw [← HR.out]; exact HP2.out) (by rw [← HR.out]; exact H87.out) (by rw [← HR.out, X.out]; exact ⟨hm1, hm2⟩) (by rw [← HR.out, X.out]; exact h4), ← HR.out, X.out]
                      · have h4z : ¬ ((mid : Int) - (a' : Int) < (b' : Int) - (mid : Int)) := by omega
                        have cI := hide' (IH.out w0 blk N cap (mid + 1) b' R.lim d4 w7 (by omega) Z4.out D7.out (by omega) hb' (by omega) hsz (by omega) RP.out.2.2.2.2.1)
                        have PS := hide' (pdq_sorts lt64 swo64 d4 (mid + 1) b' R.lim true true (by omega) (by rw [Z4.out]; exact hb') RP.out.2.2.2.2.1)
                        have em : (mid : Int) + 1 = ((mid + 1 : Nat) : Int) := by omega
                        rw [← em] at cI
                        clear em
                        go_wp2_with fail
                        refine cI.out.mono ?_
                        rintro e w8 ⟨rfl, t8⟩
                        have D8 := hide' t8
                        clear t8 cI
                        go_wp2_with fail
                        go_roundg (mid - a')
                        case measure => omega
                        case rel =>
                          refine ⟨a', mid, R.lim, decide (b' - mid ≥ (b' - a') / 8), ap, pdq lt64 d4 (mid + 1) b' R.lim true true, rfl, rfl, rfl, ?_, rfl, hm1, by omega, by omega, Nat.le_refl _, by omega, hlim', PS.out.1.1.trans Z4.out, D8.out, (RP.out.2.2.2.2.2.2 _ PS.out.1 PS.out.2).1, ?_⟩
                          · exact congrArg Value.bool (eighth64 (by omega) hab')
                          · rw [← KK.out.2.2.2, pdq_right h12 hl0 (by rw [← HR.out]; exact HP2.out) (by rw [← HR.out]; exact H87.out) (by rw [← HR.out, X.out]; exact ⟨hm1, hm2⟩) (by rw [← HR.out, X.out]; exact h4), ← HR.out, X.out]
                    · have h87' := h87
                      simp only [Bool.and_eq_true, decide_eq_true_eq, Bool.not_eq_true'] at h87'
                      obtain ⟨mid, d4, hx⟩ : ∃ mid d4, partitionEqual lt64 R.pi.1 a' b' R.pivot = (mid, d4) := ⟨(partitionEqual lt64 R.pi.1 a' b' R.pivot).1, (partitionEqual lt64 R.pi.1 a' b' R.pivot).2, rfl⟩
                      have RE := hide' (round_eq swo64 (partitionEqual_holds lt64) h87'.1 hpv1 hpv2 (show b' ≤ R.pi.1.size by rw [Z3.out]; exact hb') F.out.2.2.2.2.2.2.2 h87'.2 hx)
                      have hm1 : a' < mid := RE.out.1
                      have hm2 : mid ≤ b' := RE.out.2.1
                      have cQ := hide' (pareq_any w0 blk N cap a' b' R.pivot R.pi.1 wc Z3.out D6.out (by omega) hb' hpv1 hpv2 hsz)
                      rw [hx] at cQ
                      have X := hide' hx
                      have H87 := hide' h87
                      clear hx h87'
                      go_wp2_with fail
                      refine cQ.out.mono ?_
                      rintro e w7 ⟨rfl, t7⟩
                      have D7 := hide' t7
                      clear t7 cQ
                      go_wp2_with fail
                      go_roundg (b' - mid)
                      case measure => omega
                      case rel =>
                        exact ⟨mid, b', R.lim, wb, wp, d4, rfl, rfl, rfl, rfl, rfl, hm2, hb', by omega, Nat.le_refl _, by omega, hlim', RE.out.2.2.1.trans Z3.out, D7.out, RE.out.2.2.2.1, by rw [← KK.out.2.2.2, pdq_eq h12 hl0 (by rw [← HR.out]; exact HP2.out) (by rw [← HR.out]; exact H87.out) (by rw [← HR.out, X.out]; exact ⟨hm1, hm2⟩), ← HR.out, X.out]⟩
end Go.Proofs.Ytghdkicijdfpcaa
