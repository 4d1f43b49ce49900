/- A heap in a row of numbers. -/
import Derived.Test.YtghdkicijdfpcaaSortA
set_option linter.unusedVariables false
set_option linter.unusedSimpArgs false
set_option maxRecDepth 8000
namespace Go.Proofs.Ytghdkicijdfpcaa
open Go.RowKit Go.Deep Go.Sort

theorem sift_end (hi first root : Nat) (d : Array Nat) (h : hi ≤ 2 * root + 1) : siftDown lt64 hi first root d = d := by rw [siftDown, dif_pos h]
/-- The child that is looked at. -/
def kid (hi first root : Nat) (d : Array Nat) : Nat := if (decide (2 * root + 1 + 1 < hi) && lt64 d[first + (2 * root + 1)]! d[first + (2 * root + 1) + 1]!) = true then 2 * root + 2 else 2 * root + 1
theorem sift_stop (hi first root : Nat) (d : Array Nat) (h : ¬ hi ≤ 2 * root + 1) (hl : lt64 d[first + root]! d[first + kid hi first root d]! = false) : siftDown lt64 hi first root d = d := by
  rw [siftDown, dif_neg h]
  unfold kid at hl
  by_cases hc : (decide (2 * root + 1 + 1 < hi) && lt64 d[first + (2 * root + 1)]! d[first + (2 * root + 1) + 1]!) = true
  · rw [if_pos hc] at hl ⊢
    rw [if_pos (by rw [hl]; rfl)]
  · rw [if_neg hc] at hl ⊢
    rw [if_pos (by rw [hl]; rfl)]
theorem sift_go (hi first root : Nat) (d : Array Nat) (h : ¬ hi ≤ 2 * root + 1) (hl : lt64 d[first + root]! d[first + kid hi first root d]! = true) : siftDown lt64 hi first root d = siftDown lt64 hi first (kid hi first root d) (swp d (first + root) (first + kid hi first root d)) := by
  conv => lhs; rw [siftDown, dif_neg h]
  unfold kid at hl ⊢
  by_cases hc : (decide (2 * root + 1 + 1 < hi) && lt64 d[first + (2 * root + 1)]! d[first + (2 * root + 1) + 1]!) = true
  · rw [if_pos hc] at hl
    simp only [if_pos hc]
    have h2 : 2 * root + 2 < hi := by
      rw [Bool.and_eq_true, decide_eq_true_eq] at hc
      omega
    rw [if_neg (by rw [hl]; decide), dif_pos h2]
  · rw [if_neg hc] at hl
    simp only [if_neg hc]
    rw [if_neg (by rw [hl]; decide)]
theorem kid_lt (hi first root : Nat) (d : Array Nat) (h : ¬ hi ≤ 2 * root + 1) : kid hi first root d < hi ∧ root < kid hi first root d := by
  unfold kid
  by_cases hc : (decide (2 * root + 1 + 1 < hi) && lt64 d[first + (2 * root + 1)]! d[first + (2 * root + 1) + 1]!) = true
  · rw [if_pos hc]
    rw [Bool.and_eq_true, decide_eq_true_eq] at hc
    omega
  · rw [if_neg hc]; omega
set_option maxHeartbeats 4000000 in
theorem sift_any (w0 : World) (blk N cap lo hi first : Nat) (d : Array Nat) (W : World) (hN : d.size = N) (h : SR w0 W blk d) (hb : first + hi ≤ N) (hlo : lo ≤ N) (hsz : N ≤ 1000000) :
    Calls Try.prog 83 #[.slice (some ⟨blk, 0, none⟩) N cap, .int .i64 lo, .int .i64 hi, .int .i64 first] W fun e W' => e = .returned (.tuple #[]) ∧ SR w0 W' blk (siftDown lt64 hi first lo d) := by
  have H := hide' h
  have HN := hide' hN
  clear h hN
  go_enter Try.func83, Try.ntmps83
  go_wp2_with fail
  go_loopg [8] (hi + 1) (fun kx s8 wr => ∃ (root : Nat) (dk : Array Nat), s8 = .int .i64 root ∧ root ≤ N ∧ hi - root ≤ kx ∧ Hid (dk.size = N ∧ SR w0 wr blk dk ∧ siftDown lt64 hi first root dk = siftDown lt64 hi first lo d))
  case atStart => exact ⟨lo, d, rfl, hlo, by omega, HN.out, H.out, rfl⟩
  case round =>
    obtain ⟨root, dk, rfl, hrN, hg, K⟩ := hrel
    obtain ⟨c1, hc1⟩ : ∃ c : Nat, c = 2 * root + 1 := ⟨_, rfl⟩
    have hm : 2 * (root : Int) + 1 = (c1 : Int) := by omega
    by_cases hend : hi ≤ c1
    · have hend2 : (hi : Int) ≤ (c1 : Int) := by omega
      have HC := hide' hc1
      clear hc1
      go_wp2
      go_end0
      exact ⟨rfl, by rw [← K.out.2.2, sift_end _ _ _ _ (by have := HC.out; omega)]; exact K.out.2.1⟩
    have hend2 : ¬ (hi : Int) ≤ (c1 : Int) := by omega
    obtain ⟨G, g1, g2, g3⟩ := K.out.2.1.fam
    rw [K.out.1] at g2 g3
    have HG := hide' g1
    have hkid := kid_lt hi first root dk (by omega)
    obtain ⟨kd, hkd⟩ : ∃ kd, kd = kid hi first root dk := ⟨_, rfl⟩
    have KD := hide' hkd
    rw [← hkd] at hkid
    have STOP := hide' (sift_stop hi first root dk (by omega))
    have GO := hide' (sift_go hi first root dk (by omega))
    rw [← hkd] at STOP GO
    have HC := hide' hc1
    obtain ⟨f1, hf1⟩ : ∃ f : Nat, f = first + c1 := ⟨_, rfl⟩
    have e1 : (first : Int) + (c1 : Int) = (f1 : Int) := by omega
    obtain ⟨fr, hfr⟩ : ∃ f : Nat, f = first + root := ⟨_, rfl⟩
    have e2 : (first : Int) + (root : Int) = (fr : Int) := by omega
    have i1 : (f1 : Int) < (N : Int) := by omega
    have ir : (fr : Int) < (N : Int) := by omega
    have y1 := g2 f1 (by omega)
    have yr := g2 fr (by omega)
    have zr := g3 fr (by omega)
    have z1 := g3 f1 (by omega)
    have HF1 := hide' hf1
    have HFR := hide' hfr
    have hc1N : c1 ≤ 1000000 := by omega
    have hf1N : f1 ≤ 1000000 := by omega
    have hfrN : fr ≤ 1000000 := by omega
    have wfr : IntKind.i64.wrap (fr : Int) = (fr : Int) := by rw [IntKind.wrap_i64]; omega
    have wf1 : IntKind.i64.wrap (f1 : Int) = (f1 : Int) := by rw [IntKind.wrap_i64]; omega
    have cL : Hid (∀ W x y, Calls Try.prog 75 #[.int .u64 (x : Nat), .int .u64 (y : Nat)] W fun e w' => e = .returned (.bool (lt64 x y)) ∧ w' = W) := fun W x y => less_any _ _ _
    by_cases hsec : c1 + 1 < hi
    · have hsec2 : (c1 : Int) + 1 < (hi : Int) := by omega
      obtain ⟨f2, hf2⟩ : ∃ f : Nat, f = first + c1 + 1 := ⟨_, rfl⟩
      have e3 : (f1 : Int) + 1 = (f2 : Int) := by omega
      have i2 : (f2 : Int) < (N : Int) := by omega
      have y2 := g2 f2 (by omega)
      have z2 := g3 f2 (by omega)
      have hf2N : f2 ≤ 1000000 := by omega
      have wf2 : IntKind.i64.wrap (f2 : Int) = (f2 : Int) := by rw [IntKind.wrap_i64]; omega
      have HF2 := hide' hf2
      cases hk : lt64 (G f1) (G f2)
      · have HKD : Hid (kd = c1) := by
          show _ = _
          rw [KD.out, HC.out]
          unfold kid
          rw [if_neg]
          rw [← HC.out, ← HF1.out, ← HG.out, ← HG.out, HF1.out, ← HF2.out, ← HF1.out, hk]
          simp
        have HKK : Hid (first + kd = f1) := by show _ = _; rw [HKD.out, HF1.out]
        have cY : Hid (∀ W, Calls Try.prog 75 #[.int .u64 (G f1 : Int), .int .u64 (G f2 : Int)] W fun e w' => e = .returned (.bool false) ∧ w' = W) := fun W => by have := cL.out W (G f1) (G f2); rw [hk] at this; exact this
        clear hc1 hf1 hfr hf2 g1 g2 g3 hkd hk
        cases hl : lt64 (G fr) (G f1)
        · have cX : Hid (∀ W, Calls Try.prog 75 #[.int .u64 (G fr : Int), .int .u64 (G f1 : Int)] W fun e w' => e = .returned (.bool false) ∧ w' = W) := fun W => by have := cL.out W (G fr) (G f1); rw [hl] at this; exact this
          go_wp2_with fail
          go_quiet (first | (go_at_call 75; refine Calls.quiet_of_same (cY.out _)))
          obtain ⟨wq, hwq⟩ : ∃ wq, wq = wr.drewN nq := ⟨_, rfl⟩
          rw [← hwq]
          have SQ : Hid (SR w0 wq blk dk) := by rw [hwq]; exact K.out.2.1.drewN nq
          have y1q : wq.cell? ⟨blk, f1, none⟩ = some (.int .u64 (G f1 : Int)) := by rw [hwq]; exact y1
          have yrq : wq.cell? ⟨blk, fr, none⟩ = some (.int .u64 (G fr : Int)) := by rw [hwq]; exact yr
          have z1q : wq.frozen? ⟨blk, f1, none⟩ = false := by rw [hwq]; exact z1
          have zrq : wq.frozen? ⟨blk, fr, none⟩ = false := by rw [hwq]; exact zr
          have y2q : wq.cell? ⟨blk, f2, none⟩ = some (.int .u64 (G f2 : Int)) := by rw [hwq]; exact y2
          have z2q : wq.frozen? ⟨blk, f2, none⟩ = false := by rw [hwq]; exact z2
          clear hwq y1 yr z1 zr y2 z2
          go_wp2_with fail
          go_quiet (first | (go_at_call 75; refine Calls.quiet_of_same (cX.out _)))
          go_wp2
          refine bodyPost_ret (results_none rfl _ _ _) rfl ?_
          refine ⟨rfl, ?_⟩
          rw [← K.out.2.2, STOP.out (by rw [← HFR.out, HKK.out, ← HG.out, ← HG.out]; exact hl)]
          exact SQ.out.heap rfl rfl rfl rfl
        · have cX : Hid (∀ W, Calls Try.prog 75 #[.int .u64 (G fr : Int), .int .u64 (G f1 : Int)] W fun e w' => e = .returned (.bool true) ∧ w' = W) := fun W => by have := cL.out W (G fr) (G f1); rw [hl] at this; exact this
          go_wp2_with fail
          go_quiet (first | (go_at_call 75; refine Calls.quiet_of_same (cY.out _)))
          obtain ⟨wq, hwq⟩ : ∃ wq, wq = wr.drewN nq := ⟨_, rfl⟩
          rw [← hwq]
          have SQ : Hid (SR w0 wq blk dk) := by rw [hwq]; exact K.out.2.1.drewN nq
          have y1q : wq.cell? ⟨blk, f1, none⟩ = some (.int .u64 (G f1 : Int)) := by rw [hwq]; exact y1
          have yrq : wq.cell? ⟨blk, fr, none⟩ = some (.int .u64 (G fr : Int)) := by rw [hwq]; exact yr
          have z1q : wq.frozen? ⟨blk, f1, none⟩ = false := by rw [hwq]; exact z1
          have zrq : wq.frozen? ⟨blk, fr, none⟩ = false := by rw [hwq]; exact zr
          have y2q : wq.cell? ⟨blk, f2, none⟩ = some (.int .u64 (G f2 : Int)) := by rw [hwq]; exact y2
          have z2q : wq.frozen? ⟨blk, f2, none⟩ = false := by rw [hwq]; exact z2
          clear hwq y1 yr z1 zr y2 z2
          go_wp2_with fail
          go_quiet (first | (go_at_call 75; refine Calls.quiet_of_same (cX.out _)))
          go_wp2_with fail
          go_region
          all_goals go_wp2
          go_roundg (hi - kd)
          case measure => omega
          case rel =>
            refine ⟨kd, swp dk fr f1, by have := HKD.out; congr 1; omega, by omega, Nat.le_refl _, by rw [swp_size]; exact K.out.1, ?_, ?_⟩
            · have := (SQ.out.drewN (nq + 1)).swap fr f1 (by rw [K.out.1]; omega) (by rw [K.out.1]; omega)
              rw [HG.out, HG.out]
              exact this
            · have h1 := GO.out (by rw [← HFR.out, HKK.out, ← HG.out, ← HG.out]; exact hl)
              rw [← HFR.out, HKK.out] at h1
              rw [← h1]; exact K.out.2.2
      · have HKD : Hid (kd = c1 + 1) := by
          show _ = _
          rw [KD.out, HC.out]
          unfold kid
          rw [if_pos]
          rw [← HC.out, ← HF1.out, ← HG.out, ← HG.out, HF1.out, ← HF2.out, ← HF1.out, hk]
          simp [hsec]
        have HKK : Hid (first + kd = f2) := by show _ = _; rw [HKD.out, HF2.out]; omega
        have cY : Hid (∀ W, Calls Try.prog 75 #[.int .u64 (G f1 : Int), .int .u64 (G f2 : Int)] W fun e w' => e = .returned (.bool true) ∧ w' = W) := fun W => by have := cL.out W (G f1) (G f2); rw [hk] at this; exact this
        have e4 : (first : Int) + ((c1 : Int) + 1) = (f2 : Int) := by omega
        clear hc1 hf1 hfr hf2 g1 g2 g3 hkd hk
        cases hl : lt64 (G fr) (G f2)
        · have cX : Hid (∀ W, Calls Try.prog 75 #[.int .u64 (G fr : Int), .int .u64 (G f2 : Int)] W fun e w' => e = .returned (.bool false) ∧ w' = W) := fun W => by have := cL.out W (G fr) (G f2); rw [hl] at this; exact this
          go_wp2_with fail
          go_quiet (first | (go_at_call 75; refine Calls.quiet_of_same (cY.out _)))
          obtain ⟨wq, hwq⟩ : ∃ wq, wq = wr.drewN nq := ⟨_, rfl⟩
          rw [← hwq]
          have SQ : Hid (SR w0 wq blk dk) := by rw [hwq]; exact K.out.2.1.drewN nq
          have y1q : wq.cell? ⟨blk, f1, none⟩ = some (.int .u64 (G f1 : Int)) := by rw [hwq]; exact y1
          have yrq : wq.cell? ⟨blk, fr, none⟩ = some (.int .u64 (G fr : Int)) := by rw [hwq]; exact yr
          have z1q : wq.frozen? ⟨blk, f1, none⟩ = false := by rw [hwq]; exact z1
          have zrq : wq.frozen? ⟨blk, fr, none⟩ = false := by rw [hwq]; exact zr
          have y2q : wq.cell? ⟨blk, f2, none⟩ = some (.int .u64 (G f2 : Int)) := by rw [hwq]; exact y2
          have z2q : wq.frozen? ⟨blk, f2, none⟩ = false := by rw [hwq]; exact z2
          clear hwq y1 yr z1 zr y2 z2
          go_wp2_with fail
          go_quiet (first | (go_at_call 75; refine Calls.quiet_of_same (cX.out _)))
          go_wp2
          refine bodyPost_ret (results_none rfl _ _ _) rfl ?_
          refine ⟨rfl, ?_⟩
          rw [← K.out.2.2, STOP.out (by rw [← HFR.out, HKK.out, ← HG.out, ← HG.out]; exact hl)]
          exact SQ.out.heap rfl rfl rfl rfl
        · have cX : Hid (∀ W, Calls Try.prog 75 #[.int .u64 (G fr : Int), .int .u64 (G f2 : Int)] W fun e w' => e = .returned (.bool true) ∧ w' = W) := fun W => by have := cL.out W (G fr) (G f2); rw [hl] at this; exact this
          go_wp2_with fail
          go_quiet (first | (go_at_call 75; refine Calls.quiet_of_same (cY.out _)))
          obtain ⟨wq, hwq⟩ : ∃ wq, wq = wr.drewN nq := ⟨_, rfl⟩
          rw [← hwq]
          have SQ : Hid (SR w0 wq blk dk) := by rw [hwq]; exact K.out.2.1.drewN nq
          have y1q : wq.cell? ⟨blk, f1, none⟩ = some (.int .u64 (G f1 : Int)) := by rw [hwq]; exact y1
          have yrq : wq.cell? ⟨blk, fr, none⟩ = some (.int .u64 (G fr : Int)) := by rw [hwq]; exact yr
          have z1q : wq.frozen? ⟨blk, f1, none⟩ = false := by rw [hwq]; exact z1
          have zrq : wq.frozen? ⟨blk, fr, none⟩ = false := by rw [hwq]; exact zr
          have y2q : wq.cell? ⟨blk, f2, none⟩ = some (.int .u64 (G f2 : Int)) := by rw [hwq]; exact y2
          have z2q : wq.frozen? ⟨blk, f2, none⟩ = false := by rw [hwq]; exact z2
          clear hwq y1 yr z1 zr y2 z2
          go_wp2_with fail
          go_quiet (first | (go_at_call 75; refine Calls.quiet_of_same (cX.out _)))
          go_wp2_with fail
          go_region
          all_goals go_wp2
          go_roundg (hi - kd)
          case measure => omega
          case rel =>
            refine ⟨kd, swp dk fr f2, by have := HKD.out; congr 1; omega, by omega, Nat.le_refl _, by rw [swp_size]; exact K.out.1, ?_, ?_⟩
            · have := (SQ.out.drewN (nq + 1)).swap fr f2 (by rw [K.out.1]; omega) (by rw [K.out.1]; omega)
              rw [HG.out, HG.out]
              exact this
            · have h1 := GO.out (by rw [← HFR.out, HKK.out, ← HG.out, ← HG.out]; exact hl)
              rw [← HFR.out, HKK.out] at h1
              rw [← h1]; exact K.out.2.2
    · have hsec2 : ¬ (c1 : Int) + 1 < (hi : Int) := by omega
      have hsec3 : decide ((c1 : Int) + 1 < (hi : Int)) = false := decide_eq_false hsec2
      have HKD : Hid (kd = c1) := by
        show _ = _
        rw [KD.out, HC.out]
        unfold kid
        rw [if_neg (by have := HC.out; have : ¬ 2 * root + 1 + 1 < hi := by omega
                       simp [this])]
      have HKK : Hid (first + kd = f1) := by show _ = _; rw [HKD.out, HF1.out]
      clear hc1 hf1 hfr g1 g2 g3 hkd
      cases hl : lt64 (G fr) (G f1)
      · have cX : Hid (∀ W, Calls Try.prog 75 #[.int .u64 (G fr : Int), .int .u64 (G f1 : Int)] W fun e w' => e = .returned (.bool false) ∧ w' = W) := fun W => by have := cL.out W (G fr) (G f1); rw [hl] at this; exact this
        go_wp2_with fail
        go_quiet (fail)
        obtain ⟨wq, hwq⟩ : ∃ wq, wq = wr.drewN nq := ⟨_, rfl⟩
        rw [← hwq]
        have SQ : Hid (SR w0 wq blk dk) := by rw [hwq]; exact K.out.2.1.drewN nq
        have y1q : wq.cell? ⟨blk, f1, none⟩ = some (.int .u64 (G f1 : Int)) := by rw [hwq]; exact y1
        have yrq : wq.cell? ⟨blk, fr, none⟩ = some (.int .u64 (G fr : Int)) := by rw [hwq]; exact yr
        have z1q : wq.frozen? ⟨blk, f1, none⟩ = false := by rw [hwq]; exact z1
        have zrq : wq.frozen? ⟨blk, fr, none⟩ = false := by rw [hwq]; exact zr
        clear hwq y1 yr z1 zr
        go_wp2_with fail
        go_quiet (first | (go_at_call 75; refine Calls.quiet_of_same (cX.out _)))
        go_wp2
        refine bodyPost_ret (results_none rfl _ _ _) rfl ?_
        refine ⟨rfl, ?_⟩
        rw [← K.out.2.2, STOP.out (by rw [← HFR.out, HKK.out, ← HG.out, ← HG.out]; exact hl)]
        exact SQ.out.heap rfl rfl rfl rfl
      · have cX : Hid (∀ W, Calls Try.prog 75 #[.int .u64 (G fr : Int), .int .u64 (G f1 : Int)] W fun e w' => e = .returned (.bool true) ∧ w' = W) := fun W => by have := cL.out W (G fr) (G f1); rw [hl] at this; exact this
        go_wp2_with fail
        go_quiet (fail)
        obtain ⟨wq, hwq⟩ : ∃ wq, wq = wr.drewN nq := ⟨_, rfl⟩
        rw [← hwq]
        have SQ : Hid (SR w0 wq blk dk) := by rw [hwq]; exact K.out.2.1.drewN nq
        have y1q : wq.cell? ⟨blk, f1, none⟩ = some (.int .u64 (G f1 : Int)) := by rw [hwq]; exact y1
        have yrq : wq.cell? ⟨blk, fr, none⟩ = some (.int .u64 (G fr : Int)) := by rw [hwq]; exact yr
        have z1q : wq.frozen? ⟨blk, f1, none⟩ = false := by rw [hwq]; exact z1
        have zrq : wq.frozen? ⟨blk, fr, none⟩ = false := by rw [hwq]; exact zr
        clear hwq y1 yr z1 zr
        go_wp2_with fail
        go_quiet (first | (go_at_call 75; refine Calls.quiet_of_same (cX.out _)))
        go_wp2_with fail
        go_region
        all_goals go_wp2
        go_roundg (hi - kd)
        case measure => omega
        case rel =>
          refine ⟨kd, swp dk fr f1, by have := HKD.out; congr 1; omega, by omega, Nat.le_refl _, by rw [swp_size]; exact K.out.1, ?_, ?_⟩
          · have := (SQ.out.drewN (nq + 1)).swap fr f1 (by rw [K.out.1]; omega) (by rw [K.out.1]; omega)
            rw [HG.out, HG.out]
            exact this
          · have h1 := GO.out (by rw [← HFR.out, HKK.out, ← HG.out, ← HG.out]; exact hl)
            rw [← HFR.out, HKK.out] at h1
            rw [← h1]; exact K.out.2.2
end Go.Proofs.Ytghdkicijdfpcaa
