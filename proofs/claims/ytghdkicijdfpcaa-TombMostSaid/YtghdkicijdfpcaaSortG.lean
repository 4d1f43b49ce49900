/- A short row: is it sorted already? -/
import Derived.Test.YtghdkicijdfpcaaSortD
set_option linter.unusedVariables false
set_option linter.unusedSimpArgs false
set_option maxRecDepth 8000
namespace Go.Proofs.Ytghdkicijdfpcaa
open Go.RowKit Go.Deep Go.Sort

theorem ss_go (d : Array Nat) (b i : Nat) (h : i < b) (hl : lt64 d[i]! d[i - 1]! = false) : scanSorted lt64 d b i = scanSorted lt64 d b (i + 1) := by
  conv => lhs; rw [scanSorted]
  rw [if_pos (by simp [h, hl])]
theorem ss_stop (d : Array Nat) (b i : Nat) (h : ¬ i < b ∨ lt64 d[i]! d[i - 1]! = true) : scanSorted lt64 d b i = i := by
  rw [scanSorted, if_neg]
  rcases h with h | h
  · simp [h]
  · simp [h]
theorem pi_short (d : Array Nat) (a b i : Nat) (h : scanSorted lt64 d b (a + 1) = i) (hs : b - a < 50) : Sort.partialInsertionSort lt64 d a b = (d, decide (i = b)) := by
  unfold Sort.partialInsertionSort
  rw [partialIns]
  simp only [h]
  by_cases e : i = b
  · rw [if_pos e]; simp [e]
  · rw [if_neg e, if_pos hs]; simp [e]
set_option maxHeartbeats 4000000 in
theorem pins_short (w0 : World) (blk N cap a b : Nat) (d : Array Nat) (W : World) (hN : d.size = N) (h : SR w0 W blk d) (hab : a < b) (hb : b ≤ N) (hs : b - a < 50) (hsz : N ≤ 1000000) :
    Calls Try.prog 74 #[.slice (some ⟨blk, 0, none⟩) N cap, .int .i64 a, .int .i64 b] W fun e W' => e = .returned (.bool (Sort.partialInsertionSort lt64 d a b).2) ∧ SR w0 W' blk (Sort.partialInsertionSort lt64 d a b).1 := by
  have H := hide' h
  have NK := hide' hN
  obtain ⟨G, HG⟩ : ∃ G : Nat → Nat, Hid (∀ t, G t = d[t]!) := ⟨fun t => d[t]!, fun _ => rfl⟩
  have FAM : Hid (∀ wx, SR w0 wx blk d → ∀ t, t < N → wx.cell? ⟨blk, t, none⟩ = some (.int .u64 (G t : Int)) ∧ wx.frozen? ⟨blk, t, none⟩ = false) := fun wx hx t ht => by
    have := hx.at
    rw [HG.out]
    exact ⟨this.1 t (by rw [NK.out]; exact ht), this.2 t (by rw [NK.out]; exact ht)⟩
  have e50 : ((b : Int) - (a : Int) < 50) = True := eq_true (by omega)
  clear h hN
  go_enter Try.func74, Try.ntmps74
  go_wp2_with fail
  go_loopg [7, 8] 1 (fun kx s7 s8 wr => s7 = .int .i64 ((a : Int) + 1) ∧ s8 = .int .i64 0 ∧ Hid (SR w0 wr blk d))
  case atStart => exact ⟨rfl, rfl, H.out⟩
  case round =>
    obtain ⟨rfl, rfl, K⟩ := hrel
    go_wp2_with fail
    go_loopg [7] (b + 1) (fun kx s7 wr => ∃ i : Nat, s7 = .int .i64 i ∧ a < i ∧ i ≤ b ∧ b - i ≤ kx ∧ Hid (SR w0 wr blk d ∧ scanSorted lt64 d b i = scanSorted lt64 d b (a + 1)))
    case atStart => exact ⟨a + 1, by go_num, by omega, by omega, by omega, K.out, rfl⟩
    case round =>
      obtain ⟨i, rfl, hai, hib, hg, K2⟩ := hrel
      by_cases hc : i < b
      · have hc2 : (i : Int) < (b : Int) := by omega
        obtain ⟨p, hp⟩ : ∃ p, i = p + 1 := ⟨i - 1, by omega⟩
        have hsub : (i : Int) - 1 = (p : Int) := by omega
        obtain ⟨yi, _⟩ := FAM.out wr K2.out.1 i (by omega)
        obtain ⟨yp, _⟩ := FAM.out wr K2.out.1 p (by omega)
        have iI : (i : Int) < (N : Int) := by omega
        have iP : (p : Int) < (N : Int) := by omega
        have hj1 : Hid (i - 1 = p) := by show _ = _; omega
        clear hp
        cases hm : lt64 (G i) (G p)
        · have cX : Hid (∀ W, Calls Try.prog 75 #[.int .u64 (G i : Int), .int .u64 (G p : Int)] W fun e w' => e = .returned (.bool false) ∧ w' = W) := fun W => by have := less_any (G i) (G p) W; rw [hm] at this; exact this
          go_wp2_with fail
          go_quiet (first | (go_at_call 75; refine Calls.quiet_of_same (cX.out _)))
          go_wp2
          go_roundg (b - (i + 1))
          case measure => omega
          case rel =>
            refine ⟨i + 1, by go_num, by omega, by omega, Nat.le_refl _, K2.out.1.heap rfl rfl rfl rfl, ?_⟩
            rw [← K2.out.2, ss_go d b i hc (by rw [hj1.out, ← HG.out, ← HG.out]; exact hm)]
        · have cX : Hid (∀ W, Calls Try.prog 75 #[.int .u64 (G i : Int), .int .u64 (G p : Int)] W fun e w' => e = .returned (.bool true) ∧ w' = W) := fun W => by have := less_any (G i) (G p) W; rw [hm] at this; exact this
          have hne : ((i : Int) == (b : Int)) = false := by
            have : ¬ (i : Int) = (b : Int) := by omega
            simpa using this
          go_wp2_with fail
          go_quiet (first | (go_at_call 75; refine Calls.quiet_of_same (cX.out _)))
          go_wp2
          go_ret
          have h1 := pi_short d a b i (by rw [← K2.out.2]; exact ss_stop d b i (.inr (by rw [hj1.out, ← HG.out, ← HG.out]; exact hm))) hs
          have h2 : decide (i = b) = false := by simp; omega
          rw [h2] at h1
          rw [h1]
          exact ⟨rfl, K2.out.1.heap rfl rfl rfl rfl⟩
      · have hc2 : ¬ (i : Int) < (b : Int) := by omega
        have hc3 : decide ((i : Int) < (b : Int)) = false := decide_eq_false hc2
        obtain rfl : i = b := by omega
        go_wp2_with fail
        go_quiet (fail)
        go_wp2
        go_ret
        have h1 := pi_short d a i i (by rw [← K2.out.2]; exact ss_stop d i i (.inl hc)) hs
        rw [h1]
        exact ⟨by simp, K2.out.1.heap rfl rfl rfl rfl⟩
end Go.Proofs.Ytghdkicijdfpcaa
