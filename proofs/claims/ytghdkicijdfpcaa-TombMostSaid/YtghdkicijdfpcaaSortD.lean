/- Reversal of a row of numbers; the two scans. -/
import Derived.Test.YtghdkicijdfpcaaSortC
set_option linter.unusedVariables false
set_option linter.unusedSimpArgs false
set_option maxRecDepth 8000
namespace Go.Proofs.Ytghdkicijdfpcaa
open Go.RowKit Go.Deep Go.Sort

set_option maxHeartbeats 4000000 in
theorem rev_any (w0 : World) (blk N cap a b : Nat) (d : Array Nat) (W : World) (hN : d.size = N) (h : SR w0 W blk d) (hab : a < b) (hb : b ≤ N) (hsz : N ≤ 1000000) :
    Calls Try.prog 73 #[.slice (some ⟨blk, 0, none⟩) N cap, .int .i64 a, .int .i64 b] W fun e W' => e = .returned (.tuple #[]) ∧ SR w0 W' blk (Sort.reverseRange d a b) := by
  have H := hide' h
  have HN := hide' hN
  clear h hN
  obtain ⟨b1, hb1⟩ : ∃ b1, b = b1 + 1 := ⟨b - 1, by omega⟩
  subst hb1
  go_enter Try.func73, Try.ntmps73
  go_wp2_with fail
  go_loopg [6, 7] (b1 + 1) (fun kx s6 s7 wr => ∃ (i j : Nat) (dk : Array Nat), s6 = .int .i64 i ∧ s7 = .int .i64 j ∧ i ≤ N ∧ j ≤ b1 ∧ j ≤ kx ∧ Hid (dk.size = N ∧ SR w0 wr blk dk ∧ reverseLoop i j dk = reverseLoop a b1 d))
  case atStart => exact ⟨a, b1, d, rfl, by go_num, by omega, Nat.le_refl _, by omega, HN.out, H.out, rfl⟩
  case round =>
    obtain ⟨i, j, dk, rfl, rfl, hi, hj, hg, K⟩ := hrel
    by_cases hlt : i < j
    · have hlt2 : (i : Int) < (j : Int) := by omega
      obtain ⟨G, g1, g2, g3⟩ := K.out.2.1.fam
      rw [K.out.1] at g2 g3
      have HG := hide' g1
      have ii : (i : Int) < (N : Int) := by omega
      have ij : (j : Int) < (N : Int) := by omega
      have yi := g2 i (by omega)
      have yj := g2 j (by omega)
      have zi := g3 i (by omega)
      have zj := g3 j (by omega)
      have hne : (i = j) = False := eq_false (by omega)
      obtain ⟨⟨q1, x1⟩, x2⟩ := K.out.2.1.after i (G j) j (by rw [K.out.1]; omega) (by rw [K.out.1]; omega)
      obtain ⟨⟨q2, x3⟩, x4⟩ := K.out.2.1.after j (G i) i (by rw [K.out.1]; omega) (by rw [K.out.1]; omega)
      clear g1 g2 g3
      go_wp2_with fail
      go_region
      all_goals go_wp2
      go_roundg (j - 1)
      case measure => omega
      case rel =>
        refine ⟨i + 1, j - 1, swp dk i j, by go_num, by congr 1; omega, by omega, by omega, Nat.le_refl _, by rw [swp_size]; exact K.out.1, ?_, ?_⟩
        · have hS := K.out.2.1.swap i j (by rw [K.out.1]; omega) (by rw [K.out.1]; omega)
          rw [← HG.out, ← HG.out] at hS
          exact SR.heap hS rfl rfl rfl rfl
        · rw [← K.out.2.2]
          conv => rhs; rw [reverseLoop, if_pos hlt]
    · have hlt2 : ¬ (i : Int) < (j : Int) := by omega
      go_wp2
      go_end0
      refine ⟨rfl, ?_⟩
      show SR w0 wr blk (reverseLoop a (b1 + 1 - 1) d)
      rw [Nat.add_sub_cancel, ← K.out.2.2, reverseLoop, if_neg hlt]
      exact K.out.2.1
end Go.Proofs.Ytghdkicijdfpcaa
