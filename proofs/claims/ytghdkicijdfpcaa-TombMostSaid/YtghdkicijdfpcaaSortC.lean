/- Heap sort and reversal of a row of numbers. -/
import Derived.Test.YtghdkicijdfpcaaSortB
set_option linter.unusedVariables false
set_option linter.unusedSimpArgs false
set_option maxRecDepth 8000
namespace Go.Proofs.Ytghdkicijdfpcaa
open Go.RowKit Go.Deep Go.Sort

theorem SR.set {w W : World} {blk : Nat} {d : Array Nat} (h : SR w W blk d) (i x : Nat) (hi : i < d.size) : SR w (W.setCell ⟨blk, i, none⟩ (encU x)) blk (d.setIfInBounds i x) := by
  have h1 : putRow encU W blk 0 d = W := putRow_self _ _ _ _ _ h.holds
  have h2 := putRow_set encU W blk 0 d i x hi
  rw [h1, Nat.zero_add] at h2
  rw [h2]
  exact h.put (by simp)
/-- What stands there behind one store. -/
theorem SR.after {w W : World} {blk : Nat} {d : Array Nat} (h : SR w W blk d) (i x j : Nat) (hi : i < d.size) (hj : j < d.size) : (∃ y : Nat, (W.setCell ⟨blk, i, none⟩ (.int .u64 (x : Int))).cell? ⟨blk, j, none⟩ = some (.int .u64 (y : Int))) ∧ (W.setCell ⟨blk, i, none⟩ (.int .u64 (x : Int))).frozen? ⟨blk, j, none⟩ = false := by
  have h1 := (h.set i x hi).at
  exact ⟨⟨_, h1.1 j (by simpa using hj)⟩, h1.2 j (by simpa using hj)⟩
theorem sift_size (hi first : Nat) : ∀ (k root : Nat) (d : Array Nat), hi - root ≤ k → (siftDown lt64 hi first root d).size = d.size := by
  intro k
  induction k with
  | zero =>
    intro root d h
    rw [sift_end _ _ _ _ (by omega)]
  | succ k ih =>
    intro root d h
    by_cases he : hi ≤ 2 * root + 1
    · rw [sift_end _ _ _ _ he]
    · cases hl : lt64 d[first + root]! d[first + kid hi first root d]!
      · rw [sift_stop _ _ _ _ he hl]
      · have := kid_lt hi first root d he
        rw [sift_go _ _ _ _ he hl, ih _ _ (by omega), swp_size]
theorem sift_size' (hi first root : Nat) (d : Array Nat) : (siftDown lt64 hi first root d).size = d.size := sift_size hi first _ root d (Nat.le_refl _)
set_option maxHeartbeats 4000000 in
theorem heap_any (w0 : World) (blk N cap a b : Nat) (d : Array Nat) (W : World) (hN : d.size = N) (h : SR w0 W blk d) (hab : a < b) (hb : b ≤ N) (hsz : N ≤ 1000000) :
    Calls Try.prog 70 #[.slice (some ⟨blk, 0, none⟩) N cap, .int .i64 a, .int .i64 b] W fun e W' => e = .returned (.tuple #[]) ∧ SR w0 W' blk (Sort.heapSort lt64 d a b) := by
  have H := hide' h
  have HN := hide' hN
  clear h hN
  obtain ⟨hi, hhi⟩ : ∃ hi, hi = b - a := ⟨_, rfl⟩
  have e1 : (b : Int) - (a : Int) = (hi : Int) := by omega
  obtain ⟨k0, hk0⟩ : ∃ k, k = (hi - 1) / 2 := ⟨_, rfl⟩
  have e2 : ((hi : Int) - 1).tdiv 2 = (k0 : Int) := by rw [Int.tdiv_eq_ediv_of_nonneg (by omega)]; omega
  have hhiN : hi ≤ 1000000 := by omega
  have hk0N : k0 ≤ 1000000 := by omega
  have HHI := hide' hhi
  have HK0 := hide' hk0
  have hhp : 1 ≤ hi := by omega
  have hahi : a + hi ≤ N := by omega
  clear hhi hk0
  go_enter Try.func70, Try.ntmps70
  go_wp2_with fail
  go_loopg [9] (k0 + 2) (fun kx s9 wr => ∃ (k : Nat) (z : Int) (dk : Array Nat), s9 = .int .i64 z ∧ z = (k : Int) - 1 ∧ k ≤ k0 + 1 ∧ k ≤ kx ∧ Hid (dk.size = N ∧ SR w0 wr blk dk ∧ heapBuild lt64 hi a k dk = heapBuild lt64 hi a (k0 + 1) d))
  case atStart => exact ⟨k0 + 1, _, d, rfl, by omega, Nat.le_refl _, by omega, HN.out, H.out, rfl⟩
  case round =>
    obtain ⟨k, z, dk, rfl, hz, hk, hg, K⟩ := hrel
    cases k with
    | succ r =>
      obtain rfl : z = (r : Int) := by omega
      clear hz
      have cS := hide' (sift_any w0 blk N cap r hi a dk wr K.out.1 K.out.2.1 hahi (by have := HK0.out; omega) hsz)
      have hr0 : (0 : Int) ≤ (r : Int) := by omega
      go_wp2_with fail
      refine cS.out.mono ?_
      rintro e w5 ⟨rfl, t5⟩
      have T5 := hide' t5
      clear t5 cS
      go_wp2
      go_roundg r
      case measure => omega
      case rel => exact ⟨r, _, _, rfl, rfl, by omega, Nat.le_refl _, by rw [sift_size']; exact K.out.1, T5.out, K.out.2.2⟩
    | zero =>
      obtain rfl : z = -1 := by omega
      clear hz hg hk
      have D1 := hide' K.out.2.2
      go_wp2_with fail
      go_loopg [10] (hi + 1) (fun kx s10 wr => ∃ (k : Nat) (z : Int) (dj : Array Nat), s10 = .int .i64 z ∧ z = (k : Int) - 1 ∧ k ≤ hi ∧ k ≤ kx ∧ Hid (dj.size = N ∧ SR w0 wr blk dj ∧ heapPop lt64 a k dj = heapPop lt64 a hi dk))
      case atStart => exact ⟨hi, _, dk, rfl, by omega, Nat.le_refl _, by omega, K.out.1, K.out.2.1, rfl⟩
      case round =>
        obtain ⟨k, z, dj, rfl, hz, hk, hg, K2⟩ := hrel
        cases k with
        | succ r =>
          obtain rfl : z = (r : Int) := by omega
          clear hz
          obtain ⟨fr, hfr⟩ : ∃ f : Nat, f = a + r := ⟨_, rfl⟩
          have e4 : (a : Int) + (r : Int) = (fr : Int) := by omega
          obtain ⟨G, g1, g2, g3⟩ := K2.out.2.1.fam
          rw [K2.out.1] at g2 g3
          have HG := hide' g1
          have hr0 : (0 : Int) ≤ (r : Int) := by omega
          have ia : (a : Int) < (N : Int) := by omega
          have ir : (fr : Int) < (N : Int) := by omega
          have ya := g2 a (by omega)
          have yr := g2 fr (by omega)
          have za := g3 a (by omega)
          have zr := g3 fr (by omega)
          have hfrN : fr ≤ 1000000 := by omega
          have HFR := hide' hfr
          obtain ⟨⟨q1, x1⟩, x2⟩ := K2.out.2.1.after a (G fr) fr (by rw [K2.out.1]; omega) (by rw [K2.out.1]; omega)
          obtain ⟨⟨q2, x3⟩, x4⟩ := K2.out.2.1.after fr (G a) a (by rw [K2.out.1]; omega) (by rw [K2.out.1]; omega)
          clear hfr g1 g2 g3
          go_wp2_with fail
          go_region
          all_goals go_wp2_with fail
          have hS := (K2.out.2.1.swap a fr (by rw [K2.out.1]; omega) (by rw [K2.out.1]; omega))
          rw [← HG.out, ← HG.out] at hS
          have hsw : (swp dj a fr).size = N := by rw [swp_size]; exact K2.out.1
          have hS2 : SR w0 (((wr.setCell ⟨blk, a, none⟩ (.int .u64 (G fr : Int))).setCell ⟨blk, fr, none⟩ (.int .u64 (G a : Int))).drew) blk (swp dj a fr) := SR.heap hS rfl rfl rfl rfl
          refine (sift_any w0 blk N cap 0 r a (swp dj a fr) _ hsw hS2 (by omega) (Nat.zero_le _) hsz).mono ?_
          rintro e w5 ⟨rfl, t5⟩
          have T5 := hide' t5
          clear t5 hS hS2 hsw x1 x2 x3 x4 ya yr za zr
          go_wp2
          go_roundg r
          case measure => omega
          case rel =>
            refine ⟨r, _, _, rfl, rfl, by omega, Nat.le_refl _, by rw [sift_size', swp_size]; exact K2.out.1, T5.out, ?_⟩
            rw [← K2.out.2.2, heapPop, HFR.out]
        | zero =>
          obtain rfl : z = -1 := by omega
          clear hz hg hk
          go_wp2
          go_end0
          refine ⟨rfl, ?_⟩
          have h1 := K2.out.2.2
          have h2 := D1.out
          have h3 : Sort.heapSort lt64 d a b = dj := by
            unfold Sort.heapSort
            rw [← HHI.out, ← HK0.out, ← h2]
            show heapPop lt64 a hi dk = dj
            rw [← h1]
            rfl
          rw [h3]
          exact K2.out.2.1
end Go.Proofs.Ytghdkicijdfpcaa
