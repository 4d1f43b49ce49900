/-
  SegOrder answers true for every two numbers: numbers that nobody uses leave in the order in which they came.
-/
import Derived.WalkKit
import Derived.Below
import Derived.Test.YtgjgdhjnkbbceaaAwake
import Derived.Test.YtgjgdhjnkbbceaaMa2
namespace Go.Proofs.Ytgjgdhjnkbbceaa.segOrder
open Go.RowKit Go.Deep Sgm
set_option linter.unusedVariables false
set_option linter.unusedSimpArgs false

theorem cool_len {s : St} {l : List Int} (h : Cool s l) : s.all.length = l.length := by
  have := congrArg List.length h.all
  simpa [ids] using this
set_option maxRecDepth 8000 in
set_option maxHeartbeats 40000000 in
theorem walk (a0 : Int) (a1 : Int) (w : World) (hw0 : (Lit.int .i64 a0).wf = true) (hw1 : (Lit.int .i64 a1).wf = true) :
    Calls Try.prog 7 #[.int .i64 a0, .int .i64 a1] w fun e w' => e = .returned (.bool true) ∧ Below w.heap.size w w' := by
  have c0 := hide (awake_any w)
  by_cases h1 : a0 < 1
  · clear hw0 hw1
    skip
    go_enter Try.func7, Try.ntmps7
    go_wp2_with fail
    refine c0.out.mono ?_
    rintro e w1 ⟨rfl, B1⟩
    have B := hide B1
    clear c0 B1
    go_wp2
    go_ret
    exact ⟨rfl, B.out⟩
  by_cases h2 : 100 < a0
  · clear hw0 hw1
    skip
    go_enter Try.func7, Try.ntmps7
    go_wp2_with fail
    refine c0.out.mono ?_
    rintro e w1 ⟨rfl, B1⟩
    have B := hide B1
    clear c0 B1
    go_wp2
    go_ret
    exact ⟨rfl, B.out⟩
  by_cases h3 : a1 < 0
  · clear hw0 hw1
    skip
    go_enter Try.func7, Try.ntmps7
    go_wp2_with fail
    refine c0.out.mono ?_
    rintro e w1 ⟨rfl, B1⟩
    have B := hide B1
    clear c0 B1
    go_wp2
    go_ret
    exact ⟨rfl, B.out⟩
  by_cases h4 : a0 < a1
  · clear hw0 hw1
    skip
    go_enter Try.func7, Try.ntmps7
    go_wp2_with fail
    refine c0.out.mono ?_
    rintro e w1 ⟨rfl, B1⟩
    have B := hide B1
    clear c0 B1
    go_wp2
    go_ret
    exact ⟨rfl, B.out⟩
  obtain ⟨N, rfl⟩ : ∃ N : Nat, a0 = (N : Int) := ⟨a0.toNat, by omega⟩
  obtain ⟨K, rfl⟩ : ∃ K : Nat, a1 = (K : Int) := ⟨a1.toNat, by omega⟩
  have HB : Hid (1 ≤ N ∧ N ≤ 100 ∧ K ≤ N) := ⟨by omega, by omega, by omega⟩
  clear hw0 hw1
  go_enter Try.func7, Try.ntmps7
  go_wp2_with fail
  refine c0.out.mono ?_
  rintro e w1 ⟨rfl, B1⟩
  have cN := hide (new_l B1)
  clear c0 B1
  go_wp2_with fail
  refine cN.out.mono ?_
  rintro e w2 ⟨f, rfl, h2, _⟩
  have H2 := hide h2
  clear cN h2
  go_wp2
  go_loopg [6] N (fun kx s6 wr => ∃ (i : Nat) (s : St), s6 = .int .i64 i ∧ Hid (i ≤ N ∧ N - i ≤ kx ∧ SL w f s wr ∧ Cool s (downK 7 i)))
  case atStart => exact ⟨0, _, rfl, Nat.zero_le _, Nat.le_refl _, H2.out, cool_0⟩
  case round =>
    obtain ⟨i, s, rfl, I⟩ := hrel
    by_cases hlt : i < N
    · have hlt2 : (i : Int) < (N : Int) := by omega
      have hi9 : i ≤ 100 := by have := HB.out; omega
      have hl := cool_len I.out.2.2.2
      rw [downK_len] at hl
      obtain ⟨hc, hh⟩ := cool_add I.out.2.2.2 (downK_new (m := 7) (by decide) i)
      obtain ⟨v, hv⟩ : ∃ v : Int, v = 7 * (i : Int) := ⟨_, rfl⟩
      rw [← hv] at hc hh
      have c2 := hide (add_l I.out.2.2.1 (i := v) (i64_small (by omega)) (by omega))
      rw [hh] at c2
      simp only [Bool.not_false] at c2
      have e7 : (7 : Int) * (i : Int) = v := hv.symm
      obtain ⟨i1, hi1⟩ : ∃ i1, i1 = i + 1 := ⟨_, rfl⟩
      have e1 : (i : Int) + 1 = (i1 : Int) := by omega
      have HC : Hid (Cool (addS v s) (downK 7 i1)) := by rw [hi1]; unfold downK; rw [← hv]; exact hc
      have HK : Hid (N - i ≤ _) := I.out.2.1
      have HI1 := hide hi1
      have Hlt := hide hlt
      clear I hl hh hc hv hi1 hlt
      generalize addS v s = s2 at *
      go_wp2_with fail
      refine c2.out.mono ?_
      rintro e w3 ⟨rfl, h3, _⟩
      have H3 := hide h3
      clear c2 h3
      go_wp2
      go_roundg (N - i1)
      case measure => have := HK.out; have := HI1.out; have := Hlt.out; omega
      case rel => exact ⟨i1, s2, rfl, by have := HI1.out; have := Hlt.out; omega, Nat.le_refl _, H3.out, HC.out⟩
    · have hlt2 : ¬ (i : Int) < (N : Int) := by omega
      have HT : Hid (SL w f s wr ∧ Cool s (midK 7 0 N)) := by
        have h1 := I.out.2.2
        rw [show i = N by have := I.out.1; omega] at h1
        rw [midK_zero]
        exact h1
      clear I hlt
      obtain ⟨wo, hwo⟩ : ∃ wo, wo = wr := ⟨_, rfl⟩
      subst hwo
      go_wp2
      go_loopg [7, 8, 9] K (fun kx s7 s8 s9 wr => ∃ (j : Nat) (s : St), s7 = .int .i64 j ∧ Hid (j ≤ K ∧ K - j ≤ kx ∧ SL w f s wr ∧ Cool s (midK 7 j N)))
      case atStart => exact ⟨0, _, rfl, Nat.zero_le _, Nat.le_refl _, HT.out.1, HT.out.2⟩
      case round =>
        clear HT
        obtain ⟨j, s, rfl, I⟩ := hrel
        have hl := cool_len I.out.2.2.2
        rw [midK_len 7 j N (by have := I.out.1; have := HB.out; omega)] at hl
        by_cases hj : j < K
        · have hj2 : (j : Int) < (K : Int) := by omega
          have hj9 : j ≤ 100 := by have := HB.out; omega
          have hC := I.out.2.2.2
          rw [midK_step 7 j N (by have := HB.out; omega)] at hC
          obtain ⟨he, hc⟩ := cool_evi hC I.out.2.2.1.nd
          have c3 := hide (evict_l I.out.2.2.1 (by have := HB.out; omega))
          rw [he] at c3
          simp only [Option.getD_some, Option.isSome_some] at c3
          obtain ⟨v, hv⟩ : ∃ v : Int, v = 7 * (j : Int) := ⟨_, rfl⟩
          rw [← hv] at c3
          have e7 : (7 : Int) * (j : Int) = v := hv.symm
          obtain ⟨j1, hj1⟩ : ∃ j1, j1 = j + 1 := ⟨_, rfl⟩
          have e1 : (j : Int) + 1 = (j1 : Int) := by omega
          have HC : Hid (Cool (eviS s) (midK 7 j1 N)) := by rw [hj1]; exact hc
          have HK : Hid (K - j ≤ _) := I.out.2.1
          have HJ1 := hide hj1
          have Hj := hide hj
          clear I hl hC he hc hv hj1 hj
          generalize eviS s = s2 at *
          go_wp2_with fail
          refine c3.out.mono ?_
          rintro e w3 ⟨rfl, h3, _⟩
          have H3 := hide h3
          clear c3 h3
          go_wp2
          go_roundg (K - j1)
          case measure => have := HK.out; have := HJ1.out; have := Hj.out; omega
          case rel => exact ⟨j1, s2, rfl, by have := HJ1.out; have := Hj.out; omega, Nat.le_refl _, H3.out, HC.out⟩
        · have hj2 : ¬ (j : Int) < (K : Int) := by omega
          have c3 := hide (len_l I.out.2.2.1)
          have eL : (s.all.length : Int) = (N : Int) - (K : Int) := by
            have h1 := I.out.1
            have h2 := HB.out
            omega
          obtain ⟨d, hd⟩ : ∃ d : Int, d = (N : Int) - (K : Int) := ⟨_, rfl⟩
          rw [eL, ← hd] at c3
          have ed : (N : Int) - (K : Int) = d := hd.symm
          have BB := hide I.out.2.2.1.bel
          clear I hl eL hj hd
          go_wp2_with fail
          refine c3.out.mono ?_
          rintro e wx ⟨rfl, hx⟩
          obtain rfl : wr = wx := hx.symm
          clear hx c3
          go_wp2
          go_ret
          exact ⟨rfl, BB.out⟩
end Go.Proofs.Ytgjgdhjnkbbceaa.segOrder
