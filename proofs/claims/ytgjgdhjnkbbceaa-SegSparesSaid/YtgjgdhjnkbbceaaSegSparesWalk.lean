/-
  SegSpares answers true for every two numbers: a number that is used is not the next to go.
-/
import Derived.WalkKit
import Derived.Below
import Derived.Test.YtgjgdhjnkbbceaaAwake
import Derived.Test.YtgjgdhjnkbbceaaMa2
namespace Go.Proofs.Ytgjgdhjnkbbceaa.segSpares
open Go.RowKit Go.Deep Sgm
set_option linter.unusedVariables false
set_option linter.unusedSimpArgs false

theorem cool_len {s : St} {l : List Int} (h : Cool s l) : s.all.length = l.length := by
  have := congrArg List.length h.all
  simpa [ids] using this
set_option maxRecDepth 8000 in
set_option maxHeartbeats 40000000 in
theorem walk (a0 : Int) (a1 : Int) (w : World) (hw0 : (Lit.int .i64 a0).wf = true) (hw1 : (Lit.int .i64 a1).wf = true) :
    Calls Try.prog 6 #[.int .i64 a0, .int .i64 a1] w fun e w' => e = .returned (.bool true) ∧ Below w.heap.size w w' := by
  have c0 := hide (awake_any w)
  by_cases h1 : a0 < 5
  · clear hw0 hw1
    skip
    go_enter Try.func6, Try.ntmps6
    go_wp2_with fail
    refine c0.out.mono ?_
    rintro e w1 ⟨rfl, B1⟩
    have B := hide B1
    clear c0 B1
    go_wp2
    go_ret
    exact ⟨rfl, B.out⟩
  by_cases h2 : 100 < a0
  · clear hw0 hw1
    skip
    go_enter Try.func6, Try.ntmps6
    go_wp2_with fail
    refine c0.out.mono ?_
    rintro e w1 ⟨rfl, B1⟩
    have B := hide B1
    clear c0 B1
    go_wp2
    go_ret
    exact ⟨rfl, B.out⟩
  by_cases h3 : a1 < 0
  · clear hw0 hw1
    skip
    go_enter Try.func6, Try.ntmps6
    go_wp2_with fail
    refine c0.out.mono ?_
    rintro e w1 ⟨rfl, B1⟩
    have B := hide B1
    clear c0 B1
    go_wp2
    go_ret
    exact ⟨rfl, B.out⟩
  by_cases h4 : a0 ≤ a1
  · clear hw0 hw1
    skip
    go_enter Try.func6, Try.ntmps6
    go_wp2_with fail
    refine c0.out.mono ?_
    rintro e w1 ⟨rfl, B1⟩
    have B := hide B1
    clear c0 B1
    go_wp2
    go_ret
    exact ⟨rfl, B.out⟩
  obtain ⟨N, rfl⟩ : ∃ N : Nat, a0 = (N : Int) := ⟨a0.toNat, by omega⟩
  have HB : Hid (5 ≤ N ∧ N ≤ 100 ∧ 0 ≤ a1 ∧ a1 < (N : Int)) := ⟨by omega, by omega, by omega, by omega⟩
  clear hw0 hw1
  go_enter Try.func6, Try.ntmps6
  go_wp2_with fail
  refine c0.out.mono ?_
  rintro e w1 ⟨rfl, B1⟩
  have cN := hide (new_l B1)
  clear c0 B1
  go_wp2_with fail
  refine cN.out.mono ?_
  rintro e w2 ⟨f, rfl, h2, _⟩
  have H2 := hide h2
  clear cN h2
  go_wp2
  go_loopg [6] N (fun kx s6 wr => ∃ (i : Nat) (s : St), s6 = .int .i64 i ∧ Hid (i ≤ N ∧ N - i ≤ kx ∧ SL w f s wr ∧ Cool s (downK 1 i)))
  case atStart => exact ⟨0, _, rfl, Nat.zero_le _, Nat.le_refl _, H2.out, cool_0⟩
  case round =>
    obtain ⟨i, s, rfl, I⟩ := hrel
    have hl := cool_len I.out.2.2.2
    rw [downK_len] at hl
    by_cases hlt : i < N
    · have hlt2 : (i : Int) < (N : Int) := by omega
      have hi9 : i ≤ 100 := by have := HB.out; omega
      obtain ⟨hc, hh⟩ := cool_add I.out.2.2.2 (downK_new (m := 1) (by decide) i)
      have e7 : (1 : Int) * (i : Int) = (i : Int) := Int.one_mul _
      have HC0 : Hid (downK 1 (i + 1) = (i : Int) :: downK 1 i) := by show _ :: _ = _; rw [e7]
      rw [e7] at hc hh
      have c2 := hide (add_l I.out.2.2.1 (i := (i : Int)) (i64_small (by omega)) (by omega))
      obtain ⟨i1, hi1⟩ : ∃ i1, i1 = i + 1 := ⟨_, rfl⟩
      have e1 : (i : Int) + 1 = (i1 : Int) := by omega
      have HC : Hid (Cool (addS (i : Int) s) (downK 1 i1)) := by rw [hi1, HC0.out]; exact hc
      have HK : Hid (N - i ≤ _) := I.out.2.1
      have HI1 := hide hi1
      have Hlt := hide hlt
      clear I hl hh hc hi1 hlt HC0 e7
      generalize addS (i : Int) s = s2 at *
      go_wp2_with fail
      refine c2.out.mono ?_
      rintro e w3 ⟨rfl, h3, _⟩
      have H3 := hide h3
      clear c2 h3
      go_wp2
      go_roundg (N - i1)
      case measure => have := HK.out; have := HI1.out; have := Hlt.out; omega
      case rel => exact ⟨i1, s2, rfl, by have := HI1.out; have := Hlt.out; omega, Nat.le_refl _, H3.out, HC.out⟩
    · have hlt2 : ¬ (i : Int) < (N : Int) := by omega
      have hiN : i = N := by have := I.out.1; omega
      have c3 := hide (touch_l I.out.2.2.1 (i := a1) (i64_small (by have := HB.out; omega)))
      have hl2 := tch_len a1 s
      have hsp := fun h => spare_one (i := a1) (s := tchS a1 s) (tch_nd I.out.2.2.1.nd) (tch_used I.out.2.2.2.u) tch_used2 h
      have hev : (evi (tchS a1 s)).isSome = true := by
        cases he : evi (tchS a1 s) with
        | some x => rfl
        | none =>
          have := evi_none.1 he
          have := HB.out
          omega
      have hl9 : (tchS a1 s).all.length ≤ 100000 := by have := HB.out; omega
      have HSP := hide hsp
      have HEV := hide hev
      clear I hl hl2 hsp hev hlt hiN
      generalize s.has a1 = fr at *
      generalize tchS a1 s = s2 at *
      go_wp2_with fail
      refine c3.out.mono ?_
      rintro e w3 ⟨rfl, h3, _⟩
      have c4 := hide (lists_l h3 hl9)
      simp only [rwV] at c4
      obtain ⟨nc, hnc⟩ : ∃ nc, nc = s2.c.length := ⟨_, rfl⟩
      rw [← hnc] at c4
      have HNC := hide hnc
      have hnc9 : nc ≤ 100000 := by
        rw [hnc]
        have : s2.c.length ≤ s2.all.length := by simp [St.all]; omega
        omega
      clear c3 h3 hnc
      generalize s2.h.length = nh at *
      generalize s2.w.length = nw at *
      generalize w3.heap.size + 1 + nh + 1 + nw = g2 at *
      generalize w3.heap.size + 1 + nh = g1 at *
      generalize w3.heap.size = g0 at *
      go_wp2_with fail
      refine c4.out.mono ?_
      rintro e w4 ⟨rfl, _, h4⟩
      have c5 := hide (evict_l h4 hl9)
      rw [HEV.out] at c5
      obtain ⟨x, hx⟩ : ∃ x, x = (evi s2).getD 0 := ⟨_, rfl⟩
      rw [← hx] at c5
      have HX := hide hx
      clear c4 h4 hx
      go_wp2_with fail
      refine c5.out.mono ?_
      rintro e w5 ⟨rfl, h5, _⟩
      have BB := hide h5.bel
      clear c5 h5
      by_cases h2 : nc < 2
      · have h2' : (nc : Int) < 2 := by omega
        clear h2
        go_wp2
        go_ret
        exact ⟨rfl, BB.out⟩
      · have h2' : ¬ (nc : Int) < 2 := by omega
        obtain ⟨jx, hj1, hj2⟩ := HSP.out (by rw [← HNC.out]; omega)
        have hxx : x = jx := by rw [HX.out, hj1]; rfl
        subst hxx
        have hb : (x != a1) = true := by simpa using hj2
        have hbe : (x == a1) = false := by simpa using hj2
        have hj3 : ¬ x = a1 := hj2
        clear h2 hj1 hj2
        go_wp2
        go_ret
        exact ⟨rfl, BB.out⟩
end Go.Proofs.Ytgjgdhjnkbbceaa.segSpares
