/- slices.Grow of nil, slices.Concat of three rows of numbers. -/
import Derived.Test.YtdkiegkgnimapabDoorRw
import Derived.Lib.AppendZeros
import Derived.Deep.LoopGhost
set_option linter.unusedVariables false
set_option linter.unusedSimpArgs false
set_option maxRecDepth 8000
namespace Go.Proofs.YtdkiegkgnimapabDoor
open Go.RowKit Go.Deep

theorem zcells (n : Nat) : (Builtin.zeroCells (Value.int .i64 0).cells n).size = n := by
  have h : n * (Value.int .i64 0).cells.size = n := Nat.mul_one n
  simpa [Builtin.zeroCells] using h
def GrP (w : World) (e : Ending) (w' : World) : Prop := ∃ va vc, e = .returned (.slice va 0 vc) ∧ GR intK w.heap.size (.slice va 0 vc) ([] : List Int) w' ∧ Below w.heap.size w w'
set_option maxHeartbeats 1000000 in
theorem grow_any (n : Nat) (hn : n ≤ 1000000) (w : World) : Calls Tryd.prog 53 #[.slice none 0 0, .int .i64 (n : Int)] w (GrP w) := by
  have h0 : ¬ ((n : Int) < 0) := by omega
  by_cases hz : n = 0
  · subst hz
    have HE : Hid (GrP w (.returned (.slice none 0 0)) w) := ⟨none, 0, rfl, GR.nil _ _ _, Below.refl _ _⟩
    go_enter Tryd.func53, Tryd.ntmps53
    go_wp2
    go_ret
    exact HE.out
  · obtain ⟨i0, hi, hi2⟩ := Option.map_eq_some_iff.1 info3
    simp only [Prod.mk.injEq] at hi2
    have hr := fun ty => Lib.run_append_nil_zeros (P := Tryd.prog) w 71 3 ty 3 i0 (.int .i64 0) .i64 .i64 Tryd.underlying71 Tryd.underlying3 hi hi2.1 n (by omega) (by rw [hi2.2.1]; decide) (by omega) (by rw [hi2.2.2]; omega)
    obtain ⟨cap, hcap⟩ : ∃ cap, cap = grownCap w n 0 3 := ⟨_, rfl⟩
    have hg1 : n ≤ cap := by rw [hcap]; exact grownCap_ge w n 0 3
    have hg2 : cap ≤ maxLen := by rw [hcap]; exact grownCap_le_maxLen w n 0 3 (by unfold maxLen; omega)
    rw [← hcap] at hr
    obtain ⟨W1, hW1⟩ : ∃ W1, W1 = w.drew.alloc (.cells (Builtin.zeroCells (Value.int .i64 0).cells n ++ Builtin.zeroCells (Value.int .i64 0).cells (cap - n)) 3) := ⟨_, rfl⟩
    rw [← hW1] at hr
    have HE : Hid (GrP w (.returned (.slice (some ⟨w.heap.size, 0, none⟩) 0 cap)) W1) := by
      refine ⟨_, _, rfl, ⟨by simp [Kd.row], .inr ⟨w.heap.size, cap, Builtin.zeroCells (Value.int .i64 0).cells n ++ Builtin.zeroCells (Value.int .i64 0).cells (cap - n), rfl, Nat.le_refl _, ?_, Nat.zero_le _, hg2, ?_, by simp [Kd.row]⟩⟩, ?_⟩
      · rw [hW1]
        exact blk_alloc_new _ _
      · rw [Array.size_append, zcells, zcells]
        show _ = cap * 1
        omega
      · rw [hW1]
        exact (Below.refl _ w).drew.alloc (Nat.le_refl _) _
    have HR := hide hr
    have hn1 : (0 : Int) < (n : Int) := by omega
    have hn2 : (n : Int) ≤ 1000000 := by omega
    clear hi hi2 hcap hg1 hg2 hW1 hr hz hn
    go_enter Tryd.func53, Tryd.ntmps53
    go_wp2_with (at_builtin; refine Lib.wpList_append_run _ rfl _ _ _ _ rfl _ _ rfl rfl _ _ (HR.out _) ?_)
    go_ret
    exact HE.out
/-! ### Concat -/
/-- Three rows of numbers, and the row of the three. -/
structure Tri (B : Nat) (W : World) (g : Nat) (v : Nat → Value) (xs : Nat → List Int) : Prop where
  row : Blk W g [v 0, v 1, v 2] 71
  gr : ∀ k, k < 3 → GR intK B (v k) (xs k) W
  len : ∀ k, k < 3 → (xs k).length ≤ 100000
def catI (xs : Nat → List Int) : Nat → List Int
  | 0 => []
  | k + 1 => catI xs k ++ xs k
def CatP (w : World) (xs : List Int) (e : Ending) (w' : World) : Prop := ∃ va vc, e = .returned (.slice va xs.length vc) ∧ GR intK w.heap.size (.slice va xs.length vc) xs w' ∧ Below w.heap.size w w'
theorem catI_len (xs : Nat → List Int) (h : ∀ k, k < 3 → (xs k).length ≤ 100000) : ∀ k, k ≤ 3 → (catI xs k).length ≤ 100000 * k
  | 0, _ => by simp [catI]
  | k + 1, hk => by
    have := catI_len xs h k (by omega)
    have := h k (by omega)
    simp only [catI, List.length_append]
    omega
set_option maxHeartbeats 4000000 in
theorem concat_any {B : Nat} {w : World} {g : Nat} {v : Nat → Value} {xs : Nat → List Int} (h : Tri B w g v xs) : Calls Tryd.prog 31 #[.slice (some ⟨g, 0, none⟩) 3 3] w (CatP w (catI xs 3)) := by
  have HC : Hid (∀ k, k < 3 → ∃ a c, v k = .slice a (xs k).length c ∧ w.cell? ⟨g, k, none⟩ = some (v k)) := fun k hk => by
    obtain ⟨a, c, e⟩ := (h.gr k hk).slice
    refine ⟨a, c, e, ?_⟩
    match k, hk with
    | 0, _ => exact h.row.cell rfl
    | 1, _ => exact h.row.cell rfl
    | 2, _ => exact h.row.cell rfl
  have HL := hide (catI_len xs h.len)
  have HX := hide h.len
  have HH := hide h
  clear h
  go_enter Tryd.func31, Tryd.ntmps31
  go_wp2
  go_loopg [3, 5, 11] 3 (fun kx s3 s5 s11 wr => ∃ (i : Nat), s11 = .int .i64 (i : Int) ∧ s3 = .int .i64 ((catI xs i).length : Int) ∧ wr = w ∧ Hid (i ≤ 3 ∧ 3 - i ≤ kx))
  case atStart => exact ⟨0, rfl, rfl, rfl, by decide, by decide⟩
  case round =>
    obtain ⟨i, rfl, rfl, rfl, I⟩ := hrel
    by_cases hlt : i < 3
    · have hlt2 : (i : Int) < 3 := by omega
      obtain ⟨a, c, ev, hc⟩ := HC.out i hlt
      rw [ev] at hc
      have hS : Hid ((catI xs (i + 1)).length = (catI xs i).length + (xs i).length) := by show (catI xs i ++ xs i).length = _; simp
      have h1 := HL.out i (by omega)
      have h2 := HX.out i hlt
      obtain ⟨p, hp⟩ : ∃ p, p = (catI xs i).length := ⟨_, rfl⟩
      obtain ⟨q, hq⟩ : ∃ q, q = (xs i).length := ⟨_, rfl⟩
      rw [← hp] at h1 hS ⊢
      rw [← hq] at h2 hS hc
      have hp9 : (p : Int) ≤ 300000 := by omega
      have hq9 : (q : Int) ≤ 100000 := by omega
      have hnn : ¬ ((p : Int) + (q : Int) < 0) := by omega
      have HLT := hide hlt
      clear hlt ev h1 h2 hp hq
      go_wp2
      go_roundg (3 - (i + 1))
      case measure => have := I.out; have := HLT.out; omega
      case rel => exact ⟨i + 1, rfl, by rw [hS.out]; rfl, rfl, by have := HLT.out; omega, Nat.le_refl _⟩
    · obtain rfl : i = 3 := by have := I.out.1; omega
      have hL3 := HL.out 3 (by decide)
      obtain ⟨n, hn⟩ : ∃ n, n = (catI xs 3).length := ⟨_, rfl⟩
      rw [← hn] at hL3 ⊢
      have cG := hide (grow_any n (by omega) wr)
      have HN := hide hn
      clear hn hlt
      go_wp2_with fail
      refine cG.out.mono ?_
      rintro e W1 ⟨va, vc, rfl, g1, b1⟩
      have HG := hide (And.intro g1 b1)
      clear cG g1 b1
      obtain ⟨wo, hwo⟩ : ∃ wo, wo = wr := ⟨_, rfl⟩
      subst hwo
      go_wp2
      go_loopg [6, 8, 27] 3 (fun kx s6 s8 s27 wq => ∃ (i : Nat) (va : Option Addr) (m vc : Nat), s27 = .int .i64 (i : Int) ∧ s6 = .slice va m vc ∧ Hid (i ≤ 3 ∧ 3 - i ≤ kx ∧ m = (catI xs i).length ∧ GR intK wo.heap.size (.slice va m vc) (catI xs i) wq ∧ Below wo.heap.size wo wq))
      case atStart => exact ⟨0, va, 0, vc, rfl, rfl, by decide, by decide, rfl, HG.out.1, HG.out.2⟩
      case round =>
        obtain ⟨i, va, m, vc, rfl, rfl, J⟩ := hrel
        obtain ⟨j1, j2, j3, j4, j5⟩ := J.out
        by_cases hlt : i < 3
        · have hlt2 : (i : Int) < 3 := by omega
          obtain ⟨a, c, ev, hc⟩ := HC.out i hlt
          have hc2 : wr.cell? ⟨g, i, none⟩ = some (v i) := (j5.cell (p := ⟨g, i, none⟩) HH.out.row.lt).trans hc
          have hsrc := ((HH.out.gr i hlt).below j5).src
          obtain ⟨u', W2, hrun, hS, hK, hO⟩ := app_g j4 j5.size hsrc (by have h1 := HL.out i (by omega); have h2 := HX.out i hlt; omega)
          obtain ⟨va2, vc2, e2⟩ := hS.slice
          have HS : Hid (i + 1 ≤ 3 ∧ 3 - (i + 1) ≤ 3 - (i + 1) ∧ (catI xs i ++ xs i).length = (catI xs (i + 1)).length ∧ GR intK wo.heap.size (.slice va2 (catI xs i ++ xs i).length vc2) (catI xs (i + 1)) W2 ∧ Below wo.heap.size wo W2) :=
            ⟨by omega, Nat.le_refl _, rfl, by rw [← e2]; exact hS, j5.trans (hK.below (fun q hq => (j4.lt q hq).1) j5.size)⟩
          rw [e2] at hrun
          rw [ev] at hc2 hrun
          have HR : Hid (∀ ty, (Builtin.append_ #[71, 71] ty #[.slice va m vc, .slice a (xs i).length c]).run Tryd.prog wr = .ok (.slice va2 (catI xs i ++ xs i).length vc2) W2) := hrun
          generalize (catI xs i ++ xs i).length = m2 at *
          generalize (xs i).length = q at *
          have HLT := hide hlt
          have HJ2 := hide j2
          clear hlt ev hc hsrc hrun hS hK hO e2 j1 j2 j3 j4 j5 J HG
          go_wp2_with (at_builtin; refine Lib.wpList_append_run _ rfl _ _ _ _ rfl _ _ rfl rfl _ _ (HR.out _) ?_)
          go_roundg (3 - (i + 1))
          case measure => have := HJ2.out; have := HLT.out; omega
          case rel => exact ⟨i + 1, va2, m2, vc2, rfl, rfl, HS.out⟩
        · obtain rfl : i = 3 := by omega
          have HE : Hid (CatP wo (catI xs 3) (.returned (.slice va m vc)) wr) := by
            subst j3
            exact ⟨va, vc, rfl, j4, j5⟩
          clear j1 j2 j3 j4 j5 J HG hlt
          go_wp2
          go_ret
          exact HE.out
end Go.Proofs.YtdkiegkgnimapabDoor
