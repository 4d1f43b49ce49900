/- The pivot of a short row of numbers. -/
import Derived.Test.YtghdkicijdfpcaaSortH
set_option linter.unusedVariables false
set_option linter.unusedSimpArgs false
set_option maxRecDepth 8000
namespace Go.Proofs.Ytghdkicijdfpcaa
open Go.RowKit Go.Deep Go.Sort

theorem SR.lt {w W : World} {blk : Nat} {d : Array Nat} (h : SR w W blk d) (hd : 0 < d.size) : blk < W.heap.size := block_lt_of_cell (a := ⟨blk, 0, none⟩) (h.at.1 0 hd)
theorem SR.alloc {w W : World} {blk : Nat} {d : Array Nat} (h : SR w W blk d) (hd : 0 < d.size) (o : Obj) : SR w (W.alloc o) blk d := by
  have hl := h.lt hd
  refine ⟨fun t ht => ?_, ⟨h.keep.os, h.keep.tape, h.keep.output, by have := h.keep.size; simp; omega, fun k hk hn => ?_⟩, h.shape.same (Below.heap_alloc W o blk hl)⟩
  · have := h.holds t ht
    unfold World.cell? World.frozen? at this ⊢
    simp only [Below.heap_alloc W o blk hl] at this ⊢
    exact this
  · rw [Below.heap_alloc W o k (by have := h.keep.size; omega)]; exact h.keep.block k hk hn
def hintI : Hint → Int
  | .unknown => 0
  | .increasing => 1
  | .decreasing => 2
set_option maxHeartbeats 4000000 in
theorem pivot_short (w0 : World) (blk N cap a b : Nat) (d : Array Nat) (W : World) (hN : d.size = N) (h : SR w0 W blk d) (hab : a + 8 ≤ b) (hb : b ≤ N) (h50 : b < a + 50) (hsz : N ≤ 1000000) :
    Calls Try.prog 72 #[.slice (some ⟨blk, 0, none⟩) N cap, .int .i64 a, .int .i64 b] W fun e W' => e = .returned (.tuple #[.int .i64 ((Sort.choosePivot lt64 d a b).1 : Nat), .int .i64 (hintI (Sort.choosePivot lt64 d a b).2)]) ∧ SR w0 W' blk d := by
  have hd : 0 < d.size := by omega
  obtain ⟨l, hl⟩ : ∃ l, l = b - a := ⟨_, rfl⟩
  obtain ⟨r, hr⟩ : ∃ r, r = l / 4 := ⟨_, rfl⟩
  have e1 : (b : Int) - (a : Int) = (l : Int) := by omega
  have e2 : (l : Int).tdiv 4 = (r : Int) := by rw [Int.tdiv_eq_ediv_of_nonneg (by omega)]; omega
  obtain ⟨i, hi⟩ : ∃ i, i = a + r * 1 := ⟨_, rfl⟩
  obtain ⟨j, hj⟩ : ∃ j, j = a + r * 2 := ⟨_, rfl⟩
  obtain ⟨k, hk⟩ : ∃ k, k = a + r * 3 := ⟨_, rfl⟩
  have e3 : (a : Int) + (r : Int) = (i : Int) := by omega
  have e4 : (a : Int) + (r : Int) * 2 = (j : Int) := by omega
  have e5 : (a : Int) + (r : Int) * 3 = (k : Int) := by omega
  have hiN : i < N := by omega
  have hjN : j < N := by omega
  have hkN : k < N := by omega
  have hl8 : (8 : Int) ≤ (l : Int) := by omega
  have hl50 : ¬ (50 : Int) ≤ (l : Int) := by omega
  have hrN : r ≤ 1000000 := by omega
  have HS : Hid (SB w0 (W.alloc (.cells #[.int .i64 ((0 : Nat) : Int)] 3)) blk d W.heap.size 0) := ⟨h.alloc hd _, Blk.new W [.int .i64 ((0 : Nat) : Int)] 3, h.keep.size, by have := h.lt hd; omega⟩
  have cM := hide' (median_any w0 blk N cap i j k W.heap.size 0 d _ hN HS.out hiN hjN hkN (by omega) hsz)
  obtain ⟨p, hp⟩ : ∃ p, p = Sort.median lt64 d i j k 0 := ⟨_, rfl⟩
  have hC : Hid (Sort.choosePivot lt64 d a b = (p.1, if p.2 = 0 then .increasing else if p.2 = 12 then .decreasing else .unknown)) := by
    show _ = _
    unfold Sort.choosePivot
    simp only [← hl, ← hr, ← hi, ← hj, ← hk]
    rw [if_pos (by omega), if_neg (by omega), ← hp]
  rw [← hp] at cM
  obtain ⟨pv, ps⟩ := p
  simp only at cM
  clear hp hl hr hi hj hk HS h hd hN hab hb h50
  go_enter Try.func72, Try.ntmps72
  go_wp2_with fail
  refine cM.out.mono ?_
  rintro e w1 ⟨rfl, t1⟩
  have yq := t1.box.cell (i := 0) rfl
  have T1 := hide' t1.sr
  clear t1 cM
  by_cases h0 : ps = 0
  · subst h0
    go_wp2
    go_ret2
    rw [hC.out]
    exact ⟨rfl, T1.out.heap rfl rfl rfl rfl⟩
  by_cases h12 : ps = 12
  · subst h12
    go_wp2
    go_ret2
    rw [hC.out]
    exact ⟨rfl, T1.out.heap rfl rfl rfl rfl⟩
  have n0 : ((ps : Int) == 0) = false := by have : ¬ (ps : Int) = 0 := by omega
                                            simpa using this
  have n12 : ((ps : Int) == 12) = false := by have : ¬ (ps : Int) = 12 := by omega
                                              simpa using this
  have n0' : ((0 : Int) == (ps : Int)) = false := by have : ¬ (0 : Int) = (ps : Int) := by omega
                                                     simpa using this
  have n12' : ((12 : Int) == (ps : Int)) = false := by have : ¬ (12 : Int) = (ps : Int) := by omega
                                                       simpa using this
  have hC2 : Hid (Sort.choosePivot lt64 d a b = (pv, .unknown)) := by show _ = _; rw [hC.out, if_neg h0, if_neg h12]
  clear h0 h12 hC
  go_wp2
  go_ret2
  rw [hC2.out]
  exact ⟨rfl, T1.out.heap rfl rfl rfl rfl⟩
end Go.Proofs.Ytghdkicijdfpcaa
