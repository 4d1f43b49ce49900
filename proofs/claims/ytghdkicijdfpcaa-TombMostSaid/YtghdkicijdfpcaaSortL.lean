/- Patterns of a short row are broken. -/
import Derived.Test.YtghdkicijdfpcaaSortK
set_option linter.unusedVariables false
set_option linter.unusedSimpArgs false
set_option maxRecDepth 8000
namespace Go.Proofs.Ytghdkicijdfpcaa
open Go.RowKit Go.Deep Go.Sort

structure SX (w W : World) (blk : Nat) (d : Array Nat) (q : Nat) (r : Nat) : Prop where
  sr : SR w W blk d
  box : Blk W q [.int .u64 (r : Int)] 137
  new : w.heap.size ≤ q
  lt : blk < W.heap.size
  ne : q ≠ blk
theorem SX.next {w W W' : World} {blk : Nat} {d : Array Nat} {q r r' : Nat} (h : SX w W blk d q r) (hb : Blk W' q [.int .u64 (r' : Int)] 137) (hk : Keep [q] W W') : SX w W' blk d q r' := by
  have e : W'.heap[blk]? = W.heap[blk]? := hk.block blk h.lt (by simpa using h.ne.symm)
  refine ⟨⟨fun t ht => ?_, ⟨hk.os.trans h.sr.keep.os, hk.tape.trans h.sr.keep.tape, hk.output.trans h.sr.keep.output, Nat.le_trans h.sr.keep.size hk.size, fun k hk1 hn => ?_⟩, h.sr.shape.same e⟩, hb, h.new, Nat.lt_of_lt_of_le h.lt hk.size, h.ne⟩
  · have := h.sr.holds t ht
    unfold World.cell? World.frozen? at this ⊢
    simp only [e]
    exact this
  · rw [hk.block k (Nat.lt_of_lt_of_le hk1 h.sr.keep.size) (by have := h.new; simp; omega)]; exact h.sr.keep.block k hk1 hn
theorem SX.swap {w W : World} {blk : Nat} {d : Array Nat} {q r : Nat} (h : SX w W blk d q r) (i j : Nat) (hi : i < d.size) (hj : j < d.size) : SX w ((W.setCell ⟨blk, i, none⟩ (encU d[j]!)).setCell ⟨blk, j, none⟩ (encU d[i]!)) blk (swp d i j) q r :=
  ⟨h.sr.swap i j hi hj, (h.box.other (a := ⟨blk, i, none⟩) h.ne _).other (a := ⟨blk, j, none⟩) h.ne _, h.new, by simpa using h.lt, h.ne⟩
theorem SX.heap {w W W' : World} {blk : Nat} {d : Array Nat} {q r : Nat} (h : SX w W blk d q r) (e : W'.heap = W.heap) (eo : W'.os = W.os) (et : W'.tape = W.tape) (ep : W'.output = W.output) : SX w W' blk d q r :=
  ⟨h.sr.heap e eo et ep, h.box.same (by rw [e]), h.new, by rw [e]; exact h.lt, h.ne⟩
def brk (a l M I : Nat) (d : Array Nat) : Nat → UInt64 × Array Nat
  | 0 => (UInt64.ofNat l, d)
  | t + 1 => breakStep a l M (brk a l M I d t) (I + t)
theorem brk_size (a l M I : Nat) (d : Array Nat) : ∀ t, (brk a l M I d t).2.size = d.size
  | 0 => rfl
  | t + 1 => by
    show (breakStep a l M (brk a l M I d t) (I + t)).2.size = _
    unfold breakStep
    simp only [swp_size]
    exact brk_size a l M I d t
set_option maxHeartbeats 4000000 in
theorem break_short (w0 : World) (blk N cap a b : Nat) (d : Array Nat) (W : World) (hN : d.size = N) (h : SR w0 W blk d) (hab : a + 8 ≤ b) (hb : b ≤ N) (h32 : b < a + 32) (hsz : N ≤ 1000000) :
    Calls Try.prog 71 #[.slice (some ⟨blk, 0, none⟩) N cap, .int .i64 a, .int .i64 b] W fun e W' => e = .returned (.tuple #[]) ∧ SR w0 W' blk (Sort.breakPatterns d a b) := by
  have hd : 0 < d.size := by omega
  obtain ⟨l, hl⟩ : ∃ l, l = b - a := ⟨_, rfl⟩
  obtain ⟨r, hr⟩ : ∃ r, r = l / 4 := ⟨_, rfl⟩
  obtain ⟨M, hM⟩ : ∃ M, M = 1 <<< bitsLen l := ⟨_, rfl⟩
  have hM2 : l ≤ M ∧ M ≤ 2 * l ∧ M ≤ 64 := by
    have : ∀ m : Fin 32, 8 ≤ m.val → m.val ≤ 1 <<< bitsLen m.val ∧ 1 <<< bitsLen m.val ≤ 2 * m.val ∧ 1 <<< bitsLen m.val ≤ 64 := by decide
    rw [hM]
    exact this ⟨l, by omega⟩ (by show 8 ≤ l; omega)
  have e1 : (b : Int) - (a : Int) = (l : Int) := by omega
  have e2 : (l : Int).tdiv 4 = (r : Int) := by rw [Int.tdiv_eq_ediv_of_nonneg (by omega)]; omega
  obtain ⟨I, hI⟩ : ∃ I, I = a + r * 2 - 1 := ⟨_, rfl⟩
  have e3 : (a : Int) + (r : Int) * 2 = (I : Int) + 1 := by omega
  have hIN : I + 2 < N := by omega
  have hl8 : (8 : Int) ≤ (l : Int) := by omega
  have hB : Hid (Sort.breakPatterns d a b = (brk a l M I d 3).2) := by
    show _ = _
    unfold Sort.breakPatterns
    simp only [← hl]
    rw [if_pos (by omega), ← hM, ← hr, ← hI]
    rfl
  have cP := hide' (pow_small l (by omega))
  rw [← hM] at cP
  have HL := hide' hl
  have SX0 : Hid (SX w0 (W.alloc (.cells #[.int .u64 (l : Int)] 137)) blk d W.heap.size l) := ⟨h.alloc hd _, Blk.new W [.int .u64 (l : Int)] 137, h.keep.size, by have := h.lt hd; simp; omega, by have := h.lt hd; omega⟩
  have hlN : l ≤ 32 := by omega
  have haN : a + l ≤ N := by omega
  have hrN : r ≤ 32 := by omega
  have HN := hide' hN
  obtain ⟨M1, hM1, hM3⟩ := hM2
  clear hl hr hI hM h hd hN
  go_enter Try.func71, Try.ntmps71
  go_wp2_with fail
  refine (cP.out _).mono ?_
  rintro e w1 ⟨rfl, h1⟩
  have SX1 : Hid (SX w0 w1 blk d W.heap.size l) := by rw [h1]; exact SX0.out
  obtain ⟨q, hq⟩ : ∃ q, q = W.heap.size := ⟨_, rfl⟩
  rw [← hq] at SX1 ⊢
  clear h1 SX0 cP hq
  go_wp2_with fail
  go_loopg [9] 4 (fun kx s9 wr => ∃ t : Nat, s9 = .int .i64 ((I + t : Nat) : Int) ∧ t ≤ 3 ∧ 3 - t ≤ kx ∧ Hid (SX w0 wr blk (brk a l M I d t).2 q (brk a l M I d t).1.toNat))
  case atStart => exact ⟨0, by simp, by omega, by omega, by
    have e : (UInt64.ofNat l).toNat = l := by rw [UInt64.toNat_ofNat']; omega
    show SX w0 w1 blk d q (UInt64.ofNat l).toNat
    rw [e]; exact SX1.out⟩
  case round =>
    obtain ⟨t, rfl, ht, hg, K⟩ := hrel
    obtain ⟨it, hit⟩ : ∃ it, it = I + t := ⟨_, rfl⟩
    rw [← hit]
    by_cases h3 : t < 3
    · have hle : (it : Int) ≤ (I : Int) + 1 + 1 := by omega
      obtain ⟨rk, dk, hbk⟩ : ∃ rk dk, brk a l M I d t = (rk, dk) := ⟨_, _, rfl⟩
      have K' := hide' K.out
      rw [hbk] at K'
      have DS : Hid (dk.size = N) := by
        have := brk_size a l M I d t
        rw [hbk] at this
        exact this.trans HN.out
      obtain ⟨R, hR⟩ : ∃ R, R = xorNextN rk.toNat := ⟨_, rfl⟩
      have cX := hide' (next_any q rk.toNat (by have := rk.toNat_lt; omega) wr K'.out.box)
      have hRl : R < 18446744073709551616 := by rw [hR]; exact xorNextN_lt _ (by have := rk.toNat_lt; omega)
      rw [← hR] at cX
      obtain ⟨M0, hM0⟩ : ∃ m, m = M - 1 := ⟨_, rfl⟩
      have e4 : (M : Int) - 1 = (M0 : Int) := by omega
      obtain ⟨O, hO⟩ : ∃ o, o = R &&& M0 := ⟨_, rfl⟩
      have e5 : bits .and .u64 (R : Int) (M0 : Int) = (O : Int) := by rw [bits_and_u64_nat _ _ hRl (by omega), hO]
      have hOl : O ≤ M0 := by rw [hO]; exact Nat.and_le_right
      have hO64 : O ≤ 64 := by omega
      have HBK := hide' hbk
      have HR := hide' hR
      have HM0 := hide' hM0
      have HO := hide' hO
      have HIT := hide' hit
      have hO2l : O < 2 * l := by omega
      have hitb : it ≤ I + 2 := by omega
      clear hbk hR hO hit hM0 hOl
      go_wp2_with fail
      refine cX.out.mono ?_
      rintro e w5 ⟨rfl, t5, k5⟩
      have SX5 := hide' (K'.out.next t5 k5)
      clear t5 k5 cX
      by_cases hge : l ≤ O
      · have hge2 : (l : Int) ≤ (O : Int) := by omega
        obtain ⟨o2, ho2⟩ : ∃ o, o = O - l := ⟨_, rfl⟩
        have e7 : (O : Int) - (l : Int) = (o2 : Int) := by omega
        obtain ⟨fo, hfo⟩ : ∃ f : Nat, f = a + o2 := ⟨_, rfl⟩
        have e6 : (a : Int) + (o2 : Int) = (fo : Int) := by omega
        have HST : Hid (brk a l M I d (t + 1) = (xorNext rk, swp dk it fo)) := by
          show breakStep a l M (brk a l M I d t) (I + t) = _
          rw [HBK.out, ← HIT.out]
          unfold breakStep
          simp only [xorNext_toNat, ← HR.out, ← HM0.out, ← HO.out]
          rw [if_pos hge, hfo, ho2]
        have hfoN : fo < N := by omega
        have i1 : (it : Int) < (N : Int) := by omega
        have i2 : (fo : Int) < (N : Int) := by omega
        have hitN : it < N := by omega
        have hfo6 : fo ≤ 1000000 := by omega
        obtain ⟨G, g1, g2, g3⟩ := SX5.out.sr.fam
        rw [DS.out] at g2 g3
        have HG := hide' g1
        have y1 := g2 it hitN
        have y2 := g2 fo hfoN
        have z1 := g3 it hitN
        have z2 := g3 fo hfoN
        obtain ⟨⟨q1, x1⟩, x2⟩ := SX5.out.sr.after it (G fo) fo (by rw [DS.out]; omega) (by rw [DS.out]; omega)
        obtain ⟨⟨q2, x3⟩, x4⟩ := SX5.out.sr.after fo (G it) it (by rw [DS.out]; omega) (by rw [DS.out]; omega)
        have HGE := hide' hge
        have HFO := hide' hfo
        have HO2 := hide' ho2
        clear g1 g2 g3 hge hfo ho2
        go_wp2_with fail
        go_region
        all_goals go_wp2
        go_roundg (3 - (t + 1))
        case measure => omega
        case rel =>
          refine ⟨t + 1, by have := HIT.out; congr 1; omega, by omega, Nat.le_refl _, ?_⟩
          show SX w0 _ blk _ q _
          rw [HST.out]
          show SX w0 _ blk (swp dk it fo) q (xorNext rk).toNat
          rw [xorNext_toNat, ← HR.out]
          have hS := SX5.out.swap it fo (by rw [DS.out]; omega) (by rw [DS.out]; omega)
          rw [← HG.out, ← HG.out] at hS
          exact hS.heap rfl rfl rfl rfl
      · have hge2 : ¬ (l : Int) ≤ (O : Int) := by omega
        obtain ⟨o2, ho2⟩ : ∃ o, o = O := ⟨_, rfl⟩
        have e7 : (O : Int) = (o2 : Int) := by omega
        obtain ⟨fo, hfo⟩ : ∃ f : Nat, f = a + o2 := ⟨_, rfl⟩
        have e6 : (a : Int) + (o2 : Int) = (fo : Int) := by omega
        have HST : Hid (brk a l M I d (t + 1) = (xorNext rk, swp dk it fo)) := by
          show breakStep a l M (brk a l M I d t) (I + t) = _
          rw [HBK.out, ← HIT.out]
          unfold breakStep
          simp only [xorNext_toNat, ← HR.out, ← HM0.out, ← HO.out]
          rw [if_neg hge, hfo, ho2]
        have hfoN : fo < N := by omega
        have i1 : (it : Int) < (N : Int) := by omega
        have i2 : (fo : Int) < (N : Int) := by omega
        have hitN : it < N := by omega
        have hfo6 : fo ≤ 1000000 := by omega
        obtain ⟨G, g1, g2, g3⟩ := SX5.out.sr.fam
        rw [DS.out] at g2 g3
        have HG := hide' g1
        have y1 := g2 it hitN
        have y2 := g2 fo hfoN
        have z1 := g3 it hitN
        have z2 := g3 fo hfoN
        obtain ⟨⟨q1, x1⟩, x2⟩ := SX5.out.sr.after it (G fo) fo (by rw [DS.out]; omega) (by rw [DS.out]; omega)
        obtain ⟨⟨q2, x3⟩, x4⟩ := SX5.out.sr.after fo (G it) it (by rw [DS.out]; omega) (by rw [DS.out]; omega)
        have HGE := hide' hge
        have HFO := hide' hfo
        have HO2 := hide' ho2
        clear g1 g2 g3 hge hfo ho2
        go_wp2_with fail
        go_region
        all_goals go_wp2
        go_roundg (3 - (t + 1))
        case measure => omega
        case rel =>
          refine ⟨t + 1, by have := HIT.out; congr 1; omega, by omega, Nat.le_refl _, ?_⟩
          show SX w0 _ blk _ q _
          rw [HST.out]
          show SX w0 _ blk (swp dk it fo) q (xorNext rk).toNat
          rw [xorNext_toNat, ← HR.out]
          have hS := SX5.out.swap it fo (by rw [DS.out]; omega) (by rw [DS.out]; omega)
          rw [← HG.out, ← HG.out] at hS
          exact hS.heap rfl rfl rfl rfl
    · have hle : ¬ (it : Int) ≤ (I : Int) + 1 + 1 := by omega
      obtain rfl : t = 3 := by omega
      go_wp2
      go_end0
      refine ⟨rfl, ?_⟩
      rw [hB.out]
      exact K.out.sr
end Go.Proofs.Ytghdkicijdfpcaa
