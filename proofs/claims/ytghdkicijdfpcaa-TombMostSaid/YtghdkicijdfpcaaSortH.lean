/- Medians of a row of numbers. -/
import Derived.Test.YtghdkicijdfpcaaSortG
set_option linter.unusedVariables false
set_option linter.unusedSimpArgs false
set_option maxRecDepth 8000
namespace Go.Proofs.Ytghdkicijdfpcaa
open Go.RowKit Go.Deep Go.Sort

/-- The row, and beside it a box that counts. -/
structure SB (w W : World) (blk : Nat) (d : Array Nat) (q s : Nat) : Prop where
  sr : SR w W blk d
  box : Blk W q [.int .i64 (s : Int)] 3
  new : w.heap.size ≤ q
  ne : q ≠ blk
theorem SB.drewN {w W : World} {blk : Nat} {d : Array Nat} {q s : Nat} (h : SB w W blk d q s) (n : Nat) : SB w (W.drewN n) blk d q s := ⟨h.sr.drewN n, h.box.same rfl, h.new, h.ne⟩
theorem SB.up {w W : World} {blk : Nat} {d : Array Nat} {q s : Nat} (h : SB w W blk d q s) (v : Nat) : SB w (W.setCell ⟨q, 0, none⟩ (.int .i64 (v : Int))) blk d q v := by
  have e : ∀ k, k ≠ q → (W.setCell ⟨q, 0, none⟩ (.int .i64 (v : Int))).heap[k]? = W.heap[k]? := fun k hk => blk_setCell_other _ _ _ _ hk
  refine ⟨⟨fun t ht => ?_, ⟨h.sr.keep.os, h.sr.keep.tape, h.sr.keep.output, ?_, fun k hk hn => ?_⟩, h.sr.shape.same (e blk h.ne.symm)⟩, h.box.set 0 _, h.new, h.ne⟩
  · have := h.sr.holds t ht
    unfold World.cell? World.frozen? at this ⊢
    simp only [e blk h.ne.symm] at this ⊢
    exact this
  · have := h.sr.keep.size
    simpa using this
  · rw [e k (by have := h.new; omega)]; exact h.sr.keep.block k hk hn
set_option maxHeartbeats 4000000 in
theorem order_any (w0 : World) (blk N cap a b q s : Nat) (d : Array Nat) (W : World) (hN : d.size = N) (h : SB w0 W blk d q s) (ha : a < N) (hb : b < N) (hs : s ≤ 1000) (hsz : N ≤ 1000000) :
    Calls Try.prog 90 #[.slice (some ⟨blk, 0, none⟩) N cap, .int .i64 a, .int .i64 b, .pointer (some ⟨q, 0, none⟩)] W fun e W' => e = .returned (.tuple #[.int .i64 ((Sort.order2 lt64 d a b s).1 : Nat), .int .i64 ((Sort.order2 lt64 d a b s).2.1 : Nat)]) ∧ SB w0 W' blk d q (Sort.order2 lt64 d a b s).2.2 := by
  obtain ⟨G, g1, g2, g3⟩ := h.sr.fam
  rw [hN] at g2
  have HG := hide' g1
  have ya := g2 a ha
  have yb := g2 b hb
  have iA : (a : Int) < (N : Int) := by omega
  have iB : (b : Int) < (N : Int) := by omega
  have yq := h.box.cell (i := 0) rfl
  have zq := h.box.frozen 0
  have H := hide' h
  clear g1 g2 g3 h hN
  cases hm : lt64 (G b) (G a)
  · have cX : Hid (∀ W, Calls Try.prog 75 #[.int .u64 (G b : Int), .int .u64 (G a : Int)] W fun e w' => e = .returned (.bool false) ∧ w' = W) := fun W => by have := less_any (G b) (G a) W; rw [hm] at this; exact this
    have h1 : Hid (Sort.order2 lt64 d a b s = (a, b, s)) := by show _ = _; unfold Sort.order2; rw [← HG.out, ← HG.out, hm]; rfl
    go_enter Try.func90, Try.ntmps90
    go_wp2_with fail
    go_quiet (first | (go_at_call 75; refine Calls.quiet_of_same (cX.out _)))
    go_wp2
    go_ret2
    rw [h1.out]
    exact ⟨rfl, H.out.drewN _⟩
  · have cX : Hid (∀ W, Calls Try.prog 75 #[.int .u64 (G b : Int), .int .u64 (G a : Int)] W fun e w' => e = .returned (.bool true) ∧ w' = W) := fun W => by have := less_any (G b) (G a) W; rw [hm] at this; exact this
    have h1 : Hid (Sort.order2 lt64 d a b s = (b, a, s + 1)) := by show _ = _; unfold Sort.order2; rw [← HG.out, ← HG.out, hm]; rfl
    go_enter Try.func90, Try.ntmps90
    go_wp2_with fail
    go_quiet (first | (go_at_call 75; refine Calls.quiet_of_same (cX.out _)))
    go_wp2
    go_ret2
    rw [h1.out]
    exact ⟨rfl, (H.out.drewN _).up (s + 1)⟩
set_option maxHeartbeats 4000000 in
theorem median_any (w0 : World) (blk N cap a b c q s : Nat) (d : Array Nat) (W : World) (hN : d.size = N) (h : SB w0 W blk d q s) (ha : a < N) (hb : b < N) (hc : c < N) (hs : s ≤ 900) (hsz : N ≤ 1000000) :
    Calls Try.prog 87 #[.slice (some ⟨blk, 0, none⟩) N cap, .int .i64 a, .int .i64 b, .int .i64 c, .pointer (some ⟨q, 0, none⟩)] W fun e W' => e = .returned (.int .i64 ((Sort.median lt64 d a b c s).1 : Nat)) ∧ SB w0 W' blk d q (Sort.median lt64 d a b c s).2 := by
  have B : ∀ x y t, (Sort.order2 lt64 d x y t).1 = x ∧ (Sort.order2 lt64 d x y t).2.1 = y ∧ (Sort.order2 lt64 d x y t).2.2 = t ∨ (Sort.order2 lt64 d x y t).1 = y ∧ (Sort.order2 lt64 d x y t).2.1 = x ∧ (Sort.order2 lt64 d x y t).2.2 = t + 1 := fun x y t => by
    unfold Sort.order2
    split
    · exact .inr ⟨rfl, rfl, rfl⟩
    · exact .inl ⟨rfl, rfl, rfl⟩
  have c1 := hide' (order_any w0 blk N cap a b q s d W hN h ha hb (by omega) hsz)
  obtain ⟨x1, hx1⟩ : ∃ x, x = (Sort.order2 lt64 d a b s).1 := ⟨_, rfl⟩
  obtain ⟨x2, hx2⟩ : ∃ x, x = (Sort.order2 lt64 d a b s).2.1 := ⟨_, rfl⟩
  obtain ⟨s1, hs1⟩ : ∃ x, x = (Sort.order2 lt64 d a b s).2.2 := ⟨_, rfl⟩
  have b1 : x1 < N ∧ x2 < N ∧ s1 ≤ 901 := by rw [hx1, hx2, hs1]; rcases B a b s with ⟨e1, e2, e3⟩ | ⟨e1, e2, e3⟩ <;> (rw [e1, e2, e3]; omega)
  obtain ⟨y1, hy1⟩ : ∃ x, x = (Sort.order2 lt64 d x2 c s1).1 := ⟨_, rfl⟩
  obtain ⟨y2, hy2⟩ : ∃ x, x = (Sort.order2 lt64 d x2 c s1).2.1 := ⟨_, rfl⟩
  obtain ⟨s2, hs2⟩ : ∃ x, x = (Sort.order2 lt64 d x2 c s1).2.2 := ⟨_, rfl⟩
  have b2 : y1 < N ∧ y2 < N ∧ s2 ≤ 902 := by rw [hy1, hy2, hs2]; rcases B x2 c s1 with ⟨e1, e2, e3⟩ | ⟨e1, e2, e3⟩ <;> (rw [e1, e2, e3]; omega)
  have hM : Hid (Sort.median lt64 d a b c s = ((Sort.order2 lt64 d x1 y1 s2).2.1, (Sort.order2 lt64 d x1 y1 s2).2.2)) := by
    show _ = _
    unfold Sort.median
    simp only [← hx1, ← hx2, ← hs1, ← hy1, ← hs2]
  rw [← hx1, ← hx2, ← hs1] at c1
  have Y1 := hide' hy1
  have Y2 := hide' hy2
  have S2 := hide' hs2
  have HN := hide' hN
  obtain ⟨b11, b12, b13⟩ := b1
  obtain ⟨b21, b22, b23⟩ := b2
  clear hx1 hx2 hs1 hy1 hy2 hs2 B h hN
  go_enter Try.func87, Try.ntmps87
  go_wp2_with fail
  refine c1.out.mono ?_
  rintro e w1 ⟨rfl, t1⟩
  have c2 := hide' (order_any w0 blk N cap x2 c q s1 d w1 HN.out t1 b12 hc (by omega) hsz)
  rw [← Y1.out, ← Y2.out, ← S2.out] at c2
  clear t1 c1
  go_wp2_with fail
  refine c2.out.mono ?_
  rintro e w2 ⟨rfl, t2⟩
  have c3 := hide' (order_any w0 blk N cap x1 y1 q s2 d w2 HN.out t2 b11 b21 (by omega) hsz)
  clear t2 c2
  go_wp2_with fail
  refine c3.out.mono ?_
  rintro e w3 ⟨rfl, t3⟩
  have T3 := hide' t3
  clear t3 c3
  go_wp2
  go_ret
  rw [hM.out]
  exact ⟨rfl, T3.out⟩
end Go.Proofs.Ytghdkicijdfpcaa
