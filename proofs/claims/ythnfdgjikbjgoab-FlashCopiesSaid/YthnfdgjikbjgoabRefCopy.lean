/- The document's own device: Copy. -/
import Derived.Test.YthnfdgjikbjgoabBoth
import Derived.Test.YthnfdgjikbjgoabAlike
import Derived.BigRegion
set_option linter.unusedVariables false
set_option linter.unusedSimpArgs false
namespace Go.Proofs.Ythnfdgjikbjgoab
open Go.RowKit Go.Deep

theorem own_row2 {w : World} {B n : Nat} {v : Value} {xs : List Value} (h : w.ownsRow B 75 2 v n xs) (hv : v ≠ .slice none 0 0) :
    ∃ g pad, v = .slice (some ⟨g, 0, none⟩) n (n + pad.length / 2) ∧ B ≤ g ∧ Blk w g (xs ++ pad) 75 := by
  obtain ⟨h1, h2⟩ := h
  rcases h2 with ⟨h2, h3⟩ | ⟨g, cap, cur, hv2, hB, hh, hn, hm, hs, ht⟩
  · exact absurd h2 hv
  · refine ⟨g, cur.toList.drop (n * 2), ?_, hB, ?_⟩
    · rw [hv2]
      congr 1
      rw [List.length_drop, Array.length_toList, hs]
      omega
    · unfold Blk
      rw [← ht, List.take_append_drop, Array.toArray_toList]
      exact hh
theorem own_row1 {w : World} {B n : Nat} {v : Value} {xs : List Value} (h : w.ownsRow B 4 1 v n xs) (hv : v ≠ .slice none 0 0) :
    ∃ g pad, v = .slice (some ⟨g, 0, none⟩) n (n + pad.length) ∧ B ≤ g ∧ Blk w g (xs ++ pad) 4 := by
  obtain ⟨h1, h2⟩ := h
  rcases h2 with ⟨h2, h3⟩ | ⟨g, cap, cur, hv2, hB, hh, hn, hm, hs, ht⟩
  · exact absurd h2 hv
  · refine ⟨g, cur.toList.drop (n * 1), ?_, hB, ?_⟩
    · rw [hv2]
      congr 1
      rw [List.length_drop, Array.length_toList, hs]
      omega
    · unfold Blk
      rw [← ht, List.take_append_drop, Array.toArray_toList]
      exact hh

theorem append_pages (w1 : World) (b n cap : Nat) (xs : List Value) (pd : List Value) (hb : Blk w1 b (xs ++ pd) 75) (hl : xs.length = n * 2) (h1 : ∀ u ∈ xs, u.oneCell' = true) (hn : n ≤ 4096) :
    ∃ g pad W, (Builtin.append_ #[55, 55] 55 #[.slice (some ⟨w1.heap.size, 0, none⟩) 0 0, .slice (some ⟨b, 0, none⟩) n cap]).run Try.prog (w1.alloc (.cells #[] 75)) = .ok (.slice (some ⟨g, 0, none⟩) n (n + pad.length / 2)) W ∧
      w1.heap.size ≤ g ∧ Blk W g (xs ++ pad) 75 ∧ Below w1.heap.size w1 W := by
  obtain ⟨i0, hi0, hp0⟩ := Option.map_eq_some_iff.1 info79
  simp only [Prod.mk.injEq] at hp0
  obtain ⟨hz0, hz1, hz2⟩ := hp0
  have hown : (w1.alloc (.cells #[] 75)).ownsRow w1.heap.size 75 2 (.slice (some ⟨w1.heap.size, 0, none⟩) 0 0) 0 [] := World.ownsRow_made w1 #[] 0 (Nat.le_refl _) (Nat.zero_le _) (by simp)
  obtain ⟨v', w', hr, ho, hg, hnl⟩ := run_append_own (P := Try.prog) (w1.alloc (.cells #[] 75)) w1.heap.size 55 55 75 i0 _ 2 24 Try.underlying55 hi0 hz0 hz1 hz2 rfl (by decide) _ 0 [] hown ⟨b, 0, none⟩ n cap xs hl
    (fun j u hj => by rw [Addr.add_lit, Nat.zero_add]; exact (hb.alloc _).cell (by rw [List.getElem?_append_left (List.getElem?_eq_some_iff.1 hj).1]; exact hj)) h1 (by unfold maxLen; omega) (by omega) (by rw [nblk_alloc]; omega)
  rw [Nat.zero_add, List.nil_append] at ho
  obtain ⟨g, pad, rfl, hgB, hblk⟩ := own_row2 ho (fun h => by have := (hnl.1 h).1; simp at this)
  exact ⟨g, pad, w', hr, hgB, hblk, ((Below.refl _ w1).alloc (Nat.le_refl _) _).grown hg (by rw [nblk_alloc]; omega) (by intro k hk; simp [Value.ownBlock] at hk; omega)⟩

theorem append_bools (w1 : World) (b n cap : Nat) (xs : List Value) (pd : List Value) (hb : Blk w1 b (xs ++ pd) 4) (hl : xs.length = n) (h1 : ∀ u ∈ xs, u.oneCell' = true) (hn : n ≤ 4096) :
    ∃ g pad W, (Builtin.append_ #[56, 56] 56 #[.slice (some ⟨w1.heap.size, 0, none⟩) 0 0, .slice (some ⟨b, 0, none⟩) n cap]).run Try.prog (w1.alloc (.cells #[] 4)) = .ok (.slice (some ⟨g, 0, none⟩) n (n + pad.length)) W ∧
      w1.heap.size ≤ g ∧ Blk W g (xs ++ pad) 4 ∧ Below w1.heap.size w1 W := by
  obtain ⟨i0, hi0, hp0⟩ := Option.map_eq_some_iff.1 info4
  simp only [Prod.mk.injEq] at hp0
  obtain ⟨hz0, hz1, hz2⟩ := hp0
  have hown : (w1.alloc (.cells #[] 4)).ownsRow w1.heap.size 4 1 (.slice (some ⟨w1.heap.size, 0, none⟩) 0 0) 0 [] := World.ownsRow_made w1 #[] 0 (Nat.le_refl _) (Nat.zero_le _) (by simp)
  obtain ⟨v', w', hr, ho, hg, hnl⟩ := run_append_own (P := Try.prog) (w1.alloc (.cells #[] 4)) w1.heap.size 56 56 4 i0 _ 1 1 Try.underlying56 hi0 hz0 hz1 hz2 rfl (by decide) _ 0 [] hown ⟨b, 0, none⟩ n cap xs (by rw [hl, Nat.mul_one])
    (fun j u hj => by rw [Addr.add_lit, Nat.zero_add]; exact (hb.alloc _).cell (by rw [List.getElem?_append_left (List.getElem?_eq_some_iff.1 hj).1]; exact hj)) h1 (by unfold maxLen; omega) (by omega) (by rw [nblk_alloc]; omega)
  rw [Nat.zero_add, List.nil_append] at ho
  obtain ⟨g, pad, rfl, hgB, hblk⟩ := own_row1 ho (fun h => by have := (hnl.1 h).1; simp at this)
  exact ⟨g, pad, w', hr, hgB, hblk, ((Below.refl _ w1).alloc (Nat.le_refl _) _).grown hg (by rw [nblk_alloc]; omega) (by intro k hk; simp [Value.ownBlock] at hk; omega)⟩

theorem wRow_one (cs : List Cl) : ∀ v ∈ wRow cs, v.oneCell' = true := by
  intro v hv
  obtain ⟨_, _, rfl⟩ := List.mem_map.1 hv
  rfl

set_option maxHeartbeats 1000000 in
theorem rcopy_at (r : Nat) (G : List Nat) (S : Dv) (w : World) (h : RfAt w r G S) :
    Calls Try.prog 10 #[.pointer (some ⟨r, 0, none⟩)] w fun e w' => ∃ r' G', e = .returned (.pointer (some ⟨r', 0, none⟩)) ∧ RfAt w' r' G' S ∧ (∀ k ∈ G', w.heap.size ≤ k) ∧ Below w.heap.size w w' := by
  obtain ⟨L, rfl, h⟩ := h
  obtain ⟨n, hn⟩ : ∃ n, n = S.cs.length := ⟨_, rfl⟩
  have hnl : n ≤ 4096 := by rw [hn]; exact h.good.many
  have c0 := h.dev.cell (i := 0) rfl
  have c1 := h.dev.cell (i := 1) rfl
  have c2 := h.dev.cell (i := 2) rfl
  have c3 := h.dev.cell (i := 3) rfl
  have c4 := h.dev.cell (i := 4) rfl
  have c5 := h.dev.cell (i := 5) rfl
  have c6 := h.dev.cell (i := 6) rfl
  have c7 := h.dev.cell (i := 7) rfl
  have c8 := h.dev.cell (i := 8) rfl
  have c9 := h.dev.cell (i := 9) rfl
  rw [← hn] at c0 c1 c2
  have hr := h.dev.lt
  have hla : (rRow (lasts S.cs)).length = n * 2 := by rw [rRow_length, lasts_length, hn]
  have hna : (rRow (nows S.cs)).length = n * 2 := by rw [rRow_length, nows_length, hn]
  have hwa : (wRow S.cs).length = n := by simp [wRow, hn]
  obtain ⟨N, hN⟩ : ∃ N, N = w.heap.size := ⟨_, rfl⟩
  obtain ⟨W0, hW0⟩ : ∃ W0, W0 = w.alloc (.cells #[.slice (some ⟨L.last, 0, none⟩) n (n + L.pl.length / 2), .slice (some ⟨L.now, 0, none⟩) n (n + L.pn.length / 2), .slice (some ⟨L.waits, 0, none⟩) n (n + L.pw.length), .bool S.off, .int .i64 S.armed, .int .i64 S.losses, .int .i64 S.wr, .int .i64 S.fl, .int .i64 S.rd, .int .i64 S.cr] 59) := ⟨_, rfl⟩
  have hlit : rCells L S = [.slice (some ⟨L.last, 0, none⟩) n (n + L.pl.length / 2), .slice (some ⟨L.now, 0, none⟩) n (n + L.pn.length / 2), .slice (some ⟨L.waits, 0, none⟩) n (n + L.pw.length), .bool S.off, .int .i64 S.armed, .int .i64 S.losses, .int .i64 S.wr, .int .i64 S.fl, .int .i64 S.rd, .int .i64 S.cr] := by simp only [rCells, ← hn]
  have hB0 : Below w.heap.size w W0 := by rw [hW0]; exact (Below.refl _ _).alloc (Nat.le_refl _) _
  have hs0 : W0.heap.size = N + 1 := by rw [hW0, hN]; exact nblk_alloc _ _
  have bx0 : Blk W0 N (rCells L S) 59 := by rw [hW0, hN, hlit]; exact Blk.new w _ 59
  have h0 := h.same (fun k hk => hB0.block k (h.lt k hk))
  obtain ⟨g1, p1, W1, hr1, hg1, hb1, hB1⟩ := append_pages W0 L.last n (n + L.pl.length / 2) (rRow (lasts S.cs)) L.pl h0.last hla (rRow_one _) hnl
  rw [hs0] at hg1
  have bx1 := (bx0.same (hB1.block N (by omega))).set 0 (.slice (some ⟨g1, 0, none⟩) n (n + p1.length / 2))
  obtain ⟨V1, hV1⟩ : ∃ V1, V1 = W1.setCell ⟨N, 0, none⟩ (.slice (some ⟨g1, 0, none⟩) n (n + p1.length / 2)) := ⟨_, rfl⟩
  rw [← hV1] at bx1
  have hs1 : V1.heap.size = W1.heap.size := by rw [hV1]; exact nblk_setCell _ _ _
  have hK1 : ∀ k, k < W0.heap.size → k ≠ N → V1.heap[k]? = W0.heap[k]? := fun k hk hne => by rw [hV1]; exact (blk_setCell_other _ _ _ _ hne).trans (hB1.block k hk)
  have oldne : ∀ k ∈ rfoot r L, k < W0.heap.size ∧ k ≠ N := fun k hk => by have := h.lt k hk; omega
  have h1 := h0.same (fun k hk => hK1 k (oldne k hk).1 (oldne k hk).2)
  have a1 : Blk V1 g1 (rRow (lasts S.cs) ++ p1) 75 := by rw [hV1]; exact hb1.other (a := ⟨N, 0, none⟩) (by show g1 ≠ N; omega) _
  obtain ⟨g2, p2, W2, hr2, hg2, hb2, hB2⟩ := append_pages V1 L.now n (n + L.pn.length / 2) (rRow (nows S.cs)) L.pn h1.now hna (rRow_one _) hnl
  have hNV1 : N < V1.heap.size := bx1.lt
  have bx2 := (bx1.same (hB2.block N hNV1)).set 1 (.slice (some ⟨g2, 0, none⟩) n (n + p2.length / 2))
  obtain ⟨V2, hV2⟩ : ∃ V2, V2 = W2.setCell ⟨N, 1, none⟩ (.slice (some ⟨g2, 0, none⟩) n (n + p2.length / 2)) := ⟨_, rfl⟩
  rw [← hV2] at bx2
  have hs2 : V2.heap.size = W2.heap.size := by rw [hV2]; exact nblk_setCell _ _ _
  have hK2 : ∀ k, k < V1.heap.size → k ≠ N → V2.heap[k]? = V1.heap[k]? := fun k hk hne => by rw [hV2]; exact (blk_setCell_other _ _ _ _ hne).trans (hB2.block k hk)
  have h2 := h1.same (fun k hk => hK2 k (h1.lt k hk) (oldne k hk).2)
  have a2 : Blk V2 g2 (rRow (nows S.cs) ++ p2) 75 := by rw [hV2]; exact hb2.other (a := ⟨N, 1, none⟩) (by show g2 ≠ N; omega) _
  have a1' : Blk V2 g1 (rRow (lasts S.cs) ++ p1) 75 := a1.same (hK2 g1 a1.lt (by omega))
  obtain ⟨g3, p3, W3, hr3, hg3, hb3, hB3⟩ := append_bools V2 L.waits n (n + L.pw.length) (wRow S.cs) L.pw h2.waits hwa (wRow_one _) hnl
  have hNV2 : N < V2.heap.size := bx2.lt
  have bx3 := (bx2.same (hB3.block N hNV2)).set 2 (.slice (some ⟨g3, 0, none⟩) n (n + p3.length))
  obtain ⟨V3, hV3⟩ : ∃ V3, V3 = W3.setCell ⟨N, 2, none⟩ (.slice (some ⟨g3, 0, none⟩) n (n + p3.length)) := ⟨_, rfl⟩
  rw [← hV3] at bx3
  have hs3 : V3.heap.size = W3.heap.size := by rw [hV3]; exact nblk_setCell _ _ _
  have hK3 : ∀ k, k < V2.heap.size → k ≠ N → V3.heap[k]? = V2.heap[k]? := fun k hk hne => by rw [hV3]; exact (blk_setCell_other _ _ _ _ hne).trans (hB3.block k hk)
  have a3 : Blk V3 g3 (wRow S.cs ++ p3) 4 := by rw [hV3]; exact hb3.other (a := ⟨N, 2, none⟩) (by show g3 ≠ N; omega) _
  have fin : (∃ r' G', Ending.returned (.pointer (some ⟨N, 0, none⟩)) = .returned (.pointer (some ⟨r', 0, none⟩)) ∧ RfAt V3 r' G' S ∧ (∀ k ∈ G', w.heap.size ≤ k) ∧ Below w.heap.size w V3) := by
    refine ⟨N, rfoot N ⟨g1, g2, g3, p1, p2, p3⟩, rfl, ⟨⟨g1, g2, g3, p1, p2, p3⟩, rfl, ?_, (a1'.same (hK3 g1 a1'.lt (by omega))), (a2.same (hK3 g2 a2.lt (by omega))), a3, ?_, h.good⟩, ?_, ?_⟩
    · have e : rCells ⟨g1, g2, g3, p1, p2, p3⟩ S = (((rCells L S).set 0 (.slice (some ⟨g1, 0, none⟩) n (n + p1.length / 2))).set 1 (.slice (some ⟨g2, 0, none⟩) n (n + p2.length / 2))).set 2 (.slice (some ⟨g3, 0, none⟩) n (n + p3.length)) := by
        simp only [rCells, ← hn]; rfl
      rw [e]
      exact bx3
    · have l1 := a1.lt
      have l2 := a2.lt
      simp only [List.nodup_cons, List.mem_cons, List.not_mem_nil, or_false, not_or, not_false_eq_true, List.nodup_nil, and_true]
      have q1 := hb1.lt
      refine ⟨⟨by omega, by omega, by omega⟩, ⟨?_, ?_⟩, ?_⟩
      · omega
      · have := hB2.size; omega
      · omega
    · intro k hk
      simp only [rfoot, List.mem_cons, List.not_mem_nil, or_false] at hk
      have := hB1.size
      have := hB2.size
      omega
    · have q0 : w.heap.size ≤ W0.heap.size := by omega
      have b1 : Below w.heap.size w V1 := by rw [hV1]; exact (hB0.trans (hB1.mono q0)).setCell (by show w.heap.size ≤ N; omega) _
      have b2 : Below w.heap.size w V2 := by rw [hV2]; exact (b1.trans (hB2.mono b1.size)).setCell (by show w.heap.size ≤ N; omega) _
      rw [hV3]; exact (b2.trans (hB3.mono b2.size)).setCell (by show w.heap.size ≤ N; omega) _
  rw [hs0, hW0] at hr1
  rw [hs1, hV1] at hr2
  rw [hs2, hV2] at hr3
  rw [hV3] at fin
  have e1 : W1.cell? ⟨r, 1, none⟩ = some (.slice (some ⟨L.now, 0, none⟩) n (n + L.pn.length / 2)) := by
    have := h1.dev.cell (i := 1) rfl
    rw [hV1, World.cell?_setCell_other _ _ _ _ (by first | (simp; done) | (simp; omega)), ← hn] at this
    exact this
  have e2 : W2.cell? ⟨r, 2, none⟩ = some (.slice (some ⟨L.waits, 0, none⟩) n (n + L.pw.length)) := by
    have := h2.dev.cell (i := 2) rfl
    rw [hV2, World.cell?_setCell_other _ _ _ _ (by first | (simp; done) | (simp; omega)), ← hn] at this
    exact this
  have n0 := bx0.same (hB1.block N (by omega))
  have n1 := bx1.same (hB2.block N hNV1)
  have n2 := bx2.same (hB3.block N hNV2)
  rw [hlit] at n0 n1 n2
  have x0 := n0.cell (i := 0) rfl
  have y0 := n0.frozen 0
  have x1 := n1.cell (i := 1) rfl
  have y1 := n1.frozen 1
  have x2 := n2.cell (i := 2) rfl
  have y2 := n2.frozen 2
  have hrN : r ≠ N := by omega
  have hrW1 : r < W1.heap.size := by have := hB1.size; omega
  have hrW2 : r < W2.heap.size := by have := hB1.size; have := hB2.size; omega
  have HR1 := hide hr1
  have HR2 := hide hr2
  have HR3 := hide hr3
  have FIN := hide fin
  have HN' := hide hN
  subst hN
  clear h hn hlit hr1 hr2 hr3 fin hV1 hV2 hV3 hW0 bx0 bx1 bx2 bx3 h0 h1 h2 a1 a1' a2 a3 hb1 hb2 hb3 hB1 hB2 hB3 hB0 hK1 hK2 hK3 hs0 hs1 hs2 hs3 oldne hg1 hg2 hg3 hla hna hwa n0 n1 n2 hNV1 hNV2
  go_enter Try.func10, Try.ntmps10
  go_wp2_with (first
    | (at_builtin; refine Lib.wpList_append_run _ rfl _ _ _ _ rfl _ _ rfl rfl _ _ HR1.out ?_; clear HR1)
    | (at_builtin; refine Lib.wpList_append_run _ rfl _ _ _ _ rfl _ _ rfl rfl _ _ HR2.out ?_; clear HR2)
    | (at_builtin; refine Lib.wpList_append_run _ rfl _ _ _ _ rfl _ _ rfl rfl _ _ HR3.out ?_; clear HR3))
  go_ret
  obtain ⟨r', G', e, q⟩ := FIN.out
  exact ⟨r', (rfl : _ = Ending.returned (.pointer (some ⟨w.heap.size, 0, none⟩))).trans e, G', q⟩
end Go.Proofs.Ythnfdgjikbjgoab
