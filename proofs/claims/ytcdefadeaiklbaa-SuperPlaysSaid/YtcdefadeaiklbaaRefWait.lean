/- The document's own device: NewDev, Waiting. -/
import Derived.Test.YtcdefadeaiklbaaRefMore
set_option linter.unusedVariables false
set_option linter.unusedSimpArgs false
set_option maxRecDepth 8000
namespace Go.Proofs.Ytcdefadeaiklbaa
open Go.RowKit Go.Deep

theorem fresh_rows (n : Nat) : nows (Dv.fresh n).cs = List.replicate n Pg.blank ∧ lasts (Dv.fresh n).cs = List.replicate n Pg.blank ∧ wRow (Dv.fresh n).cs = List.replicate n (.bool false) := by
  refine ⟨?_, ?_, ?_⟩
  · simp [nows, Dv.fresh]
  · simp [lasts, Dv.fresh]
  · simp [wRow, Dv.fresh]

theorem rnew_end {W : World} {r x y z n : Nat} (hn : n ≤ 4096) (hx : Blk W x (rRow (List.replicate n Pg.blank)) 88) (hy : Blk W y (rRow (List.replicate n Pg.blank)) 88) (hz : Blk W z (List.replicate n (.bool false)) 4)
    (hr : Blk W r [.slice (some ⟨x, 0, none⟩) n n, .slice (some ⟨y, 0, none⟩) n n, .slice (some ⟨z, 0, none⟩) n n, .bool false, .int .i64 0, .int .i64 0, .int .i64 0, .int .i64 0, .int .i64 0, .int .i64 0] 83) (hnd : [r, x, y, z].Nodup) : RfAt W r [r, x, y, z] (Dv.fresh n) := by
  obtain ⟨e1, e2, e3⟩ := fresh_rows n
  refine ⟨⟨x, y, z, [], [], []⟩, rfl, ?_, by rw [e2, List.append_nil]; exact hx, by rw [e1, List.append_nil]; exact hy, by rw [e3, List.append_nil]; exact hz, hnd, Dv.fresh_good n hn⟩
  have e : rCells ⟨x, y, z, [], [], []⟩ (Dv.fresh n) = [.slice (some ⟨x, 0, none⟩) n n, .slice (some ⟨y, 0, none⟩) n n, .slice (some ⟨z, 0, none⟩) n n, .bool false, .int .i64 0, .int .i64 0, .int .i64 0, .int .i64 0, .int .i64 0, .int .i64 0] := by
    have hl : (Dv.fresh n).cs.length = n := by simp [Dv.fresh]
    simp only [rCells, hl]; rfl
  rw [e]
  exact hr

theorem al4 (w : World) (A B C D : Obj) : (((((w.alloc A).alloc B).alloc C).alloc D).drew).heap[w.heap.size]? = some A ∧ (((((w.alloc A).alloc B).alloc C).alloc D).drew).heap[w.heap.size + 1]? = some B ∧
    (((((w.alloc A).alloc B).alloc C).alloc D).drew).heap[w.heap.size + 1 + 1]? = some C ∧ (((((w.alloc A).alloc B).alloc C).alloc D).drew).heap[w.heap.size + 1 + 1 + 1]? = some D := by
  show ((((w.alloc A).alloc B).alloc C).alloc D).heap[_]? = _ ∧ ((((w.alloc A).alloc B).alloc C).alloc D).heap[_]? = _ ∧ ((((w.alloc A).alloc B).alloc C).alloc D).heap[_]? = _ ∧ ((((w.alloc A).alloc B).alloc C).alloc D).heap[_]? = _
  have s1 : (w.alloc A).heap.size = w.heap.size + 1 := nblk_alloc _ _
  have s2 : ((w.alloc A).alloc B).heap.size = w.heap.size + 1 + 1 := by rw [nblk_alloc, s1]
  have s3 : (((w.alloc A).alloc B).alloc C).heap.size = w.heap.size + 1 + 1 + 1 := by rw [nblk_alloc, s2]
  refine ⟨?_, ?_, ?_, ?_⟩
  · rw [blk_alloc_lt _ _ _ (by omega), blk_alloc_lt _ _ _ (by omega), blk_alloc_lt _ _ _ (by omega)]; exact blk_alloc_new _ _
  · rw [blk_alloc_lt _ _ _ (by omega), blk_alloc_lt _ _ _ (by omega), ← s1]; exact blk_alloc_new _ _
  · rw [blk_alloc_lt _ _ _ (by omega), ← s2]; exact blk_alloc_new _ _
  · rw [← s3]; exact blk_alloc_new _ _
theorem al4b (w : World) (A B C D : Obj) : Below w.heap.size w (((((w.alloc A).alloc B).alloc C).alloc D).drew) :=
  ((((((Below.refl _ w).alloc (Nat.le_refl _) _).alloc (by rw [nblk_alloc]; omega) _).alloc (by rw [nblk_alloc, nblk_alloc]; omega) _).alloc (by rw [nblk_alloc, nblk_alloc, nblk_alloc]; omega) _)).drew

set_option maxHeartbeats 1000000 in
theorem rnew_at (n : Nat) (h2 : n ≤ 4096) (w : World) :
    Calls Try.prog 18 #[.int .i64 n] w fun e w' => ∃ r G, e = .returned (.pointer (some ⟨r, 0, none⟩)) ∧ RfAt w' r G (Dv.fresh n) ∧ (∀ k ∈ G, w.heap.size ≤ k) ∧ Below w.heap.size w w' := by
  have hmk := makeRef n h2
  have hmb := makeBools n h2
  have H2 := hide h2
  clear h2
  generalize hZ : (rRow (List.replicate n Pg.blank)).toArray = Z at hmk
  generalize hY : (List.replicate n (Value.bool false)).toArray = Y at hmb
  have HZ := hide hZ
  have HY := hide hY
  clear hZ hY
  have isZ : Hid (∀ (V : World) (b : Nat), V.heap[b]? = some (.cells Z 88) → Blk V b (rRow (List.replicate n Pg.blank)) 88) := fun V b h => by unfold Blk; rw [HZ.out]; exact h
  have isY : Hid (∀ (V : World) (b : Nat), V.heap[b]? = some (.cells Y 4) → Blk V b (List.replicate n (.bool false)) 4) := fun V b h => by unfold Blk; rw [HY.out]; exact h
  go_enter Try.func18, Try.ntmps18
  go_wp2
  go_region
  all_goals go_wp2
  all_goals (
    go_ret
    first
      | (obtain ⟨q0, q1, q2, q3⟩ := al4 w (.cells Z 88) (.cells Z 88) (.cells Y 4) (.cells #[.slice (some ⟨w.heap.size, 0, none⟩) n n, .slice (some ⟨w.heap.size + 1, 0, none⟩) n n, .slice (some ⟨w.heap.size + 1 + 1, 0, none⟩) n n, .bool false, .int .i64 0, .int .i64 0, .int .i64 0, .int .i64 0, .int .i64 0, .int .i64 0] 83)
         exact ⟨_, _, rfl, rnew_end H2.out (isZ.out _ _ q0) (isZ.out _ _ q1) (isY.out _ _ q2) q3 (by simp; omega), by intro k hk; simp at hk; omega, al4b w _ _ _ _⟩)
      | (obtain ⟨q0, q1, q2, q3⟩ := al4 w (.cells Z 88) (.cells Z 88) (.cells Y 4) (.cells #[.slice (some ⟨w.heap.size + 1, 0, none⟩) n n, .slice (some ⟨w.heap.size, 0, none⟩) n n, .slice (some ⟨w.heap.size + 1 + 1, 0, none⟩) n n, .bool false, .int .i64 0, .int .i64 0, .int .i64 0, .int .i64 0, .int .i64 0, .int .i64 0] 83)
         exact ⟨_, _, rfl, rnew_end H2.out (isZ.out _ _ q1) (isZ.out _ _ q0) (isY.out _ _ q2) q3 (by simp; omega), by intro k hk; simp at hk; omega, al4b w _ _ _ _⟩)
      | (obtain ⟨q0, q1, q2, q3⟩ := al4 w (.cells Z 88) (.cells Y 4) (.cells Z 88) (.cells #[.slice (some ⟨w.heap.size, 0, none⟩) n n, .slice (some ⟨w.heap.size + 1 + 1, 0, none⟩) n n, .slice (some ⟨w.heap.size + 1, 0, none⟩) n n, .bool false, .int .i64 0, .int .i64 0, .int .i64 0, .int .i64 0, .int .i64 0, .int .i64 0] 83)
         exact ⟨_, _, rfl, rnew_end H2.out (isZ.out _ _ q0) (isZ.out _ _ q2) (isY.out _ _ q1) q3 (by simp; omega), by intro k hk; simp at hk; omega, al4b w _ _ _ _⟩)
      | (obtain ⟨q0, q1, q2, q3⟩ := al4 w (.cells Z 88) (.cells Y 4) (.cells Z 88) (.cells #[.slice (some ⟨w.heap.size + 1 + 1, 0, none⟩) n n, .slice (some ⟨w.heap.size, 0, none⟩) n n, .slice (some ⟨w.heap.size + 1, 0, none⟩) n n, .bool false, .int .i64 0, .int .i64 0, .int .i64 0, .int .i64 0, .int .i64 0, .int .i64 0] 83)
         exact ⟨_, _, rfl, rnew_end H2.out (isZ.out _ _ q2) (isZ.out _ _ q0) (isY.out _ _ q1) q3 (by simp; omega), by intro k hk; simp at hk; omega, al4b w _ _ _ _⟩)
      | (obtain ⟨q0, q1, q2, q3⟩ := al4 w (.cells Y 4) (.cells Z 88) (.cells Z 88) (.cells #[.slice (some ⟨w.heap.size + 1, 0, none⟩) n n, .slice (some ⟨w.heap.size + 1 + 1, 0, none⟩) n n, .slice (some ⟨w.heap.size, 0, none⟩) n n, .bool false, .int .i64 0, .int .i64 0, .int .i64 0, .int .i64 0, .int .i64 0, .int .i64 0] 83)
         exact ⟨_, _, rfl, rnew_end H2.out (isZ.out _ _ q1) (isZ.out _ _ q2) (isY.out _ _ q0) q3 (by simp; omega), by intro k hk; simp at hk; omega, al4b w _ _ _ _⟩)
      | (obtain ⟨q0, q1, q2, q3⟩ := al4 w (.cells Y 4) (.cells Z 88) (.cells Z 88) (.cells #[.slice (some ⟨w.heap.size + 1 + 1, 0, none⟩) n n, .slice (some ⟨w.heap.size + 1, 0, none⟩) n n, .slice (some ⟨w.heap.size, 0, none⟩) n n, .bool false, .int .i64 0, .int .i64 0, .int .i64 0, .int .i64 0, .int .i64 0, .int .i64 0] 83)
         exact ⟨_, _, rfl, rnew_end H2.out (isZ.out _ _ q2) (isZ.out _ _ q1) (isY.out _ _ q0) q3 (by simp; omega), by intro k hk; simp at hk; omega, al4b w _ _ _ _⟩))

theorem wl_take_succ (cs : List Cl) (i : Nat) (c : Cl) (h : cs[i]? = some c) : wl 0 (cs.take (i + 1)) = wl 0 (cs.take i) ++ (match c.last with | none => [] | some l => [(i, l)]) := by
  have hi : i < cs.length := (List.getElem?_eq_some_iff.1 h).1
  rw [List.take_add_one, h, wl_append]
  have hl : (cs.take i).length = i := by simp; omega
  rw [hl, Nat.zero_add]
  cases hc : c.last <;> simp [wl, hc]

set_option maxHeartbeats 1000000 in
theorem rwaiting_at (r : Nat) (G : List Nat) (S : Dv) (w : World) (h : RfAt w r G S) :
    Calls Try.prog 45 #[.pointer (some ⟨r, 0, none⟩)] w fun e w' => ∃ v, e = .returned v ∧ w'.ownsRow w.heap.size 3 1 v (wl 0 S.cs).length (wtNums (wl 0 S.cs)) ∧ v ≠ .slice none 0 0 ∧ Below w.heap.size w w' := by
  obtain ⟨L, rfl, h⟩ := h
  obtain ⟨i0, hi0, hp0⟩ := Option.map_eq_some_iff.1 info3
  simp only [Prod.mk.injEq] at hp0
  obtain ⟨hz0, hz1, hz2⟩ := hp0
  have hmk : ∀ W : World, (Instr.makeSlice 85 (.int .i64 0) (.int .i64 0)).run Try.prog W = .ok (.slice (some ⟨W.heap.size, 0, none⟩) 0 0) (W.alloc (.cells #[] 3)) := fun W => makeInts 0 (by omega) W
  obtain ⟨n, hn⟩ : ∃ n, n = S.cs.length := ⟨_, rfl⟩
  have hnl : n ≤ 4096 := by rw [hn]; exact h.good.many
  have H := hide h
  have HN := hide hn
  have hrw := h.dev.lt
  have hww := h.waits.lt
  have c2 := h.dev.cell (i := 2) rfl
  rw [← hn] at c2
  clear h hn
  go_enter Try.func45, Try.ntmps45
  go_wp2
  go_loopg [3, 4] n (fun kx s3 s4 wr => ∃ i : Nat, s4 = .int .i64 i ∧ i ≤ n ∧ n - i ≤ kx ∧ (∃ a k cp, s3 = .slice a k cp) ∧ Hid (wr.ownsRow w.heap.size 3 1 s3 (wl 0 (S.cs.take i)).length (wtNums (wl 0 (S.cs.take i))) ∧ s3 ≠ .slice none 0 0 ∧ Below w.heap.size w wr))
  case atStart =>
    refine ⟨0, rfl, Nat.zero_le _, by omega, ⟨_, _, _, rfl⟩, ?_, by simp, (Below.refl _ _).alloc (Nat.le_refl _) _⟩
    exact World.ownsRow_made w #[] 0 (Nat.le_refl _) (Nat.zero_le _) (by simp)
  case round =>
    obtain ⟨i, rfl, hin, hg, ⟨va, vk, vc, rfl⟩, I⟩ := hrel
    have x2 := (I.out.2.2.cell (p := ⟨r, 2, none⟩) hrw).trans c2
    by_cases hlt : i < n
    · obtain ⟨c, hc⟩ : ∃ c, S.cs[i]? = some c := ⟨_, List.getElem?_eq_getElem (by rw [← HN.out]; exact hlt)⟩
      have xw : wr.cell? ⟨L.waits, i, none⟩ = some (.bool c.last.isSome) := by
        rw [I.out.2.2.cell (p := ⟨L.waits, i, none⟩) hww]
        refine H.out.waits.cell ?_
        rw [List.getElem?_append_left (by simp [wRow]; rw [← HN.out]; exact hlt)]
        simp [wRow, hc]
      have hlt2 : (i : Int) < (n : Int) := by omega
      have WS := hide (wl_take_succ S.cs i c hc)
      clear hc
      cases hl : c.last with
      | none =>
        rw [hl] at xw
        have WS' : Hid (wl 0 (S.cs.take (i + 1)) = wl 0 (S.cs.take i)) := by
          show _ = _
          have := WS.out
          rw [hl] at this
          simpa using this
        clear WS hl
        simp only [Option.isSome_none] at xw
        go_wp2
        go_roundg (n - (i + 1))
        case measure => omega
        case rel => exact ⟨i + 1, rfl, by omega, by omega, ⟨_, _, _, rfl⟩, by rw [WS'.out]; exact I.out⟩
      | some q =>
        rw [hl] at xw
        have WS' : Hid (wl 0 (S.cs.take (i + 1)) = wl 0 (S.cs.take i) ++ [(i, q)]) := by
          show _ = _
          have := WS.out
          rw [hl] at this
          simpa using this
        clear WS hl
        simp only [Option.isSome_some] at xw
        have hsm : (wl 0 (S.cs.take i)).length ≤ 4096 := by
          have := wl_length (S.cs.take i) 0
          rw [List.length_take] at this
          omega
        go_wp2_with (at_builtin; refine wpList_append_own _ rfl _ _ 85 rfl w.heap.size 3 i0 (.int .i64 0) 1 8 Try.underlying85 hi0 hz0 hz1 hz2 rfl (by decide) _ _ _ rfl (I.out.1.alloc _) ⟨wr.heap.size, 0, none⟩ 1 1 [.int .i64 i] rfl ?qc1 ?qc2 ?qc3 ?qc4 ?qc5 ?qc6 ?_)
        case qc1 => rfl
        case qc2 =>
          intro j u hj
          rw [Addr.add_lit, Nat.zero_add]
          exact (Blk.new wr [.int .i64 (i : Int)] 3).cell hj
        case qc3 => intro u hu; simp at hu; subst hu; rfl
        case qc4 => unfold maxLen; omega
        case qc5 => omega
        case qc6 => have := I.out.2.2.size; simp; omega
        intro v' w1 hown hgrow hnil
        obtain ⟨g2, cp2, rfl⟩ : ∃ g2 cp2, v' = .slice (some ⟨g2, 0, none⟩) ((wl 0 (S.cs.take i)).length + 1) cp2 := by
          rcases hown.2 with ⟨_, h0⟩ | ⟨g2, cp2, _, hv, _⟩
          · omega
          · exact ⟨g2, cp2, hv⟩
        have hB1 : Below w.heap.size w w1 := (I.out.2.2.alloc I.out.2.2.size _).grown hgrow (by have := I.out.2.2.size; rw [nblk_alloc]; omega) (fun k hk => (I.out.1.lt k hk).1)
        have FO := hide hown
        have FB := hide hB1
        clear hown hgrow hnil hB1
        go_wp2
        go_roundg (n - (i + 1))
        case measure => omega
        case rel =>
          refine ⟨i + 1, rfl, by omega, by omega, ⟨_, _, _, rfl⟩, ?_, by simp, FB.out⟩
          rw [WS'.out]
          have := FO.out
          simpa [wtNums] using this
    · obtain rfl : i = n := by omega
      go_wp2
      go_ret
      refine ⟨_, rfl, ?_, I.out.2.1, I.out.2.2⟩
      have := I.out.1
      rw [HN.out, List.take_length] at this
      exact this
end Go.Proofs.Ytcdefadeaiklbaa
