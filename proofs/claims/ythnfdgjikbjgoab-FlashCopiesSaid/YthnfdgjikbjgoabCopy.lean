/- Copy; the small calls told of the footprint. -/
import Derived.Test.YthnfdgjikbjgoabNew
set_option linter.unusedVariables false
set_option linter.unusedSimpArgs false
namespace Go.Proofs.Ythnfdgjikbjgoab
open Go.RowKit Go.Deep

theorem own_form2 {w : World} {B n : Nat} {v : Value} {xs : List Value} (h : w.ownsRow B 65 2 v n xs) (hv : v ≠ .slice none 0 0) :
    ∃ g pad, v = .slice (some ⟨g, 0, none⟩) n (n + pad.length / 2) ∧ B ≤ g ∧ Blk w g (xs ++ pad) 65 := by
  obtain ⟨h1, h2⟩ := h
  rcases h2 with ⟨h2, h3⟩ | ⟨g, cap, cur, hv2, hB, hh, hn, hm, hs, ht⟩
  · exact absurd h2 hv
  · refine ⟨g, cur.toList.drop (n * 2), ?_, hB, ?_⟩
    · rw [hv2]
      congr 1
      rw [List.length_drop, Array.length_toList, hs]
      omega
    · unfold Blk
      rw [← ht, List.take_append_drop, Array.toArray_toList]
      exact hh

theorem own_form3 {w : World} {B n : Nat} {v : Value} {xs : List Value} (h : w.ownsRow B 68 3 v n xs) (hv : v ≠ .slice none 0 0) :
    ∃ g c, v = .slice (some ⟨g, 0, none⟩) n c ∧ B ≤ g ∧ w.ownsRow 0 68 3 v n xs := by
  obtain ⟨h1, h2⟩ := h
  rcases h2 with ⟨h2, h3⟩ | ⟨g, cap, cur, hv2, hB, hr⟩
  · exact absurd h2 hv
  · exact ⟨g, cap, hv2, hB, h1, .inr ⟨g, cap, cur, hv2, Nat.zero_le _, hr⟩⟩

theorem pgRow_one (cs : List Cl) : ∀ v ∈ pgRow cs, v.oneCell' = true := by
  intro v hv
  obtain ⟨x, _, hx⟩ := List.mem_flatMap.1 hv
  simp only [pgCells, List.mem_cons, List.not_mem_nil, or_false] at hx
  rcases hx with rfl | rfl <;> rfl

set_option maxHeartbeats 1000000 in
theorem copy_at (d : Nat) (F : List Nat) (S : Dv) (w : World) (h : DvAt w d F S) :
    Calls Try.prog 9 #[.pointer (some ⟨d, 0, none⟩)] w fun e w' => e = .returned (.pointer (some ⟨w.heap.size, 0, none⟩)) ∧ ∃ F', DvAt w' w.heap.size F' S ∧ (∀ k ∈ F', w.heap.size ≤ k) ∧ Below w.heap.size w w' := by
  obtain ⟨p, pd, wa, wc, rfl, h⟩ := h
  obtain ⟨n, hn⟩ : ∃ n, n = S.cs.length := ⟨_, rfl⟩
  obtain ⟨m, hm⟩ : ∃ m, m = (wl 0 S.cs).length := ⟨_, rfl⟩
  have hnl : n ≤ 4096 := by rw [hn]; exact h.good.many
  have hml : m ≤ 4096 := by rw [hm]; exact Nat.le_trans (wl_length _ _) h.good.many
  obtain ⟨pc, hpc⟩ : ∃ pc, pc = n + pd.length / 2 := ⟨_, rfl⟩
  have c0 := h.dev.cell (i := 0) rfl
  have c1 := h.dev.cell (i := 1) rfl
  have c2 := h.dev.cell (i := 2) rfl
  have c3 := h.dev.cell (i := 3) rfl
  have c4 := h.dev.cell (i := 4) rfl
  have c5 := h.dev.cell (i := 5) rfl
  have c6 := h.dev.cell (i := 6) rfl
  have c7 := h.dev.cell (i := 7) rfl
  have c8 := h.dev.cell (i := 8) rfl
  rw [← hn, ← hpc] at c0
  rw [← hm] at c1
  have hdw := h.dev.lt
  obtain ⟨O, hO⟩ : ∃ O : Obj, O = .cells #[.slice (some ⟨p, 0, none⟩) n pc, .slice wa m wc, .int .i64 S.armed, .bool S.off, .int .i64 S.losses, .int .i64 S.wr, .int .i64 S.fl, .int .i64 S.rd, .int .i64 S.cr] 54 := ⟨_, rfl⟩
  -- the pages' clone
  have cp : ∀ W : World, Below w.heap.size w W → w.heap.size < W.heap.size → Calls Try.prog 30 #[.slice (some ⟨p, 0, none⟩) n pc] W fun e w' => ∃ g pad, e = .returned (.slice (some ⟨g, 0, none⟩) n (n + pad.length / 2)) ∧ w.heap.size < g ∧ Blk w' g (pgRow S.cs ++ pad) 65 ∧ Below W.heap.size W w' := fun W hB hlt => by
    refine (clone40 p n pc (pgRow S.cs) W (by rw [pgRow_length, hn]) hnl (fun j u hj => by
      rw [hB.cell (p := ⟨p, j, none⟩) h.row.lt]
      exact h.row.cell (by rw [List.getElem?_append_left (List.getElem?_eq_some_iff.1 hj).1]; exact hj)) (pgRow_one _)).mono ?_
    rintro e w' ⟨v, rfl, ho, hv, hb⟩
    obtain ⟨g, pad, rfl, hg, hbk⟩ := own_form2 ho hv
    exact ⟨g, pad, rfl, by omega, hbk, hb⟩
  -- the clone of what waits
  have cw : ∀ W : World, Below w.heap.size w W → w.heap.size < W.heap.size → Calls Try.prog 31 #[.slice wa m wc] W fun e w' => ∃ wa' wc', e = .returned (.slice wa' m wc') ∧ w'.ownsRow 0 68 3 (.slice wa' m wc') m (wtRow (wl 0 S.cs)) ∧ (∀ a, wa' = some a → W.heap.size ≤ a.block) ∧ Below W.heap.size W w' := fun W hB hlt => by
    have hfo := own_form h.own
    rw [← hm] at hfo
    rcases hfo with ⟨h1, h2, h3, h4⟩ | ⟨g, pad, h1, hb, hx⟩
    · subst h1
      refine (clone41_nil m wc W).mono ?_
      rintro e w' ⟨rfl, rfl⟩
      rw [h2, h4]
      refine ⟨none, 0, rfl, World.ownsRow_nil _ _ _ _, ?_, Below.refl _ _⟩
      intro a ha
      cases ha
    · subst h1
      refine (clone41 g m wc (wtRow (wl 0 S.cs)) W (by rw [wtRow_length, hm]) hml (fun j u hj => by
        rw [hB.cell (p := ⟨g, j, none⟩) hb.lt]
        exact hb.cell (by rw [List.getElem?_append_left (List.getElem?_eq_some_iff.1 hj).1]; exact hj)) (one_of_wt _)).mono ?_
      rintro e w' ⟨v, rfl, ho, hv, hbw⟩
      obtain ⟨g', c', rfl, hg, ho'⟩ := own_form3 ho hv
      exact ⟨_, _, rfl, ho', fun a ha => by cases ha; exact hg, hbw⟩
  have G := hide h.good
  have CP := hide cp
  have CW := hide cw
  have HN := hide hn
  have HM := hide hm
  have HO := hide hO
  clear h cp cw hn hm hpc hO
  go_enter Try.func9, Try.ntmps9
  go_wp2_with fail
  refine (CP.out _ ((Below.refl _ _).alloc (Nat.le_refl _) _) (by rw [nblk_alloc]; omega)).mono ?_
  rintro e w2 ⟨g, pad, rfl, hg, hb2, hbw2⟩
  rw [nblk_alloc] at hbw2
  have n2 : w.heap.size < w2.heap.size := by have := hbw2.size; rw [nblk_alloc] at this; omega
  have bl2 : w2.heap[w.heap.size]? = some O := by rw [hbw2.block w.heap.size (by omega), HO.out]; exact blk_alloc_new _ _
  have BL : Blk w2 w.heap.size [.slice (some ⟨p, 0, none⟩) n pc, .slice wa m wc, .int .i64 S.armed, .bool S.off, .int .i64 S.losses, .int .i64 S.wr, .int .i64 S.fl, .int .i64 S.rd, .int .i64 S.cr] 54 := by
    unfold Blk; rw [bl2, HO.out]
  have x0 := BL.cell (i := 0) rfl
  have x1 := BL.cell (i := 1) rfl
  have y0 := BL.frozen 0
  have y1 := BL.frozen 1
  have hB2 : Below w.heap.size w w2 := ((Below.refl _ w).alloc (Nat.le_refl _) _).trans (hbw2.mono (by omega))
  have d1 := (hB2.cell (p := ⟨d, 1, none⟩) hdw).trans c1
  have hdw2 : d < w2.heap.size := by omega
  have hdne : d ≠ w.heap.size := by omega
  have B2 := hide hB2
  have BLH := hide BL
  have HB2 := hide hb2
  have HG := hide hg
  have N2 := hide n2
  clear hbw2 bl2 BL hB2 hb2 hg n2 c0 c1 c2 c3 c4 c5 c6 c7 c8
  go_wp2_with fail
  obtain ⟨V, hV⟩ : ∃ V, V = w2.setCell ⟨w.heap.size, 0, none⟩ (.slice (some ⟨g, 0, none⟩) n (n + pad.length / 2)) := ⟨_, rfl⟩
  rw [← hV]
  have hVs : V.heap.size = w2.heap.size := by rw [hV]; exact nblk_setCell _ _ _
  have hVB : Below w.heap.size w V := by rw [hV]; exact B2.out.setCell (Nat.le_refl _) _
  refine (CW.out V hVB (by rw [hVs]; exact N2.out)).mono ?_
  rintro e w3 ⟨wa', wc', rfl, ho3, hge, hb3⟩
  have BV := BLH.out.set 0 (.slice (some ⟨g, 0, none⟩) n (n + pad.length / 2))
  rw [← hV] at BV
  have B3 := BV.same (hb3.block w.heap.size (by rw [hVs]; exact N2.out))
  have z1 := B3.cell (i := 1) rfl
  have zf := B3.frozen 1
  have HB3 := hide B3
  have HO3 := hide ho3
  have HGE := hide hge
  have HBB := hide hb3
  have HVH := hide hV
  have HVSZ := hide hVs
  have HVBH := hide hVB
  clear B3 ho3 hge hb3 hV hVs hVB BV
  go_wp2
  go_ret
  have hgV : g < V.heap.size := by rw [HVSZ.out]; exact HB2.out.lt
  have hgN : g ≠ w.heap.size := by have := HG.out; omega
  have hblk : ∀ k, k ≠ w.heap.size → (w3.setCell ⟨w.heap.size, 1, none⟩ (.slice wa' m wc')).heap[k]? = w3.heap[k]? := fun k hk => blk_setCell_other _ _ _ _ hk
  have hNV : w.heap.size < V.heap.size := by rw [HVSZ.out]; exact N2.out
  refine ⟨rfl, foot w.heap.size g wa', ⟨g, pad, wa', wc', rfl, ?_, ?_, ?_, by omega, fun a ha => ?_, G.out⟩, ?_, ?_⟩
  · have b := HB3.out.set 1 (.slice wa' m wc')
    have e : dvCells g pad wa' (wl 0 S.cs).length wc' S = (([.slice (some ⟨p, 0, none⟩) n pc, .slice wa m wc, .int .i64 S.armed, .bool S.off, .int .i64 S.losses, .int .i64 S.wr, .int .i64 S.fl, .int .i64 S.rd, .int .i64 S.cr].set 0 (.slice (some ⟨g, 0, none⟩) n (n + pad.length / 2))).set 1 (.slice wa' m wc') : List Value) := by
      rw [← HM.out]; simp only [dvCells, ← HN.out]; rfl
    rw [e]
    exact b
  · refine HB2.out.same ?_
    rw [hblk g hgN, HBB.out.block g hgV, HVH.out]
    exact blk_setCell_other _ _ _ _ hgN
  · rw [← HM.out]
    exact own_below HO3.out (fun a ha => hblk _ (by have := HGE.out a ha; omega))
  · have := HGE.out a ha
    omega
  · intro k hk
    simp only [foot, List.mem_cons] at hk
    rcases hk with rfl | rfl | hk
    · exact Nat.le_refl _
    · have := HG.out; omega
    · cases wa' with
      | none => simp at hk
      | some a =>
        simp at hk
        subst hk
        have := HGE.out a rfl
        omega
  · exact (HVBH.out.trans (HBB.out.mono (by omega))).setCell (Nat.le_refl _) _

/-! ### The small calls, of the footprint -/
theorem arm_at (d : Nat) (F : List Nat) (S : Dv) (w : World) (h : DvAt w d F S) (k : Int) (hk : k ≤ 9223372036854775807) :
    Calls Try.prog 26 #[.pointer (some ⟨d, 0, none⟩), .int .i64 k] w fun e w' => e = .returned (.tuple #[]) ∧ DvAt w' d F (S.arm k) ∧ Keep F w w' := by
  obtain ⟨p, pd, wa, wc, rfl, h⟩ := h
  refine (arm_any d p pd wa wc S w h k hk).mono ?_
  rintro e w' ⟨rfl, h2, k2⟩
  exact ⟨rfl, ⟨p, pd, wa, wc, rfl, h2⟩, k2.mono (fun k hk => .inl (by simp at hk; simp [foot, hk]))⟩
theorem pages_at (d : Nat) (F : List Nat) (S : Dv) (w : World) (h : DvAt w d F S) : Calls Try.prog 20 #[.pointer (some ⟨d, 0, none⟩)] w fun e w' => e = .returned (.int .i64 S.cs.length) ∧ w' = w := by
  obtain ⟨p, pd, wa, wc, rfl, h⟩ := h
  exact pages_any d p pd wa wc S w h
theorem power_at (d : Nat) (F : List Nat) (S : Dv) (w : World) (h : DvAt w d F S) : Calls Try.prog 19 #[.pointer (some ⟨d, 0, none⟩)] w fun e w' => e = .returned (.bool (!S.off)) ∧ w' = w := by
  obtain ⟨p, pd, wa, wc, rfl, h⟩ := h
  exact power_any d p pd wa wc S w h
theorem losses_at (d : Nat) (F : List Nat) (S : Dv) (w : World) (h : DvAt w d F S) : Calls Try.prog 18 #[.pointer (some ⟨d, 0, none⟩)] w fun e w' => e = .returned (.int .i64 S.losses) ∧ w' = w := by
  obtain ⟨p, pd, wa, wc, rfl, h⟩ := h
  exact losses_any d p pd wa wc S w h
theorem stat_at (d : Nat) (F : List Nat) (S : Dv) (w : World) (h : DvAt w d F S) : Calls Try.prog 21 #[.pointer (some ⟨d, 0, none⟩)] w fun e w' => e = .returned (.agg #[.int .i64 S.wr, .int .i64 S.fl, .int .i64 S.rd, .int .i64 S.cr]) ∧ Below w.heap.size w w' := by
  obtain ⟨p, pd, wa, wc, rfl, h⟩ := h
  refine (stat_any d p pd wa wc S w h).mono ?_
  rintro e w' ⟨rfl, k2⟩
  exact ⟨rfl, k2.below (fun k hk => by cases hk) (Nat.le_refl _)⟩
theorem waiting_at (d : Nat) (F : List Nat) (S : Dv) (w : World) (h : DvAt w d F S) :
    Calls Try.prog 15 #[.pointer (some ⟨d, 0, none⟩)] w fun e w' => e = .returned (.slice (some ⟨w.heap.size, 0, none⟩) (wl 0 S.cs).length (wl 0 S.cs).length) ∧ Blk w' w.heap.size (wtNums (wl 0 S.cs)) 3 ∧ Below w.heap.size w w' := by
  obtain ⟨p, pd, wa, wc, rfl, h⟩ := h
  exact waiting_any d p pd wa wc S w h
theorem new_at (n : Nat) (h1 : 1 ≤ n) (h2 : n ≤ 4096) (w : World) :
    Calls Try.prog 6 #[.int .i64 n] w fun e w' => ∃ d F, e = .returned (.tuple #[.pointer (some ⟨d, 0, none⟩), .int .i64 0]) ∧ DvAt w' d F (Dv.fresh n) ∧ (∀ k ∈ F, w.heap.size ≤ k) ∧ Below w.heap.size w w' := by
  refine (new_any n h1 h2 w).mono ?_
  rintro e w' ⟨rfl, h2, b2⟩
  refine ⟨w.heap.size + 1, foot (w.heap.size + 1) w.heap.size none, rfl, ⟨_, _, _, _, rfl, h2⟩, fun k hk => ?_, b2⟩
  simp [foot] at hk
  omega
end Go.Proofs.Ythnfdgjikbjgoab
