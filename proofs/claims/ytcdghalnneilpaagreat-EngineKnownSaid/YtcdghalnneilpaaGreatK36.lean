/- Joined texts. -/
import Derived.Test.YtcdghalnneilpaaGreatK35
set_option linter.unusedVariables false
set_option linter.unusedSimpArgs false
set_option maxRecDepth 8000
set_option maxHeartbeats 8000000
namespace Go.Proofs.YtcdghalnneilpaaGreat
open Go.RowKit Go.Deep Math
def gW (w : World) (g : Geo) : World := (w.alloc (.cells #[.int .i64 g.j, .int .i64 g.b, .int .i64 g.r, .int .i64 g.i] 34)).alloc (.cells #[.int .u64 0, .int .u64 0, .int .u64 0, .int .u64 0, .int .u64 0, .bool false, .int .i64 0] 30)
theorem gW_size (w : World) (g : Geo) : (gW w g).heap.size = w.heap.size + 2 := by unfold gW; rw [nblk_alloc, nblk_alloc]
theorem eopen_ill {w : World} {d : Nat} {F : List Nat} {S : Dv} (h : DvAt w d F S) (g : Geo) (hg : g.good = false) :
  Calls Tryz.prog 11 #[.pointer (some ⟨d, 0, none⟩), g.val] w fun e w' => e = .returned (.tuple #[.pointer none, .agg #[.int .u64 0, .int .u64 0, .int .u64 0, .int .u64 0, .int .u64 0, .bool false, .int .i64 0], .int .i64 1]) /\ Below w.heap.size w w' := by
 have BA : Below w.heap.size w (gW w g) := ((Below.refl _ _).alloc (Nat.le_refl _) _).alloc (by rw [nblk_alloc]; omega) _
 have hDA := h.below BA
 have hsA : (gW w g).heap.size = w.heap.size + 2 := gW_size w g
 have hGA : Blk (gW w g) w.heap.size (geoL g) 34 := (Blk.new w (geoL g) 34).same (blk_alloc_lt _ _ _ (by rw [nblk_alloc]; omega))
 have hZA : Blk (gW w g) (w.heap.size + 1) (bkL Sb.zero) 30 := by
  have := Blk.new (w.alloc (.cells #[.int .i64 g.j, .int .i64 g.b, .int .i64 g.r, .int .i64 g.i] 34)) (bkL Sb.zero) 30
  rw [nblk_alloc] at this
  exact this
 have HGB : Hid (∀ W, Below (gW w g).heap.size (gW w g) W -> Blk W w.heap.size (geoL g) 34) := fun W hW => hGA.same (hW.block _ (by rw [hsA]; omega))
 have HZB : Hid (∀ W, Below (gW w g).heap.size (gW w g) W -> Blk W (w.heap.size + 1) (bkL Sb.zero) 30) := fun W hW => hZA.same (hW.block _ (by rw [hsA]; omega))
 have HDV : Hid (∀ W, Below (gW w g).heap.size (gW w g) W -> DvAt W d F S) := fun W hW => hDA.below hW
 have HBA := hide BA
 have cG : Hid (∀ W, Calls Tryz.prog 19 #[.agg #[.int .i64 g.j, .int .i64 g.b, .int .i64 g.r, .int .i64 g.i]] W fun e w' => e = .returned (.bool false) /\ Below W.heap.size W w') := fun W => by
  have := egood_any g W
  rw [hg] at this
  exact this
 have cP : Hid (∀ W, Calls Tryz.prog 15 #[.agg #[.int .i64 g.j, .int .i64 g.b, .int .i64 g.r, .int .i64 g.i]] W fun e w' => e = .returned (.int .i64 g.pages) /\ Below W.heap.size W w') := fun W => epages_any g W
 have HSA := hide hsA
 clear h BA hDA hsA hGA hZA hg
 unfold Geo.val
 go_enter Tryz.func11, Tryz.ntmps11
 go_wp2_with fail
 obtain ⟨N, hN⟩ : ∃ N, w.heap.size = N := ⟨_, rfl⟩
 obtain ⟨WA, hWA⟩ : ∃ WA, (w.alloc (.cells #[.int .i64 g.j, .int .i64 g.b, .int .i64 g.r, .int .i64 g.i] 34)).alloc (.cells #[.int .u64 0, .int .u64 0, .int .u64 0, .int .u64 0, .int .u64 0, .bool false, .int .i64 0] 30) = WA := ⟨_, rfl⟩
 simp only [hN, show gW w g = WA from hWA, hWA] at HGB HZB HDV HSA ⊢
 have HBW : Hid (Below w.heap.size w WA) := by rw [<- hWA]; exact HBA.out
 clear HBA
 refine wp_region_guard (by kernel_rfl) (by kernel_rfl) (fun jx => ([.agg #[.int .i64 g.j, .int .i64 g.b, .int .i64 g.r, .int .i64 g.i], .bool false, .bool true, .bool true, undef, undef, undef, undef, undef, .bool true] : List Value).getD jx undef) (fun W => Below WA.heap.size WA W) (size_of (n := 52) (by kernel_rfl) rfl) ((Below.refl _ _).drew) ?_ ?_
 ·intro jx ox hi w' ev hc hin hout hcst hfn
  have hltx : jx < 10 := by
   have := (Array.getElem?_eq_some_iff.1 hi).1
   simpa using this
  match jx, hltx with
  | 0, _ =>
   cases hi
   rw [if_pos (by first | rfl | simp [wantV])]
   have e0 : ev (.tmp 3) = .pointer (some ⟨N, 0, none⟩) := hout 3
   refine .inl ⟨w', ?_, hc⟩
   show _ = Result.ok (Next.value (.agg #[.int .i64 g.j, .int .i64 g.b, .int .i64 g.r, .int .i64 g.i])) w'
   have q0 := (HGB.out w' hc).cell (i := 0) rfl
   have q1 := (HGB.out w' hc).cell (i := 1) rfl
   have q2 := (HGB.out w' hc).cell (i := 2) rfl
   have q3 := (HGB.out w' hc).cell (i := 3) rfl
   simp [execOp, e0, hcst, q0, q1, q2, q3, go_sem]
  | 1, _ =>
   cases hi
   rw [if_pos (by first | rfl | simp [wantV])]
   have e0 : ev (.tmp 11) = .agg #[.int .i64 g.j, .int .i64 g.b, .int .i64 g.r, .int .i64 g.i] := hin 11 0 ⟨0, .data⟩
   refine .inr (.inr ⟨19, #[.agg #[.int .i64 g.j, .int .i64 g.b, .int .i64 g.r, .int .i64 g.i]], ?_, ?_⟩)
   ·have ef := hfn 19
    simp [execOp, resolve, invoke, ef, hcst, e0, Result.andThen]
    exact enz19 _ _
   ·refine (cG.out w').mono ?_
    rintro e W' ⟨rfl, b⟩
    exact ⟨rfl, hc.trans (b.mono hc.size)⟩
  | 2, _ =>
   cases hi
   rw [if_pos (by first | rfl | simp [wantV])]
   have e0 : ev (.tmp 12) = .bool false := hin 12 1 ⟨1, .data⟩
   refine .inl ⟨w', ?_, hc⟩
   simp [execOp, e0, hcst, go_sem]
  | 3, _ =>
   cases hi
   rw [if_pos (by first | rfl | simp [wantV])]
   have e0 : ev (.tmp 13) = .bool true := hin 13 2 ⟨2, .data⟩
   refine .inl ⟨w', ?_, hc⟩
   simp [execOp, e0, hcst, go_sem]
  | 4, _ =>
   cases hi
   rw [if_neg (by first | (simp [wantV]; done) | (simp [wantV]; rfl))]
   rfl
  | 5, _ =>
   cases hi
   rw [if_neg (by first | (simp [wantV]; done) | (simp [wantV]; rfl))]
   rfl
  | 6, _ =>
   cases hi
   rw [if_neg (by first | (simp [wantV]; done) | (simp [wantV]; rfl))]
   rfl
  | 7, _ =>
   cases hi
   rw [if_neg (by first | (simp [wantV]; done) | (simp [wantV]; rfl))]
   rfl
  | 8, _ =>
   cases hi
   rw [if_neg (by first | (simp [wantV]; done) | (simp [wantV]; rfl))]
   rfl
  | 9, _ =>
   cases hi
   rw [if_pos (by first | rfl | simp [wantV])]
   have e0 : ev (.tmp 14) = .bool true := hin 14 3 ⟨3, .data⟩
   have e1 : ev (.tmp 19) = undef := hin 19 8 ⟨8, .data⟩
   refine .inl ⟨w', ?_, hc⟩
   simp [execOp, e0, e1, hcst, go_sem]
 ·intro w7 hc
  simp only [lexF, Act.put, List.setIfInBounds_toArray, List.set_cons_succ, List.set_cons_zero, List.getD_cons_succ, List.getD_cons_zero]
  have hZ2 := HZB.out w7 hc
  obtain ⟨y0, y1, y2, y3, y4, y5, y6, g0, g1, g2, g3, g4, g5, g6⟩ := cells7 hZ2
  have B2 : Hid (Below w.heap.size w w7) := HBW.out.trans (hc.mono HBW.out.size)
  have hZ9 : Hid (Blk (put7 w7 (N + 1) Sb.zero) (N + 1) (bkL Sb.zero) 30) := put7_blk hZ2 Sb.zero
  have B9 : Hid (Below w.heap.size w (put7 w7 (N + 1) Sb.zero)) := B2.out.trans ((put7_keep (Keep.refl [N + 1] w7) (.inl (List.mem_singleton.2 rfl)) Sb.zero).below (fun k hk => by rw [List.mem_singleton.1 hk, <- hN]; exact Nat.le_succ _) B2.out.size)
  clear HGB HZB HDV HBW HSA cG cP hc hZ2
  go_wp2
  change bodyPost _ _ _ _ _ (put7 w7 (N + 1) Sb.zero)
  clear y0 y1 y2 y3 y4 y5 y6 g0 g1 g2 g3 g4 g5 g6
  generalize put7 w7 (N + 1) Sb.zero = W9 at *
  obtain ⟨y0, y1, y2, y3, y4, y5, y6, _⟩ := cells7 hZ9.out
  simp only [Sb.zero] at y0 y1 y2 y3 y4 y5 y6
  exact bodyPost_ret (v := .tuple #[.pointer none, .agg #[.int .u64 0, .int .u64 0, .int .u64 0, .int .u64 0, .int .u64 0, .bool false, .int .i64 0], .int .i64 1]) (by simp [results, Tryz.results11, go_sem, *]) rfl ⟨rfl, B9.out⟩
theorem eopen_small {w : World} {d : Nat} {F : List Nat} {S : Dv} (h : DvAt w d F S) (g : Geo) (hg : g.good = true) (hp : (S.cs.length : Int) < g.pages) :
  Calls Tryz.prog 11 #[.pointer (some ⟨d, 0, none⟩), g.val] w fun e w' => e = .returned (.tuple #[.pointer none, .agg #[.int .u64 0, .int .u64 0, .int .u64 0, .int .u64 0, .int .u64 0, .bool false, .int .i64 0], .int .i64 1]) /\ Below w.heap.size w w' := by
 have BA : Below w.heap.size w (gW w g) := ((Below.refl _ _).alloc (Nat.le_refl _) _).alloc (by rw [nblk_alloc]; omega) _
 have hDA := h.below BA
 have hsA : (gW w g).heap.size = w.heap.size + 2 := gW_size w g
 have hGA : Blk (gW w g) w.heap.size (geoL g) 34 := (Blk.new w (geoL g) 34).same (blk_alloc_lt _ _ _ (by rw [nblk_alloc]; omega))
 have hZA : Blk (gW w g) (w.heap.size + 1) (bkL Sb.zero) 30 := by
  have := Blk.new (w.alloc (.cells #[.int .i64 g.j, .int .i64 g.b, .int .i64 g.r, .int .i64 g.i] 34)) (bkL Sb.zero) 30
  rw [nblk_alloc] at this
  exact this
 have HGB : Hid (∀ W, Below (gW w g).heap.size (gW w g) W -> Blk W w.heap.size (geoL g) 34) := fun W hW => hGA.same (hW.block _ (by rw [hsA]; omega))
 have HZB : Hid (∀ W, Below (gW w g).heap.size (gW w g) W -> Blk W (w.heap.size + 1) (bkL Sb.zero) 30) := fun W hW => hZA.same (hW.block _ (by rw [hsA]; omega))
 have HDV : Hid (∀ W, Below (gW w g).heap.size (gW w g) W -> DvAt W d F S) := fun W hW => hDA.below hW
 have HBA := hide BA
 have cG : Hid (∀ W, Calls Tryz.prog 19 #[.agg #[.int .i64 g.j, .int .i64 g.b, .int .i64 g.r, .int .i64 g.i]] W fun e w' => e = .returned (.bool true) /\ Below W.heap.size W w') := fun W => by
  have := egood_any g W
  rw [hg] at this
  exact this
 have cP : Hid (∀ W, Calls Tryz.prog 15 #[.agg #[.int .i64 g.j, .int .i64 g.b, .int .i64 g.r, .int .i64 g.i]] W fun e w' => e = .returned (.int .i64 g.pages) /\ Below W.heap.size W w') := fun W => epages_any g W
 have hlt : ((S.cs.length : Int) < g.pages) = True := eq_true hp
 have HSA := hide hsA
 clear h BA hDA hsA hGA hZA hg
 unfold Geo.val
 go_enter Tryz.func11, Tryz.ntmps11
 go_wp2_with fail
 obtain ⟨N, hN⟩ : ∃ N, w.heap.size = N := ⟨_, rfl⟩
 obtain ⟨WA, hWA⟩ : ∃ WA, (w.alloc (.cells #[.int .i64 g.j, .int .i64 g.b, .int .i64 g.r, .int .i64 g.i] 34)).alloc (.cells #[.int .u64 0, .int .u64 0, .int .u64 0, .int .u64 0, .int .u64 0, .bool false, .int .i64 0] 30) = WA := ⟨_, rfl⟩
 simp only [hN, show gW w g = WA from hWA, hWA] at HGB HZB HDV HSA ⊢
 have HBW : Hid (Below w.heap.size w WA) := by rw [<- hWA]; exact HBA.out
 clear HBA
 refine wp_region_guard (by kernel_rfl) (by kernel_rfl) (fun jx => ([.agg #[.int .i64 g.j, .int .i64 g.b, .int .i64 g.r, .int .i64 g.i], .bool true, .bool false, .bool false, .pointer (some ⟨d, 0, none⟩), .int .i64 (S.cs.length : Int), .agg #[.int .i64 g.j, .int .i64 g.b, .int .i64 g.r, .int .i64 g.i], .int .i64 g.pages, .bool true, .bool true] : List Value).getD jx undef) (fun W => Below WA.heap.size WA W) (size_of (n := 52) (by kernel_rfl) rfl) ((Below.refl _ _).drew) ?_ ?_
 ·intro jx ox hi w' ev hc hin hout hcst hfn
  have hltx : jx < 10 := by
   have := (Array.getElem?_eq_some_iff.1 hi).1
   simpa using this
  match jx, hltx with
  | 0, _ =>
   cases hi
   rw [if_pos (by first | rfl | simp [wantV])]
   have e0 : ev (.tmp 3) = .pointer (some ⟨N, 0, none⟩) := hout 3
   refine .inl ⟨w', ?_, hc⟩
   show _ = Result.ok (Next.value (.agg #[.int .i64 g.j, .int .i64 g.b, .int .i64 g.r, .int .i64 g.i])) w'
   have q0 := (HGB.out w' hc).cell (i := 0) rfl
   have q1 := (HGB.out w' hc).cell (i := 1) rfl
   have q2 := (HGB.out w' hc).cell (i := 2) rfl
   have q3 := (HGB.out w' hc).cell (i := 3) rfl
   simp [execOp, e0, hcst, q0, q1, q2, q3, go_sem]
  | 1, _ =>
   cases hi
   rw [if_pos (by first | rfl | simp [wantV])]
   have e0 : ev (.tmp 11) = .agg #[.int .i64 g.j, .int .i64 g.b, .int .i64 g.r, .int .i64 g.i] := hin 11 0 ⟨0, .data⟩
   refine .inr (.inr ⟨19, #[.agg #[.int .i64 g.j, .int .i64 g.b, .int .i64 g.r, .int .i64 g.i]], ?_, ?_⟩)
   ·have ef := hfn 19
    simp [execOp, resolve, invoke, ef, hcst, e0, Result.andThen]
    exact enz19 _ _
   ·refine (cG.out w').mono ?_
    rintro e W' ⟨rfl, b⟩
    exact ⟨rfl, hc.trans (b.mono hc.size)⟩
  | 2, _ =>
   cases hi
   rw [if_pos (by first | rfl | simp [wantV])]
   have e0 : ev (.tmp 12) = .bool true := hin 12 1 ⟨1, .data⟩
   refine .inl ⟨w', ?_, hc⟩
   simp [execOp, e0, hcst, go_sem]
  | 3, _ =>
   cases hi
   rw [if_pos (by first | rfl | simp [wantV])]
   have e0 : ev (.tmp 13) = .bool false := hin 13 2 ⟨2, .data⟩
   refine .inl ⟨w', ?_, hc⟩
   simp [execOp, e0, hcst, go_sem]
  | 4, _ =>
   cases hi
   rw [if_pos (by first | rfl | simp [wantV])]
   have e0 : ev (.tmp 0) = .pointer (some ⟨d, 0, none⟩) := hout 0
   refine .inl ⟨w', ?_, hc⟩
   simp [execOp, e0, hcst, go_sem]
  | 5, _ =>
   cases hi
   rw [if_pos (by first | rfl | simp [wantV])]
   have e0 : ev (.tmp 15) = .pointer (some ⟨d, 0, none⟩) := hin 15 4 ⟨4, .data⟩
   refine .inr (.inr ⟨46, #[.pointer (some ⟨d, 0, none⟩)], ?_, ?_⟩)
   ·have ef := hfn 46
    simp [execOp, resolve, invoke, ef, hcst, e0, Result.andThen]
    exact enz46 _ _
   ·refine (spages_at d F S w' (HDV.out w' hc)).mono ?_
    rintro e W' ⟨rfl, rfl⟩
    exact ⟨rfl, hc⟩
  | 6, _ =>
   cases hi
   rw [if_pos (by first | rfl | simp [wantV])]
   have e0 : ev (.tmp 3) = .pointer (some ⟨N, 0, none⟩) := hout 3
   refine .inl ⟨w', ?_, hc⟩
   show _ = Result.ok (Next.value (.agg #[.int .i64 g.j, .int .i64 g.b, .int .i64 g.r, .int .i64 g.i])) w'
   have q0 := (HGB.out w' hc).cell (i := 0) rfl
   have q1 := (HGB.out w' hc).cell (i := 1) rfl
   have q2 := (HGB.out w' hc).cell (i := 2) rfl
   have q3 := (HGB.out w' hc).cell (i := 3) rfl
   simp [execOp, e0, hcst, q0, q1, q2, q3, go_sem]
  | 7, _ =>
   cases hi
   rw [if_pos (by first | rfl | simp [wantV])]
   have e0 : ev (.tmp 17) = .agg #[.int .i64 g.j, .int .i64 g.b, .int .i64 g.r, .int .i64 g.i] := hin 17 6 ⟨6, .data⟩
   refine .inr (.inr ⟨15, #[.agg #[.int .i64 g.j, .int .i64 g.b, .int .i64 g.r, .int .i64 g.i]], ?_, ?_⟩)
   ·have ef := hfn 15
    simp [execOp, resolve, invoke, ef, hcst, e0, Result.andThen]
    exact enz15 _ _
   ·refine (cP.out w').mono ?_
    rintro e W' ⟨rfl, b⟩
    exact ⟨rfl, hc.trans (b.mono hc.size)⟩
  | 8, _ =>
   cases hi
   rw [if_pos (by first | rfl | simp [wantV])]
   have e0 : ev (.tmp 16) = .int .i64 (S.cs.length : Int) := hin 16 5 ⟨5, .data⟩
   have e1 : ev (.tmp 18) = .int .i64 g.pages := hin 18 7 ⟨7, .data⟩
   refine .inl ⟨w', ?_, hc⟩
   simp [execOp, e0, e1, hcst, hlt, go_sem]
  | 9, _ =>
   cases hi
   rw [if_pos (by first | rfl | simp [wantV])]
   have e0 : ev (.tmp 14) = .bool false := hin 14 3 ⟨3, .data⟩
   have e1 : ev (.tmp 19) = .bool true := hin 19 8 ⟨8, .data⟩
   refine .inl ⟨w', ?_, hc⟩
   simp [execOp, e0, e1, hcst, go_sem]
 ·intro w7 hc
  simp only [lexF, Act.put, List.setIfInBounds_toArray, List.set_cons_succ, List.set_cons_zero, List.getD_cons_succ, List.getD_cons_zero]
  have hZ2 := HZB.out w7 hc
  obtain ⟨y0, y1, y2, y3, y4, y5, y6, g0, g1, g2, g3, g4, g5, g6⟩ := cells7 hZ2
  have B2 : Hid (Below w.heap.size w w7) := HBW.out.trans (hc.mono HBW.out.size)
  have hZ9 : Hid (Blk (put7 w7 (N + 1) Sb.zero) (N + 1) (bkL Sb.zero) 30) := put7_blk hZ2 Sb.zero
  have B9 : Hid (Below w.heap.size w (put7 w7 (N + 1) Sb.zero)) := B2.out.trans ((put7_keep (Keep.refl [N + 1] w7) (.inl (List.mem_singleton.2 rfl)) Sb.zero).below (fun k hk => by rw [List.mem_singleton.1 hk, <- hN]; exact Nat.le_succ _) B2.out.size)
  clear HGB HZB HDV HBW HSA cG cP hc hZ2
  go_wp2
  change bodyPost _ _ _ _ _ (put7 w7 (N + 1) Sb.zero)
  clear y0 y1 y2 y3 y4 y5 y6 g0 g1 g2 g3 g4 g5 g6
  generalize put7 w7 (N + 1) Sb.zero = W9 at *
  obtain ⟨y0, y1, y2, y3, y4, y5, y6, _⟩ := cells7 hZ9.out
  simp only [Sb.zero] at y0 y1 y2 y3 y4 y5 y6
  exact bodyPost_ret (v := .tuple #[.pointer none, .agg #[.int .u64 0, .int .u64 0, .int .u64 0, .int .u64 0, .int .u64 0, .bool false, .int .i64 0], .int .i64 1]) (by simp [results, Tryz.results11, go_sem, *]) rfl ⟨rfl, B9.out⟩
theorem zeros_conv {W : World} {N k : Nat} (h : Blk W N (zc k) 5) : (convert 40 9 (.slice (some ⟨N, 0, none⟩) k k)).run Tryz.prog W = .ok (.string (txt (List.replicate k 0))) W := by
 have hb : Buf W N (List.replicate k 0) 0 := by
  unfold Buf
  rw [show bCells (List.replicate k 0) = zc k by simp [bCells, zc], show zc 0 = [] from rfl, List.append_nil]
  exact h
 exact str_bs (buf_bs hb (by simp) (Nat.le_refl _)) (fun h => by cases h)
theorem make_len (n : Nat) (hn : n <= 1048576) (W : World) : (Instr.makeSlice 40 (.int .i64 n) (.int .i64 n)).run Tryz.prog W = .ok (.slice (some ⟨W.heap.size, 0, none⟩) n n) (W.alloc (.cells (zc n).toArray 5)) := by
 obtain ⟨i0, hi0, hp0⟩ := Option.map_eq_some_iff.1 info5
 simp only [Prod.mk.injEq] at hp0
 obtain ⟨hz0, hz1, hz2⟩ := hp0
 have h := run_make (P := Tryz.prog) W 40 5 i0 _ Tryz.underlying40 hi0 hz0 .i64 .i64 (n : Int) (n : Int) (by omega) (by omega) (by rw [hz2]; omega) (by omega)
 rw [h]
 simp only [Int.toNat_natCast]
 congr 3
 apply Array.ext'
 rw [hz1, Nat.mul_one, show (Value.int IntKind.u8 0).cells = #[Value.int IntKind.u8 0] from rfl, toList_madeCells_one]
 rfl
def yZ : It := ⟨List.replicate 250 0, List.replicate 1024 0, 0, 0, 1⟩
theorem yZ_key : yZ.key.length = 250 := List.length_replicate
theorem yZ_value : yZ.value.length = 1024 := List.length_replicate
theorem yZ_size : yZ.size = 1306 := by show 32 + yZ.key.length + yZ.value.length = 1306; rw [yZ_key, yZ_value]
theorem yZ_fits : yZ.fits := ⟨by decide, by decide, by decide, by decide⟩
theorem yZ_good : yZ.good = true := by rw [It.good_iff, yZ_key, yZ_value]; exact ⟨by omega, by omega, by omega, by decide⟩
section
variable {w0 w w' : World} {x d gj : Nat} {B : List Nat} {J : Jr} {S : Dv} {f : Nat -> List It} {bs : List (List Bool)} {T : Lg}
theorem eg_bad {E : En} {first n : Nat} (h : Eg w0 w x d B E J gj first n S f bs T) :
  Calls Tryz.prog 13 #[.pointer (some ⟨x, 0, none⟩), .agg #[.string ⟨#[]⟩, .string ⟨#[]⟩, .int .u32 0, .int .i64 0, .int .u64 0]] w fun e w' => e = .returned (.int .i64 1) /\ Eg w0 w' x d B E J gj first n S f bs T := by
 refine (eput_bad It.zero (by decide)).mono ?_
 rintro e w' ⟨rfl, b⟩
 exact ⟨rfl, h.below b⟩
theorem eg_great {E : En} (h : Eg w0 w x d B E J gj 4 3 S (fun _ => []) (List.replicate 3 (toldB [])) T) (hl : S.losses = E.losses) (ho : T.opn = []) (hc : T.cap = 0) (hh : ∀ k, T.has k = none) (ks vs : ByteArray) (hk : ks = txt (List.replicate 250 0)) (hv : vs = txt (List.replicate 1024 0)) :
  Calls Tryz.prog 13 #[.pointer (some ⟨x, 0, none⟩), .agg #[.string ks, .string vs, .int .u32 0, .int .i64 0, .int .u64 1]] w fun e w' => e = .returned (.int .i64 0) /\ ∃ S' bs' T', Eg w0 w' x d B E J gj 4 3 S' (fun _ => []) bs' T' /\ T'.hasIt [122, 101, 98, 114, 97] none /\ S'.losses = S.losses /\ S'.lastSeq = S.lastSeq /\ S'.cs.length = S.cs.length := by
 subst hk hv
 obtain ⟨p, m, nj, q, G, l, ml, v5, v6, v7, h⟩ := h
 have hcont : T.cont = [] := by unfold Lg.cont; rw [ho]; rfl
 refine (eput_room h.at_ hl yZ yZ_fits yZ_good (by rw [yZ_key]; decide) (by rw [yZ_key]; decide) (by rw [yZ_value]; decide) (by rw [yZ_size]; decide) (by rw [yZ_size]; decide) (toldB []) (by rw [List.getElem?_replicate, if_pos (bkt_lt _ 3 (by omega))]) (by rw [hcont, yZ_size]; decide) (by rw [hc]; decide) (by rw [ho]; decide)).mono ?_
 rintro e w' ⟨rfl, S1, S2, G', v5', v6', v7', T', N, hE, hm, ⟨rfl, rfl⟩, hN, hlo, hf⟩
 have ed : dropF 3 (fun _ => []) yZ.key = fun _ => [] := by
  funext k
  unfold dropF
  split <;> rfl
 rw [ed] at hE
 obtain ⟨o1, _⟩ := pin_of (P := ftE x p m G (lblocks l ml v5 v6 v7 T)) (Q := ftE x p m G' (lblocks l ml v5' v6' v7' (T.put ⟨N, 0, yZ⟩))) h.off hm.keep (fun _ hq => .inl (ft_a hq)) (fun _ hq => ft_m hm hq)
 refine ⟨rfl, S2, _, _, ⟨p, m, nj, q, G', l, ml, v5', v6', v7', hE, h.few, o1⟩, .inl ⟨?_, rfl⟩, hlo, lastSeq_far hf (by omega), hf.len⟩
 show updK T.has yZ.key (some (Th.pos ⟨N, 0, yZ⟩)) [122, 101, 98, 114, 97] = none
 rw [updK_other _ _ _ _ (fun e => by have := congrArg List.length e; rw [yZ_key] at this; cases this)]
 exact hh _
theorem eg_none {E : En} (h : Eg w0 w x d B E J gj 4 3 S (fun _ => []) bs T) (hh : T.hasIt [122, 101, 98, 114, 97] none) :
  Calls Tryz.prog 14 #[.pointer (some ⟨x, 0, none⟩), .string ⟨#[122, 101, 98, 114, 97]⟩] w fun e w' => e = .returned (.tuple #[.agg #[.string ⟨#[]⟩, .string ⟨#[]⟩, .int .u32 0, .int .i64 0, .int .u64 0], .int .i64 5]) /\ ∃ S', Eg w0 w' x d B E J gj 4 3 S' (fun _ => []) bs T /\ LikeB S S' := by
 obtain ⟨p, m, nj, q, G, l, ml, v5, v6, v7, h⟩ := h
 refine (get_any h.at_ [122, 101, 98, 114, 97] (by decide) (by decide) none none rfl hh (by decide) (by decide)).mono ?_
 rintro e w' ⟨rfl, S', hE, hk, hm⟩
 refine ⟨?_, S', ⟨p, m, nj, q, G, l, ml, v5, v6, v7, hE, h.few, (eg_moves h hm).1⟩, hk⟩
 have e1 : E.gets J ((none : Option It).getD It.zero) ((none : Option It).getD It.zero) = none := by
  unfold En.gets
  have e2 : E.counts J (fndI ((none : Option It).getD It.zero) ((none : Option It).getD It.zero)) = false := zero_counts E J
  rw [e2]
  rfl
 rw [e1]
 rfl
theorem eg_nothing (h : Eg w0 w x d B ⟨0, ⟨1, 1, 0, 0, 0, false, 0⟩, 0⟩ J0 gj 4 3 S f bs T) (hgj : gj < 800000) (hs : S.lastSeq = 1) (hl : S.losses = 0) (hc : 11 <= S.cs.length) :
  Calls Tryz.prog 16 #[.pointer (some ⟨x, 0, none⟩), .slice none 0 0] w fun e w' => e = .returned (.int .i64 0) /\ Below w0.heap.size w0 w' := by
 obtain ⟨p, m, nj, q, G, l, ml, v5, v6, v7, h⟩ := h
 have hf : (⟨1, 1, 0, 0, 0, false, 0⟩ : Sb).fits := ⟨by decide, by decide, by decide, by decide, by decide, by decide, by decide⟩
 refine (remove_calm h.at_ none 0 0 [] ⟨fun k hk => by simp at hk, fun i k hk => by simp at hk⟩ rfl (by omega) (by omega) (by show 0 < _; omega) [] rfl 2 2 0 ⟨rfl, rfl, rfl, by omega, by omega⟩ (by omega) (by omega) (by decide) hl hl (by have := h.few; omega) (by rw [hs]; decide) hf).mono ?_
 rintro e w' ⟨rfl, (⟨_, S', G', n', hE, _⟩ | ⟨hbad, _⟩)⟩
 ·exact ⟨rfl, hE.bu.bel⟩
 ·exact absurd hbad (by decide)
end
section
variable {w0 w w' : World} {d : Nat} {F B : List Nat}
theorem eg_open2 {n : Nat} (hn : 11 <= n) (hL : Law w0 d F (Dv.fresh n) w) :
  Calls Tryz.prog 11 #[.pointer (some ⟨d, 0, none⟩), gSm.val] w fun e w' => ∃ x, e = .returned (.tuple #[.pointer (some ⟨x, 0, none⟩), .agg #[.int .u64 0, .int .u64 0, .int .u64 0, .int .u64 0, .int .u64 0, .bool false, .int .i64 0], .int .i64 0]) /\
   ∃ S T, Eg w0 w' x d [] ⟨0, ⟨1, 1, 0, 0, 0, false, 0⟩, 0⟩ J0 46 4 3 S (fun _ => []) (List.replicate 3 (toldB [])) T /\ T.cap = 0 /\ T.opn = [] /\ (∀ k, T.has k = none) /\ S.lastSeq = 1 /\ S.losses = 0 /\ S.cs.length = n := by
 refine (open_fresh hn hL).mono ?_
 rintro e w' ⟨x, rfl, p, m, nj, q, S, G, l, ml, v5, T, hE, hT, hO, hn, hh, h1, h2, h3, hk, hf⟩
 have hall : T.all = [] := by unfold Lg.all; rw [hT.1, hT.2.1]; rfl
 exact ⟨x, rfl, S, T, ⟨p, m, nj, q, G, l, ml, v5, _, _, hE, hn, fun k hk => by simp at hk⟩, by rw [hO.cap, hall]; rfl, hT.2.1, hh, h1, h2, h3⟩
theorem eo_small (hL : Law w0 d F (Dv.fresh 10) w) : Calls Tryz.prog 11 #[.pointer (some ⟨d, 0, none⟩), gSm.val] w fun e w' => e = .returned (.tuple #[.pointer none, .agg #[.int .u64 0, .int .u64 0, .int .u64 0, .int .u64 0, .int .u64 0, .bool false, .int .i64 0], .int .i64 1]) /\ Law w0 d F (Dv.fresh 10) w' := by
 refine (eopen_small hL.dev gSm (by decide) (by decide)).mono ?_
 rintro e w' ⟨rfl, b⟩
 exact ⟨rfl, hL.below b⟩
theorem eo_ill {S : Dv} (hL : Law w0 d F S w) : Calls Tryz.prog 11 #[.pointer (some ⟨d, 0, none⟩), .agg #[.int .i64 0, .int .i64 0, .int .i64 0, .int .i64 0]] w fun e w' => e = .returned (.tuple #[.pointer none, .agg #[.int .u64 0, .int .u64 0, .int .u64 0, .int .u64 0, .int .u64 0, .bool false, .int .i64 0], .int .i64 1]) /\ Law w0 d F S w' := by
 refine (eopen_ill hL.dev ⟨0, 0, 0, 0⟩ (by decide)).mono ?_
 rintro e w' ⟨rfl, b⟩
 exact ⟨rfl, hL.below b⟩
theorem pg_zero (w : World) : Calls Tryz.prog 15 #[.agg #[.int .i64 0, .int .i64 0, .int .i64 0, .int .i64 0]] w fun e w' => e = .returned (.int .i64 0) /\ Below w.heap.size w w' := by
 have h := epages_any ⟨0, 0, 0, 0⟩ w
 rwa [show (⟨0, 0, 0, 0⟩ : Geo).pages = 0 by decide] at h
end
end Go.Proofs.YtcdghalnneilpaaGreat
namespace Go.Proofs.YtcdghalnneilpaaGreat.engineKnown
open Go.RowKit Go.Deep Math
set_option maxRecDepth 8000 in
set_option maxHeartbeats 40000000 in
theorem walk  (w : World)  :
  Calls Tryz.prog 3 #[] w fun e w' => e = .returned (.bool true) /\ Below w.heap.size w w' := by
 have ca := hide (awake_any w)
 go_enter Tryz.func3, Tryz.ntmps3
 go_wp2_with fail
 refine ca.out.mono ?_
 rintro e w1 ⟨rfl, b1⟩
 have cN := hide (new_law b1 10 (by omega) (by omega))
 clear ca b1
 go_wp2_with fail
 refine cN.out.mono ?_
 rintro e w2 ⟨d1, F1, rfl, L1, _⟩
 have cS := hide (small_any w2)
 have HL1 := hide L1
 clear cN L1
 go_wp2_with fail
 refine cS.out.mono ?_
 rintro e w3 ⟨rfl, b3⟩
 have cO := hide (eo_small (HL1.out.below b3))
 clear cS b3 HL1
 go_wp2_with fail
 refine cO.out.mono ?_
 rintro e w4 ⟨rfl, L4⟩
 have HL4 := hide L4
 clear cO L4
 go_wp2_with fail
 refine (eo_ill (HL4.out.below ((Below.refl _ _).alloc (Nat.le_refl _) _))).mono ?_
 rintro e w5 ⟨rfl, L5⟩
 have HB5 := hide L5.bel
 clear L5 HL4
 go_wp2_with fail
 refine (new_law (HB5.out.alloc HB5.out.size _) 11 (by omega) (by omega)).mono ?_
 rintro e w6 ⟨d, F, rfl, L6, _⟩
 have cS := hide (small_any w6)
 have HL6 := hide L6
 clear HB5 L6
 go_wp2_with fail
 refine cS.out.mono ?_
 rintro e w7 ⟨rfl, b7⟩
 have cO := hide (eg_open2 (n := 11) (by omega) (HL6.out.below b7))
 clear cS b7 HL6
 go_wp2_with fail
 refine cO.out.mono ?_
 rintro e w8 ⟨x, rfl, S, T, E8, hc, ho, hh, hs, hl, hn⟩
 have HE8 := hide E8
 have HT := hide (And.intro hc (And.intro ho hh))
 have HS := hide (And.intro hs (And.intro hl hn))
 clear cO E8 hc ho hh hs hl hn
 go_wp2_with fail
 refine (eg_bad (HE8.out.below ((Below.refl _ _).alloc (Nat.le_refl _) _))).mono ?_
 rintro e w9 ⟨rfl, E9⟩
 have HE9 := hide E9
 clear E9 HE8
 obtain ⟨KK, hKK⟩ : ∃ KK, KK = (zc 250).toArray := ⟨_, rfl⟩
 obtain ⟨VV, hVV⟩ : ∃ VV, VV = (zc 1024).toArray := ⟨_, rfl⟩
 obtain ⟨ks, KS⟩ : ∃ ks, Hid (ks = txt (List.replicate 250 0)) := ⟨_, rfl⟩
 obtain ⟨vs, VS⟩ : ∃ vs, Hid (vs = txt (List.replicate 1024 0)) := ⟨_, rfl⟩
 have mk : ∀ W : World, (Instr.makeSlice 40 (.int .i64 250) (.int .i64 250)).run Tryz.prog W = .ok (.slice (some ⟨W.heap.size, 0, none⟩) 250 250) (W.alloc (.cells KK 5)) := fun W => by rw [hKK]; exact make_len 250 (by omega) W
 have mv : ∀ W : World, (Instr.makeSlice 40 (.int .i64 1024) (.int .i64 1024)).run Tryz.prog W = .ok (.slice (some ⟨W.heap.size, 0, none⟩) 1024 1024) (W.alloc (.cells VV 5)) := fun W => by rw [hVV]; exact make_len 1024 (by omega) W
 have blkK : Hid (∀ (W : World) N, N = W.heap.size -> Blk (W.alloc (.cells KK 5)) N (zc 250) 5) := fun W N h => by rw [hKK, h]; exact Blk.new W (zc 250) 5
 have blkV : Hid (∀ (W : World) N, N = W.heap.size -> Blk (W.alloc (.cells VV 5)) N (zc 1024) 5) := fun W N h => by rw [hVV, h]; exact Blk.new W (zc 1024) 5
 have cK : Hid (∀ W N, Blk W N (zc 250) 5 -> (convert 40 9 (.slice (some ⟨N, 0, none⟩) 250 250)).run Tryz.prog W = .ok (.string ks) W) := fun W N h => by rw [KS.out]; exact zeros_conv h
 have cV : Hid (∀ W N, Blk W N (zc 1024) 5 -> (convert 40 9 (.slice (some ⟨N, 0, none⟩) 1024 1024)).run Tryz.prog W = .ok (.string vs) W) := fun W N h => by rw [VS.out]; exact zeros_conv h
 clear hKK hVV
 have e0 := cK.out (w9.alloc (.cells KK 5)).drew w9.heap.size (blkK.out w9 _ rfl)
 have e1 := cV.out (w9.alloc (.cells VV 5)).drew w9.heap.size (blkV.out w9 _ rfl)
 have e2 := cK.out ((w9.alloc (.cells KK 5)).alloc (.cells VV 5)).drew w9.heap.size ((blkK.out w9 _ rfl).alloc _)
 have e3 := cV.out ((w9.alloc (.cells KK 5)).alloc (.cells VV 5)).drew (w9.heap.size + 1) (blkV.out (w9.alloc (.cells KK 5)) _ (by simp only [nblk_alloc]))
 have e5 := cK.out ((w9.alloc (.cells VV 5)).alloc (.cells KK 5)).drew (w9.heap.size + 1) (blkK.out (w9.alloc (.cells VV 5)) _ (by simp only [nblk_alloc]))
 have e6 := cV.out ((w9.alloc (.cells VV 5)).alloc (.cells KK 5)).drew w9.heap.size ((blkV.out w9 _ rfl).alloc _)
 clear cK cV blkK blkV
 have cG := hide (fun (W : World) (hW : Below w9.heap.size w9 W) => eg_great (HE9.out.below hW) HS.out.2.1 HT.out.2.1 HT.out.1 HT.out.2.2 ks vs KS.out VS.out)
 go_wp2_with fail
 go_region_held (fun W => True) (trivial) ((first
  | (go_at_call 13; refine (cG.out _ (by first | exact (((Below.refl _ _).alloc (Nat.le_refl _) _).alloc (by rw [nblk_alloc]; omega) _).drew)).mono ?_; rintro e w10 ⟨rfl, S10, bs10, T10, E10, hz, h1, h2, h3⟩)))
 all_goals (
  have cN := hide (eg_none E10 hz)
  have HS10 := hide (And.intro (h2.trans HS.out.1) (And.intro (h1.trans HS.out.2.1) (h3.trans HS.out.2.2)))
  clear e0 e1 e2 e3 e5 e6 mk mv cG E10 hz h1 h2 h3 HE9
  go_wp2_with fail
  refine cN.out.mono ?_
  rintro e w11 ⟨rfl, S11, E11, hk⟩
  have HE11 := hide E11
  have HK := hide hk
  clear cN E11 hk
  go_wp2_with fail
  refine (pg_zero _).mono ?_
  rintro e w12 ⟨rfl, b12⟩
  have E12 := (HE11.out.below ((Below.refl _ _).alloc (Nat.le_refl _) _)).below b12
  have cR := hide (eg_nothing E12 (by omega) ((like_lastSeq HK.out).trans HS10.out.1) (HK.out.losses.trans HS10.out.2.1) (by rw [HK.out.cs, HS10.out.2.2]; omega))
  clear E12 b12 HE11
  go_wp2_with fail
  refine cR.out.mono ?_
  rintro e w13 ⟨rfl, b13⟩
  have HB := hide b13
  clear cR b13
  go_wp2
  go_ret
  exact ⟨rfl, HB.out⟩)
end Go.Proofs.YtcdghalnneilpaaGreat.engineKnown
