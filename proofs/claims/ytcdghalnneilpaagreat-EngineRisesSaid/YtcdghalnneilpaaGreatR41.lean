/- Joined texts. -/
import Derived.Test.YtcdghalnneilpaaGreatR40
set_option linter.unusedVariables false
set_option linter.unusedSimpArgs false
set_option maxRecDepth 8000
set_option maxHeartbeats 8000000
namespace Go.Proofs.YtcdghalnneilpaaGreat
open Go.RowKit Go.Deep Math
theorem enz19 (args : Array Value) (w : World) : (callFunc 19 args).run Tryz.prog w = .ok (.enter 19 args) w := enters_of Tryz.func19 (by kernel_rfl) rfl args w
theorem enz46 (args : Array Value) (w : World) : (callFunc 46 args).run Tryz.prog w = .ok (.enter 46 args) w := enters_of Tryz.func46 (by kernel_rfl) rfl args w
theorem enz15 (args : Array Value) (w : World) : (callFunc 15 args).run Tryz.prog w = .ok (.enter 15 args) w := enters_of Tryz.func15 (by kernel_rfl) rfl args w
theorem enz48 (args : Array Value) (w : World) : (callFunc 48 args).run Tryz.prog w = .ok (.enter 48 args) w := enters_of Tryz.func48 (by kernel_rfl) rfl args w
def BoxC (W0 W1 : World) (s : Nat) (W : World) : Prop := if s = 0 then W = W0 else W = W1
structure AtOpen (w : World) (d : Nat) (F : List Nat) (S : Dv) (b : Sb) (x : Nat) (W : World) : Prop where
 box : Blk W x (enL d ⟨S.losses, Sb.zero, b.res⟩ (.pointer none) (.pointer none) (.pointer none) (.map none)) 104
 dev : DvAt W d F S.loadDo
 keep : Keep F w W
 new : w.heap.size + 2 <= x
theorem eopen_two {w : World} {d : Nat} {F : List Nat} {S : Dv} (h : DvAt w d F S) (g : Geo) (hg : g.good = true) (hp : g.pages <= (S.cs.length : Int)) (b : Sb) (e0 : Int) (he0 : e0 = 0 \/ e0 = 5) (hload : S.loadV = bkV b e0) (H : Nat -> World -> World -> Prop)
  (cO : ∀ x W, AtOpen w d F S b x W -> Calls Tryz.prog 49 #[.pointer (some ⟨x, 0, none⟩), .agg #[.int .i64 g.j, .int .i64 g.b, .int .i64 g.r, .int .i64 g.i], .agg #[.int .u64 b.seq, .int .u64 b.epoch, .int .u64 b.res, .int .u64 b.hor, .int .u64 b.gen, .bool b.clean, .int .i64 b.image]] W fun e w' => e = .returned (.int .i64 0) /\ H x W w' /\ ∀ k, k < W.heap.size -> k ≠ x -> k ∉ F -> w'.heap[k]? = W.heap[k]?) :
  Calls Tryz.prog 11 #[.pointer (some ⟨d, 0, none⟩), g.val] w fun e w' => ∃ x W w8, e = .returned (.tuple #[.pointer (some ⟨x, 0, none⟩), .agg #[.int .u64 b.seq, .int .u64 b.epoch, .int .u64 b.res, .int .u64 b.hor, .int .u64 b.gen, .bool b.clean, .int .i64 b.image], .int .i64 0]) /\ AtOpen w d F S b x W /\ H x W w8 /\ w' = put7 w8.drew (w.heap.size + 1) b := by
 have BA : Below w.heap.size w ((w.alloc (.cells #[.int .i64 g.j, .int .i64 g.b, .int .i64 g.r, .int .i64 g.i] 34)).alloc (.cells #[.int .u64 0, .int .u64 0, .int .u64 0, .int .u64 0, .int .u64 0, .bool false, .int .i64 0] 30)) := ((Below.refl _ _).alloc (Nat.le_refl _) _).alloc (by rw [nblk_alloc]; omega) _
 have hDA := h.below BA
 have hsA : ((w.alloc (.cells #[.int .i64 g.j, .int .i64 g.b, .int .i64 g.r, .int .i64 g.i] 34)).alloc (.cells #[.int .u64 0, .int .u64 0, .int .u64 0, .int .u64 0, .int .u64 0, .bool false, .int .i64 0] 30)).heap.size = w.heap.size + 2 := by rw [nblk_alloc, nblk_alloc]
 have hGA : Blk ((w.alloc (.cells #[.int .i64 g.j, .int .i64 g.b, .int .i64 g.r, .int .i64 g.i] 34)).alloc (.cells #[.int .u64 0, .int .u64 0, .int .u64 0, .int .u64 0, .int .u64 0, .bool false, .int .i64 0] 30)) w.heap.size (geoL g) 34 := (Blk.new w (geoL g) 34).same (blk_alloc_lt _ _ _ (by rw [nblk_alloc]; omega))
 have hZA : Blk ((w.alloc (.cells #[.int .i64 g.j, .int .i64 g.b, .int .i64 g.r, .int .i64 g.i] 34)).alloc (.cells #[.int .u64 0, .int .u64 0, .int .u64 0, .int .u64 0, .int .u64 0, .bool false, .int .i64 0] 30)) (w.heap.size + 1) (bkL Sb.zero) 30 := by
  have := Blk.new (w.alloc (.cells #[.int .i64 g.j, .int .i64 g.b, .int .i64 g.r, .int .i64 g.i] 34)) (bkL Sb.zero) 30
  rw [nblk_alloc] at this
  exact this
 have HGB : Hid (∀ W, Below ((w.alloc (.cells #[.int .i64 g.j, .int .i64 g.b, .int .i64 g.r, .int .i64 g.i] 34)).alloc (.cells #[.int .u64 0, .int .u64 0, .int .u64 0, .int .u64 0, .int .u64 0, .bool false, .int .i64 0] 30)).heap.size ((w.alloc (.cells #[.int .i64 g.j, .int .i64 g.b, .int .i64 g.r, .int .i64 g.i] 34)).alloc (.cells #[.int .u64 0, .int .u64 0, .int .u64 0, .int .u64 0, .int .u64 0, .bool false, .int .i64 0] 30)) W -> Blk W w.heap.size (geoL g) 34) := fun W hW => hGA.same (hW.block _ hGA.lt)
 have HZB : Hid (∀ W, Below ((w.alloc (.cells #[.int .i64 g.j, .int .i64 g.b, .int .i64 g.r, .int .i64 g.i] 34)).alloc (.cells #[.int .u64 0, .int .u64 0, .int .u64 0, .int .u64 0, .int .u64 0, .bool false, .int .i64 0] 30)).heap.size ((w.alloc (.cells #[.int .i64 g.j, .int .i64 g.b, .int .i64 g.r, .int .i64 g.i] 34)).alloc (.cells #[.int .u64 0, .int .u64 0, .int .u64 0, .int .u64 0, .int .u64 0, .bool false, .int .i64 0] 30)) W -> Blk W (w.heap.size + 1) (bkL Sb.zero) 30) := fun W hW => hZA.same (hW.block _ hZA.lt)
 have HDV : Hid (∀ W, Below ((w.alloc (.cells #[.int .i64 g.j, .int .i64 g.b, .int .i64 g.r, .int .i64 g.i] 34)).alloc (.cells #[.int .u64 0, .int .u64 0, .int .u64 0, .int .u64 0, .int .u64 0, .bool false, .int .i64 0] 30)).heap.size ((w.alloc (.cells #[.int .i64 g.j, .int .i64 g.b, .int .i64 g.r, .int .i64 g.i] 34)).alloc (.cells #[.int .u64 0, .int .u64 0, .int .u64 0, .int .u64 0, .int .u64 0, .bool false, .int .i64 0] 30)) W -> DvAt W d F S) := fun W hW => hDA.below hW
 have HBA := hide BA
 have HSA := hide hsA
 have HFL : Hid (∀ k ∈ F, k < w.heap.size) := h.lt
 have cG : Hid (∀ W, Calls Tryz.prog 19 #[.agg #[.int .i64 g.j, .int .i64 g.b, .int .i64 g.r, .int .i64 g.i]] W fun e w' => e = .returned (.bool true) /\ Below W.heap.size W w') := fun W => by
  have := egood_any g W
  rw [hg] at this
  exact this
 have cP : Hid (∀ W, Calls Tryz.prog 15 #[.agg #[.int .i64 g.j, .int .i64 g.b, .int .i64 g.r, .int .i64 g.i]] W fun e w' => e = .returned (.int .i64 g.pages) /\ Below W.heap.size W w') := fun W => epages_any g W
 have hlt : ((S.cs.length : Int) < g.pages) = False := eq_false (by omega)
 have HLD := hide hload
 have HCO := hide cO
 clear h BA hDA hsA hGA hZA hg hp hload cO
 unfold Geo.val
 go_enter Tryz.func11, Tryz.ntmps11
 go_wp2_with fail
 obtain ⟨N, hN⟩ : ∃ N, w.heap.size = N := ⟨_, rfl⟩
 obtain ⟨WA, hWA⟩ : ∃ WA, (w.alloc (.cells #[.int .i64 g.j, .int .i64 g.b, .int .i64 g.r, .int .i64 g.i] 34)).alloc (.cells #[.int .u64 0, .int .u64 0, .int .u64 0, .int .u64 0, .int .u64 0, .bool false, .int .i64 0] 30) = WA := ⟨_, rfl⟩
 simp only [hN, hWA] at HGB HZB HDV HSA ⊢
 have HBW : Hid (Below w.heap.size w WA) := by rw [<- hWA]; exact HBA.out
 clear HBA
 refine wp_region_guard (by kernel_rfl) (by kernel_rfl) (fun jx => ([.agg #[.int .i64 g.j, .int .i64 g.b, .int .i64 g.r, .int .i64 g.i], .bool true, .bool false, .bool false, .pointer (some ⟨d, 0, none⟩), .int .i64 (S.cs.length : Int), .agg #[.int .i64 g.j, .int .i64 g.b, .int .i64 g.r, .int .i64 g.i], .int .i64 g.pages, .bool false, .bool false] : List Value).getD jx undef) (fun W => Below WA.heap.size WA W) (size_of (n := 52) (by kernel_rfl) rfl) ((Below.refl _ _).drew) ?_ ?_
 ·intro jx ox hi w' ev hc hin hout hcst hfn
  have hltx : jx < 10 := by
   have := (Array.getElem?_eq_some_iff.1 hi).1
   simpa using this
  match jx, hltx with
  | 0, _ =>
   cases hi
   rw [if_pos (by first | rfl | simp [wantV])]
   have e0 : ev (.tmp 3) = .pointer (some ⟨N, 0, none⟩) := hout 3
   refine .inl ⟨w', ?_, hc⟩
   show _ = Result.ok (Next.value (.agg #[.int .i64 g.j, .int .i64 g.b, .int .i64 g.r, .int .i64 g.i])) w'
   have q0 := (HGB.out w' hc).cell (i := 0) rfl
   have q1 := (HGB.out w' hc).cell (i := 1) rfl
   have q2 := (HGB.out w' hc).cell (i := 2) rfl
   have q3 := (HGB.out w' hc).cell (i := 3) rfl
   simp [execOp, e0, hcst, q0, q1, q2, q3, go_sem]
  | 1, _ =>
   cases hi
   rw [if_pos (by first | rfl | simp [wantV])]
   have e0 : ev (.tmp 11) = .agg #[.int .i64 g.j, .int .i64 g.b, .int .i64 g.r, .int .i64 g.i] := hin 11 0 ⟨0, .data⟩
   refine .inr (.inr ⟨19, #[.agg #[.int .i64 g.j, .int .i64 g.b, .int .i64 g.r, .int .i64 g.i]], ?_, ?_⟩)
   ·have ef := hfn 19
    simp [execOp, resolve, invoke, ef, hcst, e0, Result.andThen]
    exact enz19 _ _
   ·refine (cG.out w').mono ?_
    rintro e W' ⟨rfl, b⟩
    exact ⟨rfl, hc.trans (b.mono hc.size)⟩
  | 2, _ =>
   cases hi
   rw [if_pos (by first | rfl | simp [wantV])]
   have e0 : ev (.tmp 12) = .bool true := hin 12 1 ⟨1, .data⟩
   refine .inl ⟨w', ?_, hc⟩
   simp [execOp, e0, hcst, go_sem]
  | 3, _ =>
   cases hi
   rw [if_pos (by first | rfl | simp [wantV])]
   have e0 : ev (.tmp 13) = .bool false := hin 13 2 ⟨2, .data⟩
   refine .inl ⟨w', ?_, hc⟩
   simp [execOp, e0, hcst, go_sem]
  | 4, _ =>
   cases hi
   rw [if_pos (by first | rfl | simp [wantV])]
   have e0 : ev (.tmp 0) = .pointer (some ⟨d, 0, none⟩) := hout 0
   refine .inl ⟨w', ?_, hc⟩
   simp [execOp, e0, hcst, go_sem]
  | 5, _ =>
   cases hi
   rw [if_pos (by first | rfl | simp [wantV])]
   have e0 : ev (.tmp 15) = .pointer (some ⟨d, 0, none⟩) := hin 15 4 ⟨4, .data⟩
   refine .inr (.inr ⟨46, #[.pointer (some ⟨d, 0, none⟩)], ?_, ?_⟩)
   ·have ef := hfn 46
    simp [execOp, resolve, invoke, ef, hcst, e0, Result.andThen]
    exact enz46 _ _
   ·refine (spages_at d F S w' (HDV.out w' hc)).mono ?_
    rintro e W' ⟨rfl, rfl⟩
    exact ⟨rfl, hc⟩
  | 6, _ =>
   cases hi
   rw [if_pos (by first | rfl | simp [wantV])]
   have e0 : ev (.tmp 3) = .pointer (some ⟨N, 0, none⟩) := hout 3
   refine .inl ⟨w', ?_, hc⟩
   show _ = Result.ok (Next.value (.agg #[.int .i64 g.j, .int .i64 g.b, .int .i64 g.r, .int .i64 g.i])) w'
   have q0 := (HGB.out w' hc).cell (i := 0) rfl
   have q1 := (HGB.out w' hc).cell (i := 1) rfl
   have q2 := (HGB.out w' hc).cell (i := 2) rfl
   have q3 := (HGB.out w' hc).cell (i := 3) rfl
   simp [execOp, e0, hcst, q0, q1, q2, q3, go_sem]
  | 7, _ =>
   cases hi
   rw [if_pos (by first | rfl | simp [wantV])]
   have e0 : ev (.tmp 17) = .agg #[.int .i64 g.j, .int .i64 g.b, .int .i64 g.r, .int .i64 g.i] := hin 17 6 ⟨6, .data⟩
   refine .inr (.inr ⟨15, #[.agg #[.int .i64 g.j, .int .i64 g.b, .int .i64 g.r, .int .i64 g.i]], ?_, ?_⟩)
   ·have ef := hfn 15
    simp [execOp, resolve, invoke, ef, hcst, e0, Result.andThen]
    exact enz15 _ _
   ·refine (cP.out w').mono ?_
    rintro e W' ⟨rfl, b⟩
    exact ⟨rfl, hc.trans (b.mono hc.size)⟩
  | 8, _ =>
   cases hi
   rw [if_pos (by first | rfl | simp [wantV])]
   have e0 : ev (.tmp 16) = .int .i64 (S.cs.length : Int) := hin 16 5 ⟨5, .data⟩
   have e1 : ev (.tmp 18) = .int .i64 g.pages := hin 18 7 ⟨7, .data⟩
   refine .inl ⟨w', ?_, hc⟩
   simp [execOp, e0, e1, hcst, hlt, go_sem]
  | 9, _ =>
   cases hi
   rw [if_pos (by first | rfl | simp [wantV])]
   have e0 : ev (.tmp 14) = .bool false := hin 14 3 ⟨3, .data⟩
   have e1 : ev (.tmp 19) = .bool false := hin 19 8 ⟨8, .data⟩
   refine .inl ⟨w', ?_, hc⟩
   simp [execOp, e0, e1, hcst, go_sem]
 ·intro w7 hc
  simp only [lexF, Act.put, List.setIfInBounds_toArray, List.set_cons_succ, List.set_cons_zero, List.getD_cons_succ, List.getD_cons_zero]
  have hb7 : Below WA.heap.size WA w7 := hc
  have cL := load_any d F S w7 (HDV.out w7 hb7)
  rw [HLD.out] at cL
  unfold bkV at cL
  have CL := hide cL
  have HG7 := hide (HGB.out w7 hb7)
  have HZ7 := hide (HZB.out w7 hb7)
  have HB7 := hide hb7
  clear cL cG cP hlt hb7 HDV HGB HZB HLD
  go_wp2_with fail
  refine CL.out.mono ?_
  rintro r w4 ⟨rfl, hd4, hk4⟩
  have hNF : N ∉ F /\ N + 1 ∉ F := ⟨fun hf => by have := HFL.out _ hf; omega, fun hf => by have := HFL.out _ hf; omega⟩
  have HNF := hide hNF
  have hG4 : Blk w4 N (geoL g) 34 := HG7.out.same (hk4.block _ HG7.out.lt hNF.1)
  have hZ4 : Blk w4 (N + 1) (bkL Sb.zero) 30 := HZ7.out.same (hk4.block _ HZ7.out.lt hNF.2)
  have hK4 : Keep F w w4 := ((Keep.of_below HBW.out).trans (Keep.of_below (F := []) HB7.out) (fun k hk => by cases hk)).trans hk4 (fun k hk => .inl hk)
  have HG4 := hide hG4
  have HZ4 := hide hZ4
  have HK4 := hide hK4
  have HD4 := hide hd4
  clear hG4 hZ4 hK4 hd4 hk4 CL HG7 HZ7 HB7 hNF
  obtain ⟨N7, hN7⟩ : ∃ N7, w4.heap.size = N7 := ⟨_, rfl⟩
  obtain ⟨W5, hW5⟩ : ∃ W5, w4.alloc (.cells #[.int .u64 b.seq, .int .u64 b.epoch, .int .u64 b.res, .int .u64 b.hor, .int .u64 b.gen, .bool b.clean, .int .i64 b.image] 30) = W5 := ⟨_, rfl⟩
  have hB5 : Blk W5 N7 (bkL b) 30 := by rw [<- hW5, <- hN7]; exact Blk.new w4 (bkL b) 30
  have b5 : Below w4.heap.size w4 W5 := by rw [<- hW5]; exact (Below.refl _ _).alloc (Nat.le_refl _) _
  have hs5 : W5.heap.size = N7 + 1 := by rw [<- hW5, nblk_alloc, hN7]
  have C72 := hide (hB5.cell (i := 2) rfl)
  obtain ⟨X, hX5⟩ : ∃ X, W5.heap.size = X := ⟨_, rfl⟩
  have HX5 := hide hX5
  have hE6 : Blk (W5.drew.alloc (.cells #[.pointer (some ⟨d, 0, none⟩), .int .i64 S.losses, .int .u64 0, .int .u64 0, .int .u64 0, .int .u64 0, .int .u64 0, .bool false, .int .i64 0, .int .u64 b.res, .pointer none, .pointer none, .pointer none, .map none] 104)) X (enL d ⟨S.losses, Sb.zero, b.res⟩ (.pointer none) (.pointer none) (.pointer none) (.map none)) 104 := by rw [<- hX5]; exact Blk.new W5.drew _ 104
  have b6 : Below W5.heap.size W5 (W5.drew.alloc (.cells #[.pointer (some ⟨d, 0, none⟩), .int .i64 S.losses, .int .u64 0, .int .u64 0, .int .u64 0, .int .u64 0, .int .u64 0, .bool false, .int .i64 0, .int .u64 b.res, .pointer none, .pointer none, .pointer none, .map none] 104)) := ((Below.refl W5.heap.size W5).drew).alloc (Nat.le_refl _) _
  have b46 : Below w4.heap.size w4 (W5.drew.alloc (.cells #[.pointer (some ⟨d, 0, none⟩), .int .i64 S.losses, .int .u64 0, .int .u64 0, .int .u64 0, .int .u64 0, .int .u64 0, .bool false, .int .i64 0, .int .u64 b.res, .pointer none, .pointer none, .pointer none, .map none] 104)) := b5.trans (b6.mono b5.size)
  have hD5 : DvAt W5.drew d F S.loadDo := (HD4.out.below b5).same (fun _ _ => rfl)
  have HLO : Hid (∀ W', BoxC W5.drew (W5.drew.alloc (.cells #[.pointer (some ⟨d, 0, none⟩), .int .i64 S.losses, .int .u64 0, .int .u64 0, .int .u64 0, .int .u64 0, .int .u64 0, .bool false, .int .i64 0, .int .u64 b.res, .pointer none, .pointer none, .pointer none, .map none] 104)) 0 W' -> Calls Tryz.prog 48 #[.pointer (some ⟨d, 0, none⟩)] W' fun e w' => e = .returned (.int .i64 S.losses) /\ w' = W') := fun W' hW => by
   cases (show W' = _ from hW)
   obtain ⟨p, pd, wa, wc, hF, hd⟩ := hD5
   have := losses_any d p pd wa wc S.loadDo _ hd
   rw [loadDo_losses] at this
   exact this
  have hG6 : Blk (W5.drew.alloc (.cells #[.pointer (some ⟨d, 0, none⟩), .int .i64 S.losses, .int .u64 0, .int .u64 0, .int .u64 0, .int .u64 0, .int .u64 0, .bool false, .int .i64 0, .int .u64 b.res, .pointer none, .pointer none, .pointer none, .map none] 104)) N (geoL g) 34 := HG4.out.same (b46.block _ HG4.out.lt)
  have hZ6 : Blk (W5.drew.alloc (.cells #[.pointer (some ⟨d, 0, none⟩), .int .i64 S.losses, .int .u64 0, .int .u64 0, .int .u64 0, .int .u64 0, .int .u64 0, .bool false, .int .i64 0, .int .u64 b.res, .pointer none, .pointer none, .pointer none, .map none] 104)) (N + 1) (bkL Sb.zero) 30 := HZ4.out.same (b46.block _ HZ4.out.lt)
  have hB6 : Blk (W5.drew.alloc (.cells #[.pointer (some ⟨d, 0, none⟩), .int .i64 S.losses, .int .u64 0, .int .u64 0, .int .u64 0, .int .u64 0, .int .u64 0, .bool false, .int .i64 0, .int .u64 b.res, .pointer none, .pointer none, .pointer none, .map none] 104)) N7 (bkL b) 30 := hB5.same (b6.block _ hB5.lt)
  have hAt : AtOpen w d F S b X (W5.drew.alloc (.cells #[.pointer (some ⟨d, 0, none⟩), .int .i64 S.losses, .int .u64 0, .int .u64 0, .int .u64 0, .int .u64 0, .int .u64 0, .bool false, .int .i64 0, .int .u64 b.res, .pointer none, .pointer none, .pointer none, .map none] 104)) := ⟨hE6, HD4.out.below b46, HK4.out.trans (Keep.of_below (F := []) b46) (fun k hk => by cases hk), by have := HK4.out.size; have := HZ4.out.lt; omega⟩
  have HAt := hide hAt
  have HG6 := hide hG6
  have HZ6 := hide hZ6
  have HB6 := hide hB6
  have hlt6 : Hid (X < (W5.drew.alloc (.cells #[.pointer (some ⟨d, 0, none⟩), .int .i64 S.losses, .int .u64 0, .int .u64 0, .int .u64 0, .int .u64 0, .int .u64 0, .bool false, .int .i64 0, .int .u64 b.res, .pointer none, .pointer none, .pointer none, .map none] 104)).heap.size) := hE6.lt
  have HNX : Hid (N + 1 ≠ X /\ N7 ≠ X /\ N7 ∉ F) := ⟨by have := HZ4.out.lt; omega, by omega, fun hf => by have := HFL.out _ hf; have := HK4.out.size; omega⟩
  clear hB5 b5 hE6 b6 b46 hD5 hG6 hZ6 hB6 hAt hX5 hs5 HG4 HZ4 HD4
  rcases he0 with rfl | rfl
  ·go_wp2_with fail
   try simp only [hN7, hW5]
   refine wp_region_chain (by kernel_rfl) (by kernel_rfl) (fun jx => ([.pointer (some ⟨d, 0, none⟩), .pointer (some ⟨d, 0, none⟩), .int .i64 S.losses, .pointer (some ⟨N7, 2, none⟩), .int .u64 b.res, .agg #[.pointer (some ⟨d, 0, none⟩), .int .i64 S.losses, .int .u64 0, .int .u64 0, .int .u64 0, .int .u64 0, .int .u64 0, .bool false, .int .i64 0, .int .u64 b.res, .pointer none, .pointer none, .pointer none, .map none], .pointer (some ⟨X, 0, none⟩), .pointer (some ⟨X, 0, none⟩)] : List Value).getD jx undef) [6] (by kernel_rfl) (BoxC W5.drew (W5.drew.alloc (.cells #[.pointer (some ⟨d, 0, none⟩), .int .i64 S.losses, .int .u64 0, .int .u64 0, .int .u64 0, .int .u64 0, .int .u64 0, .bool false, .int .i64 0, .int .u64 b.res, .pointer none, .pointer none, .pointer none, .map none] 104))) (rfl) ?_ ?_
   ·intro jx ox hi sx w' ev hlm hks hc hin hout hcst hfn
    have hltx : jx < 8 := by
     have := (Array.getElem?_eq_some_iff.1 hi).1
     simpa using this
    match jx, hltx with
    | 0, _ =>
     cases hi
     have e0 : ev (.tmp 0) = .pointer (some ⟨d, 0, none⟩) := hout 0
     rw [if_neg (by decide)]
     refine .inl ⟨w', ?_, hc⟩
     simp [execOp, e0, hcst, go_sem]
    | 1, _ =>
     cases hi
     have e0 : ev (.tmp 0) = .pointer (some ⟨d, 0, none⟩) := hout 0
     rw [if_neg (by decide)]
     refine .inl ⟨w', ?_, hc⟩
     simp [execOp, e0, hcst, go_sem]
    | 2, _ =>
     cases hi
     have e0 : ev (.tmp 36) = .pointer (some ⟨d, 0, none⟩) := hin 36 1 ⟨1, .data⟩
     rw [if_neg (by decide)]
     refine .inr (.inr ⟨48, #[.pointer (some ⟨d, 0, none⟩)], ?_, ?_⟩)
     ·have ef := hfn 48
      simp [execOp, resolve, invoke, ef, hcst, e0, Result.andThen]
      exact enz48 _ _
     ·have hl2 : sx <= 0 := Nat.le_trans hlm (Nat.le_of_eq (by kernel_rfl))
      have hs0 : sx = 0 := by omega
      subst hs0
      refine (HLO.out w' hc).mono ?_
      rintro e W' ⟨rfl, rfl⟩
      exact ⟨rfl, hc⟩
    | 3, _ =>
     cases hi
     have e0 : ev (.tmp 7) = .pointer (some ⟨N7, 0, none⟩) := hout 7
     rw [if_neg (by decide)]
     refine .inl ⟨w', ?_, hc⟩
     simp [execOp, e0, hcst, go_sem]
    | 4, _ =>
     cases hi
     have e0 : ev (.tmp 38) = .pointer (some ⟨N7, 2, none⟩) := hin 38 3 ⟨3, .data⟩
     rw [if_neg (by decide)]
     refine .inl ⟨w', ?_, hc⟩
     show _ = Result.ok (Next.value (.int .u64 b.res)) w'
     have hl2 : sx <= 0 := Nat.le_trans hlm (Nat.le_of_eq (by kernel_rfl))
     have hs0 : sx = 0 := by omega
     subst hs0
     have hq : w'.cell? ⟨N7, 2, none⟩ = some (.int .u64 b.res) := by rw [show w' = _ from hc]; exact C72.out
     simp [execOp, e0, hq, hcst, go_sem]
    | 5, _ =>
     cases hi
     have e0 : ev (.tmp 35) = .pointer (some ⟨d, 0, none⟩) := hin 35 0 ⟨0, .data⟩
     have e1 : ev (.tmp 37) = .int .i64 S.losses := hin 37 2 ⟨2, .data⟩
     have e2 : ev (.tmp 39) = .int .u64 b.res := hin 39 4 ⟨4, .data⟩
     rw [if_neg (by decide)]
     refine .inl ⟨w', ?_, hc⟩
     simp [execOp, e0, e1, e2, hcst, go_sem]
    | 6, _ =>
     cases hi
     have e0 : ev (.tmp 40) = .agg #[.pointer (some ⟨d, 0, none⟩), .int .i64 S.losses, .int .u64 0, .int .u64 0, .int .u64 0, .int .u64 0, .int .u64 0, .bool false, .int .i64 0, .int .u64 b.res, .pointer none, .pointer none, .pointer none, .map none] := hin 40 5 ⟨5, .data⟩
     rw [if_pos (by decide)]
     have hsx : sx = 0 := hks 0 rfl
     subst hsx
     have hw : w' = W5.drew := hc
     subst hw
     refine .inl ⟨W5.drew.alloc (.cells #[.pointer (some ⟨d, 0, none⟩), .int .i64 S.losses, .int .u64 0, .int .u64 0, .int .u64 0, .int .u64 0, .int .u64 0, .bool false, .int .i64 0, .int .u64 b.res, .pointer none, .pointer none, .pointer none, .map none] 104), ?_, rfl⟩
     simp [execOp, e0, hcst, go_sem, HX5.out]
    | 7, _ =>
     cases hi
     have e0 : ev (.tmp 41) = .pointer (some ⟨X, 0, none⟩) := hin 41 6 ⟨6, .data⟩
     rw [if_neg (by decide)]
     refine .inl ⟨w', ?_, hc⟩
     simp [execOp, e0, hcst, go_sem]
   ·intro w6 hc
    simp only [lexF, Act.put, List.setIfInBounds_toArray, List.set_cons_succ, List.set_cons_zero, List.getD_cons_succ, List.getD_cons_zero]
    have hw6 : w6 = W5.drew.alloc (.cells #[.pointer (some ⟨d, 0, none⟩), .int .i64 S.losses, .int .u64 0, .int .u64 0, .int .u64 0, .int .u64 0, .int .u64 0, .bool false, .int .i64 0, .int .u64 b.res, .pointer none, .pointer none, .pointer none, .map none] 104) := hc
    rw [<- hw6] at HAt HG6 HZ6 HB6
    have k0 := HG6.out.cell (i := 0) rfl
    have k1 := HG6.out.cell (i := 1) rfl
    have k2 := HG6.out.cell (i := 2) rfl
    have k3 := HG6.out.cell (i := 3) rfl
    obtain ⟨y0, y1, y2, y3, y4, y5, y6, _⟩ := cells7 HB6.out
    have CO := hide (HCO.out X w6 HAt.out)
    clear hw6 HLO C72 hlt6
    go_wp2_with fail
    refine CO.out.mono ?_
    rintro r w8 ⟨rfl, hH, hkeep⟩
    have HH := hide hH
    obtain ⟨W8, hW8⟩ : ∃ W8, w8.drew = W8 := ⟨_, rfl⟩
    have HZ8 : Hid (Blk W8 (N + 1) (bkL Sb.zero) 30) := (HZ6.out.same (hkeep _ HZ6.out.lt HNX.out.1 HNF.out.2)).same (by rw [<- hW8]; rfl)
    have HB8 : Hid (Blk W8 N7 (bkL b) 30) := (HB6.out.same (hkeep _ HB6.out.lt HNX.out.2.1 HNX.out.2.2)).same (by rw [<- hW8]; rfl)
    clear hH hkeep CO k0 k1 k2 k3 y0 y1 y2 y3 y4 y5 y6 HZ6 HB6 HG6 HCO
    go_wp2_with fail
    refine wp_region_chain (by kernel_rfl) (by kernel_rfl) (fun jx => ([.pointer (some ⟨X, 0, none⟩), .agg #[.int .u64 b.seq, .int .u64 b.epoch, .int .u64 b.res, .int .u64 b.hor, .int .u64 b.gen, .bool b.clean, .int .i64 b.image], .pointer (some ⟨X, 0, none⟩), undef, .int .i64 0] : List Value).getD jx undef) [3] (by kernel_rfl) (BoxC W8 (put7 W8 (N + 1) b)) (hW8) ?_ ?_
    ·intro jx ox hi sx w' ev hlm hks hc hin hout hcst hfn
     have hltx : jx < 5 := by
      have := (Array.getElem?_eq_some_iff.1 hi).1
      simpa using this
     match jx, hltx with
     | 0, _ =>
      cases hi
      have e0 : ev (.tmp 9) = .pointer (some ⟨X, 0, none⟩) := hout 9
      rw [if_neg (by decide)]
      refine .inl ⟨w', ?_, hc⟩
      simp [execOp, e0, hcst, go_sem]
     | 1, _ =>
      cases hi
      have e0 : ev (.tmp 7) = .pointer (some ⟨N7, 0, none⟩) := hout 7
      rw [if_neg (by decide)]
      refine .inl ⟨w', ?_, hc⟩
      show _ = Result.ok (Next.value (.agg #[.int .u64 b.seq, .int .u64 b.epoch, .int .u64 b.res, .int .u64 b.hor, .int .u64 b.gen, .bool b.clean, .int .i64 b.image])) w'
      have hl2 : sx <= 0 := Nat.le_trans hlm (Nat.le_of_eq (by kernel_rfl))
      have hs0 : sx = 0 := by omega
      subst hs0
      obtain ⟨y0, y1, y2, y3, y4, y5, y6, _⟩ := cells7 (show Blk w' N7 (bkL b) 30 by rw [show w' = _ from hc]; exact HB8.out)
      simp [execOp, e0, hcst, go_sem, *]
     | 2, _ =>
      cases hi
      have e0 : ev (.tmp 50) = .pointer (some ⟨X, 0, none⟩) := hin 50 0 ⟨0, .data⟩
      rw [if_neg (by decide)]
      refine .inl ⟨w', ?_, hc⟩
      simp [execOp, e0, hcst, go_sem]
     | 3, _ =>
      cases hi
      have e0 : ev (.tmp 5) = .pointer (some ⟨N + 1, 0, none⟩) := hout 5
      have e1 : ev (.tmp 51) = .agg #[.int .u64 b.seq, .int .u64 b.epoch, .int .u64 b.res, .int .u64 b.hor, .int .u64 b.gen, .bool b.clean, .int .i64 b.image] := hin 51 1 ⟨1, .data⟩
      rw [if_pos (by decide)]
      have hsx : sx = 0 := hks 0 rfl
      subst hsx
      have hw : w' = W8 := hc
      subst hw
      obtain ⟨y0, y1, y2, y3, y4, y5, y6, g0, g1, g2, g3, g4, g5, g6⟩ := cells7 HZ8.out
      refine .inr (.inl ⟨rfl, put7 w' (N + 1) b, ?_, rfl⟩)
      simp [execOp, e0, e1, hcst, go_sem, put7, *]
     | 4, _ =>
      cases hi
      rw [if_neg (by decide)]
      refine .inl ⟨w', ?_, hc⟩
      simp [execOp, hcst, go_sem]
    ·intro w9 hc
     simp only [lexF, Act.put, List.setIfInBounds_toArray, List.set_cons_succ, List.set_cons_zero, List.getD_cons_succ, List.getD_cons_zero]
     have hw9 : w9 = put7 W8 (N + 1) b := hc
     have hb9 : Blk w9 (N + 1) (bkL b) 30 := by rw [hw9]; exact put7_blk HZ8.out b
     obtain ⟨y0, y1, y2, y3, y4, y5, y6, _⟩ := cells7 hb9
     have HW9 := hide hw9
     clear hw9 hb9 HZ8 HB8
     go_wp2
     exact bodyPost_ret (v := .tuple #[.pointer (some ⟨X, 0, none⟩), .agg #[.int .u64 b.seq, .int .u64 b.epoch, .int .u64 b.res, .int .u64 b.hor, .int .u64 b.gen, .bool b.clean, .int .i64 b.image], .int .i64 0]) (by simp [results, Tryz.results11, go_sem, *]) rfl ⟨X, w6, w8, rfl, HAt.out, HH.out, by rw [hN, hW8]; exact HW9.out⟩
  ·go_wp2_with fail
   try simp only [hN7, hW5]
   refine wp_region_chain (by kernel_rfl) (by kernel_rfl) (fun jx => ([.pointer (some ⟨d, 0, none⟩), .pointer (some ⟨d, 0, none⟩), .int .i64 S.losses, .pointer (some ⟨N7, 2, none⟩), .int .u64 b.res, .agg #[.pointer (some ⟨d, 0, none⟩), .int .i64 S.losses, .int .u64 0, .int .u64 0, .int .u64 0, .int .u64 0, .int .u64 0, .bool false, .int .i64 0, .int .u64 b.res, .pointer none, .pointer none, .pointer none, .map none], .pointer (some ⟨X, 0, none⟩), .pointer (some ⟨X, 0, none⟩)] : List Value).getD jx undef) [6] (by kernel_rfl) (BoxC W5.drew (W5.drew.alloc (.cells #[.pointer (some ⟨d, 0, none⟩), .int .i64 S.losses, .int .u64 0, .int .u64 0, .int .u64 0, .int .u64 0, .int .u64 0, .bool false, .int .i64 0, .int .u64 b.res, .pointer none, .pointer none, .pointer none, .map none] 104))) (rfl) ?_ ?_
   ·intro jx ox hi sx w' ev hlm hks hc hin hout hcst hfn
    have hltx : jx < 8 := by
     have := (Array.getElem?_eq_some_iff.1 hi).1
     simpa using this
    match jx, hltx with
    | 0, _ =>
     cases hi
     have e0 : ev (.tmp 0) = .pointer (some ⟨d, 0, none⟩) := hout 0
     rw [if_neg (by decide)]
     refine .inl ⟨w', ?_, hc⟩
     simp [execOp, e0, hcst, go_sem]
    | 1, _ =>
     cases hi
     have e0 : ev (.tmp 0) = .pointer (some ⟨d, 0, none⟩) := hout 0
     rw [if_neg (by decide)]
     refine .inl ⟨w', ?_, hc⟩
     simp [execOp, e0, hcst, go_sem]
    | 2, _ =>
     cases hi
     have e0 : ev (.tmp 36) = .pointer (some ⟨d, 0, none⟩) := hin 36 1 ⟨1, .data⟩
     rw [if_neg (by decide)]
     refine .inr (.inr ⟨48, #[.pointer (some ⟨d, 0, none⟩)], ?_, ?_⟩)
     ·have ef := hfn 48
      simp [execOp, resolve, invoke, ef, hcst, e0, Result.andThen]
      exact enz48 _ _
     ·have hl2 : sx <= 0 := Nat.le_trans hlm (Nat.le_of_eq (by kernel_rfl))
      have hs0 : sx = 0 := by omega
      subst hs0
      refine (HLO.out w' hc).mono ?_
      rintro e W' ⟨rfl, rfl⟩
      exact ⟨rfl, hc⟩
    | 3, _ =>
     cases hi
     have e0 : ev (.tmp 7) = .pointer (some ⟨N7, 0, none⟩) := hout 7
     rw [if_neg (by decide)]
     refine .inl ⟨w', ?_, hc⟩
     simp [execOp, e0, hcst, go_sem]
    | 4, _ =>
     cases hi
     have e0 : ev (.tmp 38) = .pointer (some ⟨N7, 2, none⟩) := hin 38 3 ⟨3, .data⟩
     rw [if_neg (by decide)]
     refine .inl ⟨w', ?_, hc⟩
     show _ = Result.ok (Next.value (.int .u64 b.res)) w'
     have hl2 : sx <= 0 := Nat.le_trans hlm (Nat.le_of_eq (by kernel_rfl))
     have hs0 : sx = 0 := by omega
     subst hs0
     have hq : w'.cell? ⟨N7, 2, none⟩ = some (.int .u64 b.res) := by rw [show w' = _ from hc]; exact C72.out
     simp [execOp, e0, hq, hcst, go_sem]
    | 5, _ =>
     cases hi
     have e0 : ev (.tmp 35) = .pointer (some ⟨d, 0, none⟩) := hin 35 0 ⟨0, .data⟩
     have e1 : ev (.tmp 37) = .int .i64 S.losses := hin 37 2 ⟨2, .data⟩
     have e2 : ev (.tmp 39) = .int .u64 b.res := hin 39 4 ⟨4, .data⟩
     rw [if_neg (by decide)]
     refine .inl ⟨w', ?_, hc⟩
     simp [execOp, e0, e1, e2, hcst, go_sem]
    | 6, _ =>
     cases hi
     have e0 : ev (.tmp 40) = .agg #[.pointer (some ⟨d, 0, none⟩), .int .i64 S.losses, .int .u64 0, .int .u64 0, .int .u64 0, .int .u64 0, .int .u64 0, .bool false, .int .i64 0, .int .u64 b.res, .pointer none, .pointer none, .pointer none, .map none] := hin 40 5 ⟨5, .data⟩
     rw [if_pos (by decide)]
     have hsx : sx = 0 := hks 0 rfl
     subst hsx
     have hw : w' = W5.drew := hc
     subst hw
     refine .inl ⟨W5.drew.alloc (.cells #[.pointer (some ⟨d, 0, none⟩), .int .i64 S.losses, .int .u64 0, .int .u64 0, .int .u64 0, .int .u64 0, .int .u64 0, .bool false, .int .i64 0, .int .u64 b.res, .pointer none, .pointer none, .pointer none, .map none] 104), ?_, rfl⟩
     simp [execOp, e0, hcst, go_sem, HX5.out]
    | 7, _ =>
     cases hi
     have e0 : ev (.tmp 41) = .pointer (some ⟨X, 0, none⟩) := hin 41 6 ⟨6, .data⟩
     rw [if_neg (by decide)]
     refine .inl ⟨w', ?_, hc⟩
     simp [execOp, e0, hcst, go_sem]
   ·intro w6 hc
    simp only [lexF, Act.put, List.setIfInBounds_toArray, List.set_cons_succ, List.set_cons_zero, List.getD_cons_succ, List.getD_cons_zero]
    have hw6 : w6 = W5.drew.alloc (.cells #[.pointer (some ⟨d, 0, none⟩), .int .i64 S.losses, .int .u64 0, .int .u64 0, .int .u64 0, .int .u64 0, .int .u64 0, .bool false, .int .i64 0, .int .u64 b.res, .pointer none, .pointer none, .pointer none, .map none] 104) := hc
    rw [<- hw6] at HAt HG6 HZ6 HB6
    have k0 := HG6.out.cell (i := 0) rfl
    have k1 := HG6.out.cell (i := 1) rfl
    have k2 := HG6.out.cell (i := 2) rfl
    have k3 := HG6.out.cell (i := 3) rfl
    obtain ⟨y0, y1, y2, y3, y4, y5, y6, _⟩ := cells7 HB6.out
    have CO := hide (HCO.out X w6 HAt.out)
    clear hw6 HLO C72 hlt6
    go_wp2_with fail
    refine CO.out.mono ?_
    rintro r w8 ⟨rfl, hH, hkeep⟩
    have HH := hide hH
    obtain ⟨W8, hW8⟩ : ∃ W8, w8.drew = W8 := ⟨_, rfl⟩
    have HZ8 : Hid (Blk W8 (N + 1) (bkL Sb.zero) 30) := (HZ6.out.same (hkeep _ HZ6.out.lt HNX.out.1 HNF.out.2)).same (by rw [<- hW8]; rfl)
    have HB8 : Hid (Blk W8 N7 (bkL b) 30) := (HB6.out.same (hkeep _ HB6.out.lt HNX.out.2.1 HNX.out.2.2)).same (by rw [<- hW8]; rfl)
    clear hH hkeep CO k0 k1 k2 k3 y0 y1 y2 y3 y4 y5 y6 HZ6 HB6 HG6 HCO
    go_wp2_with fail
    refine wp_region_chain (by kernel_rfl) (by kernel_rfl) (fun jx => ([.pointer (some ⟨X, 0, none⟩), .agg #[.int .u64 b.seq, .int .u64 b.epoch, .int .u64 b.res, .int .u64 b.hor, .int .u64 b.gen, .bool b.clean, .int .i64 b.image], .pointer (some ⟨X, 0, none⟩), undef, .int .i64 0] : List Value).getD jx undef) [3] (by kernel_rfl) (BoxC W8 (put7 W8 (N + 1) b)) (hW8) ?_ ?_
    ·intro jx ox hi sx w' ev hlm hks hc hin hout hcst hfn
     have hltx : jx < 5 := by
      have := (Array.getElem?_eq_some_iff.1 hi).1
      simpa using this
     match jx, hltx with
     | 0, _ =>
      cases hi
      have e0 : ev (.tmp 9) = .pointer (some ⟨X, 0, none⟩) := hout 9
      rw [if_neg (by decide)]
      refine .inl ⟨w', ?_, hc⟩
      simp [execOp, e0, hcst, go_sem]
     | 1, _ =>
      cases hi
      have e0 : ev (.tmp 7) = .pointer (some ⟨N7, 0, none⟩) := hout 7
      rw [if_neg (by decide)]
      refine .inl ⟨w', ?_, hc⟩
      show _ = Result.ok (Next.value (.agg #[.int .u64 b.seq, .int .u64 b.epoch, .int .u64 b.res, .int .u64 b.hor, .int .u64 b.gen, .bool b.clean, .int .i64 b.image])) w'
      have hl2 : sx <= 0 := Nat.le_trans hlm (Nat.le_of_eq (by kernel_rfl))
      have hs0 : sx = 0 := by omega
      subst hs0
      obtain ⟨y0, y1, y2, y3, y4, y5, y6, _⟩ := cells7 (show Blk w' N7 (bkL b) 30 by rw [show w' = _ from hc]; exact HB8.out)
      simp [execOp, e0, hcst, go_sem, *]
     | 2, _ =>
      cases hi
      have e0 : ev (.tmp 50) = .pointer (some ⟨X, 0, none⟩) := hin 50 0 ⟨0, .data⟩
      rw [if_neg (by decide)]
      refine .inl ⟨w', ?_, hc⟩
      simp [execOp, e0, hcst, go_sem]
     | 3, _ =>
      cases hi
      have e0 : ev (.tmp 5) = .pointer (some ⟨N + 1, 0, none⟩) := hout 5
      have e1 : ev (.tmp 51) = .agg #[.int .u64 b.seq, .int .u64 b.epoch, .int .u64 b.res, .int .u64 b.hor, .int .u64 b.gen, .bool b.clean, .int .i64 b.image] := hin 51 1 ⟨1, .data⟩
      rw [if_pos (by decide)]
      have hsx : sx = 0 := hks 0 rfl
      subst hsx
      have hw : w' = W8 := hc
      subst hw
      obtain ⟨y0, y1, y2, y3, y4, y5, y6, g0, g1, g2, g3, g4, g5, g6⟩ := cells7 HZ8.out
      refine .inr (.inl ⟨rfl, put7 w' (N + 1) b, ?_, rfl⟩)
      simp [execOp, e0, e1, hcst, go_sem, put7, *]
     | 4, _ =>
      cases hi
      rw [if_neg (by decide)]
      refine .inl ⟨w', ?_, hc⟩
      simp [execOp, hcst, go_sem]
    ·intro w9 hc
     simp only [lexF, Act.put, List.setIfInBounds_toArray, List.set_cons_succ, List.set_cons_zero, List.getD_cons_succ, List.getD_cons_zero]
     have hw9 : w9 = put7 W8 (N + 1) b := hc
     have hb9 : Blk w9 (N + 1) (bkL b) 30 := by rw [hw9]; exact put7_blk HZ8.out b
     obtain ⟨y0, y1, y2, y3, y4, y5, y6, _⟩ := cells7 hb9
     have HW9 := hide hw9
     clear hw9 hb9 HZ8 HB8
     go_wp2
     exact bodyPost_ret (v := .tuple #[.pointer (some ⟨X, 0, none⟩), .agg #[.int .u64 b.seq, .int .u64 b.epoch, .int .u64 b.res, .int .u64 b.hor, .int .u64 b.gen, .bool b.clean, .int .i64 b.image], .int .i64 0]) (by simp [results, Tryz.results11, go_sem, *]) rfl ⟨X, w6, w8, rfl, HAt.out, HH.out, by rw [hN, hW8]; exact HW9.out⟩
end Go.Proofs.YtcdghalnneilpaaGreat
