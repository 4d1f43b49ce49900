/- Joined texts. -/
import Derived.Test.YtcdghalnneilpaaGreatR39
set_option linter.unusedVariables false
set_option linter.unusedSimpArgs false
set_option maxRecDepth 8000
set_option maxHeartbeats 8000000
namespace Go.Proofs.YtcdghalnneilpaaGreat
open Go.RowKit Go.Deep Math
theorem enz104 (args : Array Value) (w : World) : (callFunc 104 args).run Tryz.prog w = .ok (.enter 104 args) w := enters_of Tryz.func104 (by kernel_rfl) rfl args w
theorem enz105 (args : Array Value) (w : World) : (callFunc 105 args).run Tryz.prog w = .ok (.enter 105 args) w := enters_of Tryz.func105 (by kernel_rfl) rfl args w
theorem enz106 (args : Array Value) (w : World) : (callFunc 106 args).run Tryz.prog w = .ok (.enter 106 args) w := enters_of Tryz.func106 (by kernel_rfl) rfl args w
def OpC (W0 : World) (D : Nat -> World -> Prop) (x o : Nat) (s : Nat) (u : Value) (W : World) : Prop := if s = 0 then W = W0 else if s = 1 then ∃ p, u = .tuple #[.pointer (some ⟨p, 0, none⟩), .int .i64 0] /\ D p W else ∃ p W1, u = .tuple #[.pointer (some ⟨p, 0, none⟩), .int .i64 0] /\ D p W1 /\ W = W1.setCell ⟨x, o, none⟩ (.pointer (some ⟨p, 0, none⟩))
theorem OpC.one {W0 W : World} {D : Nat -> World -> Prop} {x o : Nat} {u : Value} (h : OpC W0 D x o 1 u W) : ∃ p, u = .tuple #[.pointer (some ⟨p, 0, none⟩), .int .i64 0] /\ D p W := h
theorem OpC.two {W0 W : World} {D : Nat -> World -> Prop} {x o : Nat} {u : Value} (h : OpC W0 D x o 2 u W) : ∃ p W1, u = .tuple #[.pointer (some ⟨p, 0, none⟩), .int .i64 0] /\ D p W1 /\ W = W1.setCell ⟨x, o, none⟩ (.pointer (some ⟨p, 0, none⟩)) := h
theorem OpC.mk2 {W0 W : World} {D : Nat -> World -> Prop} {x o : Nat} {p : Nat} (h : D p W) : OpC W0 D x o 2 (.tuple #[.pointer (some ⟨p, 0, none⟩), .int .i64 0]) (W.setCell ⟨x, o, none⟩ (.pointer (some ⟨p, 0, none⟩))) := ⟨p, W, rfl, h, rfl⟩
theorem OpC.pos {W0 W : World} {D : Nat -> World -> Prop} {x o s : Nat} {u : Value} (h : OpC W0 D x o s u W) (hs : 0 < s) : ∃ p, u = .tuple #[.pointer (some ⟨p, 0, none⟩), .int .i64 0] := by
 unfold OpC at h
 rw [if_neg (by omega)] at h
 split at h
 ·obtain ⟨p, hp, _⟩ := h; exact ⟨p, hp⟩
 ·obtain ⟨p, _, hp, _⟩ := h; exact ⟨p, hp⟩
def Sb.opened (b : Sb) : Sb := { b with epoch := (b.epoch + 1) % 18446744073709551616, clean := false }
def geoL (g : Geo) : List Value := [.int .i64 g.j, .int .i64 g.b, .int .i64 g.r, .int .i64 g.i]
theorem open_two {w : World} {x d : Nat} {E : En} {mp : Value} (g : Geo) (b : Sb) (hb : Blk w x (enL d E (.pointer none) (.pointer none) (.pointer none) mp) 104)
  (D1 : Nat -> World -> Prop)
  (cJ : Calls Tryz.prog 104 #[.pointer (some ⟨d, 0, none⟩), .int .i64 2, .int .i64 g.j, .int .u64 b.gen] ((w.alloc (.cells #[.int .i64 g.j, .int .i64 g.b, .int .i64 g.r, .int .i64 g.i] 34)).alloc (.cells #[.int .u64 b.seq, .int .u64 b.epoch, .int .u64 b.res, .int .u64 b.hor, .int .u64 b.gen, .bool b.clean, .int .i64 b.image] 30)).drew fun e w' => ∃ p, e = .returned (.tuple #[.pointer (some ⟨p, 0, none⟩), .int .i64 0]) /\ D1 p w')
  (hD1 : ∀ p W, D1 p W -> Blk W x (enL d E (.pointer none) (.pointer none) (.pointer none) mp) 104 /\ Blk W w.heap.size (geoL g) 34 /\ Blk W (w.heap.size + 1) (bkL b) 30)
  (hg : g.good = true) (D2 : Nat -> Nat -> World -> Prop) (D3 : Nat -> Nat -> Nat -> World -> Prop) (H : Nat -> Nat -> Nat -> World -> Int -> World -> Prop)
  (cB : ∀ p W, D1 p W -> Calls Tryz.prog 105 #[.pointer (some ⟨d, 0, none⟩), .int .i64 (2 + g.j), .int .i64 g.b] (W.setCell ⟨x, 10, none⟩ (.pointer (some ⟨p, 0, none⟩))).drew fun e w' => ∃ q, e = .returned (.tuple #[.pointer (some ⟨q, 0, none⟩), .int .i64 0]) /\ D2 p q w')
  (hD2 : ∀ p q W, D2 p q W -> Blk W x (enL d E (.pointer (some ⟨p, 0, none⟩)) (.pointer none) (.pointer none) mp) 104 /\ Blk W w.heap.size (geoL g) 34 /\ Blk W (w.heap.size + 1) (bkL b) 30)
  (cL : ∀ p q W, D2 p q W -> Calls Tryz.prog 106 #[.pointer (some ⟨d, 0, none⟩), .int .i64 (2 + g.j + g.b), .int .i64 g.r] (W.setCell ⟨x, 11, none⟩ (.pointer (some ⟨q, 0, none⟩))).drew fun e w' => ∃ r, e = .returned (.tuple #[.pointer (some ⟨r, 0, none⟩), .int .i64 0]) /\ D3 p q r w')
  (hD3 : ∀ p q r W, D3 p q r W -> Blk W x (enL d E (.pointer (some ⟨p, 0, none⟩)) (.pointer (some ⟨q, 0, none⟩)) (.pointer none) mp) 104 /\ Blk W w.heap.size (geoL g) 34 /\ Blk W (w.heap.size + 1) (bkL b) 30)
  (cS : ∀ p q r W, D3 p q r W -> Calls Tryz.prog 35 #[.pointer (some ⟨x, 0, none⟩), b.opened.val] (((W.setCell ⟨x, 12, none⟩ (.pointer (some ⟨r, 0, none⟩))).setCell ⟨w.heap.size + 1, 1, none⟩ (.int .u64 b.opened.epoch)).setCell ⟨w.heap.size + 1, 5, none⟩ (.bool false)) fun e w' => ∃ er, e = .returned (.int .i64 er) /\ H p q r W er w') :
  Calls Tryz.prog 49 #[.pointer (some ⟨x, 0, none⟩), g.val, b.val] w fun e w' => ∃ p q r W er, e = .returned (.int .i64 er) /\ D3 p q r W /\ H p q r W er w' := by
 have hbA := hb.same (w' := (w.alloc (.cells #[.int .i64 g.j, .int .i64 g.b, .int .i64 g.r, .int .i64 g.i] 34)).alloc (.cells #[.int .u64 b.seq, .int .u64 b.epoch, .int .u64 b.res, .int .u64 b.hor, .int .u64 b.gen, .bool b.clean, .int .i64 b.image] 30)) ((blk_alloc_lt _ _ _ (by rw [nblk_alloc]; have := hb.lt; omega)).trans (blk_alloc_lt _ _ _ hb.lt))
 have C0 := hide (hbA.cell (i := 0) rfl)
 have hG : Blk ((w.alloc (.cells #[.int .i64 g.j, .int .i64 g.b, .int .i64 g.r, .int .i64 g.i] 34)).alloc (.cells #[.int .u64 b.seq, .int .u64 b.epoch, .int .u64 b.res, .int .u64 b.hor, .int .u64 b.gen, .bool b.clean, .int .i64 b.image] 30)) w.heap.size (geoL g) 34 := (Blk.new w (geoL g) 34).same (blk_alloc_lt _ _ _ (by rw [nblk_alloc]; omega))
 have hBB : Blk ((w.alloc (.cells #[.int .i64 g.j, .int .i64 g.b, .int .i64 g.r, .int .i64 g.i] 34)).alloc (.cells #[.int .u64 b.seq, .int .u64 b.epoch, .int .u64 b.res, .int .u64 b.hor, .int .u64 b.gen, .bool b.clean, .int .i64 b.image] 30)) (w.heap.size + 1) (bkL b) 30 := by
  have := Blk.new (w.alloc (.cells #[.int .i64 g.j, .int .i64 g.b, .int .i64 g.r, .int .i64 g.i] 34)) (bkL b) 30
  rw [nblk_alloc] at this
  exact this
 have CG0 := hide (hG.cell (i := 0) rfl)
 have CB4 := hide (hBB.cell (i := 4) rfl)
 have CJ : Hid (∀ W', OpC (((w.alloc (.cells #[.int .i64 g.j, .int .i64 g.b, .int .i64 g.r, .int .i64 g.i] 34)).alloc (.cells #[.int .u64 b.seq, .int .u64 b.epoch, .int .u64 b.res, .int .u64 b.hor, .int .u64 b.gen, .bool b.clean, .int .i64 b.image] 30)).drew) D1 x 10 0 undef W' -> Calls Tryz.prog 104 #[.pointer (some ⟨d, 0, none⟩), .int .i64 2, .int .i64 g.j, .int .u64 b.gen] W' fun e w' => ∃ u, e = .returned u /\ OpC (((w.alloc (.cells #[.int .i64 g.j, .int .i64 g.b, .int .i64 g.r, .int .i64 g.i] 34)).alloc (.cells #[.int .u64 b.seq, .int .u64 b.epoch, .int .u64 b.res, .int .u64 b.hor, .int .u64 b.gen, .bool b.clean, .int .i64 b.image] 30)).drew) D1 x 10 1 u w') := fun W' hW => by
  cases (show W' = _ from hW)
  refine cJ.mono ?_
  rintro e w' ⟨p, rfl, hp⟩
  exact ⟨_, rfl, p, rfl, hp⟩
 have HD1 := hide hD1
 have HCB := hide cB
 have HD2 := hide hD2
 have HCL := hide cL
 have HD3 := hide hD3
 have HCS := hide cS
 have hgg : (1 <= g.j /\ g.j <= 64) /\ (1 <= g.b /\ g.b <= 64) /\ (1 <= g.r /\ g.r <= 16) /\ (0 <= g.i /\ g.i <= 256) := by simpa [Geo.good, wthn, and_assoc] using hg
 obtain ⟨⟨a1, a2⟩, ⟨a3, a4⟩, _⟩ := hgg
 have q1 : IntKind.i64.wrap (2 + g.j) = 2 + g.j := by rw [IntKind.wrap_i64]; omega
 have q2 : IntKind.i64.wrap (2 + g.j + g.b) = 2 + g.j + g.b := by rw [IntKind.wrap_i64]; omega
 obtain ⟨ep, hep⟩ : ∃ ep, b.opened.epoch = ep := ⟨_, rfl⟩
 have q3 : IntKind.u64.wrap ((b.epoch : Int) + 1) = (ep : Int) := by
  rw [<- hep]
  show ((b.epoch : Int) + 1) % 18446744073709551616 = (((b.epoch + 1) % 18446744073709551616 : Nat) : Int)
  omega
 have HEP := hide hep
 have HXN : Hid (x ≠ w.heap.size /\ x ≠ w.heap.size + 1) := ⟨Nat.ne_of_lt hb.lt, by have := hb.lt; omega⟩
 clear hb hbA hG hBB cJ hD1 cB hD2 cL hD3 cS hg a1 a2 a3 a4 hep
 unfold Geo.val Sb.val
 go_enter Tryz.func49, Tryz.ntmps49
 go_wp2_with fail
 obtain ⟨N, hN⟩ : ∃ N, w.heap.size = N := ⟨_, rfl⟩
 obtain ⟨WA, hWA⟩ : ∃ WA, (w.alloc (.cells #[.int .i64 g.j, .int .i64 g.b, .int .i64 g.r, .int .i64 g.i] 34)).alloc (.cells #[.int .u64 b.seq, .int .u64 b.epoch, .int .u64 b.res, .int .u64 b.hor, .int .u64 b.gen, .bool b.clean, .int .i64 b.image] 30) = WA := ⟨_, rfl⟩
 simp only [hN, hWA] at *
 refine wp_region_cx (by kernel_rfl) (by kernel_rfl) (fun u jx => ([.pointer (some ⟨x, 0, none⟩), .pointer (some ⟨x, 0, none⟩), .pointer (some ⟨x, 0, none⟩), .pointer (some ⟨x, 0, none⟩), .pointer (some ⟨d, 0, none⟩), .int .i64 2, .pointer (some ⟨N, 0, none⟩), .int .i64 g.j, .pointer (some ⟨N + 1, 4, none⟩), .int .u64 b.gen, u, u, tupV u 0, tupV u 1, .pointer (some ⟨x, 0, none⟩), .pointer (some ⟨x, 10, none⟩), undef, tupV u 1] : List Value).getD jx undef) 10 [10, 16] [11, 12, 13, 17] (by kernel_rfl) (by kernel_rfl) rfl (fun _ => rfl) (fun v v' jx h1 h2 => by match jx with | 0 => rfl | 1 => rfl | 2 => rfl | 3 => rfl | 4 => rfl | 5 => rfl | 6 => rfl | 7 => rfl | 8 => rfl | 9 => rfl | 10 => exact absurd rfl h2 | 11 => exact absurd (by decide) h1 | 12 => exact absurd (by decide) h1 | 13 => exact absurd (by decide) h1 | 14 => rfl | 15 => rfl | 16 => rfl | 17 => exact absurd (by decide) h1 | _ + 18 => rfl) (OpC WA.drew D1 x 10) (rfl) ?_ ?_
 ·intro jx ox hi sx u w' ev hlm hks hdp hc hin hout hcst hfn
  have hltx : jx < 18 := by
   have := (Array.getElem?_eq_some_iff.1 hi).1
   simpa using this
  match jx, hltx with
  | 0, _ =>
   cases hi
   have e0 : ev (.tmp 0) = .pointer (some ⟨x, 0, none⟩) := hout 0
   refine .inl ⟨.pointer (some ⟨x, 0, none⟩), w', ?_, by show ite _ _ _; rw [if_neg (by decide), if_neg (by decide)]; exact ⟨rfl, hc⟩⟩
   simp [execOp, e0, hcst, go_sem]
  | 1, _ =>
   cases hi
   have e0 : ev (.tmp 0) = .pointer (some ⟨x, 0, none⟩) := hout 0
   refine .inl ⟨.pointer (some ⟨x, 0, none⟩), w', ?_, by show ite _ _ _; rw [if_neg (by decide), if_neg (by decide)]; exact ⟨rfl, hc⟩⟩
   simp [execOp, e0, hcst, go_sem]
  | 2, _ =>
   cases hi
   have e0 : ev (.tmp 11) = .pointer (some ⟨x, 0, none⟩) := hin 11 1 ⟨1, .data⟩
   refine .inl ⟨.pointer (some ⟨x, 0, none⟩), w', ?_, by show ite _ _ _; rw [if_neg (by decide), if_neg (by decide)]; exact ⟨rfl, hc⟩⟩
   simp [execOp, e0, hcst, go_sem]
  | 3, _ =>
   cases hi
   have e0 : ev (.tmp 12) = .pointer (some ⟨x, 0, none⟩) := hin 12 2 ⟨2, .data⟩
   refine .inl ⟨.pointer (some ⟨x, 0, none⟩), w', ?_, by show ite _ _ _; rw [if_neg (by decide), if_neg (by decide)]; exact ⟨rfl, hc⟩⟩
   simp [execOp, e0, hcst, go_sem]
  | 4, _ =>
   cases hi
   have e0 : ev (.tmp 13) = .pointer (some ⟨x, 0, none⟩) := hin 13 3 ⟨3, .data⟩
   refine .inl ⟨.pointer (some ⟨d, 0, none⟩), w', ?_, by show ite _ _ _; rw [if_neg (by decide), if_neg (by decide)]; exact ⟨rfl, hc⟩⟩
   have hl2 : sx <= 0 := Nat.le_trans hlm (Nat.le_of_eq (by kernel_rfl))
   have hs0 : sx = 0 := by omega
   subst hs0
   have hq : w'.cell? ⟨x, 0, none⟩ = some (.pointer (some ⟨d, 0, none⟩)) := by rw [show w' = _ from hc]; exact C0.out
   simp [execOp, e0, hq, hcst, go_sem]
  | 5, _ =>
   cases hi
   have e0 : ev (.tmp 8) = .int .i64 2 := hout 8
   refine .inl ⟨.int .i64 2, w', ?_, by show ite _ _ _; rw [if_neg (by decide), if_neg (by decide)]; exact ⟨rfl, hc⟩⟩
   simp [execOp, e0, hcst, go_sem]
  | 6, _ =>
   cases hi
   have e0 : ev (.tmp 4) = .pointer (some ⟨N, 0, none⟩) := hout 4
   refine .inl ⟨.pointer (some ⟨N, 0, none⟩), w', ?_, by show ite _ _ _; rw [if_neg (by decide), if_neg (by decide)]; exact ⟨rfl, hc⟩⟩
   simp [execOp, e0, hcst, go_sem]
  | 7, _ =>
   cases hi
   have e0 : ev (.tmp 16) = .pointer (some ⟨N, 0, none⟩) := hin 16 6 ⟨6, .data⟩
   refine .inl ⟨.int .i64 g.j, w', ?_, by show ite _ _ _; rw [if_neg (by decide), if_neg (by decide)]; exact ⟨rfl, hc⟩⟩
   have hl2 : sx <= 0 := Nat.le_trans hlm (Nat.le_of_eq (by kernel_rfl))
   have hs0 : sx = 0 := by omega
   subst hs0
   have hq : w'.cell? ⟨N, 0, none⟩ = some (.int .i64 g.j) := by rw [show w' = _ from hc]; exact CG0.out
   simp [execOp, e0, hq, hcst, go_sem]
  | 8, _ =>
   cases hi
   have e0 : ev (.tmp 5) = .pointer (some ⟨N + 1, 0, none⟩) := hout 5
   refine .inl ⟨.pointer (some ⟨N + 1, 4, none⟩), w', ?_, by show ite _ _ _; rw [if_neg (by decide), if_neg (by decide)]; exact ⟨rfl, hc⟩⟩
   simp [execOp, e0, hcst, go_sem]
  | 9, _ =>
   cases hi
   have e0 : ev (.tmp 18) = .pointer (some ⟨N + 1, 4, none⟩) := hin 18 8 ⟨8, .data⟩
   refine .inl ⟨.int .u64 b.gen, w', ?_, by show ite _ _ _; rw [if_neg (by decide), if_neg (by decide)]; exact ⟨rfl, hc⟩⟩
   have hl2 : sx <= 0 := Nat.le_trans hlm (Nat.le_of_eq (by kernel_rfl))
   have hs0 : sx = 0 := by omega
   subst hs0
   have hq : w'.cell? ⟨N + 1, 4, none⟩ = some (.int .u64 b.gen) := by rw [show w' = _ from hc]; exact CB4.out
   simp [execOp, e0, hq, hcst, go_sem]
  | 10, _ =>
   cases hi
   have e0 : ev (.tmp 14) = .pointer (some ⟨d, 0, none⟩) := hin 14 4 ⟨4, .data⟩
   have e1 : ev (.tmp 15) = .int .i64 2 := hin 15 5 ⟨5, .data⟩
   have e2 : ev (.tmp 17) = .int .i64 g.j := hin 17 7 ⟨7, .data⟩
   have e3 : ev (.tmp 19) = .int .u64 b.gen := hin 19 9 ⟨9, .data⟩
   have hsx : sx = 0 := hks 0 rfl
   subst hsx
   refine .inr (.inr ⟨104, #[.pointer (some ⟨d, 0, none⟩), .int .i64 2, .int .i64 g.j, .int .u64 b.gen], ?_, ?_⟩)
   ·have ef := hfn 104
    simp [execOp, resolve, invoke, ef, hcst, e0, e1, e2, e3, Result.andThen]
    exact enz104 _ _
   ·refine Calls.mono (P := Tryz.prog) (R := fun e w2 => ∃ v, e = .returned v /\ (OpC WA.drew D1 x 10) 1 v w2) ?_ ?_
    ·exact CJ.out w' hc
    ·rintro e w2 ⟨v, rfl, hv⟩
     exact ⟨v, rfl, by first | exact hv | (rw [if_pos rfl]; exact hv) | (show ite _ _ _; rw [if_pos rfl]; exact hv)⟩
  | 11, _ =>
   cases hi
   have e0 : ev (.tmp 20) = u := hin 20 10 ⟨10, .data⟩
   have hd : 0 < sx := hdp (by decide)
   refine .inl ⟨u, w', ?_, by show ite _ _ _; rw [if_neg (by decide), if_neg (by decide)]; exact ⟨rfl, hc⟩⟩
   simp [execOp, e0, hcst, go_sem]
  | 12, _ =>
   cases hi
   have e0 : ev (.tmp 9) = u := hin 9 11 ⟨11, .data⟩
   have hd : 0 < sx := hdp (by decide)
   refine .inl ⟨tupV u 0, w', ?_, by show ite _ _ _; rw [if_neg (by decide), if_neg (by decide)]; exact ⟨rfl, hc⟩⟩
   obtain ⟨p, hp⟩ := OpC.pos hc hd
   subst hp
   simp [execOp, e0, hcst, go_sem, tupV]
  | 13, _ =>
   cases hi
   have e0 : ev (.tmp 9) = u := hin 9 11 ⟨11, .data⟩
   have hd : 0 < sx := hdp (by decide)
   refine .inl ⟨tupV u 1, w', ?_, by show ite _ _ _; rw [if_neg (by decide), if_neg (by decide)]; exact ⟨rfl, hc⟩⟩
   obtain ⟨p, hp⟩ := OpC.pos hc hd
   subst hp
   simp [execOp, e0, hcst, go_sem, tupV]
  | 14, _ =>
   cases hi
   have e0 : ev (.tmp 10) = .pointer (some ⟨x, 0, none⟩) := hin 10 0 ⟨0, .data⟩
   refine .inl ⟨.pointer (some ⟨x, 0, none⟩), w', ?_, by show ite _ _ _; rw [if_neg (by decide), if_neg (by decide)]; exact ⟨rfl, hc⟩⟩
   simp [execOp, e0, hcst, go_sem]
  | 15, _ =>
   cases hi
   have e0 : ev (.tmp 23) = .pointer (some ⟨x, 0, none⟩) := hin 23 14 ⟨14, .data⟩
   refine .inl ⟨.pointer (some ⟨x, 10, none⟩), w', ?_, by show ite _ _ _; rw [if_neg (by decide), if_neg (by decide)]; exact ⟨rfl, hc⟩⟩
   simp [execOp, e0, hcst, go_sem]
  | 16, _ =>
   cases hi
   have e0 : ev (.tmp 24) = .pointer (some ⟨x, 10, none⟩) := hin 24 15 ⟨15, .data⟩
   have e1 : ev (.tmp 21) = tupV u 0 := hin 21 12 ⟨12, .data⟩
   have hsx : sx = 1 := hks 1 rfl
   subst hsx
   obtain ⟨p, rfl, hp⟩ := OpC.one hc
   have hbx := (HD1.out p w' hp).1
   have hcx := hbx.cell (i := 10) rfl
   have hfx := hbx.frozen 10
   refine .inr (.inl ⟨w'.setCell ⟨x, 10, none⟩ (.pointer (some ⟨p, 0, none⟩)), ?_, by show ite _ _ _; rw [if_neg (by decide), if_pos (by decide)]; exact ⟨rfl, OpC.mk2 hp⟩⟩)
   simp [execOp, e0, e1, hcst, go_sem, tupV, hcx, hfx]
  | 17, _ =>
   cases hi
   have e0 : ev (.tmp 22) = tupV u 1 := hin 22 13 ⟨13, .data⟩
   have hd : 0 < sx := hdp (by decide)
   refine .inl ⟨tupV u 1, w', ?_, by show ite _ _ _; rw [if_neg (by decide), if_neg (by decide)]; exact ⟨rfl, hc⟩⟩
   simp [execOp, e0, hcst, go_sem]
 ·intro u w2 hc
  simp only [lexF, Act.put, List.setIfInBounds_toArray, List.set_cons_succ, List.set_cons_zero, List.getD_cons_succ, List.getD_cons_zero]
  obtain ⟨p1, w1, rfl, hp1, hw2⟩ := OpC.two hc
  obtain ⟨hx1, hg1, hb1⟩ := HD1.out p1 w1 hp1
  have hx2 : Blk w2 x (enL d E (.pointer (some ⟨p1, 0, none⟩)) (.pointer none) (.pointer none) mp) 104 := by rw [hw2]; exact hx1.set 10 _
  have hg2 : Blk w2 N (geoL g) 34 := hg1.same (by rw [hw2]; exact blk_setCell_other _ _ _ _ (fun e => HXN.out.1 e.symm))
  have C02 := hide (hx2.cell (i := 0) rfl)
  have CG1 := hide (hg2.cell (i := 1) rfl)
  have k0 := hg2.cell (i := 0) rfl
  have CB : Hid (∀ W', OpC w2.drew (D2 p1) x 11 0 undef W' -> Calls Tryz.prog 105 #[.pointer (some ⟨d, 0, none⟩), .int .i64 (2 + g.j), .int .i64 g.b] W' fun e w' => ∃ u, e = .returned u /\ OpC w2.drew (D2 p1) x 11 1 u w') := fun W' hW => by
   cases (show W' = _ from hW)
   rw [hw2]
   refine (HCB.out p1 w1 hp1).mono ?_
   rintro e w' ⟨p, rfl, hp⟩
   exact ⟨_, rfl, p, rfl, hp⟩
  clear hx1 hg1 hb1 hx2 hg2 hw2 HCB C0 CG0 CB4 CJ hp1 HD1
  simp only [tupV]
  go_wp2_with fail
  refine wp_region_cx (by kernel_rfl) (by kernel_rfl) (fun u jx => ([.pointer (some ⟨x, 0, none⟩), .pointer (some ⟨x, 0, none⟩), .pointer (some ⟨x, 0, none⟩), .pointer (some ⟨x, 0, none⟩), .pointer (some ⟨d, 0, none⟩), .int .i64 (2 + g.j), .pointer (some ⟨N, 1, none⟩), .int .i64 g.b, u, u, tupV u 0, tupV u 1, .pointer (some ⟨x, 0, none⟩), .pointer (some ⟨x, 11, none⟩), undef, tupV u 1] : List Value).getD jx undef) 8 [8, 14] [9, 10, 11, 15] (by kernel_rfl) (by kernel_rfl) rfl (fun _ => rfl) (fun v v' jx h1 h2 => by match jx with | 0 => rfl | 1 => rfl | 2 => rfl | 3 => rfl | 4 => rfl | 5 => rfl | 6 => rfl | 7 => rfl | 8 => exact absurd rfl h2 | 9 => exact absurd (by decide) h1 | 10 => exact absurd (by decide) h1 | 11 => exact absurd (by decide) h1 | 12 => rfl | 13 => rfl | 14 => rfl | 15 => exact absurd (by decide) h1 | _ + 16 => rfl) (OpC w2.drew (D2 p1) x 11) (rfl) ?_ ?_
  ·intro jx ox hi sx u w' ev hlm hks hdp hc hin hout hcst hfn
   have hltx : jx < 16 := by
    have := (Array.getElem?_eq_some_iff.1 hi).1
    simpa using this
   match jx, hltx with
   | 0, _ =>
    cases hi
    have e0 : ev (.tmp 0) = .pointer (some ⟨x, 0, none⟩) := hout 0
    refine .inl ⟨.pointer (some ⟨x, 0, none⟩), w', ?_, by show ite _ _ _; rw [if_neg (by decide), if_neg (by decide)]; exact ⟨rfl, hc⟩⟩
    simp [execOp, e0, hcst, go_sem]
   | 1, _ =>
    cases hi
    have e0 : ev (.tmp 0) = .pointer (some ⟨x, 0, none⟩) := hout 0
    refine .inl ⟨.pointer (some ⟨x, 0, none⟩), w', ?_, by show ite _ _ _; rw [if_neg (by decide), if_neg (by decide)]; exact ⟨rfl, hc⟩⟩
    simp [execOp, e0, hcst, go_sem]
   | 2, _ =>
    cases hi
    have e0 : ev (.tmp 34) = .pointer (some ⟨x, 0, none⟩) := hin 34 1 ⟨1, .data⟩
    refine .inl ⟨.pointer (some ⟨x, 0, none⟩), w', ?_, by show ite _ _ _; rw [if_neg (by decide), if_neg (by decide)]; exact ⟨rfl, hc⟩⟩
    simp [execOp, e0, hcst, go_sem]
   | 3, _ =>
    cases hi
    have e0 : ev (.tmp 35) = .pointer (some ⟨x, 0, none⟩) := hin 35 2 ⟨2, .data⟩
    refine .inl ⟨.pointer (some ⟨x, 0, none⟩), w', ?_, by show ite _ _ _; rw [if_neg (by decide), if_neg (by decide)]; exact ⟨rfl, hc⟩⟩
    simp [execOp, e0, hcst, go_sem]
   | 4, _ =>
    cases hi
    have e0 : ev (.tmp 36) = .pointer (some ⟨x, 0, none⟩) := hin 36 3 ⟨3, .data⟩
    refine .inl ⟨.pointer (some ⟨d, 0, none⟩), w', ?_, by show ite _ _ _; rw [if_neg (by decide), if_neg (by decide)]; exact ⟨rfl, hc⟩⟩
    have hl2 : sx <= 0 := Nat.le_trans hlm (Nat.le_of_eq (by kernel_rfl))
    have hs0 : sx = 0 := by omega
    subst hs0
    have hq : w'.cell? ⟨x, 0, none⟩ = some (.pointer (some ⟨d, 0, none⟩)) := by rw [show w' = _ from hc]; exact C02.out
    simp [execOp, e0, hq, hcst, go_sem]
   | 5, _ =>
    cases hi
    have e0 : ev (.tmp 8) = .int .i64 (2 + g.j) := hout 8
    refine .inl ⟨.int .i64 (2 + g.j), w', ?_, by show ite _ _ _; rw [if_neg (by decide), if_neg (by decide)]; exact ⟨rfl, hc⟩⟩
    simp [execOp, e0, hcst, go_sem]
   | 6, _ =>
    cases hi
    have e0 : ev (.tmp 4) = .pointer (some ⟨N, 0, none⟩) := hout 4
    refine .inl ⟨.pointer (some ⟨N, 1, none⟩), w', ?_, by show ite _ _ _; rw [if_neg (by decide), if_neg (by decide)]; exact ⟨rfl, hc⟩⟩
    simp [execOp, e0, hcst, go_sem]
   | 7, _ =>
    cases hi
    have e0 : ev (.tmp 39) = .pointer (some ⟨N, 1, none⟩) := hin 39 6 ⟨6, .data⟩
    refine .inl ⟨.int .i64 g.b, w', ?_, by show ite _ _ _; rw [if_neg (by decide), if_neg (by decide)]; exact ⟨rfl, hc⟩⟩
    have hl2 : sx <= 0 := Nat.le_trans hlm (Nat.le_of_eq (by kernel_rfl))
    have hs0 : sx = 0 := by omega
    subst hs0
    have hq : w'.cell? ⟨N, 1, none⟩ = some (.int .i64 g.b) := by rw [show w' = _ from hc]; exact CG1.out
    simp [execOp, e0, hq, hcst, go_sem]
   | 8, _ =>
    cases hi
    have e0 : ev (.tmp 37) = .pointer (some ⟨d, 0, none⟩) := hin 37 4 ⟨4, .data⟩
    have e1 : ev (.tmp 38) = .int .i64 (2 + g.j) := hin 38 5 ⟨5, .data⟩
    have e2 : ev (.tmp 40) = .int .i64 g.b := hin 40 7 ⟨7, .data⟩
    have hsx : sx = 0 := hks 0 rfl
    subst hsx
    refine .inr (.inr ⟨105, #[.pointer (some ⟨d, 0, none⟩), .int .i64 (2 + g.j), .int .i64 g.b], ?_, ?_⟩)
    ·have ef := hfn 105
     simp [execOp, resolve, invoke, ef, hcst, e0, e1, e2, Result.andThen]
     exact enz105 _ _
    ·refine Calls.mono (P := Tryz.prog) (R := fun e w2 => ∃ v, e = .returned v /\ (OpC w2.drew (D2 p1) x 11) 1 v w2) ?_ ?_
     ·exact CB.out w' hc
     ·rintro e w2 ⟨v, rfl, hv⟩
      exact ⟨v, rfl, by first | exact hv | (rw [if_pos rfl]; exact hv) | (show ite _ _ _; rw [if_pos rfl]; exact hv)⟩
   | 9, _ =>
    cases hi
    have e0 : ev (.tmp 41) = u := hin 41 8 ⟨8, .data⟩
    have hd : 0 < sx := hdp (by decide)
    refine .inl ⟨u, w', ?_, by show ite _ _ _; rw [if_neg (by decide), if_neg (by decide)]; exact ⟨rfl, hc⟩⟩
    simp [execOp, e0, hcst, go_sem]
   | 10, _ =>
    cases hi
    have e0 : ev (.tmp 32) = u := hin 32 9 ⟨9, .data⟩
    have hd : 0 < sx := hdp (by decide)
    refine .inl ⟨tupV u 0, w', ?_, by show ite _ _ _; rw [if_neg (by decide), if_neg (by decide)]; exact ⟨rfl, hc⟩⟩
    obtain ⟨p, hp⟩ := OpC.pos hc hd
    subst hp
    simp [execOp, e0, hcst, go_sem, tupV]
   | 11, _ =>
    cases hi
    have e0 : ev (.tmp 32) = u := hin 32 9 ⟨9, .data⟩
    have hd : 0 < sx := hdp (by decide)
    refine .inl ⟨tupV u 1, w', ?_, by show ite _ _ _; rw [if_neg (by decide), if_neg (by decide)]; exact ⟨rfl, hc⟩⟩
    obtain ⟨p, hp⟩ := OpC.pos hc hd
    subst hp
    simp [execOp, e0, hcst, go_sem, tupV]
   | 12, _ =>
    cases hi
    have e0 : ev (.tmp 33) = .pointer (some ⟨x, 0, none⟩) := hin 33 0 ⟨0, .data⟩
    refine .inl ⟨.pointer (some ⟨x, 0, none⟩), w', ?_, by show ite _ _ _; rw [if_neg (by decide), if_neg (by decide)]; exact ⟨rfl, hc⟩⟩
    simp [execOp, e0, hcst, go_sem]
   | 13, _ =>
    cases hi
    have e0 : ev (.tmp 44) = .pointer (some ⟨x, 0, none⟩) := hin 44 12 ⟨12, .data⟩
    refine .inl ⟨.pointer (some ⟨x, 11, none⟩), w', ?_, by show ite _ _ _; rw [if_neg (by decide), if_neg (by decide)]; exact ⟨rfl, hc⟩⟩
    simp [execOp, e0, hcst, go_sem]
   | 14, _ =>
    cases hi
    have e0 : ev (.tmp 45) = .pointer (some ⟨x, 11, none⟩) := hin 45 13 ⟨13, .data⟩
    have e1 : ev (.tmp 42) = tupV u 0 := hin 42 10 ⟨10, .data⟩
    have hsx : sx = 1 := hks 1 rfl
    subst hsx
    obtain ⟨p, rfl, hp⟩ := OpC.one hc
    have hbx := (HD2.out p1 p w' hp).1
    have hcx := hbx.cell (i := 11) rfl
    have hfx := hbx.frozen 11
    refine .inr (.inl ⟨w'.setCell ⟨x, 11, none⟩ (.pointer (some ⟨p, 0, none⟩)), ?_, by show ite _ _ _; rw [if_neg (by decide), if_pos (by decide)]; exact ⟨rfl, OpC.mk2 hp⟩⟩)
    simp [execOp, e0, e1, hcst, go_sem, tupV, hcx, hfx]
   | 15, _ =>
    cases hi
    have e0 : ev (.tmp 43) = tupV u 1 := hin 43 11 ⟨11, .data⟩
    have hd : 0 < sx := hdp (by decide)
    refine .inl ⟨tupV u 1, w', ?_, by show ite _ _ _; rw [if_neg (by decide), if_neg (by decide)]; exact ⟨rfl, hc⟩⟩
    simp [execOp, e0, hcst, go_sem]
  ·intro u w4 hc
   simp only [lexF, Act.put, List.setIfInBounds_toArray, List.set_cons_succ, List.set_cons_zero, List.getD_cons_succ, List.getD_cons_zero]
   obtain ⟨p2, w3, rfl, hp2, hw4⟩ := OpC.two hc
   obtain ⟨hx1, hg1, hb1⟩ := HD2.out p1 p2 w3 hp2
   have hx2 : Blk w4 x (enL d E (.pointer (some ⟨p1, 0, none⟩)) (.pointer (some ⟨p2, 0, none⟩)) (.pointer none) mp) 104 := by rw [hw4]; exact hx1.set 11 _
   have hg2 : Blk w4 N (geoL g) 34 := hg1.same (by rw [hw4]; exact blk_setCell_other _ _ _ _ (fun e => HXN.out.1 e.symm))
   have C04 := hide (hx2.cell (i := 0) rfl)
   have CG2 := hide (hg2.cell (i := 2) rfl)
   have k1 := hg2.cell (i := 1) rfl
   have CL : Hid (∀ W', OpC w4.drew (D3 p1 p2) x 12 0 undef W' -> Calls Tryz.prog 106 #[.pointer (some ⟨d, 0, none⟩), .int .i64 (2 + g.j + g.b), .int .i64 g.r] W' fun e w' => ∃ u, e = .returned u /\ OpC w4.drew (D3 p1 p2) x 12 1 u w') := fun W' hW => by
    cases (show W' = _ from hW)
    rw [hw4]
    refine (HCL.out p1 p2 w3 hp2).mono ?_
    rintro e w' ⟨p, rfl, hp⟩
    exact ⟨_, rfl, p, rfl, hp⟩
   clear hx1 hg1 hb1 hx2 hg2 hw4 HCL C02 CG1 CB hp2 HD2 k0
   simp only [tupV]
   go_wp2_with fail
   refine wp_region_cx (by kernel_rfl) (by kernel_rfl) (fun u jx => ([.pointer (some ⟨x, 0, none⟩), .pointer (some ⟨x, 0, none⟩), .pointer (some ⟨x, 0, none⟩), .pointer (some ⟨x, 0, none⟩), .pointer (some ⟨d, 0, none⟩), .int .i64 (2 + g.j + g.b), .pointer (some ⟨N, 2, none⟩), .int .i64 g.r, u, u, tupV u 0, tupV u 1, .pointer (some ⟨x, 0, none⟩), .pointer (some ⟨x, 12, none⟩), undef, tupV u 1] : List Value).getD jx undef) 8 [8, 14] [9, 10, 11, 15] (by kernel_rfl) (by kernel_rfl) rfl (fun _ => rfl) (fun v v' jx h1 h2 => by match jx with | 0 => rfl | 1 => rfl | 2 => rfl | 3 => rfl | 4 => rfl | 5 => rfl | 6 => rfl | 7 => rfl | 8 => exact absurd rfl h2 | 9 => exact absurd (by decide) h1 | 10 => exact absurd (by decide) h1 | 11 => exact absurd (by decide) h1 | 12 => rfl | 13 => rfl | 14 => rfl | 15 => exact absurd (by decide) h1 | _ + 16 => rfl) (OpC w4.drew (D3 p1 p2) x 12) (rfl) ?_ ?_
   ·intro jx ox hi sx u w' ev hlm hks hdp hc hin hout hcst hfn
    have hltx : jx < 16 := by
     have := (Array.getElem?_eq_some_iff.1 hi).1
     simpa using this
    match jx, hltx with
    | 0, _ =>
     cases hi
     have e0 : ev (.tmp 0) = .pointer (some ⟨x, 0, none⟩) := hout 0
     refine .inl ⟨.pointer (some ⟨x, 0, none⟩), w', ?_, by show ite _ _ _; rw [if_neg (by decide), if_neg (by decide)]; exact ⟨rfl, hc⟩⟩
     simp [execOp, e0, hcst, go_sem]
    | 1, _ =>
     cases hi
     have e0 : ev (.tmp 0) = .pointer (some ⟨x, 0, none⟩) := hout 0
     refine .inl ⟨.pointer (some ⟨x, 0, none⟩), w', ?_, by show ite _ _ _; rw [if_neg (by decide), if_neg (by decide)]; exact ⟨rfl, hc⟩⟩
     simp [execOp, e0, hcst, go_sem]
    | 2, _ =>
     cases hi
     have e0 : ev (.tmp 55) = .pointer (some ⟨x, 0, none⟩) := hin 55 1 ⟨1, .data⟩
     refine .inl ⟨.pointer (some ⟨x, 0, none⟩), w', ?_, by show ite _ _ _; rw [if_neg (by decide), if_neg (by decide)]; exact ⟨rfl, hc⟩⟩
     simp [execOp, e0, hcst, go_sem]
    | 3, _ =>
     cases hi
     have e0 : ev (.tmp 56) = .pointer (some ⟨x, 0, none⟩) := hin 56 2 ⟨2, .data⟩
     refine .inl ⟨.pointer (some ⟨x, 0, none⟩), w', ?_, by show ite _ _ _; rw [if_neg (by decide), if_neg (by decide)]; exact ⟨rfl, hc⟩⟩
     simp [execOp, e0, hcst, go_sem]
    | 4, _ =>
     cases hi
     have e0 : ev (.tmp 57) = .pointer (some ⟨x, 0, none⟩) := hin 57 3 ⟨3, .data⟩
     refine .inl ⟨.pointer (some ⟨d, 0, none⟩), w', ?_, by show ite _ _ _; rw [if_neg (by decide), if_neg (by decide)]; exact ⟨rfl, hc⟩⟩
     have hl2 : sx <= 0 := Nat.le_trans hlm (Nat.le_of_eq (by kernel_rfl))
     have hs0 : sx = 0 := by omega
     subst hs0
     have hq : w'.cell? ⟨x, 0, none⟩ = some (.pointer (some ⟨d, 0, none⟩)) := by rw [show w' = _ from hc]; exact C04.out
     simp [execOp, e0, hq, hcst, go_sem]
    | 5, _ =>
     cases hi
     have e0 : ev (.tmp 8) = .int .i64 (2 + g.j + g.b) := hout 8
     refine .inl ⟨.int .i64 (2 + g.j + g.b), w', ?_, by show ite _ _ _; rw [if_neg (by decide), if_neg (by decide)]; exact ⟨rfl, hc⟩⟩
     simp [execOp, e0, hcst, go_sem]
    | 6, _ =>
     cases hi
     have e0 : ev (.tmp 4) = .pointer (some ⟨N, 0, none⟩) := hout 4
     refine .inl ⟨.pointer (some ⟨N, 2, none⟩), w', ?_, by show ite _ _ _; rw [if_neg (by decide), if_neg (by decide)]; exact ⟨rfl, hc⟩⟩
     simp [execOp, e0, hcst, go_sem]
    | 7, _ =>
     cases hi
     have e0 : ev (.tmp 60) = .pointer (some ⟨N, 2, none⟩) := hin 60 6 ⟨6, .data⟩
     refine .inl ⟨.int .i64 g.r, w', ?_, by show ite _ _ _; rw [if_neg (by decide), if_neg (by decide)]; exact ⟨rfl, hc⟩⟩
     have hl2 : sx <= 0 := Nat.le_trans hlm (Nat.le_of_eq (by kernel_rfl))
     have hs0 : sx = 0 := by omega
     subst hs0
     have hq : w'.cell? ⟨N, 2, none⟩ = some (.int .i64 g.r) := by rw [show w' = _ from hc]; exact CG2.out
     simp [execOp, e0, hq, hcst, go_sem]
    | 8, _ =>
     cases hi
     have e0 : ev (.tmp 58) = .pointer (some ⟨d, 0, none⟩) := hin 58 4 ⟨4, .data⟩
     have e1 : ev (.tmp 59) = .int .i64 (2 + g.j + g.b) := hin 59 5 ⟨5, .data⟩
     have e2 : ev (.tmp 61) = .int .i64 g.r := hin 61 7 ⟨7, .data⟩
     have hsx : sx = 0 := hks 0 rfl
     subst hsx
     refine .inr (.inr ⟨106, #[.pointer (some ⟨d, 0, none⟩), .int .i64 (2 + g.j + g.b), .int .i64 g.r], ?_, ?_⟩)
     ·have ef := hfn 106
      simp [execOp, resolve, invoke, ef, hcst, e0, e1, e2, Result.andThen]
      exact enz106 _ _
     ·refine Calls.mono (P := Tryz.prog) (R := fun e w2 => ∃ v, e = .returned v /\ (OpC w4.drew (D3 p1 p2) x 12) 1 v w2) ?_ ?_
      ·exact CL.out w' hc
      ·rintro e w2 ⟨v, rfl, hv⟩
       exact ⟨v, rfl, by first | exact hv | (rw [if_pos rfl]; exact hv) | (show ite _ _ _; rw [if_pos rfl]; exact hv)⟩
    | 9, _ =>
     cases hi
     have e0 : ev (.tmp 62) = u := hin 62 8 ⟨8, .data⟩
     have hd : 0 < sx := hdp (by decide)
     refine .inl ⟨u, w', ?_, by show ite _ _ _; rw [if_neg (by decide), if_neg (by decide)]; exact ⟨rfl, hc⟩⟩
     simp [execOp, e0, hcst, go_sem]
    | 10, _ =>
     cases hi
     have e0 : ev (.tmp 53) = u := hin 53 9 ⟨9, .data⟩
     have hd : 0 < sx := hdp (by decide)
     refine .inl ⟨tupV u 0, w', ?_, by show ite _ _ _; rw [if_neg (by decide), if_neg (by decide)]; exact ⟨rfl, hc⟩⟩
     obtain ⟨p, hp⟩ := OpC.pos hc hd
     subst hp
     simp [execOp, e0, hcst, go_sem, tupV]
    | 11, _ =>
     cases hi
     have e0 : ev (.tmp 53) = u := hin 53 9 ⟨9, .data⟩
     have hd : 0 < sx := hdp (by decide)
     refine .inl ⟨tupV u 1, w', ?_, by show ite _ _ _; rw [if_neg (by decide), if_neg (by decide)]; exact ⟨rfl, hc⟩⟩
     obtain ⟨p, hp⟩ := OpC.pos hc hd
     subst hp
     simp [execOp, e0, hcst, go_sem, tupV]
    | 12, _ =>
     cases hi
     have e0 : ev (.tmp 54) = .pointer (some ⟨x, 0, none⟩) := hin 54 0 ⟨0, .data⟩
     refine .inl ⟨.pointer (some ⟨x, 0, none⟩), w', ?_, by show ite _ _ _; rw [if_neg (by decide), if_neg (by decide)]; exact ⟨rfl, hc⟩⟩
     simp [execOp, e0, hcst, go_sem]
    | 13, _ =>
     cases hi
     have e0 : ev (.tmp 65) = .pointer (some ⟨x, 0, none⟩) := hin 65 12 ⟨12, .data⟩
     refine .inl ⟨.pointer (some ⟨x, 12, none⟩), w', ?_, by show ite _ _ _; rw [if_neg (by decide), if_neg (by decide)]; exact ⟨rfl, hc⟩⟩
     simp [execOp, e0, hcst, go_sem]
    | 14, _ =>
     cases hi
     have e0 : ev (.tmp 66) = .pointer (some ⟨x, 12, none⟩) := hin 66 13 ⟨13, .data⟩
     have e1 : ev (.tmp 63) = tupV u 0 := hin 63 10 ⟨10, .data⟩
     have hsx : sx = 1 := hks 1 rfl
     subst hsx
     obtain ⟨p, rfl, hp⟩ := OpC.one hc
     have hbx := (HD3.out p1 p2 p w' hp).1
     have hcx := hbx.cell (i := 12) rfl
     have hfx := hbx.frozen 12
     refine .inr (.inl ⟨w'.setCell ⟨x, 12, none⟩ (.pointer (some ⟨p, 0, none⟩)), ?_, by show ite _ _ _; rw [if_neg (by decide), if_pos (by decide)]; exact ⟨rfl, OpC.mk2 hp⟩⟩)
     simp [execOp, e0, e1, hcst, go_sem, tupV, hcx, hfx]
    | 15, _ =>
     cases hi
     have e0 : ev (.tmp 64) = tupV u 1 := hin 64 11 ⟨11, .data⟩
     have hd : 0 < sx := hdp (by decide)
     refine .inl ⟨tupV u 1, w', ?_, by show ite _ _ _; rw [if_neg (by decide), if_neg (by decide)]; exact ⟨rfl, hc⟩⟩
     simp [execOp, e0, hcst, go_sem]
   ·intro u w6 hc
    simp only [lexF, Act.put, List.setIfInBounds_toArray, List.set_cons_succ, List.set_cons_zero, List.getD_cons_succ, List.getD_cons_zero]
    obtain ⟨p3, w5, rfl, hp3, hw6⟩ := OpC.two hc
    obtain ⟨hx1, hg1, hb1⟩ := HD3.out p1 p2 p3 w5 hp3
    have hb2 : Blk w6 (N + 1) (bkL b) 30 := hb1.same (by rw [hw6]; exact blk_setCell_other _ _ _ _ (fun e => HXN.out.2 e.symm))
    obtain ⟨y0, y1, y2, y3, y4, y5, y6, z0, z1, z2, z3, z4, z5, z6⟩ := cells7 hb2
    have cS0 := HCS.out p1 p2 p3 w5 hp3
    rw [<- hw6] at cS0
    have ev : b.opened.val = .agg #[.int .u64 b.seq, .int .u64 ep, .int .u64 b.res, .int .u64 b.hor, .int .u64 b.gen, .bool false, .int .i64 b.image] := by unfold Sb.val; rw [HEP.out]; rfl
    rw [ev, HEP.out] at cS0
    have CS := hide cS0
    have HP3 := hide hp3
    clear hx1 hg1 hb1 hb2 hw6 C04 CG2 CL hp3 HD3 k1 cS0 HCS ev HEP
    simp only [tupV]
    go_wp2_with fail
    refine CS.out.mono ?_
    rintro r w7 ⟨er, rfl, hH⟩
    have HH := hide hH
    clear hH CS
    go_wp2
    exact bodyPost_ret (v := .int .i64 er) (by simp [results, Tryz.results49, go_sem]) rfl ⟨p1, p2, p3, w5, er, rfl, HP3.out, HH.out⟩
end Go.Proofs.YtcdghalnneilpaaGreat
