/- Joined texts. -/
import Derived.Test.YtcdghalnneilpaaGreatK25
set_option linter.unusedVariables false
set_option linter.unusedSimpArgs false
set_option maxRecDepth 8000
set_option maxHeartbeats 8000000
namespace Go.Proofs.YtcdghalnneilpaaGreat
open Go.RowKit Go.Deep Math
theorem enz110 (args : Array Value) (w : World) : (callFunc 110 args).run Tryz.prog w = .ok (.enter 110 args) w := enters_of Tryz.func110 (by kernel_rfl) rfl args w
theorem enz111 (args : Array Value) (w : World) : (callFunc 111 args).run Tryz.prog w = .ok (.enter 111 args) w := enters_of Tryz.func111 (by kernel_rfl) rfl args w
def tupV (u : Value) (i : Nat) : Value := match u with
 | .tuple a => a.getD i undef
 | _ => undef
def PutC (W0 : World) (D : Value -> World -> Prop) (s : Nat) (u : Value) (W : World) : Prop := if s = 0 then W = W0 else ∃ v, u = .tuple #[v, .int .i64 0] /\ D v W
theorem PutC.pos {W0 W : World} {D : Value -> World -> Prop} {s : Nat} {u : Value} (h : PutC W0 D s u W) (hs : 0 < s) : ∃ v, u = .tuple #[v, .int .i64 0] /\ D v W := by
 unfold PutC at h
 rw [if_neg (by omega)] at h
 exact h
def DropC (W0 : World) (H : World -> Prop) (s : Nat) (W : World) : Prop := if s = 0 then W = W0 else H W
theorem putSmall_two {w : World} {x s l d : Nat} {E : En} {jp mp : Value} (y : It) (hb : Blk w x (enL d E jp (.pointer (some ⟨s, 0, none⟩)) (.pointer (some ⟨l, 0, none⟩)) mp) 104) (D : Value -> World -> Prop) (H : World -> World -> Prop)
  (hD : ∀ v W, D v W -> (∃ a c, v = .slice a 0 c) /\ Blk W x (enL d E jp (.pointer (some ⟨s, 0, none⟩)) (.pointer (some ⟨l, 0, none⟩)) mp) 104 /\ Blk W w.heap.size (itL y) 39)
  (cP : Calls Tryz.prog 110 #[.pointer (some ⟨s, 0, none⟩), .agg #[.string (txt y.key), .string (txt y.value), .int .u32 y.flags, .int .i64 y.exp, .int .u64 y.ver]] (w.alloc (.cells #[.string (txt y.key), .string (txt y.value), .int .u32 y.flags, .int .i64 y.exp, .int .u64 y.ver] 39)).drew fun e w' => ∃ v, e = .returned (.tuple #[v, .int .i64 0]) /\ D v w')
  (cD : ∀ v W, D v W -> Calls Tryz.prog 111 #[.pointer (some ⟨l, 0, none⟩), .string (txt y.key)] W.drew fun e w' => e = .returned (.tuple #[]) /\ H W w') :
  Calls Tryz.prog 53 #[.pointer (some ⟨x, 0, none⟩), .agg #[.string (txt y.key), .string (txt y.value), .int .u32 y.flags, .int .i64 y.exp, .int .u64 y.ver]] w fun e w' => e = .returned (.int .i64 0) /\ ∃ v W, D v W /\ H W w' := by
 have hbA := hb.same (w' := w.alloc (.cells #[.string (txt y.key), .string (txt y.value), .int .u32 y.flags, .int .i64 y.exp, .int .u64 y.ver] 39)) (blk_alloc_lt _ _ _ hb.lt)
 have C11 := hide (hbA.cell (i := 11) rfl)
 have HB : Hid (Blk (w.alloc (.cells #[.string (txt y.key), .string (txt y.value), .int .u32 y.flags, .int .i64 y.exp, .int .u64 y.ver] 39)) w.heap.size (itL y) 39) := Blk.new w _ 39
 have CP : Hid (∀ W', PutC ((w.alloc (.cells #[.string (txt y.key), .string (txt y.value), .int .u32 y.flags, .int .i64 y.exp, .int .u64 y.ver] 39)).drew) D 0 undef W' -> Calls Tryz.prog 110 #[.pointer (some ⟨s, 0, none⟩), .agg #[.string (txt y.key), .string (txt y.value), .int .u32 y.flags, .int .i64 y.exp, .int .u64 y.ver]] W' fun e w' => ∃ u, e = .returned u /\ PutC ((w.alloc (.cells #[.string (txt y.key), .string (txt y.value), .int .u32 y.flags, .int .i64 y.exp, .int .u64 y.ver] 39)).drew) D 1 u w') := fun W' hW => by
  cases (show W' = _ from hW)
  refine cP.mono ?_
  rintro e w' ⟨v, rfl, hv⟩
  exact ⟨_, rfl, v, rfl, hv⟩
 have HD := hide hD
 have CDD := hide cD
 clear hb hbA cP hD cD
 go_enter Tryz.func53, Tryz.ntmps53
 go_wp2_with fail
 obtain ⟨N, hN⟩ : ∃ N, w.heap.size = N := ⟨_, rfl⟩
 obtain ⟨WA, hWA⟩ : ∃ WA, w.alloc (.cells #[.string (txt y.key), .string (txt y.value), .int .u32 y.flags, .int .i64 y.exp, .int .u64 y.ver] 39) = WA := ⟨_, rfl⟩
 simp only [hN, hWA] at *
 refine wp_region_cx (by kernel_rfl) (by kernel_rfl) (fun u jx => ([.pointer (some ⟨x, 0, none⟩), .pointer (some ⟨x, 0, none⟩), .pointer (some ⟨x, 11, none⟩), .pointer (some ⟨s, 0, none⟩), .agg #[.string (txt y.key), .string (txt y.value), .int .u32 y.flags, .int .i64 y.exp, .int .u64 y.ver], u, u, tupV u 0, tupV u 1, tupV u 0, tupV u 1] : List Value).getD jx undef) 5 [5] [6, 7, 8, 9, 10] (by kernel_rfl) (by kernel_rfl) rfl (fun _ => rfl) (fun v v' jx h1 h2 => by match jx with | 0 => rfl | 1 => rfl | 2 => rfl | 3 => rfl | 4 => rfl | 5 => exact absurd rfl h2 | 6 => exact absurd (by decide) h1 | 7 => exact absurd (by decide) h1 | 8 => exact absurd (by decide) h1 | 9 => exact absurd (by decide) h1 | 10 => exact absurd (by decide) h1 | _ + 11 => rfl) (PutC (WA.drew) D) (rfl) ?_ ?_
 ·intro jx ox hi sx u w' ev hlm hks hdp hc hin hout hcst hfn
  have hltx : jx < 11 := by
   have := (Array.getElem?_eq_some_iff.1 hi).1
   simpa using this
  match jx, hltx with
  | 0, _ =>
   cases hi
   have e0 : ev (.tmp 0) = .pointer (some ⟨x, 0, none⟩) := hout 0
   refine .inl ⟨.pointer (some ⟨x, 0, none⟩), w', ?_, by show ite _ _ _; rw [if_neg (by decide), if_neg (by decide)]; exact ⟨rfl, hc⟩⟩
   simp [execOp, e0, hcst, go_sem]
  | 1, _ =>
   cases hi
   have e0 : ev (.tmp 9) = .pointer (some ⟨x, 0, none⟩) := hin 9 0 ⟨0, .data⟩
   refine .inl ⟨.pointer (some ⟨x, 0, none⟩), w', ?_, by show ite _ _ _; rw [if_neg (by decide), if_neg (by decide)]; exact ⟨rfl, hc⟩⟩
   simp [execOp, e0, hcst, go_sem]
  | 2, _ =>
   cases hi
   have e0 : ev (.tmp 10) = .pointer (some ⟨x, 0, none⟩) := hin 10 1 ⟨1, .data⟩
   refine .inl ⟨.pointer (some ⟨x, 11, none⟩), w', ?_, by show ite _ _ _; rw [if_neg (by decide), if_neg (by decide)]; exact ⟨rfl, hc⟩⟩
   simp [execOp, e0, hcst, go_sem]
  | 3, _ =>
   cases hi
   have e0 : ev (.tmp 11) = .pointer (some ⟨x, 11, none⟩) := hin 11 2 ⟨2, .data⟩
   refine .inl ⟨.pointer (some ⟨s, 0, none⟩), w', ?_, by show ite _ _ _; rw [if_neg (by decide), if_neg (by decide)]; exact ⟨rfl, hc⟩⟩
   have hl2 : sx <= 0 := Nat.le_trans hlm (Nat.le_of_eq (by kernel_rfl))
   have hs0 : sx = 0 := by omega
   subst hs0
   have hq : w'.cell? ⟨x, 11, none⟩ = some (.pointer (some ⟨s, 0, none⟩)) := by rw [show w' = _ from hc]; exact C11.out
   simp [execOp, e0, hq, hcst, go_sem]
  | 4, _ =>
   cases hi
   have e0 : ev (.tmp 3) = .pointer (some ⟨N, 0, none⟩) := hout 3
   refine .inl ⟨.agg #[.string (txt y.key), .string (txt y.value), .int .u32 y.flags, .int .i64 y.exp, .int .u64 y.ver], w', ?_, by show ite _ _ _; rw [if_neg (by decide), if_neg (by decide)]; exact ⟨rfl, hc⟩⟩
   have hl2 : sx <= 0 := Nat.le_trans hlm (Nat.le_of_eq (by kernel_rfl))
   have hs0 : sx = 0 := by omega
   subst hs0
   obtain ⟨y0, y1, y2, y3, y4, _⟩ := cells5 (show Blk w' N (itL y) 39 by rw [show w' = _ from hc]; exact HB.out)
   simp [execOp, e0, hcst, go_sem, *]
  | 5, _ =>
   cases hi
   have e0 : ev (.tmp 12) = .pointer (some ⟨s, 0, none⟩) := hin 12 3 ⟨3, .data⟩
   have e1 : ev (.tmp 13) = .agg #[.string (txt y.key), .string (txt y.value), .int .u32 y.flags, .int .i64 y.exp, .int .u64 y.ver] := hin 13 4 ⟨4, .data⟩
   have hsx : sx = 0 := hks 0 rfl
   subst hsx
   refine .inr (.inr ⟨110, #[.pointer (some ⟨s, 0, none⟩), .agg #[.string (txt y.key), .string (txt y.value), .int .u32 y.flags, .int .i64 y.exp, .int .u64 y.ver]], ?_, ?_⟩)
   ·have ef := hfn 110
    simp [execOp, resolve, invoke, ef, hcst, e0, e1, Result.andThen]
    exact enz110 _ _
   ·refine Calls.mono (P := Tryz.prog) (R := fun e w2 => ∃ v, e = .returned v /\ (PutC (WA.drew) D) 1 v w2) ?_ ?_
    ·exact CP.out w' hc
    ·rintro e w2 ⟨v, rfl, hv⟩
     exact ⟨v, rfl, by first | exact hv | (rw [if_pos rfl]; exact hv) | (show ite _ _ _; rw [if_pos rfl]; exact hv)⟩
  | 6, _ =>
   cases hi
   have e0 : ev (.tmp 14) = u := hin 14 5 ⟨5, .data⟩
   have hd : 0 < sx := hdp (by decide)
   refine .inl ⟨u, w', ?_, by show ite _ _ _; rw [if_neg (by decide), if_neg (by decide)]; exact ⟨rfl, hc⟩⟩
   simp [execOp, e0, hcst, go_sem]
  | 7, _ =>
   cases hi
   have e0 : ev (.tmp 8) = u := hin 8 6 ⟨6, .data⟩
   have hd : 0 < sx := hdp (by decide)
   refine .inl ⟨tupV u 0, w', ?_, by show ite _ _ _; rw [if_neg (by decide), if_neg (by decide)]; exact ⟨rfl, hc⟩⟩
   obtain ⟨v, rfl, _⟩ := PutC.pos hc hd
   simp [execOp, e0, hcst, go_sem, tupV]
  | 8, _ =>
   cases hi
   have e0 : ev (.tmp 8) = u := hin 8 6 ⟨6, .data⟩
   have hd : 0 < sx := hdp (by decide)
   refine .inl ⟨tupV u 1, w', ?_, by show ite _ _ _; rw [if_neg (by decide), if_neg (by decide)]; exact ⟨rfl, hc⟩⟩
   obtain ⟨v, rfl, _⟩ := PutC.pos hc hd
   simp [execOp, e0, hcst, go_sem, tupV]
  | 9, _ =>
   cases hi
   have e0 : ev (.tmp 15) = tupV u 0 := hin 15 7 ⟨7, .data⟩
   have hd : 0 < sx := hdp (by decide)
   refine .inl ⟨tupV u 0, w', ?_, by show ite _ _ _; rw [if_neg (by decide), if_neg (by decide)]; exact ⟨rfl, hc⟩⟩
   simp [execOp, e0, hcst, go_sem]
  | 10, _ =>
   cases hi
   have e0 : ev (.tmp 16) = tupV u 1 := hin 16 8 ⟨8, .data⟩
   have hd : 0 < sx := hdp (by decide)
   refine .inl ⟨tupV u 1, w', ?_, by show ite _ _ _; rw [if_neg (by decide), if_neg (by decide)]; exact ⟨rfl, hc⟩⟩
   simp [execOp, e0, hcst, go_sem]
 ·intro u w1 hc
  simp only [lexF, Act.put, List.setIfInBounds_toArray, List.set_cons_succ, List.set_cons_zero, List.getD_cons_succ, List.getD_cons_zero]
  obtain ⟨v, rfl, hv⟩ := PutC.pos hc (by decide)
  obtain ⟨⟨a, c, rfl⟩, hbx, hky⟩ := HD.out v w1 hv
  have C12 := hide (hbx.cell (i := 12) rfl)
  have CK := hide (hky.cell (i := 0) rfl)
  have HV := hide hv
  have CD : Hid (∀ W', DropC w1.drew (fun W => H w1 W) 0 W' -> Calls Tryz.prog 111 #[.pointer (some ⟨l, 0, none⟩), .string (txt y.key)] W' fun e w' => e = .returned (.tuple #[]) /\ DropC w1.drew (fun W => H w1 W) 1 w') := fun W' hW => by
   cases (show W' = _ from hW)
   exact (CDD.out _ _ HV.out)
  clear hbx hky hv HB C11 CP
  simp only [tupV]
  go_wp2_with fail
  refine wp_region_chain (by kernel_rfl) (by kernel_rfl) (fun jx => ([.pointer (some ⟨x, 0, none⟩), .pointer (some ⟨x, 0, none⟩), .pointer (some ⟨x, 12, none⟩), .pointer (some ⟨l, 0, none⟩), .pointer (some ⟨N, 0, none⟩), .string (txt y.key), .tuple #[]] : List Value).getD jx undef) [6] (by kernel_rfl) (DropC w1.drew (fun W => H w1 W)) (rfl) ?_ ?_
  ·intro jx ox hi sx w' ev hlm hks hc hin hout hcst hfn
   have hltx : jx < 7 := by
    have := (Array.getElem?_eq_some_iff.1 hi).1
    simpa using this
   match jx, hltx with
   | 0, _ =>
    cases hi
    have e0 : ev (.tmp 0) = .pointer (some ⟨x, 0, none⟩) := hout 0
    rw [if_neg (by decide)]
    refine .inl ⟨w', ?_, hc⟩
    simp [execOp, e0, hcst, go_sem]
   | 1, _ =>
    cases hi
    have e0 : ev (.tmp 31) = .pointer (some ⟨x, 0, none⟩) := hin 31 0 ⟨0, .data⟩
    rw [if_neg (by decide)]
    refine .inl ⟨w', ?_, hc⟩
    simp [execOp, e0, hcst, go_sem]
   | 2, _ =>
    cases hi
    have e0 : ev (.tmp 32) = .pointer (some ⟨x, 0, none⟩) := hin 32 1 ⟨1, .data⟩
    rw [if_neg (by decide)]
    refine .inl ⟨w', ?_, hc⟩
    simp [execOp, e0, hcst, go_sem]
   | 3, _ =>
    cases hi
    have e0 : ev (.tmp 33) = .pointer (some ⟨x, 12, none⟩) := hin 33 2 ⟨2, .data⟩
    rw [if_neg (by decide)]
    refine .inl ⟨w', ?_, hc⟩
    show _ = Result.ok (Next.value (.pointer (some ⟨l, 0, none⟩))) w'
    have hl2 : sx <= 0 := Nat.le_trans hlm (Nat.le_of_eq (by kernel_rfl))
    have hs0 : sx = 0 := by omega
    subst hs0
    have hq : w'.cell? ⟨x, 12, none⟩ = some (.pointer (some ⟨l, 0, none⟩)) := by rw [show w' = _ from hc]; exact C12.out
    simp [execOp, e0, hq, hcst, go_sem]
   | 4, _ =>
    cases hi
    have e0 : ev (.tmp 3) = .pointer (some ⟨N, 0, none⟩) := hout 3
    rw [if_neg (by decide)]
    refine .inl ⟨w', ?_, hc⟩
    simp [execOp, e0, hcst, go_sem]
   | 5, _ =>
    cases hi
    have e0 : ev (.tmp 35) = .pointer (some ⟨N, 0, none⟩) := hin 35 4 ⟨4, .data⟩
    rw [if_neg (by decide)]
    refine .inl ⟨w', ?_, hc⟩
    show _ = Result.ok (Next.value (.string (txt y.key))) w'
    have hl2 : sx <= 0 := Nat.le_trans hlm (Nat.le_of_eq (by kernel_rfl))
    have hs0 : sx = 0 := by omega
    subst hs0
    have hq : w'.cell? ⟨N, 0, none⟩ = some (.string (txt y.key)) := by rw [show w' = _ from hc]; exact CK.out
    simp [execOp, e0, hq, hcst, go_sem]
   | 6, _ =>
    cases hi
    have e0 : ev (.tmp 34) = .pointer (some ⟨l, 0, none⟩) := hin 34 3 ⟨3, .data⟩
    have e1 : ev (.tmp 36) = .string (txt y.key) := hin 36 5 ⟨5, .data⟩
    rw [if_pos (by decide)]
    have hsx : sx = 0 := hks 0 rfl
    subst hsx
    refine .inr (.inr ⟨111, #[.pointer (some ⟨l, 0, none⟩), .string (txt y.key)], ?_, ?_⟩)
    ·have ef := hfn 111
     simp [execOp, resolve, invoke, ef, hcst, e0, e1, Result.andThen]
     exact enz111 _ _
    ·exact CD.out w' hc
  ·intro w2 hc
   simp only [lexF, Act.put, List.setIfInBounds_toArray, List.set_cons_succ, List.set_cons_zero, List.getD_cons_succ, List.getD_cons_zero]
   have hH : H w1 w2 := hc
   have HH := hide hH
   clear hH CD C12 CK CDD HD
   go_wp2
   go_ret
   exact ⟨rfl, _, w1, HV.out, HH.out⟩
section
variable {w0 w w' : World} {x d : Nat} {E : En} {j m nj : Nat} {J : Jr} {s first n : Nat} {S S' : Dv} {f : Nat -> List It} {bs : List (List Bool)} {G G' : List Nat} {l ml : Nat} {v5 v6 v7 : Value} {T : Lg}
theorem ml_mem : ml ∈ lblocks l ml v5 v6 v7 T := by simp [lblocks, lfoot]
theorem EnAt.turn (h : EnAt w0 w x d E j m nj J s first n S f bs G l ml v5 v6 v7 T) {f' : Nat -> List It} {bs' : List (List Bool)} (hb : Bu w0 w' d s first n S' f' bs' G') (k : Moves G G' w w') : EnAt w0 w' x d E j m nj J s first n S' f' bs' G' l ml v5 v6 v7 T := by
 have far : ∀ q, q < w.heap.size -> q ∉ G -> q ∉ G' := fun q hq hg hg' => by
  rcases k.foot q hg' with h1 | h1
  ·exact hg h1
  ·omega
 exact ⟨h.box.same (k.keep.block _ h.box.lt h.xG), h.jr.keep k.keep h.jG h.mG, hb, h.lg.same (fun q hq => k.keep.block q (h.lg.lt q hq) (h.lG q hq)), far x h.box.lt h.xG, far j h.jr.blk.lt h.jG, far m h.jr.mlt h.mG, fun q hq => far q (h.lg.lt q hq) (h.lG q hq), h.low, h.xL, h.jL, h.mL, h.xm⟩
theorem EnAt.dropped (h : EnAt w0 w x d E j m nj J s first n S f bs G l ml v5 v6 v7 T) (k : Keep [ml] w w') (key : List UInt8) (hL : LgIn w' l d ml v5 v6 v7 (T.drop key)) (hmm : m ≠ ml) (hlow : w0.heap.size <= ml) : EnAt w0 w' x d E j m nj J s first n S f bs G l ml v5 v6 v7 (T.drop key) :=
 ⟨h.box.same (k.block _ h.box.lt (by simpa using h.lg.notM h.box)), h.jr.keep k (by simpa using h.lg.notM h.jr.blk) (by simpa using hmm), h.bu.keep k (fun q hq => by
  rw [List.mem_singleton.1 hq]
  exact ⟨h.lG ml ml_mem, hlow⟩), hL, h.xG, h.jG, h.mG, fun q hq => h.lG q hq, h.low, h.xL, h.jL, h.mL, h.xm⟩
def PutSm (w : World) (w0 : World) (x d : Nat) (E : En) (j m nj : Nat) (J : Jr) (s first n : Nat) (S : Dv) (f : Nat -> List It) (bs : List (List Bool)) (G : List Nat) (l ml : Nat) (v5 v6 v7 : Value) (T : Lg) (y : It) (w' : World) : Prop :=
 ∃ S' bs' G', EnAt w0 w' x d E j m nj J s first n S' (putF n f y) bs' G' l ml v5 v6 v7 (T.drop y.key) /\ (∀ lb, bs[bkt y.key n]? = some lb -> bs' = bs.set (bkt y.key n) (keyB lb y)) /\ S'.losses = S.losses /\ Dv.far first n S S' /\ Keep (ml :: G) w w' /\ ∀ q ∈ G', q ∈ G \/ w.heap.size <= q
theorem putSmall_few (h : EnAt w0 w x d E j m nj J s first n S f bs G l ml v5 v6 v7 T) (y : It) (hyf : y.fits) (hyg : y.good = true) (hys : y.size <= 120) (hout : outL n f y = []) (hmm : m ≠ ml) (hlow : w0.heap.size <= ml) (hk : y.key.length <= 140737488351232) :
  Calls Tryz.prog 53 #[.pointer (some ⟨x, 0, none⟩), .agg #[.string (txt y.key), .string (txt y.value), .int .u32 y.flags, .int .i64 y.exp, .int .u64 y.ver]] w fun e w' => e = .returned (.int .i64 0) /\ PutSm w w0 x d E j m nj J s first n S f bs G l ml v5 v6 v7 T y w' := by
 have BA : Below w.heap.size w (w.alloc (.cells #[.string (txt y.key), .string (txt y.value), .int .u32 y.flags, .int .i64 y.exp, .int .u64 y.ver] 39)).drew := by
  have b := (Below.refl w.heap.size w).alloc (Nat.le_refl _) (.cells #[.string (txt y.key), .string (txt y.value), .int .u32 y.flags, .int .i64 y.exp, .int .u64 y.ver] 39)
  exact ⟨b.os, b.tape, b.output, b.size, b.block⟩
 have hA := h.below BA
 have hsz : (w.alloc (.cells #[.string (txt y.key), .string (txt y.value), .int .u32 y.flags, .int .i64 y.exp, .int .u64 y.ver] 39)).drew.heap.size = w.heap.size + 1 := nblk_alloc _ _
 have hNB : Blk (w.alloc (.cells #[.string (txt y.key), .string (txt y.value), .int .u32 y.flags, .int .i64 y.exp, .int .u64 y.ver] 39)).drew w.heap.size (itL y) 39 := (Blk.new w (itL y) 39)
 have hNG : w.heap.size ∉ G := fun hq => by have := (h.bu.lt _ hq).1; omega
 have cP := bu_put hA.bu y hyf hyg hys
 rw [hout] at cP
 refine (putSmall_two y h.box (fun v W => Row W (w.alloc (.cells #[.string (txt y.key), .string (txt y.value), .int .u32 y.flags, .int .i64 y.exp, .int .u64 y.ver] 39)).drew.heap.size v [] /\ ∃ S' bs' G', Bu w0 W d s first n S' (putF n f y) bs' G' /\ (∀ lb, bs[bkt y.key n]? = some lb -> bs' = bs.set (bkt y.key n) (keyB lb y)) /\ Moves G G' (w.alloc (.cells #[.string (txt y.key), .string (txt y.value), .int .u32 y.flags, .int .i64 y.exp, .int .u64 y.ver] 39)).drew W /\ S'.losses = S.losses /\ Dv.far first n S S') (fun W w' => LgIn w' l d ml v5 v6 v7 (T.drop y.key) /\ Keep [ml] W w') ?_ ?_ ?_).mono ?_
 ·rintro v W ⟨hr, S', bs', G', hb, hbs, hmv, hl, hc⟩
  refine ⟨?_, hA.box.same (hmv.keep.block _ hA.box.lt hA.xG), hNB.same (hmv.keep.block _ (by rw [hsz]; omega) hNG)⟩
  obtain ⟨a, c, e⟩ := hr.sl
  exact ⟨a, c, e⟩
 ·exact cP
 ·rintro v W ⟨hr, S', bs', G', hb, hbs, hmv, hl, hc⟩
  have hW := hA.turn hb hmv
  refine (drop_log (w := W.drew) (hW.lg.heap rfl) y.key hk).mono ?_
  rintro e w' ⟨rfl, hL, hK⟩
  exact ⟨rfl, hL, ⟨hK.os, hK.tape, hK.output, hK.size, hK.block⟩⟩
 ·rintro e w' ⟨rfl, v, W, ⟨hr, S', bs', G', hb, hbs, hmv, hl, hc⟩, hL, hK⟩
  have hW := hA.turn hb hmv
  refine ⟨rfl, S', bs', G', hW.dropped hK y.key hL hmm hlow, hbs, hl, hc, ?_, ?_⟩
  ·have k1 : Keep (ml :: G) w (w.alloc (.cells #[.string (txt y.key), .string (txt y.value), .int .u32 y.flags, .int .i64 y.exp, .int .u64 y.ver] 39)).drew := Keep.of_below BA
   have k2 := k1.trans hmv.keep (fun q hq => .inl (List.mem_cons_of_mem _ hq))
   exact k2.trans hK (fun q hq => .inl (by rw [List.mem_singleton.1 hq]; exact List.mem_cons_self ..))
  ·intro q hq
   rcases hmv.foot q hq with h1 | h1
   ·exact .inl h1
   ·rw [hsz] at h1; exact .inr (by omega)
end
section
variable {w : World} {x : Nat}
theorem eput_bad (y : It) (hg : y.good = false) :
  Calls Tryz.prog 13 #[.pointer (some ⟨x, 0, none⟩), .agg #[.string (txt y.key), .string (txt y.value), .int .u32 y.flags, .int .i64 y.exp, .int .u64 y.ver]] w fun e w' => e = .returned (.int .i64 1) /\ Below w.heap.size w w' := by
 have cG := good_it y (w.alloc (.cells #[.string (txt y.key), .string (txt y.value), .int .u32 y.flags, .int .i64 y.exp, .int .u64 y.ver] 39))
 rw [hg] at cG
 have CG := hide cG
 have B := hide ((Below.refl w.heap.size w).alloc (Nat.le_refl _) (.cells #[.string (txt y.key), .string (txt y.value), .int .u32 y.flags, .int .i64 y.exp, .int .u64 y.ver] 39))
 clear cG hg
 go_enter Tryz.func13, Tryz.ntmps13
 go_wp2_with fail
 refine CG.out.mono ?_
 rintro r w1 ⟨rfl, b1⟩
 have B1 : Hid (Below w.heap.size w w1) := B.out.trans (b1.mono (by rw [nblk_alloc]; omega))
 clear b1 CG B
 go_wp2
 go_ret
 exact ⟨rfl, B1.out⟩
theorem eput_go (y : It) (hg : y.good = true) (hk : y.key.length <= 140737488351232) (hv : y.value.length <= 140737488351232) (hs : y.size <= 1472) (R : Value -> World -> Prop) (c : ∀ W, Below w.heap.size w W -> Calls Tryz.prog (if 120 < y.size then 52 else 53) #[.pointer (some ⟨x, 0, none⟩), .agg #[.string (txt y.key), .string (txt y.value), .int .u32 y.flags, .int .i64 y.exp, .int .u64 y.ver]] W fun e w' => ∃ v, e = .returned v /\ R v w') :
  Calls Tryz.prog 13 #[.pointer (some ⟨x, 0, none⟩), .agg #[.string (txt y.key), .string (txt y.value), .int .u32 y.flags, .int .i64 y.exp, .int .u64 y.ver]] w fun e w' => ∃ v, e = .returned v /\ R v w' := by
 have cG := good_it y (w.alloc (.cells #[.string (txt y.key), .string (txt y.value), .int .u32 y.flags, .int .i64 y.exp, .int .u64 y.ver] 39))
 rw [hg] at cG
 have CG := hide cG
 have CS := hide (fun W => size_it y hk hv W)
 have B := hide ((Below.refl w.heap.size w).alloc (Nat.le_refl _) (.cells #[.string (txt y.key), .string (txt y.value), .int .u32 y.flags, .int .i64 y.exp, .int .u64 y.ver] 39))
 have HB : Hid (Blk (w.alloc (.cells #[.string (txt y.key), .string (txt y.value), .int .u32 y.flags, .int .i64 y.exp, .int .u64 y.ver] 39)) w.heap.size (itL y) 39) := Blk.new w _ 39
 have e1 : ((1472 : Int) < (y.size : Int)) = False := eq_false (by omega)
 have CC := hide c
 clear cG hg hk hv hs c
 go_enter Tryz.func13, Tryz.ntmps13
 go_wp2_with fail
 refine CG.out.mono ?_
 rintro r w1 ⟨rfl, b1⟩
 have hB1 : Blk w1 w.heap.size (itL y) 39 := HB.out.same (b1.block _ HB.out.lt)
 have B1 : Hid (Below w.heap.size w w1) := B.out.trans (b1.mono (by rw [nblk_alloc]; omega))
 have HB1 := hide hB1
 obtain ⟨p0, p1, p2, p3, p4, _⟩ := cells5 hB1
 clear b1 CG B HB hB1
 go_wp2_with fail
 refine (CS.out w1).mono ?_
 rintro r w2 ⟨rfl, b2⟩
 have hB2 : Blk w2 w.heap.size (itL y) 39 := HB1.out.same (b2.block _ HB1.out.lt)
 have B2 : Hid (Below w.heap.size w w2) := B1.out.trans (b2.mono B1.out.size)
 have HB2 := hide hB2
 clear b2 B1 p0 p1 p2 p3 p4 HB1
 obtain ⟨p0, p1, p2, p3, p4, _⟩ := cells5 hB2
 clear hB2
 have HS : Hid (∃ sz, y.size = sz) := ⟨_, rfl⟩
 go_wp2_with fail
 refine (CS.out w2).mono ?_
 rintro r w3 ⟨rfl, b3⟩
 have hB3 : Blk w3 w.heap.size (itL y) 39 := HB2.out.same (b3.block _ HB2.out.lt)
 have B3 : Hid (Below w.heap.size w w3) := B2.out.trans (b3.mono B2.out.size)
 clear b3 B2 p0 p1 p2 p3 p4 HB2 CS
 obtain ⟨p0, p1, p2, p3, p4, _⟩ := cells5 hB3
 clear hB3
 by_cases hq : 120 < y.size
 ·have e2 : ((120 : Int) < (y.size : Int)) = True := eq_true (by omega)
  have C3 := CC.out w3 B3.out
  rw [if_pos hq] at C3
  have HC3 := hide C3
  clear CC C3 hq
  go_wp2_with fail
  refine HC3.out.mono ?_
  rintro r w4 ⟨v, rfl, hR⟩
  have HR := hide hR
  clear hR
  go_wp2
  exact bodyPost_ret (v := v) (by simp [results, Tryz.results13, go_sem]) rfl ⟨v, rfl, HR.out⟩
 ·have e2 : ((120 : Int) < (y.size : Int)) = False := eq_false (by omega)
  have C3 := CC.out w3 B3.out
  rw [if_neg hq] at C3
  have HC3 := hide C3
  clear CC C3 hq
  go_wp2_with fail
  refine HC3.out.mono ?_
  rintro r w4 ⟨v, rfl, hR⟩
  have HR := hide hR
  clear hR
  go_wp2
  exact bodyPost_ret (v := v) (by simp [results, Tryz.results13, go_sem]) rfl ⟨v, rfl, HR.out⟩
end
section
variable {w : World} {x d l : Nat} {F : List Nat} {S : Dv} {E : En} {jp sp mp : Value}
theorem settle_two (hb : Blk w x (enL d E jp sp (.pointer (some ⟨l, 0, none⟩)) mp) 104) (h : DvAt w d F S) (hl : S.losses = E.losses) (D : World -> Prop) (H : World -> Int -> World -> Prop)
  (cS : ∀ q, Calls Tryz.prog 81 #[.pointer (some ⟨l, 0, none⟩)] (w.drewN q) fun e w' => ∃ v, e = .returned (.tuple #[v, .int .i64 0]) /\ D w')
  (hD : ∀ W, D W -> Blk W x (enL d E jp sp (.pointer (some ⟨l, 0, none⟩)) mp) 104)
  (cF : ∀ W, D W -> Calls Tryz.prog 83 #[.pointer (some ⟨d, 0, none⟩)] W fun e w' => ∃ er, e = .returned (.int .i64 er) /\ H W er w') :
  Calls Tryz.prog 30 #[.pointer (some ⟨x, 0, none⟩)] w fun e w' => ∃ er W, e = .returned (.int .i64 er) /\ D W /\ H W er w' := by
 have cD := hide (done_any hb h)
 have hne : (S.losses != E.losses) = false := by simpa using hl
 have c12 : ∀ q, (w.drewN q).cell? ⟨x, 12, none⟩ = some (.pointer (some ⟨l, 0, none⟩)) := fun q => (hb.same (w' := w.drewN q) rfl).cell (i := 12) rfl
 have C12 := hide c12
 have CS := hide cS
 have CF := hide cF
 have HD := hide hD
 clear hb h hl c12 cS cF hD
 go_enter Tryz.func30, Tryz.ntmps30
 go_wp2_with fail
 refine cD.out.mono ?_
 rintro r w1 ⟨rfl, q, rfl⟩
 rw [hne]
 have c12 := C12.out q
 have cS := hide (CS.out q)
 clear cD CS C12
 generalize w.drewN q = W0 at *
 go_wp2_with fail
 refine cS.out.mono ?_
 rintro r w2 ⟨v, rfl, hd⟩
 have c0 := (HD.out w2 hd).cell (i := 0) rfl
 have cF := hide (CF.out w2 hd)
 have HDD := hide hd
 clear hd HD CF cS c12
 go_wp2_with fail
 refine cF.out.mono ?_
 rintro r w3 ⟨er, rfl, hH⟩
 have HH := hide hH
 clear hH cF c0
 go_wp2
 exact bodyPost_ret (v := .int .i64 er) (by simp [results, Tryz.results30, go_sem]) rfl ⟨er, w2, rfl, HDD.out, HH.out⟩
end
theorem enz85 (args : Array Value) (w : World) : (callFunc 85 args).run Tryz.prog w = .ok (.enter 85 args) w := enters_of Tryz.func85 (by kernel_rfl) rfl args w
theorem enz108 (args : Array Value) (w : World) : (callFunc 108 args).run Tryz.prog w = .ok (.enter 108 args) w := enters_of Tryz.func108 (by kernel_rfl) rfl args w
theorem enz109 (args : Array Value) (w : World) : (callFunc 109 args).run Tryz.prog w = .ok (.enter 109 args) w := enters_of Tryz.func109 (by kernel_rfl) rfl args w
def DelC (W0 : World) (H : World -> Prop) (s : Nat) (u : Value) (W : World) : Prop := if s = 0 then W = W0 else (u = .int .i64 0 \/ u = .int .i64 5) /\ H W
theorem DelC.pos {W0 W : World} {H : World -> Prop} {s : Nat} {u : Value} (h : DelC W0 H s u W) (hs : 0 < s) : (u = .int .i64 0 \/ u = .int .i64 5) /\ H W := by
 unfold DelC at h
 rw [if_neg (by omega)] at h
 exact h
theorem putGreat_two {w : World} {x s l d : Nat} {F : List Nat} {S : Dv} {E : En} {jp mp : Value} (y : It) (mb : Bool) (hb : Blk w x (enL d E jp (.pointer (some ⟨s, 0, none⟩)) (.pointer (some ⟨l, 0, none⟩)) mp) 104) (hl : S.losses = E.losses)
  (DM : World -> Prop) (DP : Value -> World -> Prop) (H : World -> World -> Prop)
  (cM : Calls Tryz.prog 85 #[.pointer (some ⟨s, 0, none⟩), .string (txt y.key)] (w.alloc (.cells #[.string (txt y.key), .string (txt y.value), .int .u32 y.flags, .int .i64 y.exp, .int .u64 y.ver] 39)).drew fun e w' => e = .returned (.bool mb) /\ DM w')
  (hM : ∀ W, DM W -> DvAt W d F S /\ Blk W x (enL d E jp (.pointer (some ⟨s, 0, none⟩)) (.pointer (some ⟨l, 0, none⟩)) mp) 104 /\ Blk W w.heap.size (itL y) 39)
  (cP : ∀ W q, DM W -> Calls Tryz.prog 108 #[.pointer (some ⟨l, 0, none⟩), .agg #[.string (txt y.key), .string (txt y.value), .int .u32 y.flags, .int .i64 y.exp, .int .u64 y.ver]] (W.drewN q) fun e w' => ∃ v, e = .returned (.tuple #[v, .int .i64 0]) /\ DP v w')
  (hP : ∀ v W, DP v W -> Blk W x (enL d E jp (.pointer (some ⟨s, 0, none⟩)) (.pointer (some ⟨l, 0, none⟩)) mp) 104 /\ Blk W w.heap.size (itL y) 39)
  (cD : ∀ v W, DP v W -> mb = true -> Calls Tryz.prog 109 #[.pointer (some ⟨s, 0, none⟩), .string (txt y.key)] W.drew fun e w' => ∃ u, e = .returned u /\ (u = .int .i64 0 \/ u = .int .i64 5) /\ H W w') :
  Calls Tryz.prog 52 #[.pointer (some ⟨x, 0, none⟩), .agg #[.string (txt y.key), .string (txt y.value), .int .u32 y.flags, .int .i64 y.exp, .int .u64 y.ver]] w fun e w' => e = .returned (.int .i64 0) /\ ∃ v W, DP v W /\ if mb = true then H W w' else w' = W := by
 have hbA := hb.same (w' := w.alloc (.cells #[.string (txt y.key), .string (txt y.value), .int .u32 y.flags, .int .i64 y.exp, .int .u64 y.ver] 39)) (blk_alloc_lt _ _ _ hb.lt)
 have C11 := hide (hbA.cell (i := 11) rfl)
 have hBN : Blk (w.alloc (.cells #[.string (txt y.key), .string (txt y.value), .int .u32 y.flags, .int .i64 y.exp, .int .u64 y.ver] 39)) w.heap.size (itL y) 39 := Blk.new w _ 39
 have CK := hide (hBN.cell (i := 0) rfl)
 have CM : Hid (∀ W', DropC ((w.alloc (.cells #[.string (txt y.key), .string (txt y.value), .int .u32 y.flags, .int .i64 y.exp, .int .u64 y.ver] 39)).drew) DM 0 W' -> Calls Tryz.prog 85 #[.pointer (some ⟨s, 0, none⟩), .string (txt y.key)] W' fun e w' => e = .returned (.bool mb) /\ DropC ((w.alloc (.cells #[.string (txt y.key), .string (txt y.value), .int .u32 y.flags, .int .i64 y.exp, .int .u64 y.ver] 39)).drew) DM 1 w') := fun W' hW => by
  cases (show W' = _ from hW)
  exact cM
 have hne : (S.losses != E.losses) = false := by simpa using hl
 have HM := hide hM
 have HP := hide hP
 have HCP := hide cP
 have HCD := hide cD
 clear hb hbA hBN cM hM cP hP cD hl
 go_enter Tryz.func52, Tryz.ntmps52
 go_wp2_with fail
 obtain ⟨N, hN⟩ : ∃ N, w.heap.size = N := ⟨_, rfl⟩
 obtain ⟨WA, hWA⟩ : ∃ WA, w.alloc (.cells #[.string (txt y.key), .string (txt y.value), .int .u32 y.flags, .int .i64 y.exp, .int .u64 y.ver] 39) = WA := ⟨_, rfl⟩
 simp only [hN, hWA] at *
 refine wp_region_chain (by kernel_rfl) (by kernel_rfl) (fun jx => ([.pointer (some ⟨x, 0, none⟩), .pointer (some ⟨x, 0, none⟩), .pointer (some ⟨x, 11, none⟩), .pointer (some ⟨s, 0, none⟩), .pointer (some ⟨N, 0, none⟩), .string (txt y.key), .bool mb, .bool mb] : List Value).getD jx undef) [6] (by kernel_rfl) (DropC WA.drew DM) (rfl) ?_ ?_
 ·intro jx ox hi sx w' ev hlm hks hc hin hout hcst hfn
  have hltx : jx < 8 := by
   have := (Array.getElem?_eq_some_iff.1 hi).1
   simpa using this
  match jx, hltx with
  | 0, _ =>
   cases hi
   have e0 : ev (.tmp 0) = .pointer (some ⟨x, 0, none⟩) := hout 0
   rw [if_neg (by decide)]
   refine .inl ⟨w', ?_, hc⟩
   simp [execOp, e0, hcst, go_sem]
  | 1, _ =>
   cases hi
   have e0 : ev (.tmp 9) = .pointer (some ⟨x, 0, none⟩) := hin 9 0 ⟨0, .data⟩
   rw [if_neg (by decide)]
   refine .inl ⟨w', ?_, hc⟩
   simp [execOp, e0, hcst, go_sem]
  | 2, _ =>
   cases hi
   have e0 : ev (.tmp 10) = .pointer (some ⟨x, 0, none⟩) := hin 10 1 ⟨1, .data⟩
   rw [if_neg (by decide)]
   refine .inl ⟨w', ?_, hc⟩
   simp [execOp, e0, hcst, go_sem]
  | 3, _ =>
   cases hi
   have e0 : ev (.tmp 11) = .pointer (some ⟨x, 11, none⟩) := hin 11 2 ⟨2, .data⟩
   rw [if_neg (by decide)]
   refine .inl ⟨w', ?_, hc⟩
   show _ = Result.ok (Next.value (.pointer (some ⟨s, 0, none⟩))) w'
   have hl2 : sx <= 0 := Nat.le_trans hlm (Nat.le_of_eq (by kernel_rfl))
   have hs0 : sx = 0 := by omega
   subst hs0
   have hq : w'.cell? ⟨x, 11, none⟩ = some (.pointer (some ⟨s, 0, none⟩)) := by rw [show w' = _ from hc]; exact C11.out
   simp [execOp, e0, hq, hcst, go_sem]
  | 4, _ =>
   cases hi
   have e0 : ev (.tmp 3) = .pointer (some ⟨N, 0, none⟩) := hout 3
   rw [if_neg (by decide)]
   refine .inl ⟨w', ?_, hc⟩
   simp [execOp, e0, hcst, go_sem]
  | 5, _ =>
   cases hi
   have e0 : ev (.tmp 13) = .pointer (some ⟨N, 0, none⟩) := hin 13 4 ⟨4, .data⟩
   rw [if_neg (by decide)]
   refine .inl ⟨w', ?_, hc⟩
   show _ = Result.ok (Next.value (.string (txt y.key))) w'
   have hl2 : sx <= 0 := Nat.le_trans hlm (Nat.le_of_eq (by kernel_rfl))
   have hs0 : sx = 0 := by omega
   subst hs0
   have hq : w'.cell? ⟨N, 0, none⟩ = some (.string (txt y.key)) := by rw [show w' = _ from hc]; exact CK.out
   simp [execOp, e0, hq, hcst, go_sem]
  | 6, _ =>
   cases hi
   have e0 : ev (.tmp 12) = .pointer (some ⟨s, 0, none⟩) := hin 12 3 ⟨3, .data⟩
   have e1 : ev (.tmp 14) = .string (txt y.key) := hin 14 5 ⟨5, .data⟩
   rw [if_pos (by decide)]
   have hsx : sx = 0 := hks 0 rfl
   subst hsx
   refine .inr (.inr ⟨85, #[.pointer (some ⟨s, 0, none⟩), .string (txt y.key)], ?_, ?_⟩)
   ·have ef := hfn 85
    simp [execOp, resolve, invoke, ef, hcst, e0, e1, Result.andThen]
    exact enz85 _ _
   ·exact CM.out w' hc
  | 7, _ =>
   cases hi
   have e0 : ev (.tmp 15) = .bool mb := hin 15 6 ⟨6, .data⟩
   rw [if_neg (by decide)]
   refine .inl ⟨w', ?_, hc⟩
   simp [execOp, e0, hcst, go_sem]
 ·intro w1 hc
  simp only [lexF, Act.put, List.setIfInBounds_toArray, List.set_cons_succ, List.set_cons_zero, List.getD_cons_succ, List.getD_cons_zero]
  have hdm : DM w1 := hc
  obtain ⟨hdv, hbx, hky⟩ := HM.out w1 hdm
  have HDM := hide hdm
  have HBX := hide hbx
  have HKY := hide hky
  have cDn := hide (done_any hbx hdv)
  clear hdm hdv hbx hky C11 CK CM HM
  cases mb with
  | false =>
   have C12 := hide (HBX.out.cell (i := 12) rfl)
   have HB2 := HKY
   have CP : Hid (∀ W', PutC w1.drew DP 0 undef W' -> Calls Tryz.prog 108 #[.pointer (some ⟨l, 0, none⟩), .agg #[.string (txt y.key), .string (txt y.value), .int .u32 y.flags, .int .i64 y.exp, .int .u64 y.ver]] W' fun e w' => ∃ u, e = .returned u /\ PutC w1.drew DP 1 u w') := fun W' hW => by
    cases (show W' = _ from hW)
    refine (HCP.out w1 1 HDM.out).mono ?_
    rintro e w' ⟨v, rfl, hv⟩
    exact ⟨_, rfl, v, rfl, hv⟩
   clear cDn HCP
   go_wp2_with fail
   refine wp_region_cx (by kernel_rfl) (by kernel_rfl) (fun u jx => ([.pointer (some ⟨x, 0, none⟩), .pointer (some ⟨x, 0, none⟩), .pointer (some ⟨x, 12, none⟩), .pointer (some ⟨l, 0, none⟩), .agg #[.string (txt y.key), .string (txt y.value), .int .u32 y.flags, .int .i64 y.exp, .int .u64 y.ver], u, u, tupV u 0, tupV u 1, tupV u 0, tupV u 1] : List Value).getD jx undef) 5 [5] [6, 7, 8, 9, 10] (by kernel_rfl) (by kernel_rfl) rfl (fun _ => rfl) (fun v v' jx h1 h2 => by match jx with | 0 => rfl | 1 => rfl | 2 => rfl | 3 => rfl | 4 => rfl | 5 => exact absurd rfl h2 | 6 => exact absurd (by decide) h1 | 7 => exact absurd (by decide) h1 | 8 => exact absurd (by decide) h1 | 9 => exact absurd (by decide) h1 | 10 => exact absurd (by decide) h1 | _ + 11 => rfl) (PutC w1.drew DP) (rfl) ?_ ?_
   ·intro jx ox hi sx u w' ev hlm hks hdp hc hin hout hcst hfn
    have hltx : jx < 11 := by
     have := (Array.getElem?_eq_some_iff.1 hi).1
     simpa using this
    match jx, hltx with
    | 0, _ =>
     cases hi
     have e0 : ev (.tmp 0) = .pointer (some ⟨x, 0, none⟩) := hout 0
     refine .inl ⟨.pointer (some ⟨x, 0, none⟩), w', ?_, by show ite _ _ _; rw [if_neg (by decide), if_neg (by decide)]; exact ⟨rfl, hc⟩⟩
     simp [execOp, e0, hcst, go_sem]
    | 1, _ =>
     cases hi
     have e0 : ev (.tmp 22) = .pointer (some ⟨x, 0, none⟩) := hin 22 0 ⟨0, .data⟩
     refine .inl ⟨.pointer (some ⟨x, 0, none⟩), w', ?_, by show ite _ _ _; rw [if_neg (by decide), if_neg (by decide)]; exact ⟨rfl, hc⟩⟩
     simp [execOp, e0, hcst, go_sem]
    | 2, _ =>
     cases hi
     have e0 : ev (.tmp 23) = .pointer (some ⟨x, 0, none⟩) := hin 23 1 ⟨1, .data⟩
     refine .inl ⟨.pointer (some ⟨x, 12, none⟩), w', ?_, by show ite _ _ _; rw [if_neg (by decide), if_neg (by decide)]; exact ⟨rfl, hc⟩⟩
     simp [execOp, e0, hcst, go_sem]
    | 3, _ =>
     cases hi
     have e0 : ev (.tmp 24) = .pointer (some ⟨x, 12, none⟩) := hin 24 2 ⟨2, .data⟩
     refine .inl ⟨.pointer (some ⟨l, 0, none⟩), w', ?_, by show ite _ _ _; rw [if_neg (by decide), if_neg (by decide)]; exact ⟨rfl, hc⟩⟩
     have hl2 : sx <= 0 := Nat.le_trans hlm (Nat.le_of_eq (by kernel_rfl))
     have hs0 : sx = 0 := by omega
     subst hs0
     have hq : w'.cell? ⟨x, 12, none⟩ = some (.pointer (some ⟨l, 0, none⟩)) := by rw [show w' = _ from hc]; exact C12.out
     simp [execOp, e0, hq, hcst, go_sem]
    | 4, _ =>
     cases hi
     have e0 : ev (.tmp 3) = .pointer (some ⟨N, 0, none⟩) := hout 3
     refine .inl ⟨.agg #[.string (txt y.key), .string (txt y.value), .int .u32 y.flags, .int .i64 y.exp, .int .u64 y.ver], w', ?_, by show ite _ _ _; rw [if_neg (by decide), if_neg (by decide)]; exact ⟨rfl, hc⟩⟩
     have hl2 : sx <= 0 := Nat.le_trans hlm (Nat.le_of_eq (by kernel_rfl))
     have hs0 : sx = 0 := by omega
     subst hs0
     obtain ⟨y0, y1, y2, y3, y4, _⟩ := cells5 (show Blk w' N (itL y) 39 by rw [show w' = _ from hc]; exact HB2.out)
     simp [execOp, e0, hcst, go_sem, *]
    | 5, _ =>
     cases hi
     have e0 : ev (.tmp 25) = .pointer (some ⟨l, 0, none⟩) := hin 25 3 ⟨3, .data⟩
     have e1 : ev (.tmp 26) = .agg #[.string (txt y.key), .string (txt y.value), .int .u32 y.flags, .int .i64 y.exp, .int .u64 y.ver] := hin 26 4 ⟨4, .data⟩
     have hsx : sx = 0 := hks 0 rfl
     subst hsx
     refine .inr (.inr ⟨108, #[.pointer (some ⟨l, 0, none⟩), .agg #[.string (txt y.key), .string (txt y.value), .int .u32 y.flags, .int .i64 y.exp, .int .u64 y.ver]], ?_, ?_⟩)
     ·have ef := hfn 108
      simp [execOp, resolve, invoke, ef, hcst, e0, e1, Result.andThen]
      exact enz108 _ _
     ·refine Calls.mono (P := Tryz.prog) (R := fun e w2 => ∃ v, e = .returned v /\ (PutC w1.drew DP) 1 v w2) ?_ ?_
      ·exact CP.out w' hc
      ·rintro e w2 ⟨v, rfl, hv⟩
       exact ⟨v, rfl, by first | exact hv | (rw [if_pos rfl]; exact hv) | (show ite _ _ _; rw [if_pos rfl]; exact hv)⟩
    | 6, _ =>
     cases hi
     have e0 : ev (.tmp 27) = u := hin 27 5 ⟨5, .data⟩
     have hd : 0 < sx := hdp (by decide)
     refine .inl ⟨u, w', ?_, by show ite _ _ _; rw [if_neg (by decide), if_neg (by decide)]; exact ⟨rfl, hc⟩⟩
     simp [execOp, e0, hcst, go_sem]
    | 7, _ =>
     cases hi
     have e0 : ev (.tmp 21) = u := hin 21 6 ⟨6, .data⟩
     have hd : 0 < sx := hdp (by decide)
     refine .inl ⟨tupV u 0, w', ?_, by show ite _ _ _; rw [if_neg (by decide), if_neg (by decide)]; exact ⟨rfl, hc⟩⟩
     obtain ⟨v, rfl, _⟩ := PutC.pos hc hd
     simp [execOp, e0, hcst, go_sem, tupV]
    | 8, _ =>
     cases hi
     have e0 : ev (.tmp 21) = u := hin 21 6 ⟨6, .data⟩
     have hd : 0 < sx := hdp (by decide)
     refine .inl ⟨tupV u 1, w', ?_, by show ite _ _ _; rw [if_neg (by decide), if_neg (by decide)]; exact ⟨rfl, hc⟩⟩
     obtain ⟨v, rfl, _⟩ := PutC.pos hc hd
     simp [execOp, e0, hcst, go_sem, tupV]
    | 9, _ =>
     cases hi
     have e0 : ev (.tmp 28) = tupV u 0 := hin 28 7 ⟨7, .data⟩
     have hd : 0 < sx := hdp (by decide)
     refine .inl ⟨tupV u 0, w', ?_, by show ite _ _ _; rw [if_neg (by decide), if_neg (by decide)]; exact ⟨rfl, hc⟩⟩
     simp [execOp, e0, hcst, go_sem]
    | 10, _ =>
     cases hi
     have e0 : ev (.tmp 29) = tupV u 1 := hin 29 8 ⟨8, .data⟩
     have hd : 0 < sx := hdp (by decide)
     refine .inl ⟨tupV u 1, w', ?_, by show ite _ _ _; rw [if_neg (by decide), if_neg (by decide)]; exact ⟨rfl, hc⟩⟩
     simp [execOp, e0, hcst, go_sem]
   ·intro u w3 hc
    simp only [lexF, Act.put, List.setIfInBounds_toArray, List.set_cons_succ, List.set_cons_zero, List.getD_cons_succ, List.getD_cons_zero]
    obtain ⟨v, rfl, hv⟩ := PutC.pos hc (by decide)
    have HV := hide hv
    clear hv HBX HKY HB2 C12 CP HP HCD HDM
    simp only [tupV]
    go_wp2
    go_ret
    exact ⟨rfl, v, HV.out⟩
  | true =>
   go_wp2_with fail
   refine cDn.out.mono ?_
   rintro r W2 ⟨rfl, q, hW2⟩
   rw [hne]
   have C12 : Hid (W2.cell? ⟨x, 12, none⟩ = _) := (HBX.out.same (w' := W2) (by rw [hW2]; rfl)).cell (i := 12) rfl
   have HB2 : Hid (Blk W2 N (itL y) 39) := HKY.out.same (by rw [hW2]; rfl)
   have CP : Hid (∀ W', PutC W2.drew DP 0 undef W' -> Calls Tryz.prog 108 #[.pointer (some ⟨l, 0, none⟩), .agg #[.string (txt y.key), .string (txt y.value), .int .u32 y.flags, .int .i64 y.exp, .int .u64 y.ver]] W' fun e w' => ∃ u, e = .returned u /\ PutC W2.drew DP 1 u w') := fun W' hW => by
    cases (show W' = _ from hW)
    rw [hW2]
    refine (HCP.out w1 (q + 1) HDM.out).mono ?_
    rintro e w' ⟨v, rfl, hv⟩
    exact ⟨_, rfl, v, rfl, hv⟩
   clear cDn HCP HBX HKY hW2
   go_wp2_with fail
   refine wp_region_cx (by kernel_rfl) (by kernel_rfl) (fun u jx => ([.pointer (some ⟨x, 0, none⟩), .pointer (some ⟨x, 0, none⟩), .pointer (some ⟨x, 12, none⟩), .pointer (some ⟨l, 0, none⟩), .agg #[.string (txt y.key), .string (txt y.value), .int .u32 y.flags, .int .i64 y.exp, .int .u64 y.ver], u, u, tupV u 0, tupV u 1, tupV u 0, tupV u 1] : List Value).getD jx undef) 5 [5] [6, 7, 8, 9, 10] (by kernel_rfl) (by kernel_rfl) rfl (fun _ => rfl) (fun v v' jx h1 h2 => by match jx with | 0 => rfl | 1 => rfl | 2 => rfl | 3 => rfl | 4 => rfl | 5 => exact absurd rfl h2 | 6 => exact absurd (by decide) h1 | 7 => exact absurd (by decide) h1 | 8 => exact absurd (by decide) h1 | 9 => exact absurd (by decide) h1 | 10 => exact absurd (by decide) h1 | _ + 11 => rfl) (PutC W2.drew DP) (rfl) ?_ ?_
   ·intro jx ox hi sx u w' ev hlm hks hdp hc hin hout hcst hfn
    have hltx : jx < 11 := by
     have := (Array.getElem?_eq_some_iff.1 hi).1
     simpa using this
    match jx, hltx with
    | 0, _ =>
     cases hi
     have e0 : ev (.tmp 0) = .pointer (some ⟨x, 0, none⟩) := hout 0
     refine .inl ⟨.pointer (some ⟨x, 0, none⟩), w', ?_, by show ite _ _ _; rw [if_neg (by decide), if_neg (by decide)]; exact ⟨rfl, hc⟩⟩
     simp [execOp, e0, hcst, go_sem]
    | 1, _ =>
     cases hi
     have e0 : ev (.tmp 22) = .pointer (some ⟨x, 0, none⟩) := hin 22 0 ⟨0, .data⟩
     refine .inl ⟨.pointer (some ⟨x, 0, none⟩), w', ?_, by show ite _ _ _; rw [if_neg (by decide), if_neg (by decide)]; exact ⟨rfl, hc⟩⟩
     simp [execOp, e0, hcst, go_sem]
    | 2, _ =>
     cases hi
     have e0 : ev (.tmp 23) = .pointer (some ⟨x, 0, none⟩) := hin 23 1 ⟨1, .data⟩
     refine .inl ⟨.pointer (some ⟨x, 12, none⟩), w', ?_, by show ite _ _ _; rw [if_neg (by decide), if_neg (by decide)]; exact ⟨rfl, hc⟩⟩
     simp [execOp, e0, hcst, go_sem]
    | 3, _ =>
     cases hi
     have e0 : ev (.tmp 24) = .pointer (some ⟨x, 12, none⟩) := hin 24 2 ⟨2, .data⟩
     refine .inl ⟨.pointer (some ⟨l, 0, none⟩), w', ?_, by show ite _ _ _; rw [if_neg (by decide), if_neg (by decide)]; exact ⟨rfl, hc⟩⟩
     have hl2 : sx <= 0 := Nat.le_trans hlm (Nat.le_of_eq (by kernel_rfl))
     have hs0 : sx = 0 := by omega
     subst hs0
     have hq : w'.cell? ⟨x, 12, none⟩ = some (.pointer (some ⟨l, 0, none⟩)) := by rw [show w' = _ from hc]; exact C12.out
     simp [execOp, e0, hq, hcst, go_sem]
    | 4, _ =>
     cases hi
     have e0 : ev (.tmp 3) = .pointer (some ⟨N, 0, none⟩) := hout 3
     refine .inl ⟨.agg #[.string (txt y.key), .string (txt y.value), .int .u32 y.flags, .int .i64 y.exp, .int .u64 y.ver], w', ?_, by show ite _ _ _; rw [if_neg (by decide), if_neg (by decide)]; exact ⟨rfl, hc⟩⟩
     have hl2 : sx <= 0 := Nat.le_trans hlm (Nat.le_of_eq (by kernel_rfl))
     have hs0 : sx = 0 := by omega
     subst hs0
     obtain ⟨y0, y1, y2, y3, y4, _⟩ := cells5 (show Blk w' N (itL y) 39 by rw [show w' = _ from hc]; exact HB2.out)
     simp [execOp, e0, hcst, go_sem, *]
    | 5, _ =>
     cases hi
     have e0 : ev (.tmp 25) = .pointer (some ⟨l, 0, none⟩) := hin 25 3 ⟨3, .data⟩
     have e1 : ev (.tmp 26) = .agg #[.string (txt y.key), .string (txt y.value), .int .u32 y.flags, .int .i64 y.exp, .int .u64 y.ver] := hin 26 4 ⟨4, .data⟩
     have hsx : sx = 0 := hks 0 rfl
     subst hsx
     refine .inr (.inr ⟨108, #[.pointer (some ⟨l, 0, none⟩), .agg #[.string (txt y.key), .string (txt y.value), .int .u32 y.flags, .int .i64 y.exp, .int .u64 y.ver]], ?_, ?_⟩)
     ·have ef := hfn 108
      simp [execOp, resolve, invoke, ef, hcst, e0, e1, Result.andThen]
      exact enz108 _ _
     ·refine Calls.mono (P := Tryz.prog) (R := fun e w2 => ∃ v, e = .returned v /\ (PutC W2.drew DP) 1 v w2) ?_ ?_
      ·exact CP.out w' hc
      ·rintro e w2 ⟨v, rfl, hv⟩
       exact ⟨v, rfl, by first | exact hv | (rw [if_pos rfl]; exact hv) | (show ite _ _ _; rw [if_pos rfl]; exact hv)⟩
    | 6, _ =>
     cases hi
     have e0 : ev (.tmp 27) = u := hin 27 5 ⟨5, .data⟩
     have hd : 0 < sx := hdp (by decide)
     refine .inl ⟨u, w', ?_, by show ite _ _ _; rw [if_neg (by decide), if_neg (by decide)]; exact ⟨rfl, hc⟩⟩
     simp [execOp, e0, hcst, go_sem]
    | 7, _ =>
     cases hi
     have e0 : ev (.tmp 21) = u := hin 21 6 ⟨6, .data⟩
     have hd : 0 < sx := hdp (by decide)
     refine .inl ⟨tupV u 0, w', ?_, by show ite _ _ _; rw [if_neg (by decide), if_neg (by decide)]; exact ⟨rfl, hc⟩⟩
     obtain ⟨v, rfl, _⟩ := PutC.pos hc hd
     simp [execOp, e0, hcst, go_sem, tupV]
    | 8, _ =>
     cases hi
     have e0 : ev (.tmp 21) = u := hin 21 6 ⟨6, .data⟩
     have hd : 0 < sx := hdp (by decide)
     refine .inl ⟨tupV u 1, w', ?_, by show ite _ _ _; rw [if_neg (by decide), if_neg (by decide)]; exact ⟨rfl, hc⟩⟩
     obtain ⟨v, rfl, _⟩ := PutC.pos hc hd
     simp [execOp, e0, hcst, go_sem, tupV]
    | 9, _ =>
     cases hi
     have e0 : ev (.tmp 28) = tupV u 0 := hin 28 7 ⟨7, .data⟩
     have hd : 0 < sx := hdp (by decide)
     refine .inl ⟨tupV u 0, w', ?_, by show ite _ _ _; rw [if_neg (by decide), if_neg (by decide)]; exact ⟨rfl, hc⟩⟩
     simp [execOp, e0, hcst, go_sem]
    | 10, _ =>
     cases hi
     have e0 : ev (.tmp 29) = tupV u 1 := hin 29 8 ⟨8, .data⟩
     have hd : 0 < sx := hdp (by decide)
     refine .inl ⟨tupV u 1, w', ?_, by show ite _ _ _; rw [if_neg (by decide), if_neg (by decide)]; exact ⟨rfl, hc⟩⟩
     simp [execOp, e0, hcst, go_sem]
   ·intro u w3 hc
    simp only [lexF, Act.put, List.setIfInBounds_toArray, List.set_cons_succ, List.set_cons_zero, List.getD_cons_succ, List.getD_cons_zero]
    obtain ⟨v, rfl, hv⟩ := PutC.pos hc (by decide)
    have HV := hide hv
    obtain ⟨hbx, hky⟩ := HP.out v w3 hv
    have C113 := hide (hbx.cell (i := 11) rfl)
    have CK3 := hide (hky.cell (i := 0) rfl)
    have CDR : Hid (∀ W', DelC w3.drew (H w3) 0 undef W' -> Calls Tryz.prog 109 #[.pointer (some ⟨s, 0, none⟩), .string (txt y.key)] W' fun e w' => ∃ u, e = .returned u /\ DelC w3.drew (H w3) 1 u w') := fun W' hW => by
     cases (show W' = _ from hW)
     exact HCD.out v w3 HV.out (by first | rfl | trivial)
    clear hv hbx hky HB2 C12 CP HP HCD HDM
    simp only [tupV]
    go_wp2_with fail
    refine wp_region_cx (by kernel_rfl) (by kernel_rfl) (fun u jx => ([.pointer (some ⟨x, 0, none⟩), .pointer (some ⟨x, 0, none⟩), .pointer (some ⟨x, 11, none⟩), .pointer (some ⟨s, 0, none⟩), .pointer (some ⟨N, 0, none⟩), .string (txt y.key), u, u] : List Value).getD jx undef) 6 [6] [7] (by kernel_rfl) (by kernel_rfl) rfl (fun _ => rfl) (fun v v' jx h1 h2 => by match jx with | 0 => rfl | 1 => rfl | 2 => rfl | 3 => rfl | 4 => rfl | 5 => rfl | 6 => exact absurd rfl h2 | 7 => exact absurd (by decide) h1 | _ + 8 => rfl) (DelC w3.drew (H w3)) (rfl) ?_ ?_
    ·intro jx ox hi sx u w' ev hlm hks hdp hc hin hout hcst hfn
     have hltx : jx < 8 := by
      have := (Array.getElem?_eq_some_iff.1 hi).1
      simpa using this
     match jx, hltx with
     | 0, _ =>
      cases hi
      have e0 : ev (.tmp 0) = .pointer (some ⟨x, 0, none⟩) := hout 0
      refine .inl ⟨.pointer (some ⟨x, 0, none⟩), w', ?_, by show ite _ _ _; rw [if_neg (by decide), if_neg (by decide)]; exact ⟨rfl, hc⟩⟩
      simp [execOp, e0, hcst, go_sem]
     | 1, _ =>
      cases hi
      have e0 : ev (.tmp 38) = .pointer (some ⟨x, 0, none⟩) := hin 38 0 ⟨0, .data⟩
      refine .inl ⟨.pointer (some ⟨x, 0, none⟩), w', ?_, by show ite _ _ _; rw [if_neg (by decide), if_neg (by decide)]; exact ⟨rfl, hc⟩⟩
      simp [execOp, e0, hcst, go_sem]
     | 2, _ =>
      cases hi
      have e0 : ev (.tmp 39) = .pointer (some ⟨x, 0, none⟩) := hin 39 1 ⟨1, .data⟩
      refine .inl ⟨.pointer (some ⟨x, 11, none⟩), w', ?_, by show ite _ _ _; rw [if_neg (by decide), if_neg (by decide)]; exact ⟨rfl, hc⟩⟩
      simp [execOp, e0, hcst, go_sem]
     | 3, _ =>
      cases hi
      have e0 : ev (.tmp 40) = .pointer (some ⟨x, 11, none⟩) := hin 40 2 ⟨2, .data⟩
      refine .inl ⟨.pointer (some ⟨s, 0, none⟩), w', ?_, by show ite _ _ _; rw [if_neg (by decide), if_neg (by decide)]; exact ⟨rfl, hc⟩⟩
      have hl2 : sx <= 0 := Nat.le_trans hlm (Nat.le_of_eq (by kernel_rfl))
      have hs0 : sx = 0 := by omega
      subst hs0
      have hq : w'.cell? ⟨x, 11, none⟩ = some (.pointer (some ⟨s, 0, none⟩)) := by rw [show w' = _ from hc]; exact C113.out
      simp [execOp, e0, hq, hcst, go_sem]
     | 4, _ =>
      cases hi
      have e0 : ev (.tmp 3) = .pointer (some ⟨N, 0, none⟩) := hout 3
      refine .inl ⟨.pointer (some ⟨N, 0, none⟩), w', ?_, by show ite _ _ _; rw [if_neg (by decide), if_neg (by decide)]; exact ⟨rfl, hc⟩⟩
      simp [execOp, e0, hcst, go_sem]
     | 5, _ =>
      cases hi
      have e0 : ev (.tmp 42) = .pointer (some ⟨N, 0, none⟩) := hin 42 4 ⟨4, .data⟩
      refine .inl ⟨.string (txt y.key), w', ?_, by show ite _ _ _; rw [if_neg (by decide), if_neg (by decide)]; exact ⟨rfl, hc⟩⟩
      have hl2 : sx <= 0 := Nat.le_trans hlm (Nat.le_of_eq (by kernel_rfl))
      have hs0 : sx = 0 := by omega
      subst hs0
      have hq : w'.cell? ⟨N, 0, none⟩ = some (.string (txt y.key)) := by rw [show w' = _ from hc]; exact CK3.out
      simp [execOp, e0, hq, hcst, go_sem]
     | 6, _ =>
      cases hi
      have e0 : ev (.tmp 41) = .pointer (some ⟨s, 0, none⟩) := hin 41 3 ⟨3, .data⟩
      have e1 : ev (.tmp 43) = .string (txt y.key) := hin 43 5 ⟨5, .data⟩
      have hsx : sx = 0 := hks 0 rfl
      subst hsx
      refine .inr (.inr ⟨109, #[.pointer (some ⟨s, 0, none⟩), .string (txt y.key)], ?_, ?_⟩)
      ·have ef := hfn 109
       simp [execOp, resolve, invoke, ef, hcst, e0, e1, Result.andThen]
       exact enz109 _ _
      ·refine Calls.mono (P := Tryz.prog) (R := fun e w2 => ∃ v, e = .returned v /\ (DelC w3.drew (H w3)) 1 v w2) ?_ ?_
       ·exact CDR.out w' hc
       ·rintro e w2 ⟨v, rfl, hv⟩
        exact ⟨v, rfl, by first | exact hv | (rw [if_pos rfl]; exact hv) | (show ite _ _ _; rw [if_pos rfl]; exact hv)⟩
     | 7, _ =>
      cases hi
      have e0 : ev (.tmp 44) = u := hin 44 6 ⟨6, .data⟩
      have hd : 0 < sx := hdp (by decide)
      refine .inl ⟨u, w', ?_, by show ite _ _ _; rw [if_neg (by decide), if_neg (by decide)]; exact ⟨rfl, hc⟩⟩
      simp [execOp, e0, hcst, go_sem]
    ·intro u w4 hc
     simp only [lexF, Act.put, List.setIfInBounds_toArray, List.set_cons_succ, List.set_cons_zero, List.getD_cons_succ, List.getD_cons_zero]
     obtain ⟨hu, hH⟩ := DelC.pos hc (by decide)
     have HH := hide hH
     clear hH CDR C113 CK3
     rcases hu with rfl | rfl
     ·go_wp2
      go_ret
      exact ⟨rfl, v, w3, HV.out, by simpa using HH.out⟩
     ·go_wp2
      go_ret
      exact ⟨rfl, v, w3, HV.out, by simpa using HH.out⟩
end Go.Proofs.YtcdghalnneilpaaGreat
