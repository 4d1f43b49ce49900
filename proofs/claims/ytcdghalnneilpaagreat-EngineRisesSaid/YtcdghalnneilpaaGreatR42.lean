/- Joined texts. -/
import Derived.Test.YtcdghalnneilpaaGreatR41
set_option linter.unusedVariables false
set_option linter.unusedSimpArgs false
set_option maxRecDepth 8000
set_option maxHeartbeats 8000000
namespace Go.Proofs.YtcdghalnneilpaaGreat
open Go.RowKit Go.Deep Math
section
variable {w0 W W' : World} {d s first n : Nat} {F F' : List Nat} {S S' : Dv} {M : SM} {f : Nat -> List It} {bs : List (List Bool)} {G G' : List Nat}
theorem its_flush {S S' : Dv} (h : S'.cs = S.cs.map Cl.flush) (k : Nat) : S'.its k = S.its k := by
 unfold Dv.its
 rw [h, List.getElem?_map]
 cases S.cs[k]? <;> rfl
theorem moves_app {F F' : List Nat} {W W' : World} (m : Moves F F' W W') (A : List Nat) : Moves (F ++ A) (F' ++ A) W W' :=
 ⟨m.keep.mono (fun k hk => .inl (List.mem_append.2 (.inl hk))), fun k hk => by
  rcases List.mem_append.1 hk with h | h
  ·rcases m.foot k h with h1 | h1
   ·exact .inl (List.mem_append.2 (.inl h1))
   ·exact .inr h1
  ·exact .inl (List.mem_append.2 (.inr h))⟩
theorem bu_flush (h : Bu w0 W d s first n S f bs G) :
  Calls Tryz.prog 83 #[.pointer (some ⟨d, 0, none⟩)] W fun e W' => e = .returned (.int .i64 0) /\ ∃ S' G', Bu w0 W' d s first n S' f bs G' /\ Moves G G' W W' /\ S'.losses = S.losses /\ Dv.far first n S S' /\ ∀ c ∈ S'.cs, c.last = none := by
 obtain ⟨F, M, h, rfl⟩ := h
 refine (flush_at d F S W h.bk.law.dev).mono ?_
 rintro e W' ⟨rfl, F', hd, m⟩
 have e1 : S.flushErr = 0 := by simp [Dv.flushErr, h.sure.gone]
 have e2 : S.flushDo = { S with cs := S.cs.map Cl.flush, fl := wrap64 (S.fl + 1) } := by
  unfold Dv.flushDo
  rw [h.sure.gone, h.sure.used]
  rfl
 rw [e2] at hd
 rw [e1]
 refine ⟨rfl, { S with cs := S.cs.map Cl.flush, fl := wrap64 (S.fl + 1) }, F' ++ M.foot s, ⟨F', M, ⟨h.bk.move hd m, ⟨h.sure.off, h.sure.armed⟩, h.len, h.n1, h.n2, ?_, ?_, h.bits, h.told⟩, rfl⟩, moves_app m _, rfl, ?_, ?_⟩
 ·show first + n <= (S.cs.map Cl.flush).length
  rw [List.length_map]; exact h.fit
 ·intro k hk
  rw [its_flush (S := S) rfl]
  exact h.its k hk
 ·exact ⟨by show (S.cs.map Cl.flush).length = _; rw [List.length_map], fun j _ => flush_get S.cs j⟩
 ·intro c hc
  have hc' : c ∈ S.cs.map Cl.flush := hc
  obtain ⟨c0, _, rfl⟩ := List.mem_map.1 hc'
  rfl
end
theorem putSmall_three {w : World} {x s l d : Nat} {E : En} {jp mp : Value} (y : It) (hb : Blk w x (enL d E jp (.pointer (some ⟨s, 0, none⟩)) (.pointer (some ⟨l, 0, none⟩)) mp) 104) (D : Value -> World -> Prop) (D2 : World -> World -> Prop) (H : World -> World -> Prop)
  (hD : ∀ v W, D v W -> (∃ a k c, v = .slice a k c /\ 0 < k) /\ Blk W x (enL d E jp (.pointer (some ⟨s, 0, none⟩)) (.pointer (some ⟨l, 0, none⟩)) mp) 104 /\ Blk W w.heap.size (itL y) 39)
  (cP : Calls Tryz.prog 110 #[.pointer (some ⟨s, 0, none⟩), .agg #[.string (txt y.key), .string (txt y.value), .int .u32 y.flags, .int .i64 y.exp, .int .u64 y.ver]] (w.alloc (.cells #[.string (txt y.key), .string (txt y.value), .int .u32 y.flags, .int .i64 y.exp, .int .u64 y.ver] 39)).drew fun e w' => ∃ v, e = .returned (.tuple #[v, .int .i64 0]) /\ D v w')
  (cF : ∀ v W, D v W -> Calls Tryz.prog 83 #[.pointer (some ⟨d, 0, none⟩)] W fun e w' => e = .returned (.int .i64 0) /\ D2 W w')
  (hD2 : ∀ v W W2, D v W -> D2 W W2 -> Blk W2 x (enL d E jp (.pointer (some ⟨s, 0, none⟩)) (.pointer (some ⟨l, 0, none⟩)) mp) 104 /\ Blk W2 w.heap.size (itL y) 39)
  (cD : ∀ v W W2, D v W -> D2 W W2 -> Calls Tryz.prog 111 #[.pointer (some ⟨l, 0, none⟩), .string (txt y.key)] W2.drew fun e w' => e = .returned (.tuple #[]) /\ H W2 w') :
  Calls Tryz.prog 53 #[.pointer (some ⟨x, 0, none⟩), .agg #[.string (txt y.key), .string (txt y.value), .int .u32 y.flags, .int .i64 y.exp, .int .u64 y.ver]] w fun e w' => e = .returned (.int .i64 0) /\ ∃ v W W2, D v W /\ D2 W W2 /\ H W2 w' := by
 have hbA := hb.same (w' := w.alloc (.cells #[.string (txt y.key), .string (txt y.value), .int .u32 y.flags, .int .i64 y.exp, .int .u64 y.ver] 39)) (blk_alloc_lt _ _ _ hb.lt)
 have C11 := hide (hbA.cell (i := 11) rfl)
 have HB : Hid (Blk (w.alloc (.cells #[.string (txt y.key), .string (txt y.value), .int .u32 y.flags, .int .i64 y.exp, .int .u64 y.ver] 39)) w.heap.size (itL y) 39) := Blk.new w _ 39
 have CP : Hid (∀ W', PutC ((w.alloc (.cells #[.string (txt y.key), .string (txt y.value), .int .u32 y.flags, .int .i64 y.exp, .int .u64 y.ver] 39)).drew) D 0 undef W' -> Calls Tryz.prog 110 #[.pointer (some ⟨s, 0, none⟩), .agg #[.string (txt y.key), .string (txt y.value), .int .u32 y.flags, .int .i64 y.exp, .int .u64 y.ver]] W' fun e w' => ∃ u, e = .returned u /\ PutC ((w.alloc (.cells #[.string (txt y.key), .string (txt y.value), .int .u32 y.flags, .int .i64 y.exp, .int .u64 y.ver] 39)).drew) D 1 u w') := fun W' hW => by
  cases (show W' = _ from hW)
  refine cP.mono ?_
  rintro e w' ⟨v, rfl, hv⟩
  exact ⟨_, rfl, v, rfl, hv⟩
 have HD := hide hD
 have CDD := hide cD
 have HCF := hide cF
 have HD2 := hide hD2
 clear hb hbA cP hD cD cF hD2
 go_enter Tryz.func53, Tryz.ntmps53
 go_wp2_with fail
 obtain ⟨N, hN⟩ : ∃ N, w.heap.size = N := ⟨_, rfl⟩
 obtain ⟨WA, hWA⟩ : ∃ WA, w.alloc (.cells #[.string (txt y.key), .string (txt y.value), .int .u32 y.flags, .int .i64 y.exp, .int .u64 y.ver] 39) = WA := ⟨_, rfl⟩
 simp only [hN, hWA] at *
 refine wp_region_cx (by kernel_rfl) (by kernel_rfl) (fun u jx => ([.pointer (some ⟨x, 0, none⟩), .pointer (some ⟨x, 0, none⟩), .pointer (some ⟨x, 11, none⟩), .pointer (some ⟨s, 0, none⟩), .agg #[.string (txt y.key), .string (txt y.value), .int .u32 y.flags, .int .i64 y.exp, .int .u64 y.ver], u, u, tupV u 0, tupV u 1, tupV u 0, tupV u 1] : List Value).getD jx undef) 5 [5] [6, 7, 8, 9, 10] (by kernel_rfl) (by kernel_rfl) rfl (fun _ => rfl) (fun v v' jx h1 h2 => by match jx with | 0 => rfl | 1 => rfl | 2 => rfl | 3 => rfl | 4 => rfl | 5 => exact absurd rfl h2 | 6 => exact absurd (by decide) h1 | 7 => exact absurd (by decide) h1 | 8 => exact absurd (by decide) h1 | 9 => exact absurd (by decide) h1 | 10 => exact absurd (by decide) h1 | _ + 11 => rfl) (PutC (WA.drew) D) (rfl) ?_ ?_
 ·intro jx ox hi sx u w' ev hlm hks hdp hc hin hout hcst hfn
  have hltx : jx < 11 := by
   have := (Array.getElem?_eq_some_iff.1 hi).1
   simpa using this
  match jx, hltx with
  | 0, _ =>
   cases hi
   have e0 : ev (.tmp 0) = .pointer (some ⟨x, 0, none⟩) := hout 0
   refine .inl ⟨.pointer (some ⟨x, 0, none⟩), w', ?_, by show ite _ _ _; rw [if_neg (by decide), if_neg (by decide)]; exact ⟨rfl, hc⟩⟩
   simp [execOp, e0, hcst, go_sem]
  | 1, _ =>
   cases hi
   have e0 : ev (.tmp 9) = .pointer (some ⟨x, 0, none⟩) := hin 9 0 ⟨0, .data⟩
   refine .inl ⟨.pointer (some ⟨x, 0, none⟩), w', ?_, by show ite _ _ _; rw [if_neg (by decide), if_neg (by decide)]; exact ⟨rfl, hc⟩⟩
   simp [execOp, e0, hcst, go_sem]
  | 2, _ =>
   cases hi
   have e0 : ev (.tmp 10) = .pointer (some ⟨x, 0, none⟩) := hin 10 1 ⟨1, .data⟩
   refine .inl ⟨.pointer (some ⟨x, 11, none⟩), w', ?_, by show ite _ _ _; rw [if_neg (by decide), if_neg (by decide)]; exact ⟨rfl, hc⟩⟩
   simp [execOp, e0, hcst, go_sem]
  | 3, _ =>
   cases hi
   have e0 : ev (.tmp 11) = .pointer (some ⟨x, 11, none⟩) := hin 11 2 ⟨2, .data⟩
   refine .inl ⟨.pointer (some ⟨s, 0, none⟩), w', ?_, by show ite _ _ _; rw [if_neg (by decide), if_neg (by decide)]; exact ⟨rfl, hc⟩⟩
   have hl2 : sx <= 0 := Nat.le_trans hlm (Nat.le_of_eq (by kernel_rfl))
   have hs0 : sx = 0 := by omega
   subst hs0
   have hq : w'.cell? ⟨x, 11, none⟩ = some (.pointer (some ⟨s, 0, none⟩)) := by rw [show w' = _ from hc]; exact C11.out
   simp [execOp, e0, hq, hcst, go_sem]
  | 4, _ =>
   cases hi
   have e0 : ev (.tmp 3) = .pointer (some ⟨N, 0, none⟩) := hout 3
   refine .inl ⟨.agg #[.string (txt y.key), .string (txt y.value), .int .u32 y.flags, .int .i64 y.exp, .int .u64 y.ver], w', ?_, by show ite _ _ _; rw [if_neg (by decide), if_neg (by decide)]; exact ⟨rfl, hc⟩⟩
   have hl2 : sx <= 0 := Nat.le_trans hlm (Nat.le_of_eq (by kernel_rfl))
   have hs0 : sx = 0 := by omega
   subst hs0
   obtain ⟨y0, y1, y2, y3, y4, _⟩ := cells5 (show Blk w' N (itL y) 39 by rw [show w' = _ from hc]; exact HB.out)
   simp [execOp, e0, hcst, go_sem, *]
  | 5, _ =>
   cases hi
   have e0 : ev (.tmp 12) = .pointer (some ⟨s, 0, none⟩) := hin 12 3 ⟨3, .data⟩
   have e1 : ev (.tmp 13) = .agg #[.string (txt y.key), .string (txt y.value), .int .u32 y.flags, .int .i64 y.exp, .int .u64 y.ver] := hin 13 4 ⟨4, .data⟩
   have hsx : sx = 0 := hks 0 rfl
   subst hsx
   refine .inr (.inr ⟨110, #[.pointer (some ⟨s, 0, none⟩), .agg #[.string (txt y.key), .string (txt y.value), .int .u32 y.flags, .int .i64 y.exp, .int .u64 y.ver]], ?_, ?_⟩)
   ·have ef := hfn 110
    simp [execOp, resolve, invoke, ef, hcst, e0, e1, Result.andThen]
    exact enz110 _ _
   ·refine Calls.mono (P := Tryz.prog) (R := fun e w2 => ∃ v, e = .returned v /\ (PutC (WA.drew) D) 1 v w2) ?_ ?_
    ·exact CP.out w' hc
    ·rintro e w2 ⟨v, rfl, hv⟩
     exact ⟨v, rfl, by first | exact hv | (rw [if_pos rfl]; exact hv) | (show ite _ _ _; rw [if_pos rfl]; exact hv)⟩
  | 6, _ =>
   cases hi
   have e0 : ev (.tmp 14) = u := hin 14 5 ⟨5, .data⟩
   have hd : 0 < sx := hdp (by decide)
   refine .inl ⟨u, w', ?_, by show ite _ _ _; rw [if_neg (by decide), if_neg (by decide)]; exact ⟨rfl, hc⟩⟩
   simp [execOp, e0, hcst, go_sem]
  | 7, _ =>
   cases hi
   have e0 : ev (.tmp 8) = u := hin 8 6 ⟨6, .data⟩
   have hd : 0 < sx := hdp (by decide)
   refine .inl ⟨tupV u 0, w', ?_, by show ite _ _ _; rw [if_neg (by decide), if_neg (by decide)]; exact ⟨rfl, hc⟩⟩
   obtain ⟨v, rfl, _⟩ := PutC.pos hc hd
   simp [execOp, e0, hcst, go_sem, tupV]
  | 8, _ =>
   cases hi
   have e0 : ev (.tmp 8) = u := hin 8 6 ⟨6, .data⟩
   have hd : 0 < sx := hdp (by decide)
   refine .inl ⟨tupV u 1, w', ?_, by show ite _ _ _; rw [if_neg (by decide), if_neg (by decide)]; exact ⟨rfl, hc⟩⟩
   obtain ⟨v, rfl, _⟩ := PutC.pos hc hd
   simp [execOp, e0, hcst, go_sem, tupV]
  | 9, _ =>
   cases hi
   have e0 : ev (.tmp 15) = tupV u 0 := hin 15 7 ⟨7, .data⟩
   have hd : 0 < sx := hdp (by decide)
   refine .inl ⟨tupV u 0, w', ?_, by show ite _ _ _; rw [if_neg (by decide), if_neg (by decide)]; exact ⟨rfl, hc⟩⟩
   simp [execOp, e0, hcst, go_sem]
  | 10, _ =>
   cases hi
   have e0 : ev (.tmp 16) = tupV u 1 := hin 16 8 ⟨8, .data⟩
   have hd : 0 < sx := hdp (by decide)
   refine .inl ⟨tupV u 1, w', ?_, by show ite _ _ _; rw [if_neg (by decide), if_neg (by decide)]; exact ⟨rfl, hc⟩⟩
   simp [execOp, e0, hcst, go_sem]
 ·intro u w1 hc
  simp only [lexF, Act.put, List.setIfInBounds_toArray, List.set_cons_succ, List.set_cons_zero, List.getD_cons_succ, List.getD_cons_zero]
  obtain ⟨v, rfl, hv⟩ := PutC.pos hc (by decide)
  obtain ⟨⟨a, k, c, rfl, hk⟩, hbx, hky⟩ := HD.out v w1 hv
  have c0 := hbx.cell (i := 0) rfl
  have hk2 : ((0 : Int) < (k : Int)) = True := eq_true (by omega)
  have hk3 : (0 < k) = True := eq_true hk
  have CF := hide (HCF.out _ w1 hv)
  have HV := hide hv
  clear hbx hky hv HB C11 CP HCF HD hk
  simp only [tupV]
  go_wp2_with fail
  refine CF.out.mono ?_
  rintro r w3 ⟨rfl, hd2⟩
  obtain ⟨hbx, hky⟩ := HD2.out _ w1 w3 HV.out hd2
  have C12 := hide (hbx.cell (i := 12) rfl)
  have CK := hide (hky.cell (i := 0) rfl)
  have HV2 := hide hd2
  have CD : Hid (∀ W', DropC w3.drew (fun W => H w3 W) 0 W' -> Calls Tryz.prog 111 #[.pointer (some ⟨l, 0, none⟩), .string (txt y.key)] W' fun e w' => e = .returned (.tuple #[]) /\ DropC w3.drew (fun W => H w3 W) 1 w') := fun W' hW => by
   cases (show W' = _ from hW)
   exact (CDD.out _ _ _ HV.out HV2.out)
  clear hbx hky hd2 CF c0 hk2 hk3 HD2
  go_wp2_with fail
  refine wp_region_chain (by kernel_rfl) (by kernel_rfl) (fun jx => ([.pointer (some ⟨x, 0, none⟩), .pointer (some ⟨x, 0, none⟩), .pointer (some ⟨x, 12, none⟩), .pointer (some ⟨l, 0, none⟩), .pointer (some ⟨N, 0, none⟩), .string (txt y.key), .tuple #[]] : List Value).getD jx undef) [6] (by kernel_rfl) (DropC w3.drew (fun W => H w3 W)) (rfl) ?_ ?_
  ·intro jx ox hi sx w' ev hlm hks hc hin hout hcst hfn
   have hltx : jx < 7 := by
    have := (Array.getElem?_eq_some_iff.1 hi).1
    simpa using this
   match jx, hltx with
   | 0, _ =>
    cases hi
    have e0 : ev (.tmp 0) = .pointer (some ⟨x, 0, none⟩) := hout 0
    rw [if_neg (by decide)]
    refine .inl ⟨w', ?_, hc⟩
    simp [execOp, e0, hcst, go_sem]
   | 1, _ =>
    cases hi
    have e0 : ev (.tmp 31) = .pointer (some ⟨x, 0, none⟩) := hin 31 0 ⟨0, .data⟩
    rw [if_neg (by decide)]
    refine .inl ⟨w', ?_, hc⟩
    simp [execOp, e0, hcst, go_sem]
   | 2, _ =>
    cases hi
    have e0 : ev (.tmp 32) = .pointer (some ⟨x, 0, none⟩) := hin 32 1 ⟨1, .data⟩
    rw [if_neg (by decide)]
    refine .inl ⟨w', ?_, hc⟩
    simp [execOp, e0, hcst, go_sem]
   | 3, _ =>
    cases hi
    have e0 : ev (.tmp 33) = .pointer (some ⟨x, 12, none⟩) := hin 33 2 ⟨2, .data⟩
    rw [if_neg (by decide)]
    refine .inl ⟨w', ?_, hc⟩
    show _ = Result.ok (Next.value (.pointer (some ⟨l, 0, none⟩))) w'
    have hl2 : sx <= 0 := Nat.le_trans hlm (Nat.le_of_eq (by kernel_rfl))
    have hs0 : sx = 0 := by omega
    subst hs0
    have hq : w'.cell? ⟨x, 12, none⟩ = some (.pointer (some ⟨l, 0, none⟩)) := by rw [show w' = _ from hc]; exact C12.out
    simp [execOp, e0, hq, hcst, go_sem]
   | 4, _ =>
    cases hi
    have e0 : ev (.tmp 3) = .pointer (some ⟨N, 0, none⟩) := hout 3
    rw [if_neg (by decide)]
    refine .inl ⟨w', ?_, hc⟩
    simp [execOp, e0, hcst, go_sem]
   | 5, _ =>
    cases hi
    have e0 : ev (.tmp 35) = .pointer (some ⟨N, 0, none⟩) := hin 35 4 ⟨4, .data⟩
    rw [if_neg (by decide)]
    refine .inl ⟨w', ?_, hc⟩
    show _ = Result.ok (Next.value (.string (txt y.key))) w'
    have hl2 : sx <= 0 := Nat.le_trans hlm (Nat.le_of_eq (by kernel_rfl))
    have hs0 : sx = 0 := by omega
    subst hs0
    have hq : w'.cell? ⟨N, 0, none⟩ = some (.string (txt y.key)) := by rw [show w' = _ from hc]; exact CK.out
    simp [execOp, e0, hq, hcst, go_sem]
   | 6, _ =>
    cases hi
    have e0 : ev (.tmp 34) = .pointer (some ⟨l, 0, none⟩) := hin 34 3 ⟨3, .data⟩
    have e1 : ev (.tmp 36) = .string (txt y.key) := hin 36 5 ⟨5, .data⟩
    rw [if_pos (by decide)]
    have hsx : sx = 0 := hks 0 rfl
    subst hsx
    refine .inr (.inr ⟨111, #[.pointer (some ⟨l, 0, none⟩), .string (txt y.key)], ?_, ?_⟩)
    ·have ef := hfn 111
     simp [execOp, resolve, invoke, ef, hcst, e0, e1, Result.andThen]
     exact enz111 _ _
    ·exact CD.out w' hc
  ·intro w2 hc
   simp only [lexF, Act.put, List.setIfInBounds_toArray, List.set_cons_succ, List.set_cons_zero, List.getD_cons_succ, List.getD_cons_zero]
   have hH : H w3 w2 := hc
   have HH := hide hH
   clear hH CD C12 CK CDD
   go_wp2
   go_ret
   exact ⟨rfl, _, w1, w3, HV.out, HV2.out, HH.out⟩
section
variable {w0 w w' : World} {x d : Nat} {E : En} {j m nj : Nat} {J : Jr} {s first n : Nat} {S S' : Dv} {f : Nat -> List It} {bs : List (List Bool)} {G G' : List Nat} {l ml : Nat} {v5 v6 v7 : Value} {T : Lg}
theorem putSmall_some (h : EnAt w0 w x d E j m nj J s first n S f bs G l ml v5 v6 v7 T) (y : It) (hyf : y.fits) (hyg : y.good = true) (hys : y.size <= 120) (hout : outL n f y ≠ []) (hmm : m ≠ ml) (hlow : w0.heap.size <= ml) (hk : y.key.length <= 140737488351232) :
  Calls Tryz.prog 53 #[.pointer (some ⟨x, 0, none⟩), .agg #[.string (txt y.key), .string (txt y.value), .int .u32 y.flags, .int .i64 y.exp, .int .u64 y.ver]] w fun e w' => e = .returned (.int .i64 0) /\ PutSm w w0 x d E j m nj J s first n S f bs G l ml v5 v6 v7 T y w' := by
 have BA : Below w.heap.size w (w.alloc (.cells #[.string (txt y.key), .string (txt y.value), .int .u32 y.flags, .int .i64 y.exp, .int .u64 y.ver] 39)).drew := by
  have b := (Below.refl w.heap.size w).alloc (Nat.le_refl _) (.cells #[.string (txt y.key), .string (txt y.value), .int .u32 y.flags, .int .i64 y.exp, .int .u64 y.ver] 39)
  exact ⟨b.os, b.tape, b.output, b.size, b.block⟩
 have hA := h.below BA
 have hsz : (w.alloc (.cells #[.string (txt y.key), .string (txt y.value), .int .u32 y.flags, .int .i64 y.exp, .int .u64 y.ver] 39)).drew.heap.size = w.heap.size + 1 := nblk_alloc _ _
 have hNB : Blk (w.alloc (.cells #[.string (txt y.key), .string (txt y.value), .int .u32 y.flags, .int .i64 y.exp, .int .u64 y.ver] 39)).drew w.heap.size (itL y) 39 := (Blk.new w (itL y) 39)
 have hNG : w.heap.size ∉ G := fun hq => by have := (h.bu.lt _ hq).1; omega
 have cP := bu_put hA.bu y hyf hyg hys
 refine (putSmall_three y h.box (fun v W => Row W (w.alloc (.cells #[.string (txt y.key), .string (txt y.value), .int .u32 y.flags, .int .i64 y.exp, .int .u64 y.ver] 39)).drew.heap.size v (outL n f y) /\ ∃ S' bs' G', Bu w0 W d s first n S' (putF n f y) bs' G' /\ (∀ lb, bs[bkt y.key n]? = some lb -> bs' = bs.set (bkt y.key n) (keyB lb y)) /\ Moves G G' (w.alloc (.cells #[.string (txt y.key), .string (txt y.value), .int .u32 y.flags, .int .i64 y.exp, .int .u64 y.ver] 39)).drew W /\ S'.losses = S.losses /\ Dv.far first n S S')
  (fun _ W => ∃ S' bs' G', Bu w0 W d s first n S' (putF n f y) bs' G' /\ (∀ lb, bs[bkt y.key n]? = some lb -> bs' = bs.set (bkt y.key n) (keyB lb y)) /\ Moves G G' (w.alloc (.cells #[.string (txt y.key), .string (txt y.value), .int .u32 y.flags, .int .i64 y.exp, .int .u64 y.ver] 39)).drew W /\ S'.losses = S.losses /\ Dv.far first n S S')
  (fun W w' => LgIn w' l d ml v5 v6 v7 (T.drop y.key) /\ Keep [ml] W w') ?_ ?_ ?_ ?_ ?_).mono ?_
 ·rintro v W ⟨hr, S', bs', G', hb, hbs, hmv, hl, hc⟩
  refine ⟨?_, hA.box.same (hmv.keep.block _ hA.box.lt hA.xG), hNB.same (hmv.keep.block _ (by rw [hsz]; omega) hNG)⟩
  obtain ⟨a, c, e⟩ := hr.sl
  exact ⟨a, _, c, e, List.length_pos_iff.2 hout⟩
 ·exact cP
 ·rintro v W ⟨hr, S', bs', G', hb, hbs, hmv, hl, hc⟩
  refine (bu_flush hb).mono ?_
  rintro e w' ⟨rfl, S2, G2, hb2, hm2, hl2, hc2, _⟩
  exact ⟨rfl, S2, bs', G2, hb2, hbs, hmv.trans hm2, hl2.trans hl, hc2.trans hc⟩
 ·rintro v W W2 _ ⟨S', bs', G', hb, hbs, hmv, hl, hc⟩
  exact ⟨hA.box.same (hmv.keep.block _ hA.box.lt hA.xG), hNB.same (hmv.keep.block _ (by rw [hsz]; omega) hNG)⟩
 ·rintro v W W2 _ ⟨S', bs', G', hb, hbs, hmv, hl, hc⟩
  have hW := hA.turn hb hmv
  refine (drop_log (w := W2.drew) (hW.lg.heap rfl) y.key hk).mono ?_
  rintro e w' ⟨rfl, hL, hK⟩
  exact ⟨rfl, hL, ⟨hK.os, hK.tape, hK.output, hK.size, hK.block⟩⟩
 ·rintro e w' ⟨rfl, v, _, W, _, ⟨S', bs', G', hb, hbs, hmv, hl, hc⟩, hL, hK⟩
  have hW := hA.turn hb hmv
  refine ⟨rfl, S', bs', G', hW.dropped hK y.key hL hmm hlow, hbs, hl, hc, ?_, ?_⟩
  ·have k1 : Keep (ml :: G) w (w.alloc (.cells #[.string (txt y.key), .string (txt y.value), .int .u32 y.flags, .int .i64 y.exp, .int .u64 y.ver] 39)).drew := Keep.of_below BA
   have k2 := k1.trans hmv.keep (fun q hq => .inl (List.mem_cons_of_mem _ hq))
   exact k2.trans hK (fun q hq => .inl (by rw [List.mem_singleton.1 hq]; exact List.mem_cons_self ..))
  ·intro q hq
   rcases hmv.foot q hq with h1 | h1
   ·exact .inl h1
   ·rw [hsz] at h1; exact .inr (by omega)
theorem eput_small (h : EnAt w0 w x d E j m nj J s first n S f bs G l ml v5 v6 v7 T) (y : It) (hyf : y.fits) (hyg : y.good = true) (hys : y.size <= 120) (hmm : m ≠ ml) (hlow : w0.heap.size <= ml) (hk : y.key.length <= 140737488351232) (hv : y.value.length <= 140737488351232) :
  Calls Tryz.prog 13 #[.pointer (some ⟨x, 0, none⟩), .agg #[.string (txt y.key), .string (txt y.value), .int .u32 y.flags, .int .i64 y.exp, .int .u64 y.ver]] w fun e w' => e = .returned (.int .i64 0) /\ ∃ W, Below w.heap.size w W /\ PutSm W w0 x d E j m nj J s first n S f bs G l ml v5 v6 v7 T y w' := by
 refine (eput_go y hyg hk hv (by omega) (fun v w' => v = .int .i64 0 /\ ∃ W, Below w.heap.size w W /\ PutSm W w0 x d E j m nj J s first n S f bs G l ml v5 v6 v7 T y w') ?_).mono ?_
 ·intro W hW
  rw [if_neg (by omega)]
  have hE := h.below hW
  by_cases ho : outL n f y = []
  ·refine (putSmall_few hE y hyf hyg hys ho hmm hlow hk).mono ?_
   rintro e w' ⟨rfl, hp⟩
   exact ⟨_, rfl, rfl, W, hW, hp⟩
  ·refine (putSmall_some hE y hyf hyg hys ho hmm hlow hk).mono ?_
   rintro e w' ⟨rfl, hp⟩
   exact ⟨_, rfl, rfl, W, hW, hp⟩
 ·rintro e w' ⟨v, rfl, rfl, hp⟩
  exact ⟨rfl, hp⟩
end
theorem Sure.load {S : Dv} (h : Sure S) : Sure S.loadDo := ⟨by rw [loadDo_off]; exact h.off, by rw [loadDo_armed]; exact h.armed⟩
theorem sure_store {S : Dv} (h : Sure S) (h2 : 2 <= S.cs.length) (hl : S.lastSeq ≠ 18446744073709551615) (b : Sb) :
  S.storeE = 0 /\ Sure (S.storeDo b) /\ (S.storeDo b).losses = S.losses /\ (S.storeDo b).cs.length = S.cs.length /\ ∀ j, (S.storeDo b).pg j = if j = (S.nextB b).seq % 2 /\ j < S.cs.length then some (.whole (txt (S.nextB b).enc)) else S.pg j := by
 have hno : ¬ S.off = true := by rw [h.off]; decide
 have hn2 : ¬ S.cs.length < 2 := by omega
 have ha1 : S.armed ≠ 1 := by rw [h.armed]; decide
 have ha2 : S.armed ≠ 2 := by rw [h.armed]; decide
 have eD : S.storeDo b = (S.wrote (S.nextB b)).flushDo := by unfold Dv.storeDo; rw [if_neg hn2, if_neg hno, if_neg hl, if_neg ha1]
 have eW := wrote_is S (S.nextB b) h2 h.off ha1
 rw [h.load.used] at eW
 have hW : Sure (S.wrote (S.nextB b)) := by rw [eW]; exact ⟨h.load.off, h.load.armed⟩
 have eF := flushed_is S (S.nextB b) h2 h.off ha1 ha2
 rw [hW.used] at eF
 refine ⟨?_, ?_, ?_, ?_, ?_⟩
 ·unfold Dv.storeE; rw [if_neg hn2, if_neg hno, if_neg hl, if_neg ha1, if_neg ha2]
 ·rw [eD, eF]; exact ⟨hW.off, hW.armed⟩
 ·rw [eD, eF]
  show (S.wrote (S.nextB b)).losses = _
  rw [eW]
  show S.loadDo.losses = _
  rw [loadDo_losses]
 ·rw [eD, eF]
  show ((S.wrote (S.nextB b)).cs.map Cl.flush).length = _
  rw [List.length_map, (wrote_off S _ h2 h.off ha1).2.2]
 ·intro j
  rw [eD, eF]
  show (((S.wrote (S.nextB b)).cs.map Cl.flush)[j]?).map (·.now) = _
  rw [flush_get]
  exact pg_wrote S _ h2 h.off ha1 j
theorem its_pg (S : Dv) (k : Nat) : S.its k = ((S.pg k).map Pg.its).getD [] := by
 unfold Dv.its Dv.pg
 cases S.cs[k]? <;> rfl
section
variable {w0 w : World} {x d : Nat} {E : En} {jp sp lp mp : Value} {s first n : Nat} {S : Dv} {f : Nat -> List It} {bs : List (List Bool)} {G : List Nat}
theorem bu_set (hb : Blk w x (enL d E jp sp lp mp) 104) (h : Bu w0 w d s first n S f bs G) (hx : x ∉ G) (hxl : w0.heap.size <= x) (hl : S.losses = E.losses) (h2 : 2 <= first) (hq : S.lastSeq ≠ 18446744073709551615) (b : Sb) (hf : b.fits) :
  Calls Tryz.prog 35 #[.pointer (some ⟨x, 0, none⟩), b.val] w fun e w' => e = .returned (.int .i64 0) /\ ∃ G', Bu w0 w' d s first n (S.storeDo b) f bs G' /\ Blk w' x (enL d { E with b := S.nextB b } jp sp lp mp) 104 /\ Keep (x :: G) w w' /\ ∀ k ∈ G', k ∈ G \/ w.heap.size <= k := by
 obtain ⟨F, M, h, rfl⟩ := h
 have hlen : 2 <= S.cs.length := by have := h.fit; have := h.n1; omega
 obtain ⟨t1, t2, t3, t4, t5⟩ := sure_store h.sure hlen hq b
 have hxF : x ∉ F := fun hh => hx (List.mem_append.2 (.inl hh))
 have hxM : x ∉ M.foot s := fun hh => hx (List.mem_append.2 (.inr hh))
 refine (set_go hb h.bk.law.dev hxF hl b hf).mono ?_
 rintro e w' ⟨rfl, F', hd, hbx, hk, hfoot⟩
 rw [if_pos t1] at hbx
 have e1 : S.storeB b = S.nextB b := by
  have hno : ¬ S.off = true := by rw [h.sure.off]; decide
  unfold Dv.storeB
  rw [if_neg (by omega), if_neg hno, if_neg hq, if_neg (by rw [h.sure.armed]; decide), if_neg (by rw [h.sure.armed]; decide)]
 rw [e1] at hbx
 have hbel := h.bk.law.bel
 have hst : StIn w' s d S.losses first M := h.bk.st.same (fun q hq => hk.block q (h.bk.st.lt q hq) (by
  simp only [List.mem_cons, not_or]
  exact ⟨fun e => hxM (e ▸ hq), h.bk.off q hq⟩))
 refine ⟨by rw [t1], F' ++ M.foot s, ⟨F', M, ⟨⟨⟨hd, fun k hkF => ?_, ?_⟩, ?_, h.bk.new, fun q hqM hqF => ?_⟩, t2, h.len, h.n1, h.n2, by rw [t4]; exact h.fit, fun k hkn => ?_, h.bits, h.told⟩, rfl⟩, hbx, ?_, ?_⟩
 ·rcases hfoot k hkF with h1 | h1
  ·exact h.bk.law.low k h1
  ·exact Nat.le_trans hbel.size h1
 ·exact hbel.trans (hk.below (fun k hkx => by
   rcases List.mem_cons.1 hkx with rfl | h1
   ·exact hxl
   ·exact h.bk.law.low k h1) hbel.size)
 ·rw [t3]; exact hst
 ·rcases hfoot q hqF with h1 | h1
  ·exact h.bk.off q hqM h1
  ·have := h.bk.st.lt q hqM; omega
 ·rw [its_pg, t5, if_neg (fun hh => by have := Nat.mod_lt (S.nextB b).seq (show 0 < 2 by decide); omega), <- its_pg]
  exact h.its k hkn
 ·exact hk.mono (fun k hkx => .inl (by
   rcases List.mem_cons.1 hkx with rfl | h1
   ·exact List.mem_cons_self ..
   ·exact List.mem_cons_of_mem _ (List.mem_append.2 (.inl h1))))
 ·intro k hk2
  rcases List.mem_append.1 hk2 with h1 | h1
  ·rcases hfoot k h1 with h2 | h2
   ·exact .inl (List.mem_append.2 (.inl h2))
   ·exact .inr h2
  ·exact .inl (List.mem_append.2 (.inr h1))
end
section
variable {w0 w w' : World} {x d : Nat} {E : En} {j m nj : Nat} {J : Jr} {s first n : Nat} {S : Dv} {f : Nat -> List It} {bs : List (List Bool)} {G : List Nat} {l ml : Nat} {v5 v6 v7 : Value} {T : Lg}
theorem EnAt.xj (h : EnAt w0 w x d E j m nj J s first n S f bs G l ml v5 v6 v7 T) : x ≠ j := fun e => by
 have h1 : w.heap[x]? = _ := h.box
 have h2 : w.heap[j]? = _ := h.jr.blk
 rw [e, h2] at h1
 simp at h1
theorem set_en (h : EnAt w0 w x d E j m nj J s first n S f bs G l ml v5 v6 v7 T) (hl : S.losses = E.losses) (h2 : 2 <= first) (hq : S.lastSeq ≠ 18446744073709551615) (b : Sb) (hf : b.fits) :
  Calls Tryz.prog 35 #[.pointer (some ⟨x, 0, none⟩), b.val] w fun e w' => e = .returned (.int .i64 0) /\ ∃ G', EnAt w0 w' x d { E with b := S.nextB b } j m nj J s first n (S.storeDo b) f bs G' l ml v5 v6 v7 T /\ Keep (x :: G) w w' /\ ∀ k ∈ G', k ∈ G \/ w.heap.size <= k := by
 refine (bu_set h.box h.bu h.xG (h.low x (.inl rfl)) hl h2 hq b hf).mono ?_
 rintro e w' ⟨rfl, G', hb, hx, hk, hfo⟩
 have far : ∀ q, q < w.heap.size -> q ∉ G -> q ∉ G' := fun q hq hg hg' => by
  rcases hfo q hg' with h1 | h1
  ·exact hg h1
  ·omega
 have nin : ∀ q, q ≠ x -> q ∉ G -> q ∉ x :: G := fun q h1 h2 h3 => by
  rcases List.mem_cons.1 h3 with h4 | h4
  ·exact h1 h4
  ·exact h2 h4
 exact ⟨rfl, G', ⟨hx, h.jr.keep hk (nin j (fun e => h.xj e.symm) h.jG) (nin m (fun e => h.xm e.symm) h.mG), hb, h.lg.same (fun q hq => hk.block q (h.lg.lt q hq) (nin q (fun e => h.xL (e ▸ hq)) (h.lG q hq))), far x h.box.lt h.xG, far j h.jr.blk.lt h.jG, far m h.jr.mlt h.mG, fun q hq => far q (h.lg.lt q hq) (h.lG q hq), h.low, h.xL, h.jL, h.mL, h.xm⟩, hk, hfo⟩
end
end Go.Proofs.YtcdghalnneilpaaGreat
