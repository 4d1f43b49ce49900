/- Joined texts. -/
import Derived.Test.YtcdghalnneilpaaGreatR29
set_option linter.unusedVariables false
set_option linter.unusedSimpArgs false
set_option maxRecDepth 8000
set_option maxHeartbeats 8000000
namespace Go.Proofs.YtcdghalnneilpaaGreat
open Go.RowKit Go.Deep Math
theorem wrap_small (q : Nat) (h : q <= 5000) : wrap64 (q : Int) = (q : Int) := by unfold wrap64; omega
theorem wrap_small' (q : Nat) (h : q <= 5000) : IntKind.i64.wrap (q : Int) = (q : Int) := by rw [IntKind.wrap_i64]; omega
theorem entt30 (args : Array Value) (w : World) : (callFunc 152 args).run Tryz.prog w = .ok (.enter 152 args) w := by go_simp
theorem begin_raw (j d : Nat) (v1 v2 v3 v4 v5 v6 : Value) (losses first pages : Int) (e1 : v1 = .int .i64 losses) (e2 : v2 = .int .i64 first) (e3 : v3 = .int .i64 pages) (g : Nat) (w : World) (h : Blk w j [.pointer (some ⟨d, 0, none⟩), v1, v2, v3, v4, v5, v6] 166) :
  Calls Tryz.prog 78 #[.pointer (some ⟨j, 0, none⟩), .int .u64 g] w fun e w' => e = .returned (.tuple #[]) /\ ∃ m', JrAt w' j d m' 0 ⟨losses, first, pages, 0, g, fun _ => none⟩ /\ w.heap.size <= m' /\ Keep [j] w w' := by
 have hB := h.alloc (.map #[] 0)
 have f := fun i => hB.frozen i
 have f4 := f 4
 have f5 := f 5
 have f6 := f 6
 have c4 := hB.cell (i := 4) rfl
 have c5 := hB.cell (i := 5) rfl
 have c6 := hB.cell (i := 6) rfl
 have hlt := hB.lt
 have HB := hide' hB
 have HL := hide' h.lt
 have E1 := hide' e1
 have E2 := hide' e2
 have E3 := hide' e3
 clear h hB f e1 e2 e3
 go_enter Tryz.func78, Tryz.ntmps78
 have hmk := run_makeMap (P := Tryz.prog) 164 w
 go_wp2
 go_end0
 have hne : j ≠ w.heap.size := Nat.ne_of_lt HL.out
 have KK : Keep [j] w ((((w.alloc (.map #[] 0)).setCell ⟨j, 5, none⟩ (.int .u64 g)).setCell ⟨j, 4, none⟩ (.int .i64 0)).setCell ⟨j, 6, none⟩ (.map (some w.heap.size))) :=
  ((((Keep.refl [j] w).alloc _).setCell (.inl (by simp)) _).setCell (.inl (by simp)) _).setCell (.inl (by simp)) _
 refine ⟨rfl, w.heap.size, ⟨?_, ⟨.map [], (((World.ownsMap_made w Tryz.prog 28 (plainElem Tryz.prog 28)).setCell (Ne.symm hne) _).setCell (Ne.symm hne) _).setCell (Ne.symm hne) _, MapIs.empty⟩, hne⟩, Nat.le_refl _, KK⟩
 have := ((HB.out.set 5 (.int .u64 g)).set 4 (.int .i64 0)).set 6 (.map (some w.heap.size))
 rw [E1.out, E2.out, E3.out] at this
 exact this
def Dv.pgs (S : Dv) (first pages : Nat) : List Pg := ((S.cs.drop first).take pages).map (·.now)
theorem pgs_get {S : Dv} {first pages k : Nat} {c : Cl} (hk : k < pages) (h : S.cs[first + k]? = some c) : (S.pgs first pages)[k]? = some c.now := by
 unfold Dv.pgs
 rw [List.getElem?_map, List.getElem?_take, if_pos hk, List.getElem?_drop, h]; rfl
theorem pgs_length {S : Dv} {first pages : Nat} (h : first + pages <= S.cs.length) : (S.pgs first pages).length = pages := by
 unfold Dv.pgs; simp; omega
def Jr.upTo (J : Jr) (k : Nat) (L : List (List Mk)) : Jr := { J.keeps (L.take k).flatten with used := k }
theorem upTo_gen (J : Jr) (k : Nat) (L : List (List Mk)) : (J.upTo k L).gen = J.gen := (keeps_same _ J).2.2.2.2
theorem upTo_succ (J : Jr) (k : Nat) (L : List (List Mk)) (xs : List Mk) (h : L[k]? = some xs) : J.upTo (k + 1) L = { (J.upTo k L).keeps xs with used := ((k + 1 : Nat) : Int) } := by
 obtain ⟨hk, hx⟩ := List.getElem?_eq_some_iff.1 h
 have e : (L.take (k + 1)).flatten = (L.take k).flatten ++ xs := by rw [List.take_succ_eq_append_getElem hk, hx]; simp
 have s := keeps_same xs (J.upTo k L)
 have s2 := keeps_same ((L.take k).flatten ++ xs) J
 have s3 := keeps_same ((L.take k).flatten) J
 apply Jr.ext'
 ·show (J.keeps (L.take (k + 1)).flatten).losses = ((J.upTo k L).keeps xs).losses
  rw [e, s2.1, s.1]; exact s3.1.symm
 ·show (J.keeps (L.take (k + 1)).flatten).first = ((J.upTo k L).keeps xs).first
  rw [e, s2.2.1, s.2.1]; exact s3.2.1.symm
 ·show (J.keeps (L.take (k + 1)).flatten).pages = ((J.upTo k L).keeps xs).pages
  rw [e, s2.2.2.1, s.2.2.1]; exact s3.2.2.1.symm
 ·rfl
 ·show (J.keeps (L.take (k + 1)).flatten).gen = ((J.upTo k L).keeps xs).gen
  rw [e, s2.2.2.2.2, s.2.2.2.2]; exact s3.2.2.2.2.symm
 ·show (J.keeps (L.take (k + 1)).flatten).M = ((J.upTo k L).keeps xs).M
  rw [e, keeps_M, keeps_M]
  have : (J.upTo k L).M = kM J.M (L.take k).flatten := keeps_M _ J
  rw [this]; simp [kM, List.foldl_append]
def openJ (S : Dv) (first pages gen : Nat) : Jr := Jr.upTo ⟨S.losses, first, pages, 0, gen, fun _ => none⟩ (scanP gen (S.pgs first pages)).length (scanP gen (S.pgs first pages))
theorem JD.setUsed {W : World} {j d m n : Nat} {F : List Nat} {J : Jr} {S : Dv} (h : JD W j d m n F J S) (u : Int) : JD (W.setCell ⟨j, 4, none⟩ (.int .i64 u)) j d m n F { J with used := u } S := by
 refine ⟨⟨h.jr.blk.set 4 _, ?_, h.jr.ne⟩, h.dev.same (fun k hk => blk_setCell_other _ _ _ _ (by intro e; have e2 : k = j := e; subst e2; exact h.nj hk)), h.nj, h.nm⟩
 obtain ⟨D, h1, h2⟩ := h.jr.map
 exact ⟨D, h1.setCell (Ne.symm h.jr.ne) _, h2⟩
theorem JD.drew' {W : World} {j d m n : Nat} {F : List Nat} {J : Jr} {S : Dv} (h : JD W j d m n F J S) : JD { W with drawn := W.drawn + 1 } j d m n F J S := ⟨h.jr.same rfl rfl, h.dev.same (fun _ _ => rfl), h.nj, h.nm⟩
theorem Keep.drew' {F : List Nat} {a W : World} (h : Keep F a W) : Keep F a { W with drawn := W.drawn + 1 } := ⟨h.os, h.tape, h.output, h.size, h.block⟩
def TOpenPost (w : World) (d : Nat) (F : List Nat) (S : Dv) (first pages gen : Nat) (e : Ending) (w' : World) : Prop := ∃ j m n S', e = .returned (.tuple #[.pointer (some ⟨j, 0, none⟩), .int .i64 0]) /\
   JD w' j d m n F (openJ S first pages gen) S' /\ S.like S' /\ Keep F w w' /\ w.heap.size <= j /\ w.heap.size <= m /\ n <= 23 * pages
theorem topen_ok (d : Nat) (F : List Nat) (S : Dv) (first pages gen : Nat) (h1 : 1 <= pages) (h2 : first + pages <= S.cs.length) (hoff : S.off = false) (hgen : gen < 18446744073709551616) (w : World) (h : DvAt w d F S) :
  Calls Tryz.prog 104 #[.pointer (some ⟨d, 0, none⟩), .int .i64 (first : Nat), .int .i64 (pages : Nat), .int .u64 gen] w (TOpenPost w d F S first pages gen) := by
 have hmany := h.good.many
 have cP : Hid (∀ W : World, DvAt W d F S -> Calls Tryz.prog 46 #[.pointer (some ⟨d, 0, none⟩)] W fun e w' => e = .returned (.int .i64 S.cs.length) /\ w' = W) := fun W hW => by obtain ⟨p, pd, wa, wc, rfl, hW⟩ := hW; exact pages_any d p pd wa wc S W hW
 have cW : Hid (∀ W : World, DvAt W d F S -> Calls Tryz.prog 101 #[.pointer (some ⟨d, 0, none⟩)] W fun e w' => e = .returned (.bool true) /\ w' = W) := fun W hW => by
  obtain ⟨p, pd, wa, wc, rfl, hW⟩ := hW
  have := power_any d p pd wa wc S W hW
  rw [hoff] at this
  exact this
 have cL : Hid (∀ W : World, DvAt W d F S -> Calls Tryz.prog 48 #[.pointer (some ⟨d, 0, none⟩)] W fun e w' => e = .returned (.int .i64 S.losses) /\ w' = W) := fun W hW => by obtain ⟨p, pd, wa, wc, rfl, hW⟩ := hW; exact losses_any d p pd wa wc S W hW
 have H := hide' h
 have HOFF := hide' hoff
 have H2 := hide' h2
 obtain ⟨N, hN⟩ : ∃ N, N = S.cs.length := ⟨_, rfl⟩
 rw [<- hN] at cP h2 hmany
 have HNN := hide' hN
 clear h hoff hN hgen
 have g1 : ((first : Int) < 0) = False := eq_false (by omega)
 have g2 : ((pages : Int) < 1) = False := eq_false (by omega)
 have g3 : ((N : Int) - (pages : Int) < (first : Int)) = False := eq_false (by omega)
 have g4 : wrap64 ((N : Int) - (pages : Int)) = (N : Int) - (pages : Int) := by unfold wrap64; omega
 have g5 : IntKind.i64.wrap ((N : Int) - (pages : Int)) = (N : Int) - (pages : Int) := by rw [IntKind.wrap_i64]; omega
 go_enter Tryz.func104, Tryz.ntmps104
 go_wp2_with fail
 refine (cP.out w H.out).mono ?_
 rintro r w1 ⟨rfl, e1⟩
 obtain rfl : w = w1 := e1.symm
 clear e1 cP
 go_wp2_with fail
 refine (cW.out w H.out).mono ?_
 rintro r w1 ⟨rfl, e1⟩
 obtain rfl : w = w1 := e1.symm
 clear e1 cW g1 g2 g3 g4 g5
 go_wp2_with fail
 refine (cL.out w H.out).mono ?_
 rintro r w1 ⟨rfl, e1⟩
 obtain rfl : w = w1 := e1.symm
 clear e1 cL
 go_wp2_with fail
 obtain ⟨j, hj⟩ : ∃ j, j = w.heap.size := ⟨_, rfl⟩
 obtain ⟨W1, hW1⟩ : ∃ W1, w.alloc (.cells #[.pointer (some ⟨d, 0, none⟩), .int .i64 S.losses, .int .i64 (first : Nat), .int .i64 (pages : Nat), .int .i64 0, .int .u64 0, .map none] 166) = W1 := ⟨_, rfl⟩
 have hb1 := Blk.new w [.pointer (some ⟨d, 0, none⟩), .int .i64 S.losses, .int .i64 (first : Nat), .int .i64 (pages : Nat), .int .i64 0, .int .u64 0, .map none] 166
 rw [hW1, <- hj] at hb1
 have hd1 : DvAt W1 d F S := by rw [<- hW1]; exact H.out.alloc _
 have hk1 : Keep F w W1 := by rw [<- hW1]; exact (Keep.refl F w).alloc _
 have hs1 : W1.heap.size = w.heap.size + 1 := by rw [<- hW1]; simp
 simp only [hW1, <- hj]
 refine (begin_raw j d _ _ _ _ _ _ S.losses first pages rfl rfl rfl gen W1 hb1).mono ?_
 rintro r w2 ⟨rfl, m, hjr, hm, kb⟩
 have hnj : j ∉ F := fun hf => by have := H.out.lt j hf; omega
 have hnm : m ∉ F := fun hf => by have := H.out.lt m hf; omega
 obtain ⟨J0, hJ0⟩ : ∃ J0 : Jr, J0 = ⟨S.losses, first, pages, 0, gen, fun _ => none⟩ := ⟨_, rfl⟩
 obtain ⟨L, hL⟩ : ∃ L, L = scanP gen (S.pgs first pages) := ⟨_, rfl⟩
 have T2 : Hid (JD w2 j d m 0 F (J0.upTo 0 L) S /\ Keep F w w2) := by
  refine ⟨⟨?_, hd1.same (fun k hk => kb.block k (hd1.lt k hk) (by simp; exact fun e => hnj (e ▸ hk))), hnj, hnm⟩, hk1.trans kb (fun x hx => .inr (by simp at hx; omega))⟩
  have e : J0.upTo 0 L = J0 := by rw [hJ0]; rfl
  rw [e, hJ0]
  exact hjr
 have HJ0 := hide' hJ0
 have HL := hide' hL
 have HJ := hide' hj
 have HM := hide' (show w.heap.size <= m by omega)
 have hLl : L.length <= pages := by rw [hL]; have := scan_le (gen := gen) (S.pgs first pages); rw [pgs_length H2.out] at this; exact this
 have HLL := hide' hLl
 have FIT := hide' H.out.good.fits
 clear hb1 hd1 hk1 hs1 hW1 hjr hm kb hj hJ0 hL hLl hnj hnm H
 go_wp2_with fail
 go_loopg [] pages (fun kx wr => ∃ k n : Nat, ∃ S1 : Dv, k <= pages /\ pages - k <= kx /\ Hid (k <= L.length /\ n <= 23 * k /\ S.like S1 /\ JD wr j d m n F (J0.upTo k L) S1 /\ Keep F w wr))
 case atStart => exact ⟨0, 0, S, Nat.zero_le _, by omega, Nat.zero_le _, Nat.zero_le _, Dv.like.refl S, T2.out⟩
 case round =>
  obtain ⟨k, n, S1, hkp, hkx, I⟩ := hrel
  have cells : Hid (∀ (W : World) (J : Jr) (m n : Nat) (S1 : Dv) (xs : List Mk), JD W j d m n F ((J0.upTo k L).keeps xs) S1 -> W.cell? ⟨j, 3, none⟩ = some (.int .i64 (pages : Int)) /\ W.cell? ⟨j, 4, none⟩ = some (.int .i64 (k : Int))) := fun W J m n S1 xs hW => by
   have hb := hW.jr.blk
   rw [keeps_cells] at hb
   refine ⟨?_, hb.cell (i := 4) rfl⟩
   have := hb.cell (i := 3) rfl
   have e : (J0.upTo k L).pages = (pages : Int) := by show (J0.keeps _).pages = _; rw [(keeps_same _ J0).2.2.1, HJ0.out]
   rw [e] at this
   exact this
  by_cases hlt : k < pages
  ·have hlt2 : (k : Int) < (pages : Int) := by omega
   obtain ⟨i1, i2, i3, i4, i5⟩ := I.out
   obtain ⟨q, hq⟩ : ∃ q, q = first + k := ⟨_, rfl⟩
   obtain ⟨c, hc⟩ : ∃ c, S1.cs[q]? = some c := ⟨_, List.getElem?_eq_getElem (by rw [i3.cs]; have := H2.out; omega)⟩
   have hfit : c.now.fits := (FIT.out c (by rw [<- i3.cs]; exact List.mem_of_getElem? hc)).1
   have hgk : (J0.upTo k L).gen = gen := by rw [upTo_gen, HJ0.out]
   have hpk : (S.pgs first pages)[k]? = some c.now := pgs_get hlt (by rw [<- i3.cs, <- hq]; exact hc)
   obtain ⟨rr, hrr⟩ : ∃ rr, rr = rTake (c.now.tk gen) := ⟨_, rfl⟩
   obtain ⟨xs, hxs⟩ : ∃ xs, xs = lTake (c.now.tk gen) := ⟨_, rfl⟩
   obtain ⟨CX, hCX⟩ : ∃ CX : Bool -> World -> Prop, CX = fun f W => if f then JD W j d m (n + xs.length) F ((J0.upTo k L).keeps xs) (S1.readDo (q : Int)) /\ Keep F w W else JD W j d m n F (J0.upTo k L) S1 /\ Keep F w W := ⟨_, rfl⟩
   have cT : Hid (∀ W, CX false W -> Calls Tryz.prog 152 #[.pointer (some ⟨j, 0, none⟩), .int .i64 (q : Int)] W fun e w' => e = .returned (.bool rr) /\ CX true w') := fun W hW => by
    rw [hCX] at hW
    obtain ⟨hW1, hW2⟩ := hW
    refine (take_any j d m n F (J0.upTo k L) S1 q c hc (i3.off.trans HOFF.out) hfit (by have := HNN.out; omega) W hW1).mono ?_
    rintro e w' ⟨rfl, t1, t2⟩
    rw [hgk] at t1 ⊢
    refine ⟨by rw [hrr], ?_⟩
    rw [hCX]
    simp only [if_true]
    rw [hxs]
    exact ⟨t1, hW2.trans t2 (fun x hx => by
     rcases List.mem_cons.1 hx with e | hx
     ·rw [e]; exact .inr HM.out
     ·exact .inl hx)⟩
   have CC : Hid (∀ f W, CX f W -> W.cell? ⟨j, 3, none⟩ = some (.int .i64 (pages : Int)) /\ W.cell? ⟨j, 4, none⟩ = some (.int .i64 (k : Int))) := fun f W hW => by
    rw [hCX] at hW
    cases f
    ·exact cells.out W J0 m n S1 [] hW.1
    ·exact cells.out W J0 m _ _ xs hW.1
   have DR : Hid (CX false { wr with drawn := wr.drawn + 1 }) := by show CX false _; rw [hCX]; exact ⟨i4.drew', i5.drew'⟩
   have hfk : (first : Int) + (k : Int) = (q : Int) := by omega
   have hq5 : q <= 5000 := by omega
   have hfk2 : wrap64 (q : Int) = (q : Int) := wrap_small q hq5
   have hfk3 : IntKind.i64.wrap (q : Int) = (q : Int) := wrap_small' q hq5
   have HQ := hide' hq
   clear hq
   have FIN : Hid (rr = true -> k < L.length /\ xs.length <= 23 /\ J0.upTo (k + 1) L = { (J0.upTo k L).keeps xs with used := ((k + 1 : Nat) : Int) }) := fun e => by
    rw [hrr] at e
    obtain ⟨ys, hys⟩ : ∃ ys, c.now.tk gen = some ys := Option.isSome_iff_exists.1 e
    have h3 : L[k]? = some ys := by rw [HL.out] at i1 ⊢; exact scan_next i1 hpk hys
    have hxy : xs = ys := by rw [hxs, hys]; rfl
    rw [hxy]
    exact ⟨(List.getElem?_eq_some_iff.1 h3).1, tk_len hys, upTo_succ J0 k L ys h3⟩
   have FIN0 : Hid (rr = false -> L.length = k /\ xs = []) := fun e => by
    rw [hrr] at e
    have hys : c.now.tk gen = none := by cases h : c.now.tk gen with | none => rfl | some _ => rw [h] at e; cases e
    exact ⟨by rw [HL.out] at i1 ⊢; exact scan_stop i1 hpk hys, by rw [hxs, hys]; rfl⟩
   have HCX := hide' hCX
   have I3 := hide' i3
   have I2 := hide' i2
   clear hc hfit hgk hpk hrr hxs hCX i1 i2 i3 i4 i5 I cells
   go_wp2_with fail
   refine wp_region_gturn (by kernel_rfl) (by kernel_rfl) (fun i => ([.pointer (some ⟨j, 0, none⟩), .pointer (some ⟨j, 0, none⟩), .pointer (some ⟨j, 4, none⟩), .int .i64 (k : Int), .pointer (some ⟨j, 0, none⟩), .pointer (some ⟨j, 0, none⟩), .pointer (some ⟨j, 3, none⟩), .int .i64 (pages : Int), .bool true, .bool true, .pointer (some ⟨j, 0, none⟩), .int .i64 (first : Int), .pointer (some ⟨j, 0, none⟩), .pointer (some ⟨j, 0, none⟩), .pointer (some ⟨j, 4, none⟩), .int .i64 (k : Int), .int .i64 (q : Int), .bool rr, .bool rr] : List Value).getD i undef) 17 (by decide) (fun f W => CX f W) (size_of (n := 65) (by kernel_rfl) rfl) (DR.out) ?_ ?_
   ·intro i o hi f w' ev hc hz hin hout hcst hfn
    have hlt : i < 19 := by
     have := (Array.getElem?_eq_some_iff.1 hi).1
     simpa using this
    match i, hlt with
    | 0, _ =>
     cases hi
     rw [if_pos (by first | rfl | simp [wantV])]
     rw [if_neg (by decide)]
     have e0 : ev (.tmp 10) = .pointer (some ⟨j, 0, none⟩) := hout 10
     refine .inl ⟨w', ?_, hc⟩
     simp [execOp, e0, hcst, go_sem]
    | 1, _ =>
     cases hi
     rw [if_pos (by first | rfl | simp [wantV])]
     rw [if_neg (by decide)]
     have e0 : ev (.tmp 38) = .pointer (some ⟨j, 0, none⟩) := hin 38 0 ⟨0, .data⟩
     refine .inl ⟨w', ?_, hc⟩
     show _ = Result.ok (Next.value (.pointer (some ⟨j, 0, none⟩))) w'
     simp only [execOp, e0, hcst]
     go_simp
    | 2, _ =>
     cases hi
     rw [if_pos (by first | rfl | simp [wantV])]
     rw [if_neg (by decide)]
     have e0 : ev (.tmp 39) = .pointer (some ⟨j, 0, none⟩) := hin 39 1 ⟨1, .data⟩
     refine .inl ⟨w', ?_, hc⟩
     show _ = Result.ok (Next.value (.pointer (some ⟨j, 4, none⟩))) w'
     simp only [execOp, e0, hcst]
     go_simp
    | 3, _ =>
     cases hi
     rw [if_pos (by first | rfl | simp [wantV])]
     rw [if_neg (by decide)]
     have e0 : ev (.tmp 40) = .pointer (some ⟨j, 4, none⟩) := hin 40 2 ⟨2, .data⟩
     refine .inl ⟨w', ?_, hc⟩
     show _ = Result.ok (Next.value (.int .i64 (k : Int))) w'
     obtain ⟨z3, z4⟩ := CC.out f w' hc
     simp only [execOp, e0]
     go_simp
    | 4, _ =>
     cases hi
     rw [if_pos (by first | rfl | simp [wantV])]
     rw [if_neg (by decide)]
     have e0 : ev (.tmp 10) = .pointer (some ⟨j, 0, none⟩) := hout 10
     refine .inl ⟨w', ?_, hc⟩
     simp [execOp, e0, hcst, go_sem]
    | 5, _ =>
     cases hi
     rw [if_pos (by first | rfl | simp [wantV])]
     rw [if_neg (by decide)]
     have e0 : ev (.tmp 42) = .pointer (some ⟨j, 0, none⟩) := hin 42 4 ⟨4, .data⟩
     refine .inl ⟨w', ?_, hc⟩
     show _ = Result.ok (Next.value (.pointer (some ⟨j, 0, none⟩))) w'
     simp only [execOp, e0, hcst]
     go_simp
    | 6, _ =>
     cases hi
     rw [if_pos (by first | rfl | simp [wantV])]
     rw [if_neg (by decide)]
     have e0 : ev (.tmp 43) = .pointer (some ⟨j, 0, none⟩) := hin 43 5 ⟨5, .data⟩
     refine .inl ⟨w', ?_, hc⟩
     show _ = Result.ok (Next.value (.pointer (some ⟨j, 3, none⟩))) w'
     simp only [execOp, e0, hcst]
     go_simp
    | 7, _ =>
     cases hi
     rw [if_pos (by first | rfl | simp [wantV])]
     rw [if_neg (by decide)]
     have e0 : ev (.tmp 44) = .pointer (some ⟨j, 3, none⟩) := hin 44 6 ⟨6, .data⟩
     refine .inl ⟨w', ?_, hc⟩
     show _ = Result.ok (Next.value (.int .i64 (pages : Int))) w'
     obtain ⟨z3, z4⟩ := CC.out f w' hc
     simp only [execOp, e0]
     go_simp
    | 8, _ =>
     cases hi
     rw [if_pos (by first | rfl | simp [wantV])]
     rw [if_neg (by decide)]
     have e0 : ev (.tmp 41) = .int .i64 (k : Int) := hin 41 3 ⟨3, .data⟩
     have e1 : ev (.tmp 45) = .int .i64 (pages : Int) := hin 45 7 ⟨7, .data⟩
     refine .inl ⟨w', ?_, hc⟩
     show _ = Result.ok (Next.value (.bool true)) w'
     simp only [execOp, e0, e1, hcst]
     go_simp
    | 9, _ =>
     cases hi
     rw [if_pos (by first | rfl | simp [wantV])]
     rw [if_neg (by decide)]
     have e0 : ev (.tmp 46) = .bool true := hin 46 8 ⟨8, .data⟩
     refine .inl ⟨w', ?_, hc⟩
     simp [execOp, e0, hcst, go_sem]
    | 10, _ =>
     cases hi
     rw [if_pos (by first | rfl | simp [wantV])]
     rw [if_neg (by decide)]
     have e0 : ev (.tmp 10) = .pointer (some ⟨j, 0, none⟩) := hout 10
     refine .inl ⟨w', ?_, hc⟩
     simp [execOp, e0, hcst, go_sem]
    | 11, _ =>
     cases hi
     rw [if_pos (by first | rfl | simp [wantV])]
     rw [if_neg (by decide)]
     have e0 : ev (.tmp 1) = .int .i64 (first : Int) := hout 1
     refine .inl ⟨w', ?_, hc⟩
     simp [execOp, e0, hcst, go_sem]
    | 12, _ =>
     cases hi
     rw [if_pos (by first | rfl | simp [wantV])]
     rw [if_neg (by decide)]
     have e0 : ev (.tmp 10) = .pointer (some ⟨j, 0, none⟩) := hout 10
     refine .inl ⟨w', ?_, hc⟩
     simp [execOp, e0, hcst, go_sem]
    | 13, _ =>
     cases hi
     rw [if_pos (by first | rfl | simp [wantV])]
     rw [if_neg (by decide)]
     have e0 : ev (.tmp 50) = .pointer (some ⟨j, 0, none⟩) := hin 50 12 ⟨12, .data⟩
     refine .inl ⟨w', ?_, hc⟩
     show _ = Result.ok (Next.value (.pointer (some ⟨j, 0, none⟩))) w'
     simp only [execOp, e0, hcst]
     go_simp
    | 14, _ =>
     cases hi
     rw [if_pos (by first | rfl | simp [wantV])]
     rw [if_neg (by decide)]
     have e0 : ev (.tmp 51) = .pointer (some ⟨j, 0, none⟩) := hin 51 13 ⟨13, .data⟩
     refine .inl ⟨w', ?_, hc⟩
     show _ = Result.ok (Next.value (.pointer (some ⟨j, 4, none⟩))) w'
     simp only [execOp, e0, hcst]
     go_simp
    | 15, _ =>
     cases hi
     rw [if_pos (by first | rfl | simp [wantV])]
     rw [if_neg (by decide)]
     have e0 : ev (.tmp 52) = .pointer (some ⟨j, 4, none⟩) := hin 52 14 ⟨14, .data⟩
     refine .inl ⟨w', ?_, hc⟩
     show _ = Result.ok (Next.value (.int .i64 (k : Int))) w'
     obtain ⟨z3, z4⟩ := CC.out f w' hc
     simp only [execOp, e0]
     go_simp
    | 16, _ =>
     cases hi
     rw [if_pos (by first | rfl | simp [wantV])]
     rw [if_neg (by decide)]
     have e0 : ev (.tmp 49) = .int .i64 (first : Int) := hin 49 11 ⟨11, .data⟩
     have e1 : ev (.tmp 53) = .int .i64 (k : Int) := hin 53 15 ⟨15, .data⟩
     refine .inl ⟨w', ?_, hc⟩
     show _ = Result.ok (Next.value (.int .i64 (q : Int))) w'
     simp only [execOp, e0, e1, hcst]
     go_simp
    | 17, _ =>
     cases hi
     rw [if_pos (by first | rfl | simp [wantV])]
     rw [if_pos rfl]
     have e0 : ev (.tmp 48) = .pointer (some ⟨j, 0, none⟩) := hin 48 10 ⟨10, .data⟩
     have e1 : ev (.tmp 54) = .int .i64 (q : Int) := hin 54 16 ⟨16, .data⟩
     refine .inr (.inr ⟨152, #[.pointer (some ⟨j, 0, none⟩), .int .i64 (q : Int)], ?_, ?_⟩)
     ·have ef := hfn 152
      simp [execOp, resolve, invoke, ef, hcst, e0, e1, Result.andThen]
      exact entt30 _ _
     ·have hf := hz rfl
      subst hf
      exact cT.out w' hc
    | 18, _ =>
     cases hi
     rw [if_pos (by first | rfl | simp [wantV])]
     rw [if_neg (by decide)]
     have e0 : ev (.tmp 47) = .bool true := hin 47 9 ⟨9, .data⟩
     have e1 : ev (.tmp 55) = .bool rr := hin 55 17 ⟨17, .data⟩
     refine .inl ⟨w', ?_, hc⟩
     simp [execOp, e0, e1, hcst, go_sem]
   ·intro w7 hc
    simp only [lexF, Act.put, List.setIfInBounds_toArray, List.set_cons_succ, List.set_cons_zero, List.getD_cons_succ, List.getD_cons_zero]
    have HC := hide' hc
    clear hc DR cT CC
    cases rr
    ·have FF := hide' (FIN0.out rfl)
     clear FIN FIN0
     go_wp2
     go_ret2
     obtain ⟨f1, f2⟩ := FF.out
     unfold TOpenPost
     have t := HC.out
     rw [HCX.out] at t
     simp only [if_true] at t
     rw [f2] at t
     refine ⟨j, m, n, S1.readDo (q : Int), rfl, ?_, I3.out.trans (Dv.like_read _ _), t.2, by rw [HJ.out]; exact Nat.le_refl _, HM.out, by have := I2.out; omega⟩
     have e : openJ S first pages gen = J0.upTo k L := by unfold openJ; rw [<- HJ0.out, <- HL.out, f1]
     rw [e]
     exact t.1
    ·have t := HC.out
     rw [HCX.out] at t
     simp only [if_true] at t
     have b4 := t.1.jr.blk
     rw [keeps_cells] at b4
     have q4 : w7.cell? ⟨j, 4, none⟩ = some (.int .i64 (k : Int)) := b4.cell (i := 4) rfl
     have z4 := b4.frozen 4
     obtain ⟨f1, f2, f3⟩ := FIN.out rfl
     have F1 := hide' f1
     have F2 := hide' f2
     have F3 := hide' f3
     have TT := hide' t
     clear t b4 f1 f2 f3 HC FIN FIN0
     go_wp2
     go_roundg (pages - (k + 1))
     case measure => omega
     case rel =>
      refine ⟨k + 1, n + xs.length, S1.readDo (q : Int), by omega, by omega, F1.out, by have := F2.out; have := I2.out; omega, I3.out.trans (Dv.like_read _ _), ?_, TT.out.2.setCell (p := ⟨j, 4, none⟩) (.inr (by rw [HJ.out]; exact Nat.le_refl _)) _⟩
      rw [F3.out]
      exact TT.out.1.setUsed ((k + 1 : Nat) : Int)
  ·have hkp2 : k = pages := by omega
   have hlt2 : ((k : Int) < (pages : Int)) = False := eq_false (by omega)
   obtain ⟨i1, i2, i3, i4, i5⟩ := I.out
   have CC : Hid (∀ W, JD W j d m n F (J0.upTo k L) S1 /\ Keep F w W -> W.cell? ⟨j, 3, none⟩ = some (.int .i64 (pages : Int)) /\ W.cell? ⟨j, 4, none⟩ = some (.int .i64 (k : Int))) := fun W hW => cells.out W J0 m n S1 [] hW.1
   have DR : Hid (JD { wr with drawn := wr.drawn + 1 } j d m n F (J0.upTo k L) S1 /\ Keep F w { wr with drawn := wr.drawn + 1 }) := ⟨i4.drew', i5.drew'⟩
   have HK := hide' hkp2
   have I1 := hide' i1
   have I2 := hide' i2
   have I3 := hide' i3
   clear i1 i2 i3 i4 i5 I cells hkp2 hlt
   go_wp2_with fail
   refine wp_region_guard (by kernel_rfl) (by kernel_rfl) (fun i => ([.pointer (some ⟨j, 0, none⟩), .pointer (some ⟨j, 0, none⟩), .pointer (some ⟨j, 4, none⟩), .int .i64 (k : Int), .pointer (some ⟨j, 0, none⟩), .pointer (some ⟨j, 0, none⟩), .pointer (some ⟨j, 3, none⟩), .int .i64 (pages : Int), .bool false, .bool false, undef, undef, undef, undef, undef, undef, undef, undef, .bool false] : List Value).getD i undef) (fun W => JD W j d m n F (J0.upTo k L) S1 /\ Keep F w W) (size_of (n := 65) (by kernel_rfl) rfl) (DR.out) ?_ ?_
   ·intro i o hi w' ev hc hin hout hcst hfn
    have hlt : i < 19 := by
     have := (Array.getElem?_eq_some_iff.1 hi).1
     simpa using this
    match i, hlt with
    | 0, _ =>
     cases hi
     rw [if_pos (by first | rfl | simp [wantV])]
     have e0 : ev (.tmp 10) = .pointer (some ⟨j, 0, none⟩) := hout 10
     refine .inl ⟨w', ?_, hc⟩
     simp [execOp, e0, hcst, go_sem]
    | 1, _ =>
     cases hi
     rw [if_pos (by first | rfl | simp [wantV])]
     have e0 : ev (.tmp 38) = .pointer (some ⟨j, 0, none⟩) := hin 38 0 ⟨0, .data⟩
     refine .inl ⟨w', ?_, hc⟩
     show _ = Result.ok (Next.value (.pointer (some ⟨j, 0, none⟩))) w'
     simp only [execOp, e0, hcst]
     go_simp
    | 2, _ =>
     cases hi
     rw [if_pos (by first | rfl | simp [wantV])]
     have e0 : ev (.tmp 39) = .pointer (some ⟨j, 0, none⟩) := hin 39 1 ⟨1, .data⟩
     refine .inl ⟨w', ?_, hc⟩
     show _ = Result.ok (Next.value (.pointer (some ⟨j, 4, none⟩))) w'
     simp only [execOp, e0, hcst]
     go_simp
    | 3, _ =>
     cases hi
     rw [if_pos (by first | rfl | simp [wantV])]
     have e0 : ev (.tmp 40) = .pointer (some ⟨j, 4, none⟩) := hin 40 2 ⟨2, .data⟩
     refine .inl ⟨w', ?_, hc⟩
     show _ = Result.ok (Next.value (.int .i64 (k : Int))) w'
     obtain ⟨z3, z4⟩ := CC.out w' hc
     simp only [execOp, e0]
     go_simp
    | 4, _ =>
     cases hi
     rw [if_pos (by first | rfl | simp [wantV])]
     have e0 : ev (.tmp 10) = .pointer (some ⟨j, 0, none⟩) := hout 10
     refine .inl ⟨w', ?_, hc⟩
     simp [execOp, e0, hcst, go_sem]
    | 5, _ =>
     cases hi
     rw [if_pos (by first | rfl | simp [wantV])]
     have e0 : ev (.tmp 42) = .pointer (some ⟨j, 0, none⟩) := hin 42 4 ⟨4, .data⟩
     refine .inl ⟨w', ?_, hc⟩
     show _ = Result.ok (Next.value (.pointer (some ⟨j, 0, none⟩))) w'
     simp only [execOp, e0, hcst]
     go_simp
    | 6, _ =>
     cases hi
     rw [if_pos (by first | rfl | simp [wantV])]
     have e0 : ev (.tmp 43) = .pointer (some ⟨j, 0, none⟩) := hin 43 5 ⟨5, .data⟩
     refine .inl ⟨w', ?_, hc⟩
     show _ = Result.ok (Next.value (.pointer (some ⟨j, 3, none⟩))) w'
     simp only [execOp, e0, hcst]
     go_simp
    | 7, _ =>
     cases hi
     rw [if_pos (by first | rfl | simp [wantV])]
     have e0 : ev (.tmp 44) = .pointer (some ⟨j, 3, none⟩) := hin 44 6 ⟨6, .data⟩
     refine .inl ⟨w', ?_, hc⟩
     show _ = Result.ok (Next.value (.int .i64 (pages : Int))) w'
     obtain ⟨z3, z4⟩ := CC.out w' hc
     simp only [execOp, e0]
     go_simp
    | 8, _ =>
     cases hi
     rw [if_pos (by first | rfl | simp [wantV])]
     have e0 : ev (.tmp 41) = .int .i64 (k : Int) := hin 41 3 ⟨3, .data⟩
     have e1 : ev (.tmp 45) = .int .i64 (pages : Int) := hin 45 7 ⟨7, .data⟩
     refine .inl ⟨w', ?_, hc⟩
     show _ = Result.ok (Next.value (.bool false)) w'
     simp only [execOp, e0, e1, hcst]
     go_simp
    | 9, _ =>
     cases hi
     rw [if_pos (by first | rfl | simp [wantV])]
     have e0 : ev (.tmp 46) = .bool false := hin 46 8 ⟨8, .data⟩
     refine .inl ⟨w', ?_, hc⟩
     simp [execOp, e0, hcst, go_sem]
    | 10, _ =>
     cases hi
     rw [if_neg (by first | (simp [wantV]; done) | (simp [wantV]; rfl))]
     rfl
    | 11, _ =>
     cases hi
     rw [if_neg (by first | (simp [wantV]; done) | (simp [wantV]; rfl))]
     rfl
    | 12, _ =>
     cases hi
     rw [if_neg (by first | (simp [wantV]; done) | (simp [wantV]; rfl))]
     rfl
    | 13, _ =>
     cases hi
     rw [if_neg (by first | (simp [wantV]; done) | (simp [wantV]; rfl))]
     rfl
    | 14, _ =>
     cases hi
     rw [if_neg (by first | (simp [wantV]; done) | (simp [wantV]; rfl))]
     rfl
    | 15, _ =>
     cases hi
     rw [if_neg (by first | (simp [wantV]; done) | (simp [wantV]; rfl))]
     rfl
    | 16, _ =>
     cases hi
     rw [if_neg (by first | (simp [wantV]; done) | (simp [wantV]; rfl))]
     rfl
    | 17, _ =>
     cases hi
     rw [if_neg (by first | (simp [wantV]; done) | (simp [wantV]; rfl))]
     rfl
    | 18, _ =>
     cases hi
     rw [if_pos (by first | rfl | simp [wantV])]
     have e0 : ev (.tmp 47) = .bool false := hin 47 9 ⟨9, .data⟩
     have e1 : ev (.tmp 55) = undef := hin 55 17 ⟨17, .data⟩
     refine .inl ⟨w', ?_, hc⟩
     simp [execOp, e0, e1, hcst, go_sem]
   ·intro w7 hc
    simp only [lexF, Act.put, List.setIfInBounds_toArray, List.set_cons_succ, List.set_cons_zero, List.getD_cons_succ, List.getD_cons_zero]
    have HC := hide' hc
    clear hc DR CC
    go_wp2
    go_ret2
    unfold TOpenPost
    refine ⟨j, m, n, S1, rfl, ?_, I3.out, HC.out.2, by rw [HJ.out]; exact Nat.le_refl _, HM.out, by have := I2.out; have := HK.out; omega⟩
    have e : openJ S first pages gen = J0.upTo k L := by
     have : L.length = k := by have := I1.out; have := HLL.out; have := HK.out; omega
     unfold openJ; rw [<- HJ0.out, <- HL.out, this]
    rw [e]
    exact HC.out.1
end Go.Proofs.YtcdghalnneilpaaGreat
