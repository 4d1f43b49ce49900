/- Joined texts. -/
import Derived.Test.YtcdghalnneilpaaGreatR38
set_option linter.unusedVariables false
set_option linter.unusedSimpArgs false
set_option maxRecDepth 8000
set_option maxHeartbeats 8000000
namespace Go.Proofs.YtcdghalnneilpaaGreat
open Go.RowKit Go.Deep Math
section
variable {w0 w w' : World} {x d : Nat} {E : En} {j m nj : Nat} {J : Jr} {s first n : Nat} {S S' : Dv} {f : Nat -> List It} {bs : List (List Bool)} {G G' : List Nat} {l ml : Nat} {v5 v6 v7 : Value} {T : Lg}
theorem ml_mem : ml ∈ lblocks l ml v5 v6 v7 T := by simp [lblocks, lfoot]
theorem EnAt.turn (h : EnAt w0 w x d E j m nj J s first n S f bs G l ml v5 v6 v7 T) {f' : Nat -> List It} {bs' : List (List Bool)} (hb : Bu w0 w' d s first n S' f' bs' G') (k : Moves G G' w w') : EnAt w0 w' x d E j m nj J s first n S' f' bs' G' l ml v5 v6 v7 T := by
 have far : ∀ q, q < w.heap.size -> q ∉ G -> q ∉ G' := fun q hq hg hg' => by
  rcases k.foot q hg' with h1 | h1
  ·exact hg h1
  ·omega
 exact ⟨h.box.same (k.keep.block _ h.box.lt h.xG), h.jr.keep k.keep h.jG h.mG, hb, h.lg.same (fun q hq => k.keep.block q (h.lg.lt q hq) (h.lG q hq)), far x h.box.lt h.xG, far j h.jr.blk.lt h.jG, far m h.jr.mlt h.mG, fun q hq => far q (h.lg.lt q hq) (h.lG q hq), h.low, h.xL, h.jL, h.mL, h.xm⟩
theorem EnAt.dropped (h : EnAt w0 w x d E j m nj J s first n S f bs G l ml v5 v6 v7 T) (k : Keep [ml] w w') (key : List UInt8) (hL : LgIn w' l d ml v5 v6 v7 (T.drop key)) (hmm : m ≠ ml) (hlow : w0.heap.size <= ml) : EnAt w0 w' x d E j m nj J s first n S f bs G l ml v5 v6 v7 (T.drop key) :=
 ⟨h.box.same (k.block _ h.box.lt (by simpa using h.lg.notM h.box)), h.jr.keep k (by simpa using h.lg.notM h.jr.blk) (by simpa using hmm), h.bu.keep k (fun q hq => by
  rw [List.mem_singleton.1 hq]
  exact ⟨h.lG ml ml_mem, hlow⟩), hL, h.xG, h.jG, h.mG, fun q hq => h.lG q hq, h.low, h.xL, h.jL, h.mL, h.xm⟩
def PutSm (w : World) (w0 : World) (x d : Nat) (E : En) (j m nj : Nat) (J : Jr) (s first n : Nat) (S : Dv) (f : Nat -> List It) (bs : List (List Bool)) (G : List Nat) (l ml : Nat) (v5 v6 v7 : Value) (T : Lg) (y : It) (w' : World) : Prop :=
 ∃ S' bs' G', EnAt w0 w' x d E j m nj J s first n S' (putF n f y) bs' G' l ml v5 v6 v7 (T.drop y.key) /\ (∀ lb, bs[bkt y.key n]? = some lb -> bs' = bs.set (bkt y.key n) (keyB lb y)) /\ S'.losses = S.losses /\ Dv.far first n S S' /\ Keep (ml :: G) w w' /\ ∀ q ∈ G', q ∈ G \/ w.heap.size <= q
theorem putSmall_few (h : EnAt w0 w x d E j m nj J s first n S f bs G l ml v5 v6 v7 T) (y : It) (hyf : y.fits) (hyg : y.good = true) (hys : y.size <= 120) (hout : outL n f y = []) (hmm : m ≠ ml) (hlow : w0.heap.size <= ml) (hk : y.key.length <= 140737488351232) :
  Calls Tryz.prog 53 #[.pointer (some ⟨x, 0, none⟩), .agg #[.string (txt y.key), .string (txt y.value), .int .u32 y.flags, .int .i64 y.exp, .int .u64 y.ver]] w fun e w' => e = .returned (.int .i64 0) /\ PutSm w w0 x d E j m nj J s first n S f bs G l ml v5 v6 v7 T y w' := by
 have BA : Below w.heap.size w (w.alloc (.cells #[.string (txt y.key), .string (txt y.value), .int .u32 y.flags, .int .i64 y.exp, .int .u64 y.ver] 39)).drew := by
  have b := (Below.refl w.heap.size w).alloc (Nat.le_refl _) (.cells #[.string (txt y.key), .string (txt y.value), .int .u32 y.flags, .int .i64 y.exp, .int .u64 y.ver] 39)
  exact ⟨b.os, b.tape, b.output, b.size, b.block⟩
 have hA := h.below BA
 have hsz : (w.alloc (.cells #[.string (txt y.key), .string (txt y.value), .int .u32 y.flags, .int .i64 y.exp, .int .u64 y.ver] 39)).drew.heap.size = w.heap.size + 1 := nblk_alloc _ _
 have hNB : Blk (w.alloc (.cells #[.string (txt y.key), .string (txt y.value), .int .u32 y.flags, .int .i64 y.exp, .int .u64 y.ver] 39)).drew w.heap.size (itL y) 39 := (Blk.new w (itL y) 39)
 have hNG : w.heap.size ∉ G := fun hq => by have := (h.bu.lt _ hq).1; omega
 have cP := bu_put hA.bu y hyf hyg hys
 rw [hout] at cP
 refine (putSmall_two y h.box (fun v W => Row W (w.alloc (.cells #[.string (txt y.key), .string (txt y.value), .int .u32 y.flags, .int .i64 y.exp, .int .u64 y.ver] 39)).drew.heap.size v [] /\ ∃ S' bs' G', Bu w0 W d s first n S' (putF n f y) bs' G' /\ (∀ lb, bs[bkt y.key n]? = some lb -> bs' = bs.set (bkt y.key n) (keyB lb y)) /\ Moves G G' (w.alloc (.cells #[.string (txt y.key), .string (txt y.value), .int .u32 y.flags, .int .i64 y.exp, .int .u64 y.ver] 39)).drew W /\ S'.losses = S.losses /\ Dv.far first n S S') (fun W w' => LgIn w' l d ml v5 v6 v7 (T.drop y.key) /\ Keep [ml] W w') ?_ ?_ ?_).mono ?_
 ·rintro v W ⟨hr, S', bs', G', hb, hbs, hmv, hl, hc⟩
  refine ⟨?_, hA.box.same (hmv.keep.block _ hA.box.lt hA.xG), hNB.same (hmv.keep.block _ (by rw [hsz]; omega) hNG)⟩
  obtain ⟨a, c, e⟩ := hr.sl
  exact ⟨a, c, e⟩
 ·exact cP
 ·rintro v W ⟨hr, S', bs', G', hb, hbs, hmv, hl, hc⟩
  have hW := hA.turn hb hmv
  refine (drop_log (w := W.drew) (hW.lg.heap rfl) y.key hk).mono ?_
  rintro e w' ⟨rfl, hL, hK⟩
  exact ⟨rfl, hL, ⟨hK.os, hK.tape, hK.output, hK.size, hK.block⟩⟩
 ·rintro e w' ⟨rfl, v, W, ⟨hr, S', bs', G', hb, hbs, hmv, hl, hc⟩, hL, hK⟩
  have hW := hA.turn hb hmv
  refine ⟨rfl, S', bs', G', hW.dropped hK y.key hL hmm hlow, hbs, hl, hc, ?_, ?_⟩
  ·have k1 : Keep (ml :: G) w (w.alloc (.cells #[.string (txt y.key), .string (txt y.value), .int .u32 y.flags, .int .i64 y.exp, .int .u64 y.ver] 39)).drew := Keep.of_below BA
   have k2 := k1.trans hmv.keep (fun q hq => .inl (List.mem_cons_of_mem _ hq))
   exact k2.trans hK (fun q hq => .inl (by rw [List.mem_singleton.1 hq]; exact List.mem_cons_self ..))
  ·intro q hq
   rcases hmv.foot q hq with h1 | h1
   ·exact .inl h1
   ·rw [hsz] at h1; exact .inr (by omega)
end
section
variable {w : World} {x : Nat}
theorem eput_bad (y : It) (hg : y.good = false) :
  Calls Tryz.prog 13 #[.pointer (some ⟨x, 0, none⟩), .agg #[.string (txt y.key), .string (txt y.value), .int .u32 y.flags, .int .i64 y.exp, .int .u64 y.ver]] w fun e w' => e = .returned (.int .i64 1) /\ Below w.heap.size w w' := by
 have cG := good_it y (w.alloc (.cells #[.string (txt y.key), .string (txt y.value), .int .u32 y.flags, .int .i64 y.exp, .int .u64 y.ver] 39))
 rw [hg] at cG
 have CG := hide cG
 have B := hide ((Below.refl w.heap.size w).alloc (Nat.le_refl _) (.cells #[.string (txt y.key), .string (txt y.value), .int .u32 y.flags, .int .i64 y.exp, .int .u64 y.ver] 39))
 clear cG hg
 go_enter Tryz.func13, Tryz.ntmps13
 go_wp2_with fail
 refine CG.out.mono ?_
 rintro r w1 ⟨rfl, b1⟩
 have B1 : Hid (Below w.heap.size w w1) := B.out.trans (b1.mono (by rw [nblk_alloc]; omega))
 clear b1 CG B
 go_wp2
 go_ret
 exact ⟨rfl, B1.out⟩
theorem eput_go (y : It) (hg : y.good = true) (hk : y.key.length <= 140737488351232) (hv : y.value.length <= 140737488351232) (hs : y.size <= 1472) (R : Value -> World -> Prop) (c : ∀ W, Below w.heap.size w W -> Calls Tryz.prog (if 120 < y.size then 52 else 53) #[.pointer (some ⟨x, 0, none⟩), .agg #[.string (txt y.key), .string (txt y.value), .int .u32 y.flags, .int .i64 y.exp, .int .u64 y.ver]] W fun e w' => ∃ v, e = .returned v /\ R v w') :
  Calls Tryz.prog 13 #[.pointer (some ⟨x, 0, none⟩), .agg #[.string (txt y.key), .string (txt y.value), .int .u32 y.flags, .int .i64 y.exp, .int .u64 y.ver]] w fun e w' => ∃ v, e = .returned v /\ R v w' := by
 have cG := good_it y (w.alloc (.cells #[.string (txt y.key), .string (txt y.value), .int .u32 y.flags, .int .i64 y.exp, .int .u64 y.ver] 39))
 rw [hg] at cG
 have CG := hide cG
 have CS := hide (fun W => size_it y hk hv W)
 have B := hide ((Below.refl w.heap.size w).alloc (Nat.le_refl _) (.cells #[.string (txt y.key), .string (txt y.value), .int .u32 y.flags, .int .i64 y.exp, .int .u64 y.ver] 39))
 have HB : Hid (Blk (w.alloc (.cells #[.string (txt y.key), .string (txt y.value), .int .u32 y.flags, .int .i64 y.exp, .int .u64 y.ver] 39)) w.heap.size (itL y) 39) := Blk.new w _ 39
 have e1 : ((1472 : Int) < (y.size : Int)) = False := eq_false (by omega)
 have CC := hide c
 clear cG hg hk hv hs c
 go_enter Tryz.func13, Tryz.ntmps13
 go_wp2_with fail
 refine CG.out.mono ?_
 rintro r w1 ⟨rfl, b1⟩
 have hB1 : Blk w1 w.heap.size (itL y) 39 := HB.out.same (b1.block _ HB.out.lt)
 have B1 : Hid (Below w.heap.size w w1) := B.out.trans (b1.mono (by rw [nblk_alloc]; omega))
 have HB1 := hide hB1
 obtain ⟨p0, p1, p2, p3, p4, _⟩ := cells5 hB1
 clear b1 CG B HB hB1
 go_wp2_with fail
 refine (CS.out w1).mono ?_
 rintro r w2 ⟨rfl, b2⟩
 have hB2 : Blk w2 w.heap.size (itL y) 39 := HB1.out.same (b2.block _ HB1.out.lt)
 have B2 : Hid (Below w.heap.size w w2) := B1.out.trans (b2.mono B1.out.size)
 have HB2 := hide hB2
 clear b2 B1 p0 p1 p2 p3 p4 HB1
 obtain ⟨p0, p1, p2, p3, p4, _⟩ := cells5 hB2
 clear hB2
 have HS : Hid (∃ sz, y.size = sz) := ⟨_, rfl⟩
 go_wp2_with fail
 refine (CS.out w2).mono ?_
 rintro r w3 ⟨rfl, b3⟩
 have hB3 : Blk w3 w.heap.size (itL y) 39 := HB2.out.same (b3.block _ HB2.out.lt)
 have B3 : Hid (Below w.heap.size w w3) := B2.out.trans (b3.mono B2.out.size)
 clear b3 B2 p0 p1 p2 p3 p4 HB2 CS
 obtain ⟨p0, p1, p2, p3, p4, _⟩ := cells5 hB3
 clear hB3
 by_cases hq : 120 < y.size
 ·have e2 : ((120 : Int) < (y.size : Int)) = True := eq_true (by omega)
  have C3 := CC.out w3 B3.out
  rw [if_pos hq] at C3
  have HC3 := hide C3
  clear CC C3 hq
  go_wp2_with fail
  refine HC3.out.mono ?_
  rintro r w4 ⟨v, rfl, hR⟩
  have HR := hide hR
  clear hR
  go_wp2
  exact bodyPost_ret (v := v) (by simp [results, Tryz.results13, go_sem]) rfl ⟨v, rfl, HR.out⟩
 ·have e2 : ((120 : Int) < (y.size : Int)) = False := eq_false (by omega)
  have C3 := CC.out w3 B3.out
  rw [if_neg hq] at C3
  have HC3 := hide C3
  clear CC C3 hq
  go_wp2_with fail
  refine HC3.out.mono ?_
  rintro r w4 ⟨v, rfl, hR⟩
  have HR := hide hR
  clear hR
  go_wp2
  exact bodyPost_ret (v := v) (by simp [results, Tryz.results13, go_sem]) rfl ⟨v, rfl, HR.out⟩
end
section
variable {w : World} {x d l : Nat} {F : List Nat} {S : Dv} {E : En} {jp sp mp : Value}
theorem settle_two (hb : Blk w x (enL d E jp sp (.pointer (some ⟨l, 0, none⟩)) mp) 104) (h : DvAt w d F S) (hl : S.losses = E.losses) (D : World -> Prop) (H : World -> Int -> World -> Prop)
  (cS : ∀ q, Calls Tryz.prog 81 #[.pointer (some ⟨l, 0, none⟩)] (w.drewN q) fun e w' => ∃ v, e = .returned (.tuple #[v, .int .i64 0]) /\ D w')
  (hD : ∀ W, D W -> Blk W x (enL d E jp sp (.pointer (some ⟨l, 0, none⟩)) mp) 104)
  (cF : ∀ W, D W -> Calls Tryz.prog 83 #[.pointer (some ⟨d, 0, none⟩)] W fun e w' => ∃ er, e = .returned (.int .i64 er) /\ H W er w') :
  Calls Tryz.prog 30 #[.pointer (some ⟨x, 0, none⟩)] w fun e w' => ∃ er W, e = .returned (.int .i64 er) /\ D W /\ H W er w' := by
 have cD := hide (done_any hb h)
 have hne : (S.losses != E.losses) = false := by simpa using hl
 have c12 : ∀ q, (w.drewN q).cell? ⟨x, 12, none⟩ = some (.pointer (some ⟨l, 0, none⟩)) := fun q => (hb.same (w' := w.drewN q) rfl).cell (i := 12) rfl
 have C12 := hide c12
 have CS := hide cS
 have CF := hide cF
 have HD := hide hD
 clear hb h hl c12 cS cF hD
 go_enter Tryz.func30, Tryz.ntmps30
 go_wp2_with fail
 refine cD.out.mono ?_
 rintro r w1 ⟨rfl, q, rfl⟩
 rw [hne]
 have c12 := C12.out q
 have cS := hide (CS.out q)
 clear cD CS C12
 generalize w.drewN q = W0 at *
 go_wp2_with fail
 refine cS.out.mono ?_
 rintro r w2 ⟨v, rfl, hd⟩
 have c0 := (HD.out w2 hd).cell (i := 0) rfl
 have cF := hide (CF.out w2 hd)
 have HDD := hide hd
 clear hd HD CF cS c12
 go_wp2_with fail
 refine cF.out.mono ?_
 rintro r w3 ⟨er, rfl, hH⟩
 have HH := hide hH
 clear hH cF c0
 go_wp2
 exact bodyPost_ret (v := .int .i64 er) (by simp [results, Tryz.results30, go_sem]) rfl ⟨er, w2, rfl, HDD.out, HH.out⟩
end
def wthn (n a b : Int) : Bool := decide (a <= n) && decide (n <= b)
theorem within_any (n a b : Int) (w : World) : Calls Tryz.prog 58 #[.int .i64 n, .int .i64 a, .int .i64 b] w fun e w' => e = .returned (.bool (wthn n a b)) /\ w' = w := by
 unfold wthn
 by_cases h1 : a <= n
 ·have e1 : (a <= n) = True := eq_true h1
  rw [decide_eq_true h1]
  clear h1
  go_enter Tryz.func58, Tryz.ntmps58
  go_wp2
  go_ret
  exact ⟨by simp, rfl⟩
 ·have e1 : (a <= n) = False := eq_false h1
  rw [decide_eq_false h1]
  clear h1
  go_enter Tryz.func58, Tryz.ntmps58
  go_wp2
  go_ret
  exact ⟨rfl, rfl⟩
structure Geo where
 j : Int
 b : Int
 r : Int
 i : Int
def Geo.val (g : Geo) : Value := .agg #[.int .i64 g.j, .int .i64 g.b, .int .i64 g.r, .int .i64 g.i]
def Geo.good (g : Geo) : Bool := wthn g.j 1 64 && wthn g.b 1 64 && wthn g.r 1 16 && wthn g.i 0 256
theorem egood_any (g : Geo) (w : World) : Calls Tryz.prog 19 #[g.val] w fun e w' => e = .returned (.bool g.good) /\ Below w.heap.size w w' := by
 have cW := hide (fun n a b W => within_any n a b W)
 have B := hide ((Below.refl w.heap.size w).alloc (Nat.le_refl _) (.cells #[.int .i64 g.j, .int .i64 g.b, .int .i64 g.r, .int .i64 g.i] 34))
 unfold Geo.val Geo.good
 cases h1 : wthn g.j 1 64 with
 | false =>
  go_enter Tryz.func19, Tryz.ntmps19
  go_wp2_with (first | (go_at_call 58; refine (cW.out _ _ _ _).mono ?_; rintro r w1 ⟨rfl, rfl⟩; simp only [h1]))
  go_ret
  exact ⟨rfl, B.out⟩
 | true =>
  cases h2 : wthn g.b 1 64 with
  | false =>
   go_enter Tryz.func19, Tryz.ntmps19
   go_wp2_with (first | (go_at_call 58; refine (cW.out _ _ _ _).mono ?_; rintro r w1 ⟨rfl, rfl⟩; simp only [h1, h2]))
   go_ret
   exact ⟨rfl, B.out⟩
  | true =>
   cases h3 : wthn g.r 1 16 with
   | false =>
    go_enter Tryz.func19, Tryz.ntmps19
    go_wp2_with (first | (go_at_call 58; refine (cW.out _ _ _ _).mono ?_; rintro r w1 ⟨rfl, rfl⟩; simp only [h1, h2, h3]))
    go_ret
    exact ⟨rfl, B.out⟩
   | true =>
    go_enter Tryz.func19, Tryz.ntmps19
    go_wp2_with (first | (go_at_call 58; refine (cW.out _ _ _ _).mono ?_; rintro r w1 ⟨rfl, rfl⟩; simp only [h1, h2, h3]))
    go_ret
    exact ⟨rfl, B.out⟩
def Geo.pages (g : Geo) : Int := if g.good = true then 2 + g.j + g.b + 4 * g.r + g.i else 0
theorem epages_any (g : Geo) (w : World) : Calls Tryz.prog 15 #[g.val] w fun e w' => e = .returned (.int .i64 g.pages) /\ Below w.heap.size w w' := by
 have cG := hide (egood_any g (w.alloc (.cells #[.int .i64 g.j, .int .i64 g.b, .int .i64 g.r, .int .i64 g.i] 34)))
 have B := hide ((Below.refl w.heap.size w).alloc (Nat.le_refl _) (.cells #[.int .i64 g.j, .int .i64 g.b, .int .i64 g.r, .int .i64 g.i] 34))
 have HB : Hid (Blk (w.alloc (.cells #[.int .i64 g.j, .int .i64 g.b, .int .i64 g.r, .int .i64 g.i] 34)) w.heap.size [.int .i64 g.j, .int .i64 g.b, .int .i64 g.r, .int .i64 g.i] 34) := Blk.new w _ 34
 have HP : Hid (g.pages = if g.good = true then 2 + g.j + g.b + 4 * g.r + g.i else 0) := rfl
 have HG : Hid (g.good = true -> (1 <= g.j /\ g.j <= 64) /\ (1 <= g.b /\ g.b <= 64) /\ (1 <= g.r /\ g.r <= 16) /\ (0 <= g.i /\ g.i <= 256)) := fun h => by simpa [Geo.good, wthn, and_assoc] using h
 unfold Geo.val at *
 go_enter Tryz.func15, Tryz.ntmps15
 go_wp2_with fail
 refine cG.out.mono ?_
 rintro r w1 ⟨rfl, b1⟩
 have hB1 := HB.out.same (b1.block _ HB.out.lt)
 have B1 : Hid (Below w.heap.size w w1) := B.out.trans (b1.mono (by rw [nblk_alloc]; omega))
 have p0 := hB1.cell (i := 0) rfl
 have p1 := hB1.cell (i := 1) rfl
 have p2 := hB1.cell (i := 2) rfl
 have p3 := hB1.cell (i := 3) rfl
 clear b1 cG HB B hB1
 cases hg : g.good with
 | false =>
  have e : g.pages = 0 := by rw [HP.out, hg]; rfl
  have HE := hide e
  clear e HG
  go_wp2
  go_ret
  exact ⟨by rw [HE.out]; rfl, B1.out⟩
 | true =>
  have e : g.pages = 2 + g.j + g.b + 4 * g.r + g.i := by rw [HP.out, hg]; rfl
  have HE := hide e
  obtain ⟨⟨a1, a2⟩, ⟨a3, a4⟩, ⟨a5, a6⟩, ⟨a7, a8⟩⟩ := HG.out hg
  have q1 : IntKind.i64.wrap (2 + g.j) = 2 + g.j := by rw [IntKind.wrap_i64]; omega
  have q2 : IntKind.i64.wrap (2 + g.j + g.b) = 2 + g.j + g.b := by rw [IntKind.wrap_i64]; omega
  have q3 : IntKind.i64.wrap (4 * g.r) = 4 * g.r := by rw [IntKind.wrap_i64]; omega
  have q4 : IntKind.i64.wrap (2 + g.j + g.b + 4 * g.r) = 2 + g.j + g.b + 4 * g.r := by rw [IntKind.wrap_i64]; omega
  have q5 : IntKind.i64.wrap (2 + g.j + g.b + 4 * g.r + g.i) = 2 + g.j + g.b + 4 * g.r + g.i := by rw [IntKind.wrap_i64]; omega
  clear e HG a1 a2 a3 a4 a5 a6 a7 a8
  go_wp2
  go_ret
  exact ⟨by rw [HE.out]; rfl, B1.out⟩
end Go.Proofs.YtcdghalnneilpaaGreat
