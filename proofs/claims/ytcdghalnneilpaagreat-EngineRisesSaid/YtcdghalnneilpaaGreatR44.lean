/- Joined texts. -/
import Derived.Test.YtcdghalnneilpaaGreatR42
import Derived.Test.YtcdghalnneilpaaGreatR43
set_option linter.unusedVariables false
set_option linter.unusedSimpArgs false
set_option maxRecDepth 8000
set_option maxHeartbeats 8000000
namespace Go.Proofs.YtcdghalnneilpaaGreat
open Go.RowKit Go.Deep Math
def opF (S : Dv) (first : Nat) : Nat -> List It := fun k => S.its (first + k)
def opB (S : Dv) (first n : Nat) : List (List Bool) := (List.range n).map (fun k => toldB (S.its (first + k)))
theorem opF_like {S S1 : Dv} (h : LikeB S S1) (first : Nat) : opF S1 first = opF S first := funext fun k => h.its _
theorem opB_like {S S1 : Dv} (h : LikeB S S1) (first n : Nat) : opB S1 first n = opB S first n := by
 unfold opB
 exact congrArg (fun q => (List.range n).map q) (funext fun k => congrArg toldB (h.its _))
structure OpT (S : Dv) (first regions : Nat) (T : Lg) : Prop where
 nod : (T.all.map Th.pos).Nodup
 losses : T.losses = S.losses
 first' : T.first = first
 regions' : T.regions = regions
 num : T.num = numTo S.cs first regions
 opn : T.opn = []
 cap : T.cap = T.all.length
 has : T.has = hasL (fun _ => none) T.all
 regs : ∃ rs : List Rg, rs.map Rg.three = cnts S.cs first regions /\ T.regs = isort rs
structure Op1 (w0 w W : World) (x d : Nat) (E : En) (gj gb gr gi : Nat) (b : Sb) (F : List Nat) (S S1 : Dv) (p m n : Nat) : Prop where
 box : Blk W x (enL d E (.pointer none) (.pointer none) (.pointer none) (.map none)) 104
 geo : Blk W w.heap.size (geoL ⟨gj, gb, gr, gi⟩) 34
 blk : Blk W (w.heap.size + 1) (bkL b) 30
 jr : JrAt W p d m n (openJ S 2 gj b.gen)
 law : Law w0 d F S1 W
 like : LikeB S S1
 keep : Keep (x :: F) w W
 np : w.heap.size + 2 <= p
 nm : w.heap.size + 2 <= m /\ n <= 23 * gj
structure Op2 (w0 w W : World) (x d : Nat) (E : En) (gj gb gr gi : Nat) (b : Sb) (F : List Nat) (S S1 : Dv) (p m n q : Nat) (G : List Nat) : Prop where
 box : Blk W x (enL d E (.pointer (some ⟨p, 0, none⟩)) (.pointer none) (.pointer none) (.map none)) 104
 geo : Blk W w.heap.size (geoL ⟨gj, gb, gr, gi⟩) 34
 blk : Blk W (w.heap.size + 1) (bkL b) 30
 jr : JrAt W p d m n (openJ S 2 gj b.gen)
 bu : Bu w0 W d q (2 + gj) gb S1 (opF S (2 + gj)) (opB S (2 + gj) gb) G
 like : LikeB S S1
 keep : Keep (x :: F) w W
 np : w.heap.size + 2 <= p
 nm : w.heap.size + 2 <= m /\ n <= 23 * gj
 pG : p ∉ G
 mG : m ∉ G
 foot : ∀ k ∈ G, k ∈ F \/ w.heap.size + 2 <= k
structure Op3 (w0 w W : World) (x d : Nat) (E : En) (gj gb gr gi : Nat) (b : Sb) (F : List Nat) (S S1 : Dv) (p m n q : Nat) (G : List Nat) (l ml : Nat) (v5 : Value) (T : Lg) : Prop where
 box : Blk W x (enL d E (.pointer (some ⟨p, 0, none⟩)) (.pointer (some ⟨q, 0, none⟩)) (.pointer none) (.map none)) 104
 geo : Blk W w.heap.size (geoL ⟨gj, gb, gr, gi⟩) 34
 blk : Blk W (w.heap.size + 1) (bkL b) 30
 jr : JrAt W p d m n (openJ S 2 gj b.gen)
 bu : Bu w0 W d q (2 + gj) gb S1 (opF S (2 + gj)) (opB S (2 + gj) gb) G
 lg : LgIn W l d ml v5 (.slice none 0 0) (.slice none 0 0) T
 told : OpT S (2 + gj + gb) gr T
 like : LikeB S S1
 keep : Keep (x :: F) w W
 np : w.heap.size + 2 <= p
 nm : w.heap.size + 2 <= m /\ n <= 23 * gj
 pG : p ∉ G
 mG : m ∉ G
 foot : ∀ k ∈ G, k ∈ F \/ w.heap.size + 2 <= k
 off : ∀ y ∈ lblocks l ml v5 (.slice none 0 0) (.slice none 0 0) T, y ∉ G /\ y ≠ p /\ y ≠ m /\ w.heap.size + 2 <= y
theorem loadB_like {S S1 : Dv} (h : LikeB S S1) : S1.loadB = S.loadB := by
 unfold Dv.loadB
 rw [slotB_cs h.cs, slotB_cs h.cs]
theorem lastSeq_like {S S1 : Dv} (h : LikeB S S1) : S1.lastSeq = S.lastSeq := by
 unfold Dv.lastSeq
 rw [loadB_like h]
theorem nextB_like {S S1 : Dv} (h : LikeB S S1) (b : Sb) : S1.nextB b = S.nextB b := by
 unfold Dv.nextB
 rw [lastSeq_like h]
theorem opened_fits {b : Sb} (h : b.fits) : b.opened.fits := ⟨h.seq, Nat.mod_lt _ (by decide), h.res, h.hor, h.gen, h.image0, h.image1⟩
section
variable {w0 w W W' : World} {x d : Nat} {E : En} {gj gb gr gi : Nat} {b : Sb} {F : List Nat} {S S1 : Dv} {p m n q : Nat} {G : List Nat} {l ml : Nat} {v5 : Value} {T : Lg}
theorem op_one (hL : Law w0 d F S w) (hS : Sure S) (hb : Blk w x (enL d E (.pointer none) (.pointer none) (.pointer none) (.map none)) 104) (hx : x ∉ F) (h1 : 1 <= gj) (hin : 2 + gj <= S.cs.length) (hgen : b.gen < 18446744073709551616)
  (hWA : W = ((w.alloc (.cells #[.int .i64 (gj : Int), .int .i64 (gb : Int), .int .i64 (gr : Int), .int .i64 (gi : Int)] 34)).alloc (.cells #[.int .u64 b.seq, .int .u64 b.epoch, .int .u64 b.res, .int .u64 b.hor, .int .u64 b.gen, .bool b.clean, .int .i64 b.image] 30)).drew) :
  Calls Tryz.prog 104 #[.pointer (some ⟨d, 0, none⟩), .int .i64 2, .int .i64 (gj : Int), .int .u64 b.gen] W fun e w' => ∃ p, e = .returned (.tuple #[.pointer (some ⟨p, 0, none⟩), .int .i64 0]) /\ ∃ m n S1, Op1 w0 w w' x d E gj gb gr gi b F S S1 p m n := by
 have hlt := hb.lt
 have hFl := hL.dev.lt
 have B : Below w.heap.size w W := by
  rw [hWA]
  exact (((Below.refl _ _).alloc (Nat.le_refl _) _).alloc (by rw [nblk_alloc]; omega) _).drew
 have hsz : W.heap.size = w.heap.size + 2 := by
  rw [hWA]
  show ((w.alloc _).alloc _).heap.size = _
  rw [nblk_alloc, nblk_alloc]
 have hG : Blk W w.heap.size (geoL ⟨gj, gb, gr, gi⟩) 34 := by
  rw [hWA]
  exact (Blk.new w (geoL ⟨gj, gb, gr, gi⟩) 34).same (blk_alloc_lt _ _ _ (by rw [nblk_alloc]; omega))
 have hB : Blk W (w.heap.size + 1) (bkL b) 30 := by
  rw [hWA]
  have := Blk.new (w.alloc (.cells #[.int .i64 (gj : Int), .int .i64 (gb : Int), .int .i64 (gr : Int), .int .i64 (gi : Int)] 34)) (bkL b) 30
  rw [nblk_alloc] at this
  exact this
 have hLW := hL.below B
 refine (topen_ok d F S 2 gj b.gen h1 hin hS.off hgen W hLW.dev).mono ?_
 rintro e w' ⟨p, m, n, S1, rfl, hJ, hl, hk, np, nm, nn⟩
 refine ⟨p, rfl, m, n, S1, (hb.same (B.block _ hlt)).same (hk.block x (by omega) hx), hG.same (hk.block _ (by omega) (fun h => by have := hFl _ h; omega)), hB.same (hk.block _ (by omega) (fun h => by have := hFl _ h; omega)), hJ.jr, hLW.move hJ.dev (Moves.of_keep hk), ⟨hl.cs, hl.off, hl.armed, hl.losses⟩, ?_, by omega, by omega, nn⟩
 exact ((Keep.of_below B).trans hk (fun y hy => .inl hy)).mono (fun y hy => .inl (List.mem_cons_of_mem _ hy))
theorem op_two (h : Op1 w0 w W x d E gj gb gr gi b F S S1 p m n) (hS : Sure S) (hxl : x < w.heap.size) (hFl : ∀ k ∈ F, k < w.heap.size) (hx0 : w0.heap.size <= x) (hx : x ∉ F) (h0 : w0.heap.size <= w.heap.size) (h1 : 1 <= gb) (h2 : gb <= 64) (hin : 2 + gj + gb <= S.cs.length)
  (hW : W' = (W.setCell ⟨x, 10, none⟩ (.pointer (some ⟨p, 0, none⟩))).drew) :
  Calls Tryz.prog 105 #[.pointer (some ⟨d, 0, none⟩), .int .i64 ((2 + gj : Nat) : Int), .int .i64 (gb : Int)] W' fun e w' => ∃ q, e = .returned (.tuple #[.pointer (some ⟨q, 0, none⟩), .int .i64 0]) /\ ∃ m n S1 G, Op2 w0 w w' x d E gj gb gr gi b F S S1 p m n q G := by
 have hsz := h.keep.size
 have hpl := h.jr.blk.lt
 have hml := h.jr.mlt
 have hgl := h.geo.lt
 have hbl := h.blk.lt
 have hnp := h.np
 have hnm9 := h.nm
 have hnm := hnm9.1
 have kx : Keep [x] W W' := by
  rw [hW]
  exact ((Keep.refl [x] W).setCell (.inl (List.mem_singleton.2 rfl)) _).drew
 have ne : ∀ y, y ≠ x -> y ∉ [x] := fun y hy => by simpa using hy
 have hsW : W'.heap.size = W.heap.size := by
  rw [hW]
  show (W.setCell _ _).heap.size = _
  rw [nblk_setCell]
 have hbx : Blk W' x (enL d E (.pointer (some ⟨p, 0, none⟩)) (.pointer none) (.pointer none) (.map none)) 104 := by
  rw [hW]
  exact h.box.set 10 _
 have hge := h.geo.same (kx.block _ hgl (ne _ (by omega)))
 have hbe := h.blk.same (kx.block _ hbl (ne _ (by omega)))
 have hjr := h.jr.keep kx (ne _ (by omega)) (ne _ (by omega))
 have hlaw : Law w0 d F S1 W' := ⟨h.law.dev.same (fun k hk => kx.block k (h.law.dev.lt k hk) (ne _ (fun e => hx (e ▸ hk)))), h.law.low, h.law.bel.trans (kx.below (fun k hk => by rw [List.mem_singleton.1 hk]; exact hx0) (by omega))⟩
 refine (bu_open hlaw (hS.like h.like) (2 + gj) gb h1 (by omega) (by rw [h.like.cs]; exact hin)).mono ?_
 rintro e w' ⟨q, S2, G, rfl, hu, hl, hm⟩
 have nF : ∀ y, y < W.heap.size -> w.heap.size <= y \/ y = x -> y ∉ F := fun y _ hy hF => by
  have := hFl y hF
  rcases hy with hy | hy
  ·omega
  ·exact hx (hy ▸ hF)
 have nG : ∀ y, y < W.heap.size -> w.heap.size <= y \/ y = x -> y ∉ G := fun y h3 hy hG => by
  rcases hm.foot y hG with h4 | h4
  ·exact nF y h3 hy h4
  ·omega
 refine ⟨q, rfl, m, n, S2, G, hbx.same (hm.keep.block _ (by omega) hx), hge.same (hm.keep.block _ (by omega) (nF _ (by omega) (.inl (by omega)))), hbe.same (hm.keep.block _ (by omega) (nF _ (by omega) (.inl (by omega)))), hjr.keep hm.keep (nF _ (by omega) (.inl (by omega))) (nF _ (by omega) (.inl (by omega))), ?_, h.like.trans hl, ?_, hnp, hnm9, nG p hpl (.inl (by omega)), nG m hml (.inl (by omega)), fun k hk => ?_⟩
 ·rw [<- opF_like h.like, <- opB_like h.like]
  exact hu
 ·exact (h.keep.trans kx (fun y hy => .inl (by rw [List.mem_singleton.1 hy]; exact List.mem_cons_self))).trans hm.keep (fun y hy => .inl (List.mem_cons_of_mem _ hy))
 ·rcases hm.foot k hk with h4 | h4
  ·exact .inl h4
  ·exact .inr (by omega)
theorem lb_new {w : World} {l ml : Nat} {v5 v6 v7 : Value} {T : Lg} (h1 : ∀ y ∈ lfoot l ml v5 v6 v7, w.heap.size <= y) (h2 : ∀ t ∈ T.all, w.heap.size <= t.blk) (h3 : ∀ r ∈ T.regs, ∀ y ∈ own r.v, w.heap.size <= y) : ∀ y ∈ lblocks l ml v5 v6 v7 T, w.heap.size <= y := fun y hy => by
 rcases List.mem_append.1 hy with hy | hy
 ·exact h1 y hy
 ·rcases List.mem_append.1 hy with hy | hy
  ·obtain ⟨r, hr, hy⟩ := List.mem_flatMap.1 hy
   exact h3 r hr y hy
  ·obtain ⟨t, ht, rfl⟩ := List.mem_map.1 hy
   exact h2 t ht
theorem op_three (h : Op2 w0 w W x d E gj gb gr gi b F S S1 p m n q G) (hS : Sure S) (hxl : x < w.heap.size) (hFl : ∀ k ∈ F, k < w.heap.size) (hx0 : w0.heap.size <= x) (hx : x ∉ F) (h1 : 1 <= gr) (h2 : gr <= 1) (hin : 2 + gj + gb + 4 * gr <= S.cs.length)
  (hW : W' = (W.setCell ⟨x, 11, none⟩ (.pointer (some ⟨q, 0, none⟩))).drew) :
  Calls Tryz.prog 106 #[.pointer (some ⟨d, 0, none⟩), .int .i64 ((2 + gj + gb : Nat) : Int), .int .i64 (gr : Int)] W' fun e w' => ∃ r, e = .returned (.tuple #[.pointer (some ⟨r, 0, none⟩), .int .i64 0]) /\ ∃ m n S1 G ml v5 T, Op3 w0 w w' x d E gj gb gr gi b F S S1 p m n q G r ml v5 T := by
 have hsz := h.keep.size
 have hpl := h.jr.blk.lt
 have hml := h.jr.mlt
 have hgl := h.geo.lt
 have hbl := h.blk.lt
 have hnp := h.np
 have hnm9 := h.nm
 have hnm := hnm9.1
 have hxG : x ∉ G := fun hg => by
  rcases h.foot x hg with h4 | h4
  ·exact hx h4
  ·omega
 have kx : Keep [x] W W' := by
  rw [hW]
  exact ((Keep.refl [x] W).setCell (.inl (List.mem_singleton.2 rfl)) _).drew
 have ne : ∀ y, y ≠ x -> y ∉ [x] := fun y hy => by simpa using hy
 have hsW : W'.heap.size = W.heap.size := by
  rw [hW]
  show (W.setCell _ _).heap.size = _
  rw [nblk_setCell]
 have hbx : Blk W' x (enL d E (.pointer (some ⟨p, 0, none⟩)) (.pointer (some ⟨q, 0, none⟩)) (.pointer none) (.map none)) 104 := by
  rw [hW]
  exact h.box.set 11 _
 have hge := h.geo.same (kx.block _ hgl (ne _ (by omega)))
 have hbe := h.blk.same (kx.block _ hbl (ne _ (by omega)))
 have hjr := h.jr.keep kx (ne _ (by omega)) (ne _ (by omega))
 have hbu := h.bu.keep kx (fun y hy => by rw [List.mem_singleton.1 hy]; exact ⟨hxG, hx0⟩)
 have hGl := fun y hy => (hbu.lt y hy).1
 obtain ⟨F2, M, hu, rfl⟩ := hbu
 have hS1 := hS.like h.like
 have hcs := h.like.cs
 refine (open_log sort_one hu.bk.law.dev hS1.off (2 + gj + gb) gr h1 (by omega) (by rw [hcs]; exact hin) (Nat.le_trans (cnts_len _ _ _) (by omega))).mono ?_
 rintro e w' ⟨l, ml, v5, T, S2, rfl, hlg, hl, hd, hk, n1, n2, n3, t1, t2, t3, t4, t5, t6, t7, n4, rs, t8, t9⟩
 have hlB : LikeB S1 S2 := ⟨hl.cs, hl.off, hl.armed, hl.losses⟩
 have nw := lb_new (T := T) n1 n2 n4
 have nF : ∀ y, y ∉ F2 ++ M.foot q -> y ∉ F2 := fun y hy hF => hy (List.mem_append.2 (.inl hF))
 have nG : ∀ y, w.heap.size <= y -> y < w.heap.size + 2 -> y ∉ F2 ++ M.foot q := fun y h3 h4 hG => by
  rcases h.foot y hG with h5 | h5
  ·have := hFl y h5
   omega
  ·omega
 refine ⟨l, rfl, m, n, S2, F2 ++ M.foot q, ml, v5, T, hbx.same (hk.block _ (by omega) (nF _ hxG)), hge.same (hk.block _ (by omega) (nF _ (nG _ (by omega) (by omega)))), hbe.same (hk.block _ (by omega) (nF _ (nG _ (by omega) (by omega)))), hjr.keep hk (nF _ h.pG) (nF _ h.mG), ?_, hlg, ⟨n3, by rw [t1, h.like.losses], t2, t3, by rw [t4, hcs], t5, t6, t7, rs, by rw [t8, hcs], t9⟩, h.like.trans hlB, ?_, hnp, hnm9, h.pG, h.mG, h.foot, fun y hy => ?_⟩
 ·exact ⟨F2, M, Bu.like hu (hu.bk.move hd (Moves.of_keep hk)) hlB, rfl⟩
 ·refine (h.keep.trans kx (fun y hy => .inl (by rw [List.mem_singleton.1 hy]; exact List.mem_cons_self))).trans hk (fun y hy => ?_)
  rcases h.foot y (List.mem_append.2 (.inl hy)) with h4 | h4
  ·exact .inl (List.mem_cons_of_mem _ h4)
  ·exact .inr (by omega)
 ·have := nw y hy
  exact ⟨fun hg => by have := hGl y hg; omega, by omega, by omega, by omega⟩
theorem op_four (h : Op3 w0 w W x d E gj gb gr gi b F S S1 p m n q G l ml v5 T) (hxl : x < w.heap.size) (hFl : ∀ k ∈ F, k < w.heap.size) (hx0 : w0.heap.size <= x) (h0 : w0.heap.size <= w.heap.size) (hx : x ∉ F) (hl : S.losses = E.losses) (hq : S.lastSeq ≠ 18446744073709551615) (hf : b.fits)
  (hW : W' = ((W.setCell ⟨x, 12, none⟩ (.pointer (some ⟨l, 0, none⟩))).setCell ⟨w.heap.size + 1, 1, none⟩ (.int .u64 b.opened.epoch)).setCell ⟨w.heap.size + 1, 5, none⟩ (.bool false)) :
  Calls Tryz.prog 35 #[.pointer (some ⟨x, 0, none⟩), b.opened.val] W' fun e w' => e = .returned (.int .i64 0) /\ ∃ G', EnAt w0 w' x d { E with b := S1.nextB b.opened } p m n (openJ S 2 gj b.gen) q (2 + gj) gb (S1.storeDo b.opened) (opF S (2 + gj)) (opB S (2 + gj) gb) G' l ml v5 (.slice none 0 0) (.slice none 0 0) T /\ OpT S (2 + gj + gb) gr T /\ LikeB S S1 /\ Keep (x :: F) w w' /\ ∀ k, (k = p \/ k = m \/ k ∈ G' \/ k ∈ lblocks l ml v5 (.slice none 0 0) (.slice none 0 0) T) -> k ∈ F \/ w.heap.size + 2 <= k := by
 have hsz := h.keep.size
 have hpl := h.jr.blk.lt
 have hml := h.jr.mlt
 have hbl := h.blk.lt
 have hnp := h.np
 have hnm9 := h.nm
 have hnm := hnm9.1
 have hxG : x ∉ G := fun hg => by
  rcases h.foot x hg with h4 | h4
  ·exact hx h4
  ·omega
 have hNG : w.heap.size + 1 ∉ G := fun hg => by
  rcases h.foot _ hg with h4 | h4
  ·have := hFl _ h4
   omega
  ·omega
 have kx : Keep [x, w.heap.size + 1] W W' := by
  rw [hW]
  exact (((Keep.refl [x, w.heap.size + 1] W).setCell (.inl (by simp)) _).setCell (.inl (by simp)) _).setCell (.inl (by simp)) _
 have ne : ∀ y, y ≠ x -> y ≠ w.heap.size + 1 -> y ∉ [x, w.heap.size + 1] := fun y h1 h2 => by simp [h1, h2]
 have hbx : Blk W' x (enL d E (.pointer (some ⟨p, 0, none⟩)) (.pointer (some ⟨q, 0, none⟩)) (.pointer (some ⟨l, 0, none⟩)) (.map none)) 104 := by
  rw [hW]
  have h1 : x ≠ w.heap.size + 1 := by omega
  exact (h.box.set 12 _).same ((blk_setCell_other _ _ _ _ h1).trans (blk_setCell_other _ _ _ _ h1))
 have hsW : W'.heap.size = W.heap.size := by
  rw [hW]
  simp only [nblk_setCell]
 have hE : EnAt w0 W' x d E p m n (openJ S 2 gj b.gen) q (2 + gj) gb S1 (opF S (2 + gj)) (opB S (2 + gj) gb) G l ml v5 (.slice none 0 0) (.slice none 0 0) T := by
  refine ⟨hbx, h.jr.keep kx (ne _ (by omega) (by omega)) (ne _ (by omega) (by omega)), h.bu.keep kx (fun y hy => ?_), h.lg.same (fun y hy => kx.block y (h.lg.lt y hy) (ne y ?_ ?_)), hxG, h.pG, h.mG, fun y hy => (h.off y hy).1, fun y hy => ?_, fun hy => ?_, fun hy => (h.off p hy).2.1 rfl, fun hy => (h.off m hy).2.2.1 rfl, by omega⟩
  ·simp only [List.mem_cons, List.not_mem_nil, or_false] at hy
   rcases hy with rfl | rfl
   ·exact ⟨hxG, hx0⟩
   ·exact ⟨hNG, by omega⟩
  ·have := (h.off y hy).2.2.2
   omega
  ·have := (h.off y hy).2.2.2
   omega
  ·rcases hy with rfl | rfl | rfl | hy
   ·exact hx0
   ·omega
   ·omega
   ·have := (h.off y hy).2.2.2
    omega
  ·have := (h.off x hy).2.2.2
   omega
 have hlq : S1.lastSeq = S.lastSeq := lastSeq_like h.like
 refine (set_en hE (by rw [h.like.losses]; exact hl) (by omega) (by rw [hlq]; exact hq) b.opened (opened_fits hf)).mono ?_
 rintro e w' ⟨rfl, G', hE', hk, hfo⟩
 refine ⟨rfl, G', hE', h.told, h.like, ?_, fun k hk2 => ?_⟩
 ·refine (h.keep.trans kx (fun y hy => ?_)).trans hk (fun y hy => ?_)
  ·simp only [List.mem_cons, List.not_mem_nil, or_false] at hy
   rcases hy with rfl | rfl
   ·exact .inl List.mem_cons_self
   ·exact .inr (by omega)
  ·rcases List.mem_cons.1 hy with rfl | hy
   ·exact .inl List.mem_cons_self
   ·rcases h.foot y hy with h4 | h4
    ·exact .inl (List.mem_cons_of_mem _ h4)
    ·exact .inr (by omega)
 ·rcases hk2 with rfl | rfl | hk2 | hk2
  ·exact .inr hnp
  ·exact .inr hnm
  ·rcases hfo k hk2 with h4 | h4
   ·exact h.foot k h4
   ·exact .inr (by omega)
  ·exact .inr (h.off k hk2).2.2.2
theorem open_en (hL : Law w0 d F S w) (hS : Sure S) (hb : Blk w x (enL d E (.pointer none) (.pointer none) (.pointer none) (.map none)) 104) (hx : x ∉ F) (hx0 : w0.heap.size <= x) (hl : S.losses = E.losses) (hj1 : 1 <= gj) (hj2 : gj <= 64) (hb1 : 1 <= gb) (hb2 : gb <= 64) (hr1 : 1 <= gr) (hr2 : gr <= 1) (hi : gi <= 256) (hin : 2 + gj + gb + 4 * gr <= S.cs.length) (hq : S.lastSeq ≠ 18446744073709551615) (hf : b.fits) :
  Calls Tryz.prog 49 #[.pointer (some ⟨x, 0, none⟩), (⟨gj, gb, gr, gi⟩ : Geo).val, b.val] w fun e w' => e = .returned (.int .i64 0) /\ ∃ p m n q S1 G l ml v5 T, EnAt w0 w' x d { E with b := S1.nextB b.opened } p m n (openJ S 2 gj b.gen) q (2 + gj) gb (S1.storeDo b.opened) (opF S (2 + gj)) (opB S (2 + gj) gb) G l ml v5 (.slice none 0 0) (.slice none 0 0) T /\ n <= 23 * gj /\ OpT S (2 + gj + gb) gr T /\ LikeB S S1 /\ Keep (x :: F) w w' /\ ∀ k, (k = p \/ k = m \/ k ∈ G \/ k ∈ lblocks l ml v5 (.slice none 0 0) (.slice none 0 0) T) -> k ∈ F \/ w.heap.size + 2 <= k := by
 have hxl := hb.lt
 have hFl := hL.dev.lt
 have h0 := hL.bel.size
 have hg : (⟨gj, gb, gr, gi⟩ : Geo).good = true := by
  simp [Geo.good, wthn]
  omega
 refine (open_two ⟨gj, gb, gr, gi⟩ b hb (fun p W => ∃ m n S1, Op1 w0 w W x d E gj gb gr gi b F S S1 p m n) ?_ ?_ hg (fun p q W => ∃ m n S1 G, Op2 w0 w W x d E gj gb gr gi b F S S1 p m n q G) (fun p q r W => ∃ m n S1 G ml v5 T, Op3 w0 w W x d E gj gb gr gi b F S S1 p m n q G r ml v5 T)
  (fun p q l W er w' => er = 0 /\ ∃ m n S1 G ml v5 T, EnAt w0 w' x d { E with b := S1.nextB b.opened } p m n (openJ S 2 gj b.gen) q (2 + gj) gb (S1.storeDo b.opened) (opF S (2 + gj)) (opB S (2 + gj) gb) G l ml v5 (.slice none 0 0) (.slice none 0 0) T /\ n <= 23 * gj /\ OpT S (2 + gj + gb) gr T /\ LikeB S S1 /\ Keep (x :: F) w w' /\ ∀ k, (k = p \/ k = m \/ k ∈ G \/ k ∈ lblocks l ml v5 (.slice none 0 0) (.slice none 0 0) T) -> k ∈ F \/ w.heap.size + 2 <= k) ?_ ?_ ?_ ?_ ?_).mono ?_
 ·exact op_one hL hS hb hx hj1 (by omega) hf.gen rfl
 ·rintro p W ⟨m, n, S1, h⟩
  exact ⟨h.box, h.geo, h.blk⟩
 ·rintro p W ⟨m, n, S1, h⟩
  exact op_two h hS hxl hFl hx0 hx h0 hb1 hb2 (by omega) rfl
 ·rintro p q W ⟨m, n, S1, G, h⟩
  exact ⟨h.box, h.geo, h.blk⟩
 ·rintro p q W ⟨m, n, S1, G, h⟩
  exact op_three h hS hxl hFl hx0 hx hr1 hr2 hin rfl
 ·rintro p q r W ⟨m, n, S1, G, ml, v5, T, h⟩
  exact ⟨h.box, h.geo, h.blk⟩
 ·rintro p q r W ⟨m, n, S1, G, ml, v5, T, h⟩
  refine (op_four h hxl hFl hx0 h0 hx hl hq hf rfl).mono ?_
  rintro e w' ⟨rfl, G', r⟩
  exact ⟨0, rfl, rfl, m, n, S1, G', ml, v5, T, r.1, h.nm.2, r.2⟩
 ·rintro e w' ⟨p, q, r, W, er, rfl, _, rfl, m, n, S1, G, ml, v5, T, h⟩
  exact ⟨rfl, p, m, n, q, S1, G, r, ml, v5, T, h⟩
theorem like_loadDo (S : Dv) : LikeB S S.loadDo := ⟨loadDo_cs S, loadDo_off S, loadDo_armed S, loadDo_losses S⟩
theorem openJ_like {S S1 : Dv} (h : LikeB S S1) (a b c : Nat) : openJ S1 a b c = openJ S a b c := by
 unfold openJ Dv.pgs
 rw [h.cs, h.losses]
theorem OpT.like {S S1 : Dv} (h : LikeB S S1) {a b : Nat} {T : Lg} (k : OpT S1 a b T) : OpT S a b T := ⟨k.nod, k.losses.trans h.losses, k.first', k.regions', by rw [k.num, h.cs], k.opn, k.cap, k.has, by have := k.regs; rw [h.cs] at this; exact this⟩
theorem x_off (h : DvAt w d F S) {L : List Value} (hb : Blk w x L 104) : x ∉ F := fun hx => by
 obtain ⟨c, e, hc, he⟩ := h.kinds x hx
 exact ty_ne hc hb (by rcases he with rfl | rfl | rfl <;> decide) rfl
theorem eopen_en (hL : Law w0 d F S w) (hS : Sure S) (hj1 : 1 <= gj) (hj2 : gj <= 64) (hb1 : 1 <= gb) (hb2 : gb <= 64) (hr1 : 1 <= gr) (hr2 : gr <= 1) (hi : gi <= 256) (hin : 2 + gj + gb + 4 * gr + gi <= S.cs.length) (e0 : Int) (he0 : e0 = 0 \/ e0 = 5) (hload : S.loadV = bkV b e0) (hq : S.lastSeq ≠ 18446744073709551615) (hf : b.fits) :
  Calls Tryz.prog 11 #[.pointer (some ⟨d, 0, none⟩), (⟨gj, gb, gr, gi⟩ : Geo).val] w fun e w' => ∃ x, e = .returned (.tuple #[.pointer (some ⟨x, 0, none⟩), .agg #[.int .u64 b.seq, .int .u64 b.epoch, .int .u64 b.res, .int .u64 b.hor, .int .u64 b.gen, .bool b.clean, .int .i64 b.image], .int .i64 0]) /\ ∃ p m n q S1 G l ml v5 T, EnAt w0 w' x d ⟨S.losses, S.nextB b.opened, b.res⟩ p m n (openJ S 2 gj b.gen) q (2 + gj) gb (S1.storeDo b.opened) (opF S (2 + gj)) (opB S (2 + gj) gb) G l ml v5 (.slice none 0 0) (.slice none 0 0) T /\ n <= 23 * gj /\ OpT S (2 + gj + gb) gr T /\ LikeB S S1 /\ Keep F w w' /\ ∀ k, (k = x \/ k = p \/ k = m \/ k ∈ G \/ k ∈ lblocks l ml v5 (.slice none 0 0) (.slice none 0 0) T) -> k ∈ F \/ w.heap.size <= k := by
 have hl0 := like_loadDo S
 have h0 := hL.bel.size
 have hFl := hL.dev.lt
 have hg : (⟨gj, gb, gr, gi⟩ : Geo).good = true := by
  simp [Geo.good, wthn]
  omega
 refine (eopen_two hL.dev ⟨gj, gb, gr, gi⟩ hg (by unfold Geo.pages; rw [if_pos hg]; simp only; omega) b e0 he0 hload (fun x W w8 => ∃ p m n q S1 G l ml v5 T, EnAt w0 w8 x d ⟨S.losses, S1.nextB b.opened, b.res⟩ p m n (openJ S.loadDo 2 gj b.gen) q (2 + gj) gb (S1.storeDo b.opened) (opF S.loadDo (2 + gj)) (opB S.loadDo (2 + gj) gb) G l ml v5 (.slice none 0 0) (.slice none 0 0) T /\ n <= 23 * gj /\ OpT S.loadDo (2 + gj + gb) gr T /\ LikeB S.loadDo S1 /\ Keep (x :: F) W w8 /\ ∀ k, (k = p \/ k = m \/ k ∈ G \/ k ∈ lblocks l ml v5 (.slice none 0 0) (.slice none 0 0) T) -> k ∈ F \/ W.heap.size + 2 <= k) ?_).mono ?_
 ·intro x W hA
  have hn := hA.new
  have hlaw : Law w0 d F S.loadDo W := hL.move hA.dev (Moves.of_keep hA.keep)
  refine (open_en (E := ⟨S.losses, Sb.zero, b.res⟩) hlaw (hS.like hl0) hA.box (x_off hA.dev hA.box) (by omega) hl0.losses hj1 hj2 hb1 hb2 hr1 hr2 hi (by rw [hl0.cs]; omega) (by rw [lastSeq_like hl0]; exact hq) hf).mono ?_
  rintro e w8 ⟨rfl, p, m, n, q, S1, G, l, ml, v5, T, h⟩
  exact ⟨rfl, ⟨p, m, n, q, S1, G, l, ml, v5, T, h⟩, fun k h1 h2 h3 => h.2.2.2.2.1.block k h1 (by simp [h2, h3])⟩
 ·rintro e w' ⟨x, W, w8, rfl, hA, ⟨p, m, n, q, S1, G, l, ml, v5, T, hE, hnn, hT, hl1, hk, hn⟩, rfl⟩
  have hnx := hA.new
  have hxl := hA.box.lt
  have hks := hA.keep.size
  have k7 : Keep [w.heap.size + 1] w8 (put7 w8.drew (w.heap.size + 1) b) := put7_keep ((Keep.refl _ _).drew) (.inl (List.mem_singleton.2 rfl)) b
  have hfar : ∀ y, (y = x \/ y = p \/ y = m \/ y ∈ G \/ y ∈ lblocks l ml v5 (.slice none 0 0) (.slice none 0 0) T) -> (y ∈ F \/ w.heap.size <= y) /\ y ≠ w.heap.size + 1 := fun y hy => by
   rcases hy with rfl | hy
   ·exact ⟨.inr (by omega), by omega⟩
   ·rcases hn y hy with h4 | h4
    ·exact ⟨.inl h4, by have := hFl y h4; omega⟩
    ·exact ⟨.inr (by omega), by omega⟩
  have hE2 := hE.off k7 (fun y hy => (hfar y hy).2) (by omega)
  rw [nextB_like (hl0.trans hl1), openJ_like hl0, opF_like hl0, opB_like hl0] at hE2
  refine ⟨x, rfl, p, m, n, q, S1, G, l, ml, v5, T, hE2, hnn, hT.like hl0, hl0.trans hl1, ?_, fun y hy => (hfar y hy).1⟩
  refine ((hA.keep.trans hk (fun y hy => ?_))).trans k7 (fun y hy => ?_)
  ·rcases List.mem_cons.1 hy with rfl | hy
   ·exact .inr (by omega)
   ·exact .inl hy
  ·rw [List.mem_singleton.1 hy]
   exact .inr (by omega)
end
section
variable {w0 w w' : World} {x d : Nat} {E : En} {j m nj : Nat} {J : Jr} {s first n : Nat} {S : Dv} {f : Nat -> List It} {bs : List (List Bool)} {F F' G : List Nat} {M : SM} {l ml : Nat} {v5 v6 v7 : Value} {T : Lg}
theorem storeB_sure (hS : Sure S) (h2 : 2 <= S.cs.length) (hq : S.lastSeq ≠ 18446744073709551615) (b : Sb) : S.storeB b = S.nextB b := by
 have hno : ¬ S.off = true := by rw [hS.off]; decide
 unfold Dv.storeB
 rw [if_neg (by omega), if_neg hno, if_neg hq, if_neg (by rw [hS.armed]; decide), if_neg (by rw [hS.armed]; decide)]
theorem bu_stored (h : BuIn w0 w d F S s first n M f bs) (h2 : 2 <= first) (hq : S.lastSeq ≠ 18446744073709551615) (b : Sb) (hd : DvAt w' d F' (S.storeDo b)) {xs : List Nat} (hk : Keep (xs ++ F) w w') (hxs : ∀ y ∈ xs, y ∉ M.foot s /\ w0.heap.size <= y) (hfoot : ∀ k ∈ F', k ∈ F \/ w.heap.size <= k) : BuIn w0 w' d F' (S.storeDo b) s first n M f bs := by
 have hlen : 2 <= S.cs.length := by have := h.fit; have := h.n1; omega
 obtain ⟨t1, t2, t3, t4, t5⟩ := sure_store h.sure hlen hq b
 have hbel := h.bk.law.bel
 have hst : StIn w' s d S.losses first M := h.bk.st.same (fun q hq => hk.block q (h.bk.st.lt q hq) (fun hm => by
  rcases List.mem_append.1 hm with h1 | h1
  ·exact (hxs q h1).1 hq
  ·exact h.bk.off q hq h1))
 refine ⟨⟨⟨hd, fun k hkF => ?_, ?_⟩, ?_, h.bk.new, fun q hqM hqF => ?_⟩, t2, h.len, h.n1, h.n2, by rw [t4]; exact h.fit, fun k hkn => ?_, h.bits, h.told⟩
 ·rcases hfoot k hkF with h1 | h1
  ·exact h.bk.law.low k h1
  ·exact Nat.le_trans hbel.size h1
 ·exact hbel.trans (hk.below (fun k hkx => by
   rcases List.mem_append.1 hkx with h1 | h1
   ·exact (hxs k h1).2
   ·exact h.bk.law.low k h1) hbel.size)
 ·rw [t3]; exact hst
 ·rcases hfoot q hqF with h1 | h1
  ·exact h.bk.off q hqM h1
  ·have := h.bk.st.lt q hqM; omega
 ·rw [its_pg, t5, if_neg (fun hh => by have := Nat.mod_lt (S.nextB b).seq (show 0 < 2 by decide); omega), <- its_pg]
  exact h.its k hkn
theorem setE_sure (hS : Sure S) (h2 : 2 <= S.cs.length) (hl : S.losses = E.losses) (hq : S.lastSeq ≠ 18446744073709551615) (b : Sb) : E.setE S = 0 /\ E.setD S b = S.storeDo b /\ E.setB S b = { E with b := S.nextB b } := by
 have t := (sure_store hS h2 hq b).1
 have e1 : E.setE S = 0 := by unfold En.setE; rw [if_pos hl, t]
 refine ⟨e1, by unfold En.setD; rw [if_pos hl], ?_⟩
 unfold En.setB
 rw [if_pos e1, storeB_sure hS h2 hq]
theorem version_eno (h : EnAt w0 w x d E j m nj J s first n S f bs G l ml v5 v6 v7 T) (hl : S.losses = E.losses) (h2 : 2 <= first) (hq : S.lastSeq ≠ 18446744073709551615) (hf : E.b.fits) (hla : E.last < 18446744073709551615) (hn : E.last = E.b.res) :
  Calls Tryz.prog 23 #[.pointer (some ⟨x, 0, none⟩)] w fun e w' => e = .returned (.tuple #[.int .u64 ((E.last + 1 : Nat) : Int), .int .i64 0]) /\ ∃ G', EnAt w0 w' x d { E with b := S.nextB E.b.more, last := E.last + 1 } j m nj J s first n (S.storeDo E.b.more) f bs G' l ml v5 v6 v7 T /\ Keep (x :: G) w w' /\ ∀ k ∈ G', k ∈ G \/ w.heap.size <= k := by
 obtain ⟨F, M, hu, hG⟩ := h.bu
 have hlen : 2 <= S.cs.length := by have := hu.fit; have := hu.n1; omega
 have inF : ∀ q, q ∈ F -> q ∈ G := fun q hF => by rw [hG]; exact List.mem_append.2 (.inl hF)
 have inM : ∀ q, q ∈ M.foot s -> q ∈ G := fun q hM => by rw [hG]; exact List.mem_append.2 (.inr hM)
 obtain ⟨e1, e2, e3⟩ := setE_sure (E := E) hu.sure hlen hl hq E.b.more
 refine (version_far h.box hu.bk.law.dev (fun hF => h.xG (inF x hF)) hf hla hn).mono ?_
 rintro e w' ⟨rfl, F', hd, hb, hk, hfo⟩
 rw [if_pos e1]
 rw [if_pos e1, e3] at hb
 rw [e2] at hd
 have hu' := bu_stored hu h2 hq E.b.more hd (xs := [x]) hk (fun y hy => by rw [List.mem_singleton.1 hy]; exact ⟨fun hM => h.xG (inM x hM), h.low x (.inl rfl)⟩) hfo
 have hfG : ∀ k ∈ F' ++ M.foot s, k ∈ G \/ w.heap.size <= k := fun k hk2 => by
  rcases List.mem_append.1 hk2 with h1 | h1
  ·rcases hfo k h1 with h3 | h3
   ·exact .inl (inF k h3)
   ·exact .inr h3
  ·exact .inl (inM k h1)
 have far : ∀ q, q < w.heap.size -> q ∉ G -> q ∉ F' ++ M.foot s := fun q hq hg hg' => by
  rcases hfG q hg' with h1 | h1
  ·exact hg h1
  ·omega
 have nin : ∀ q, q ≠ x -> q ∉ G -> q ∉ x :: F := fun q h1 h2 h3 => by
  rcases List.mem_cons.1 h3 with h4 | h4
  ·exact h1 h4
  ·exact h2 (inF q h4)
 refine ⟨rfl, F' ++ M.foot s, ⟨hb, h.jr.keep hk (nin j (fun e => h.xj e.symm) h.jG) (nin m (fun e => h.xm e.symm) h.mG), ⟨F', M, hu', rfl⟩, h.lg.same (fun q hq => hk.block q (h.lg.lt q hq) (nin q (fun e => h.xL (e ▸ hq)) (h.lG q hq))), far x h.box.lt h.xG, far j h.jr.blk.lt h.jG, far m h.jr.mlt h.mG, fun q hq => far q (h.lg.lt q hq) (h.lG q hq), h.low, h.xL, h.jL, h.mL, h.xm⟩, hk.mono (fun y hy => .inl ?_), hfG⟩
 rcases List.mem_cons.1 hy with rfl | hy
 ·exact List.mem_cons_self
 ·exact List.mem_cons_of_mem _ (inF y hy)
theorem wipe_en (h : EnAt w0 w x d E j m nj J s first n S f bs G l ml v5 v6 v7 T) (hl : S.losses = E.losses) (h2 : 2 <= first) (hq : S.lastSeq ≠ 18446744073709551615) (hf : E.b.fits) (hla : E.last < 18446744073709551616) :
  Calls Tryz.prog 28 #[.pointer (some ⟨x, 0, none⟩)] w fun e w' => e = .returned (.int .i64 0) /\ ∃ G' m' n', EnAt w0 w' x d { E with b := S.nextB E.wiped } j m' n' (J.begun E.wiped.gen) s first n (S.storeDo E.wiped) f bs G' l ml v5 v6 v7 T /\ Keep (x :: j :: G) w w' /\ (∀ k ∈ G', k ∈ G \/ w.heap.size <= k) /\ (m' = m \/ w.heap.size <= m') := by
 obtain ⟨F, M, hu, hG⟩ := h.bu
 have hlen : 2 <= S.cs.length := by have := hu.fit; have := hu.n1; omega
 have inF : ∀ q, q ∈ F -> q ∈ G := fun q hF => by rw [hG]; exact List.mem_append.2 (.inl hF)
 have inM : ∀ q, q ∈ M.foot s -> q ∈ G := fun q hM => by rw [hG]; exact List.mem_append.2 (.inr hM)
 obtain ⟨e1, e2, e3⟩ := setE_sure (E := E) hu.sure hlen hl hq E.wiped
 refine (wipe_any h.box hu.bk.law.dev (fun hF => h.xG (inF x hF)) hf hla h.jr (fun hF => h.jG (inF j hF)) (fun hF => h.mG (inF m hF)) h.xm).mono ?_
 rintro e w' ⟨rfl, F', m', n', hd, hb, hj, hk, hfo, hm⟩
 rw [if_pos e1] at hj
 rw [e3] at hb
 rw [e2] at hd
 have hu' := bu_stored hu h2 hq E.wiped hd (xs := [x, j]) hk (fun y hy => by
  simp only [List.mem_cons, List.not_mem_nil, or_false] at hy
  rcases hy with rfl | rfl
  ·exact ⟨fun hM => h.xG (inM _ hM), h.low _ (.inl rfl)⟩
  ·exact ⟨fun hM => h.jG (inM _ hM), h.low _ (.inr (.inl rfl))⟩) hfo
 have hfG : ∀ k ∈ F' ++ M.foot s, k ∈ G \/ w.heap.size <= k := fun k hk2 => by
  rcases List.mem_append.1 hk2 with h1 | h1
  ·rcases hfo k h1 with h3 | h3
   ·exact .inl (inF k h3)
   ·exact .inr h3
  ·exact .inl (inM k h1)
 have far : ∀ q, q < w.heap.size -> q ∉ G -> q ∉ F' ++ M.foot s := fun q hq hg hg' => by
  rcases hfG q hg' with h1 | h1
  ·exact hg h1
  ·omega
 have hsz := hk.size
 have hw0 := h.bu.bel.size
 have hxl := h.box.lt
 have hmF : m' ∉ F' ++ M.foot s := fun hh => by
  rcases hm with rfl | hm
  ·exact far _ h.jr.mlt h.mG hh
  ·rcases List.mem_append.1 hh with h1 | h1
   ·obtain ⟨c, e, hc, _⟩ := hd.kinds m' h1
    obtain ⟨D, ⟨es, ck, hmap, _⟩, _⟩ := hj.map
    rw [hc] at hmap
    cases hmap
   ·have := hu.bk.st.lt _ h1
    omega
 refine ⟨by rw [e1], F' ++ M.foot s, m', n', ⟨hb, hj, ⟨F', M, hu', rfl⟩, h.lg.same (fun q hq => hk.block q (h.lg.lt q hq) ?_), far x h.box.lt h.xG, far j h.jr.blk.lt h.jG, hmF, fun q hq => far q (h.lg.lt q hq) (h.lG q hq), fun q hq => ?_, h.xL, h.jL, fun hq => ?_, ?_⟩, hk.mono (fun y hy => .inl ?_), hfG, hm⟩
 ·simp only [List.mem_cons, not_or]
  exact ⟨fun e => h.xL (e ▸ hq), fun e => h.jL (e ▸ hq), fun hF => h.lG q hq (inF q hF)⟩
 ·rcases hq with rfl | rfl | rfl | hq
  ·exact h.low _ (.inl rfl)
  ·exact h.low _ (.inr (.inl rfl))
  ·rcases hm with rfl | hm
   ·exact h.low _ (.inr (.inr (.inl rfl)))
   ·omega
  ·exact h.low _ (.inr (.inr (.inr hq)))
 ·rcases hm with rfl | hm
  ·exact h.mL hq
  ·have := h.lg.lt _ hq
   omega
 ·rcases hm with rfl | hm
  ·exact h.xm
  ·omega
 ·simp only [List.mem_cons] at hy ⊢
  rcases hy with h1 | h1 | h1
  ·exact .inl h1
  ·exact .inr (.inl h1)
  ·exact .inr (.inr (inF y h1))
end
end Go.Proofs.YtcdghalnneilpaaGreat
