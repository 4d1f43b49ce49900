/- Joined texts. -/
import Derived.Test.YtcdghalnneilpaaGreatK21
set_option linter.unusedVariables false
set_option linter.unusedSimpArgs false
set_option maxRecDepth 8000
set_option maxHeartbeats 8000000
namespace Go.Proofs.YtcdghalnneilpaaGreat
open Go.RowKit Go.Deep Math
variable {w0 W W' : World} {d s : Nat} {F F' : List Nat} {S S' : Dv} {L : Int} {first : Nat} {M : SM}
structure LikeB (S S' : Dv) : Prop where
 cs : S'.cs = S.cs
 off : S'.off = S.off
 armed : S'.armed = S.armed
 losses : S'.losses = S.losses
theorem LikeB.refl (S : Dv) : LikeB S S := ⟨rfl, rfl, rfl, rfl⟩
theorem LikeB.trans {S S' S'' : Dv} (h : LikeB S S') (k : LikeB S' S'') : LikeB S S'' := ⟨k.cs.trans h.cs, k.off.trans h.off, k.armed.trans h.armed, k.losses.trans h.losses⟩
theorem LikeB.read (S : Dv) (k : Int) : LikeB S (S.readDo k) := by
 unfold Dv.readDo
 split
 ·exact LikeB.refl _
 ·split
  ·exact LikeB.refl _
  ·exact ⟨rfl, rfl, rfl, rfl⟩
def Dv.its (S : Dv) (k : Nat) : List It := match S.cs[k]? with
 | some c => c.now.its
 | none => []
theorem LikeB.its {S S' : Dv} (h : LikeB S S') (k : Nat) : S'.its k = S.its k := by unfold Dv.its; rw [h.cs]
theorem Dv.its_of {S : Dv} {k : Nat} {c : Cl} (h : S.cs[k]? = some c) : S.its k = c.now.its := by unfold Dv.its; rw [h]
theorem Dv.its_all {S : Dv} (hg : S.good) (k : Nat) : total (S.its k) <= 384 /\ ∀ x ∈ S.its k, x.fits /\ x.good = true := by
 unfold Dv.its
 cases h : S.cs[k]? with
 | none => simp [total]
 | some c => exact Pg.its_all c.now (hg.fits c (List.mem_of_getElem? h)).1
theorem open_bad (h : Law w0 d F S W) (a b : Int) (ha : -1000000 <= a /\ a <= 1000000) (hb : -1000000 <= b /\ b <= 1000000) (hx : a < 0 \/ b < 1 \/ 256 < b \/ (S.cs.length : Int) - b < a) :
  Calls Tryz.prog 105 #[.pointer (some ⟨d, 0, none⟩), .int .i64 a, .int .i64 b] W fun e W' => e = .returned (.tuple #[.pointer none, .int .i64 1]) /\ W' = W := by
 have cP : Hid (Calls Tryz.prog 46 #[.pointer (some ⟨d, 0, none⟩)] W fun e w' => e = .returned (.int .i64 (S.cs.length : Nat)) /\ w' = W) := pages_at h.dev
 have hm := h.dev.good.many
 generalize S.cs.length = n at cP hx hm
 clear h
 by_cases x1 : a < 0
 ·go_enter Tryz.func105, Tryz.ntmps105
  go_wp2
  go_ret2
  exact ⟨rfl, rfl⟩
 by_cases x2 : b < 1
 ·go_enter Tryz.func105, Tryz.ntmps105
  go_wp2
  go_ret2
  exact ⟨rfl, rfl⟩
 by_cases x3 : 256 < b
 ·go_enter Tryz.func105, Tryz.ntmps105
  go_wp2
  go_ret2
  exact ⟨rfl, rfl⟩
 have x4 : (n : Int) - b < a := by omega
 go_enter Tryz.func105, Tryz.ntmps105
 go_wp2_with (go_at_call 46; refine cP.out.mono ?_; rintro e w1 ⟨rfl, h1⟩; obtain rfl : W = w1 := h1.symm; clear h1)
 go_ret2
 exact ⟨rfl, rfl⟩
theorem ne_type {w : World} {a b : Nat} {c1 c2 : Array Value} {t1 t2 : TypeId} {z1 z2 : Nat × Nat} (h1 : w.heap[a]? = some (.cells c1 t1 z1)) (h2 : w.heap[b]? = some (.cells c2 t2 z2)) (ht : t1 ≠ t2) : a ≠ b := by
 rintro rfl
 rw [h1] at h2
 simp at h2
 exact ht h2.2.1
theorem info67 : (Tryz.prog.info? 207).map (fun i => (i.zero, i.size, i.bytes)) = some (some (.pointer none), 1, 8) := by kernel_rfl
theorem run_app67 {w : World} {base : Nat} {v : Value} {n : Nat} {xs : List Value} (h : w.ownsRow base 207 1 v n xs) (hbase : base <= w.heap.size) {b : Nat} {u : Value} (hb : Blk w b [u] 207) (h1 : u.oneCell' = true) (hn : n <= 1000) :
  ∃ v' w', (Builtin.append_ #[208, 208] 208 #[v, .slice (some ⟨b, 0, none⟩) 1 1]).run Tryz.prog w = .ok v' w' /\ w'.ownsRow base 207 1 v' (n + 1) (xs ++ [u]) /\ w.grownBy w' v.ownBlock := by
 obtain ⟨i0, hi0, hp0⟩ := Option.map_eq_some_iff.1 info67
 simp only [Prod.mk.injEq] at hp0
 obtain ⟨hz0, hz1, hz2⟩ := hp0
 obtain ⟨v', w', h1, h2, h3, h4⟩ := run_append_own (P := Tryz.prog) w base 208 208 207 i0 _ 1 8 Tryz.underlying208 hi0 hz0 hz1 hz2 rfl (by decide) v n xs h ⟨b, 0, none⟩ 1 1 [u] rfl (fun j y hj => by
  rw [Addr.add_lit, Nat.zero_add]
  exact hb.cell hj) (fun y hy => by simp at hy; rw [hy]; exact h1) (by unfold maxLen; omega) (by omega) hbase
 exact ⟨v', w', h1, h2, h3⟩
theorem row67_low {w : World} {base : Nat} {e : TypeId} {size : Nat} {v : Value} {n : Nat} {xs : List Value} (h : w.ownsRow base e size v n xs) : w.ownsRow 0 e size v n xs := by
 refine ⟨h.1, ?_⟩
 rcases h.2 with h2 | ⟨g, cap, cur, hv, hg, r⟩
 ·exact .inl h2
 ·exact .inr ⟨g, cap, cur, hv, Nat.zero_le _, r⟩
theorem Bk.row67 (h : Bk w0 W d F S s L first M) {B : Nat} (hB : ∀ b ∈ M.foot s, B <= b) : W.ownsRow B 207 1 (.slice M.a M.fs.length M.cap) M.fs.length M.ptrs := by
 refine ⟨h.st.row.1, ?_⟩
 rcases h.st.row.2 with h2 | ⟨g, cap, cur, hv, hg, r⟩
 ·exact .inl h2
 ·refine .inr ⟨g, cap, cur, hv, ?_, r⟩
  simp only [Value.slice.injEq] at hv
  exact hB g (SM.mem_a (a := ⟨g, 0, none⟩) hv.1)
theorem Bk.more {V V2 : World} (h : Bk w0 V d F S s L first M) {f sb g cp : Nat} {l : List Bool} (hf : Bl.FltIn V f sb l 3) (hl : l.length = 256) (hnf : f ∉ F /\ sb ∉ F /\ w0.heap.size <= f /\ w0.heap.size <= sb) (hns : ∀ x ∈ M.fs, x.s ≠ sb)
  {B : Nat} (hB : w0.heap.size <= B) (hr : V2.ownsRow B 207 1 (.slice (some ⟨g, 0, none⟩) (M.fs.length + 1) cp) (M.fs.length + 1) (M.ptrs ++ [.pointer (some ⟨f, 0, none⟩)])) (hg : V.grownBy V2 (M.a.map (·.block))) :
  Bk w0 (V2.setCell ⟨s, 3, none⟩ (.slice (some ⟨g, 0, none⟩) (M.fs.length + 1) cp)) d F S s L first ⟨some ⟨g, 0, none⟩, cp, M.fs ++ [⟨f, sb, l⟩]⟩ /\ B <= g /\ Keep (s :: (M.a.map (·.block)).toList) V (V2.setCell ⟨s, 3, none⟩ (.slice (some ⟨g, 0, none⟩) (M.fs.length + 1) cp)) := by
 obtain ⟨cur, hcur, hg0⟩ : ∃ cur, V2.heap[g]? = some (.cells cur 207 (0, 0)) /\ B <= g := by
  rcases hr.2 with ⟨hv, _⟩ | ⟨g', cap, cur, hv, hb, hh, _⟩
  ·simp at hv
  ·simp at hv; rw [hv.1]; exact ⟨cur, hh, hb⟩
 -- which blocks are kept
 have hA : ∀ a, M.a = some a -> ∃ cu, V.heap[a.block]? = some (.cells cu 207 (0, 0)) := fun a ha => by
  rcases h.st.form with ⟨h1, _⟩ | ⟨q, cu, h1, h2, _⟩
  ·rw [h1] at ha; cases ha
  ·rw [h1] at ha; cases ha; exact ⟨cu, h2⟩
 have kp : ∀ (k : Nat) (c : Array Value) (t : TypeId) (z : Nat × Nat), V.heap[k]? = some (.cells c t z) -> t ≠ 207 -> V2.heap[k]? = V.heap[k]? := fun k c t z hk ht => by
  refine hg.block k (Array.getElem?_eq_some_iff.1 hk).1 (fun e => ?_)
  cases ha : M.a with
  | none => rw [ha] at e; simp at e
  | some a =>
   rw [ha] at e
   simp at e
   obtain ⟨cu, hcu⟩ := hA a ha
   rw [<- e] at hcu
   exact ne_type hk hcu ht rfl
 have hs2 : Blk V2 s [.pointer (some ⟨d, 0, none⟩), .int .i64 L, .int .i64 (first : Int), .slice M.a M.fs.length M.cap] 210 := h.st.box.same (kp s _ 210 _ h.st.box (by decide))
 have hgs : g ≠ s := ne_type hcur hs2 (by decide)
 have oth : ∀ k, k ≠ s -> (V2.setCell ⟨s, 3, none⟩ (.slice (some ⟨g, 0, none⟩) (M.fs.length + 1) cp)).heap[k]? = V2.heap[k]? := fun k hk => blk_setCell_other _ _ _ _ hk
 have fl : ∀ (f' s' : Nat) (l' : List Bool), Bl.FltIn V f' s' l' 3 -> Bl.FltIn (V2.setCell ⟨s, 3, none⟩ (.slice (some ⟨g, 0, none⟩) (M.fs.length + 1) cp)) f' s' l' 3 := fun f' s' l' hx => by
  refine hx.same ?_ ?_
  ·rw [oth f' (ne_type hx.own h.st.box (by decide)), kp f' _ 250 _ hx.own (by decide)]
  ·rw [oth s' (ne_type hx.row h.st.box (by decide)), kp s' _ 4 _ hx.row (by decide)]
 have KK : Keep (s :: (M.a.map (·.block)).toList) V (V2.setCell ⟨s, 3, none⟩ (.slice (some ⟨g, 0, none⟩) (M.fs.length + 1) cp)) := by
  refine Keep.setCell ⟨hg.os, hg.tape, hg.output, hg.size, fun k hk hn => hg.block k hk (fun e => hn ?_)⟩ (.inl (by simp)) _
  simp only [List.mem_cons]
  right
  rw [<- e]; simp
 have hsF : s ∉ F := h.off s SM.mem_s
 have haF : ∀ a, M.a = some a -> a.block ∉ F := fun a ha => h.off _ (SM.mem_a ha)
 have hKF : ∀ b ∈ s :: (M.a.map (·.block)).toList, b ∉ F /\ w0.heap.size <= b := fun b hb => by
  simp only [List.mem_cons] at hb
  rcases hb with rfl | hb
  ·exact ⟨hsF, h.new _ SM.mem_s⟩
  ·cases ha : M.a with
   | none => rw [ha] at hb; simp at hb
   | some a => rw [ha] at hb; simp at hb; rw [hb]; exact ⟨haF a ha, h.new _ (SM.mem_a ha)⟩
 have hgF : g ∉ F /\ w0.heap.size <= g := by
  by_cases hga : ∃ a, M.a = some a /\ a.block = g
  ·obtain ⟨a, ha, rfl⟩ := hga
   exact ⟨haF a ha, h.new _ (SM.mem_a ha)⟩
  ·have hgn : some g ≠ M.a.map (·.block) := fun e => by
    cases ha : M.a with
    | none => rw [ha] at e; simp at e
    | some a => rw [ha] at e; simp at e; exact hga ⟨a, ha, e.symm⟩
   refine ⟨fun hf => ?_, ?_⟩
   ·have hlt := h.law.dev.lt g hf
    have e := hg.block g hlt hgn
    rw [hcur] at e
    obtain ⟨p, pd, wa, wc, hF, hd⟩ := h.law.dev
    rw [hF] at hf
    simp only [foot, List.mem_cons] at hf
    rcases hf with rfl | rfl | hf
    ·exact ne_type e.symm hd.dev (by decide) rfl
    ·exact ne_type e.symm hd.row (by decide) rfl
    ·cases hwa : wa with
     | none => rw [hwa] at hf; simp at hf
     | some a =>
      rw [hwa] at hf; simp at hf
      rcases hd.own.2 with ⟨hv, _⟩ | ⟨g', cap, cu, hv, _, hh, _⟩
      ·rw [hwa] at hv; simp at hv
      ·rw [hwa] at hv; simp at hv
       rw [hv.1] at hf
       simp at hf
       rw [<- hf] at hh
       exact ne_type e.symm hh (by decide) rfl
   ·exact Nat.le_trans hB hg0
 refine ⟨⟨⟨h.law.dev.same (fun b hb => ?_), h.law.low, h.law.bel.trans (KK.below (fun b hb => (hKF b hb).2) h.law.bel.size)⟩, ⟨?_, ?_, ?_, ?_⟩, ?_, ?_⟩, hg0, KK⟩
 ·exact KK.block b (h.law.dev.lt b hb) (fun hb' => (hKF b hb').1 hb)
 ·have := hs2.set 3 (.slice (some ⟨g, 0, none⟩) (M.fs.length + 1) cp)
  simpa using this
 ·have e1 : SM.ptrs ⟨some ⟨g, 0, none⟩, cp, M.fs ++ [⟨f, sb, l⟩]⟩ = M.ptrs ++ [.pointer (some ⟨f, 0, none⟩)] := by simp [SM.ptrs]
  rw [e1]
  have e2 : (SM.mk (some ⟨g, 0, none⟩) cp (M.fs ++ [⟨f, sb, l⟩])).fs.length = M.fs.length + 1 := by simp
  rw [e2]
  exact row67_keep (row67_low hr) (fun q hq => by simp [Value.ownBlock] at hq; rw [<- hq]; exact oth g hgs)
 ·intro x hx
  simp only [List.mem_append, List.mem_singleton] at hx
  rcases hx with hx | rfl
  ·exact ⟨fl _ _ _ (h.st.flt x hx).1, (h.st.flt x hx).2⟩
  ·exact ⟨fl _ _ _ hf, hl⟩
 ·simp only [List.map_append, List.map_cons, List.map_nil]
  rw [List.nodup_append]
  refine ⟨h.st.nd, by simp, fun a ha b hb => ?_⟩
  simp at hb; subst hb
  obtain ⟨x, hx, rfl⟩ := List.mem_map.1 ha
  exact hns x hx
 ·intro b hb
  rcases SM.foot_inv hb with rfl | ⟨a, ha, rfl⟩ | ⟨x, hx, hbx⟩
  ·exact h.new _ SM.mem_s
  ·simp at ha; rw [<- ha]; exact hgF.2
  ·simp only [List.mem_append, List.mem_singleton] at hx
   rcases hx with hx | rfl
   ·rcases hbx with rfl | rfl
    ·exact h.new _ (SM.mem_f hx).1
    ·exact h.new _ (SM.mem_f hx).2
   ·rcases hbx with rfl | rfl
    ·exact hnf.2.2.1
    ·exact hnf.2.2.2
 ·intro b hb
  rcases SM.foot_inv hb with rfl | ⟨a, ha, rfl⟩ | ⟨x, hx, hbx⟩
  ·exact hsF
  ·simp at ha; rw [<- ha]; exact hgF.1
  ·simp only [List.mem_append, List.mem_singleton] at hx
   rcases hx with hx | rfl
   ·rcases hbx with rfl | rfl
    ·exact h.off _ (SM.mem_f hx).1
    ·exact h.off _ (SM.mem_f hx).2
   ·rcases hbx with rfl | rfl
    ·exact hnf.1
    ·exact hnf.2.1
theorem open_ok (h : Law w0 d F S W) (hoff : S.off = false) (first pages : Nat) (h1 : 1 <= pages) (h2 : pages <= 256) (h3 : first + pages <= S.cs.length) :
  Calls Tryz.prog 105 #[.pointer (some ⟨d, 0, none⟩), .int .i64 first, .int .i64 pages] W fun e W' => ∃ s M S', e = .returned (.tuple #[.pointer (some ⟨s, 0, none⟩), .int .i64 0]) /\ Bk w0 W' d F S' s S.losses first M /\ LikeB S S' /\
   M.fs.map (·.l) = (List.range pages).map (fun k => toldB (S.its (first + k))) /\ Keep F W W' /\ ∀ b ∈ M.foot s, W.heap.size <= b := by
 have cP : Hid (Calls Tryz.prog 46 #[.pointer (some ⟨d, 0, none⟩)] W fun e w' => e = .returned (.int .i64 (S.cs.length : Nat)) /\ w' = W) := pages_at h.dev
 have cL : Hid (Calls Tryz.prog 48 #[.pointer (some ⟨d, 0, none⟩)] W fun e w' => e = .returned (.int .i64 S.losses) /\ w' = W) := losses_at h.dev
 have hm := h.dev.good.many
 obtain ⟨n, hn⟩ : ∃ n, n = S.cs.length := ⟨_, rfl⟩
 rw [<- hn] at cP h3 hm
 obtain ⟨Ls, hLs⟩ : ∃ l, l = S.losses := ⟨_, rfl⟩
 rw [<- hLs] at cL ⊢
 have H := hide h
 have HN := hide hn
 have HO := hide hoff
 have HLS := hide hLs
 have x1 : ¬ (first : Int) < 0 := by omega
 have x2 : ¬ (pages : Int) < 1 := by omega
 have x3 : ¬ (256 : Int) < (pages : Int) := by omega
 have x4 : ¬ (n : Int) - (pages : Int) < (first : Int) := by omega
 clear h hn hoff hLs
 go_enter Tryz.func105, Tryz.ntmps105
 go_wp2_with (first
  | (go_at_call 46; refine cP.out.mono ?_; rintro e w1 ⟨rfl, h1'⟩; obtain rfl : W = w1 := h1'.symm; clear h1')
  | (go_at_call 48; refine cL.out.mono ?_; rintro e w1 ⟨rfl, h1'⟩; obtain rfl : W = w1 := h1'.symm; clear h1'))
 have hs0 : Blk (W.alloc (.cells #[.pointer (some ⟨d, 0, none⟩), .int .i64 Ls, .int .i64 (first : Int), .slice none 0 0] 210)) W.heap.size [.pointer (some ⟨d, 0, none⟩), .int .i64 Ls, .int .i64 (first : Int), .slice none 0 0] 210 := Blk.new W _ 210
 have K0 : Hid (Bk w0 (W.alloc (.cells #[.pointer (some ⟨d, 0, none⟩), .int .i64 Ls, .int .i64 (first : Int), .slice none 0 0] 210)) d F S W.heap.size Ls first ⟨none, 0, []⟩) :=
  ⟨H.out.alloc _, ⟨hs0, ⟨rfl, .inl ⟨rfl, rfl⟩⟩, by simp, by simp⟩, fun b hb => by simp [SM.foot] at hb; subst hb; exact H.out.bel.size, fun b hb => by simp [SM.foot] at hb; subst hb; exact H.out.dev.new _ (Nat.le_refl _)⟩
 have KW : Hid (Keep F W (W.alloc (.cells #[.pointer (some ⟨d, 0, none⟩), .int .i64 Ls, .int .i64 (first : Int), .slice none 0 0] 210))) := (Keep.refl F W).alloc _
 obtain ⟨s, hs⟩ : ∃ s, s = W.heap.size := ⟨_, rfl⟩
 rw [<- hs] at K0 ⊢
 have HS := hide hs
 generalize W.alloc (.cells #[.pointer (some ⟨d, 0, none⟩), .int .i64 Ls, .int .i64 (first : Int), .slice none 0 0] 210) = wA at K0 KW ⊢
 clear hs0 hs cP cL
 go_loopg [37] pages (fun kx s37 wr => ∃ (i : Nat) (M : SM) (S' : Dv), s37 = .int .i64 i /\ i <= pages /\ pages - i <= kx /\ Hid (Bk w0 wr d F S' s Ls first M /\ LikeB S S' /\ M.fs.map (·.l) = (List.range i).map (fun k => toldB (S.its (first + k))) /\ Keep F W wr /\ ∀ b ∈ M.foot s, W.heap.size <= b))
 case atStart => exact ⟨0, ⟨none, 0, []⟩, S, rfl, Nat.zero_le _, by omega, K0.out, LikeB.refl _, rfl, KW.out, fun b hb => by simp [SM.foot] at hb; subst hb; rw [HS.out]; exact Nat.le_refl _⟩
 case round =>
  obtain ⟨i, M, S1, rfl, hip, hg, I⟩ := hrel
  by_cases hlt : i < pages
  ·have hlt2 : (i : Int) < (pages : Int) := by omega
   obtain ⟨c, hc⟩ : ∃ c, S.cs[first + i]? = some c := ⟨_, List.getElem?_eq_getElem (by rw [<- HN.out]; omega)⟩
   have hcf : c.now.fits := (H.out.dev.good.fits c (List.mem_of_getElem? hc)).1
   have cF := hide (filter_ok I.out.1 (by rw [HLS.out, I.out.2.1.losses]) (by rw [I.out.2.1.off]; exact HO.out) i c (by rw [I.out.2.1.cs]; exact hc) hcf)
   have EI := hide (Dv.its_of hc)
   have hfl : Hid (M.fs.length = i) := by
    show _ = _
    have := congrArg List.length I.out.2.2.1
    simpa using this
   clear hc hcf
   go_wp2_with fail
   refine cF.out.mono ?_
   rintro e w1 ⟨rfl, hf, hb1, k1⟩
   have F1 := hide hf
   have B1 := hide hb1
   have K1 := hide k1
   clear hf hb1 k1 cF
   have c3 := B1.out.st.box.cell (i := 3) rfl
   have z3 := B1.out.st.box.frozen 3
   have hsl := B1.out.st.box.lt
   have hNw : wr.heap.size + 1 < w1.heap.size := F1.out.own.lt
   obtain ⟨v', w2, hrun, hown, hgr⟩ := run_app67 (w := w1.alloc (.cells #[.pointer (some ⟨wr.heap.size + 1, 0, none⟩)] 207)) (base := W.heap.size) (row67_keep (B1.out.row67 I.out.2.2.2.2) (fun q hq => blk_alloc_lt _ _ _ (by
    have : q ∈ M.foot s := by
     cases ha : M.a with
     | none => rw [ha] at hq; simp [Value.ownBlock] at hq
     | some a => rw [ha] at hq; simp [Value.ownBlock] at hq; rw [<- hq]; exact SM.mem_a ha
    exact B1.out.st.lt q this))) (by have := K1.out.size; have := I.out.2.2.2.1.size; simp; omega) (Blk.new w1 [.pointer (some ⟨wr.heap.size + 1, 0, none⟩)] 207) rfl (by have := hfl.out; omega)
   have HR := hide hrun
   obtain ⟨g2, cp2, rfl⟩ : ∃ g2 cp2, v' = .slice (some ⟨g2, 0, none⟩) (M.fs.length + 1) cp2 := by
    rcases hown.2 with ⟨_, h0⟩ | ⟨g2, cp2, _, hv, _⟩
    ·omega
    ·exact ⟨g2, cp2, hv⟩
   have hgr' : (w1.alloc (.cells #[.pointer (some ⟨wr.heap.size + 1, 0, none⟩)] 207)).grownBy w2 (M.a.map (·.block)) := by
    cases ha : M.a with
    | none => rw [ha] at hgr; exact hgr
    | some a => rw [ha] at hgr; exact hgr
   have hbe : Below w1.heap.size w1 (w1.alloc (.cells #[.pointer (some ⟨wr.heap.size + 1, 0, none⟩)] 207)) := (Below.refl _ _).alloc (Nat.le_refl _) _
   have hnew := I.out.1.law.dev
   have MM := hide ((B1.out.below hbe).more (l := toldB c.now.its) (F1.out.below hbe) (toldB_length _) ⟨hnew.new _ (by omega), hnew.new _ (Nat.le_refl _), by have := I.out.1.law.bel.size; omega, I.out.1.law.bel.size⟩ (fun x hx he => by
    have := I.out.1.st.lt x.s (SM.mem_f hx).2
    omega) H.out.bel.size hown hgr')
   have hw2 : w1.heap.size <= w2.heap.size := by have := hgr'.size; simp at this; omega
   have sc3 : w2.cell? ⟨s, 3, none⟩ = some (.slice M.a M.fs.length M.cap) /\ w2.frozen? ⟨s, 3, none⟩ = false := by
    have e : w2.heap[s]? = w1.heap[s]? := by
     rw [hgr'.block s (by simp; omega) (fun e => by
      cases ha : M.a with
      | none => rw [ha] at e; simp at e
      | some a =>
       rw [ha] at e; simp at e
       rcases B1.out.st.form with ⟨h1, _⟩ | ⟨q, cu, h1, h2, _⟩
       ·rw [h1] at ha; cases ha
       ·rw [h1] at ha; cases ha
        exact ne_type B1.out.st.box h2 (by decide) e)]
     exact blk_alloc_lt _ _ _ hsl
    have hb := B1.out.st.box.same e
    exact ⟨hb.cell (i := 3) rfl, hb.frozen 3⟩
   obtain ⟨sc, sz⟩ := sc3
   have KK := hide (I.out.2.2.2.1.trans (K1.out.trans (Keep.of_below (F := []) hbe) (by simp)) (fun q hq => .inl hq))
   clear hrun hown hgr hgr' hbe hnew
   go_wp2_with (at_builtin; refine Lib.wpList_append_run _ rfl _ _ _ _ rfl _ _ rfl rfl _ _ HR.out ?_)
   go_roundg (pages - (i + 1))
   case measure => omega
   case rel =>
    refine ⟨i + 1, _, _, rfl, by omega, by omega, MM.out.1, I.out.2.1.trans (LikeB.read _ _), ?_, ?_⟩
    ·simp only [List.map_append, List.map_cons, List.map_nil]
     rw [I.out.2.2.1, List.range_succ, List.map_append]
     simp only [List.map_cons, List.map_nil]
     rw [EI.out]
    ·refine ⟨KK.out.trans MM.out.2.2 (fun q hq => .inr ?_), fun b hb => ?_⟩
     ·simp only [List.mem_cons] at hq
      rcases hq with rfl | hq
      ·exact I.out.2.2.2.2 _ SM.mem_s
      ·cases ha : M.a with
       | none => rw [ha] at hq; simp at hq
       | some a => rw [ha] at hq; simp at hq; rw [hq]; exact I.out.2.2.2.2 _ (SM.mem_a ha)
     ·have hsz := I.out.2.2.2.1.size
      rcases SM.foot_inv hb with rfl | ⟨a, ha, rfl⟩ | ⟨x, hx, hbx⟩
      ·exact I.out.2.2.2.2 _ SM.mem_s
      ·simp at ha; rw [<- ha]; exact MM.out.2.1
      ·simp only [List.mem_append, List.mem_singleton] at hx
       rcases hx with hx | rfl
       ·rcases hbx with rfl | rfl
        ·exact I.out.2.2.2.2 _ (SM.mem_f hx).1
        ·exact I.out.2.2.2.2 _ (SM.mem_f hx).2
       ·rcases hbx with rfl | rfl
        ·show _ <= wr.heap.size + 1; omega
        ·exact hsz
  ·obtain rfl : i = pages := by omega
   have hlt2 : ¬ (i : Int) < (i : Int) := by omega
   go_wp2
   go_ret2
   exact ⟨s, rfl, M, S1, I.out.1, I.out.2.1, I.out.2.2.1, I.out.2.2.2.1, I.out.2.2.2.2⟩
variable {w0 W W' : World} {d s : Nat} {F F' : List Nat} {S S' : Dv} {L : Int} {first : Nat} {M : SM}
theorem StIn.at_ (h : StIn W s d L first M) {k : Nat} {x : FB} (hx : M.fs[k]? = some x) : ∃ q, M.a = some ⟨q, 0, none⟩ /\ W.cell? ⟨q, k, none⟩ = some (.pointer (some ⟨x.f, 0, none⟩)) /\ q < W.heap.size := by
 rcases h.form with ⟨_, h1⟩ | ⟨q, cur, h1, h2, h3, h4⟩
 ·rw [h1] at hx; simp at hx
 ·refine ⟨q, h1, ?_, (Array.getElem?_eq_some_iff.1 h2).1⟩
  have hk : k < M.fs.length := (List.getElem?_eq_some_iff.1 hx).1
  have e := congrArg (fun l => l[k]?) h4
  simp only [List.getElem?_take, SM.ptrs, List.getElem?_map, hx, if_pos hk, Array.getElem?_toList, Option.map_some] at e
  simp [World.cell?, h2, e]
theorem below_drew {B : Nat} {A V : World} (h : Below B A V) (q : Nat) : Below B A (V.drewN q) := ⟨h.os, h.tape, h.output, h.size, h.block⟩
theorem entb32 (args : Array Value) (w : World) : (callFunc 141 args).run Tryz.prog w = .ok (.enter 141 args) w := enters_of Tryz.func141 (by kernel_rfl) rfl args w
theorem entb39 (args : Array Value) (w : World) : (callFunc 142 args).run Tryz.prog w = .ok (.enter 142 args) w := enters_of Tryz.func142 (by kernel_rfl) rfl args w
theorem may_ok (h : Bk w0 W d F S s L first M) (key : List UInt8) (hk : key.length <= maxLen) (x : FB) (hx : M.fs[bkt key M.fs.length]? = some x) (hn2 : M.fs.length <= 1000) :
  Calls Tryz.prog 85 #[.pointer (some ⟨s, 0, none⟩), .string (txt key)] W fun e W' => e = .returned (.bool (Bl.mayB x.l (Bl.plc (txt key) 256 3))) /\ Below W.heap.size W W' := by
 obtain ⟨q, hq, hqc, hql⟩ := h.st.at_ hx
 have hkn := (List.getElem?_eq_some_iff.1 hx).1
 have hfl := h.st.flt x (List.mem_of_getElem? hx)
 obtain ⟨res, hres⟩ : ∃ r, r = Bl.mayB x.l (Bl.plc (txt key) 256 3) := ⟨_, rfl⟩
 obtain ⟨xf, hxf⟩ : ∃ xf, xf = x.f := ⟨_, rfl⟩
 rw [<- hres]
 have cM0 : Hid (∀ V, Below W.heap.size W V -> Calls Tryz.prog 142 #[.pointer (some ⟨xf, 0, none⟩), .string (txt key)] V fun e w' => e = .returned (.bool res) /\ Below V.heap.size V w') := fun V hV => by
  have := Bl.may_any x.f x.s 3 x.l (txt key) (by rw [txt_size]; exact hk) V (hfl.1.below hV)
  rw [hfl.2, <- hres, <- hxf] at this
  exact this
 have cB0 : Hid (∀ V, Below W.heap.size W V -> Calls Tryz.prog 141 #[.pointer (some ⟨s, 0, none⟩), .string (txt key)] V fun e w' => e = .returned (.int .i64 (bkt key M.fs.length : Nat)) /\ ∃ q, w' = V.drewN q) := fun V hV => bucket_any (h.below hV).st key hk (by omega) hn2
 have cl : Hid (∀ V, Below W.heap.size W V -> V.cell? ⟨s, 3, none⟩ = some (.slice M.a M.fs.length M.cap) /\ V.cell? ⟨q, bkt key M.fs.length, none⟩ = some (.pointer (some ⟨xf, 0, none⟩))) := fun V hV => by
  refine ⟨(h.below hV).st.box.cell (i := 3) rfl, ?_⟩
  rw [hxf, <- hqc]
  exact hV.cell (p := ⟨q, _, none⟩) hql
 obtain ⟨bk, hbk⟩ : ∃ bk, bk = bkt key M.fs.length := ⟨_, rfl⟩
 obtain ⟨n, hn⟩ : ∃ n, n = M.fs.length := ⟨_, rfl⟩
 obtain ⟨cap, hcap⟩ : ∃ cap, cap = M.cap := ⟨_, rfl⟩
 rw [<- hbk] at cB0 cl hkn
 rw [hq, <- hn, <- hcap] at cl
 rw [<- hn] at hkn hn2
 have hbn : (bk : Int) < (n : Int) := by omega
 clear h hx hfl hk hqc hres hxf hbk hn hcap hq
 go_enter Tryz.func85, Tryz.ntmps85
 go_wp2_with fail
 obtain ⟨CC, hCC⟩ : ∃ CC : Bool -> World -> Prop, CC = fun f w' => match f with
   | false => ∃ q, w' = W.drewN q
   | true => Below W.heap.size W w' := ⟨_, rfl⟩
 have CB : Hid (∀ f w', CC f w' -> Below W.heap.size W w') := fun f w' hw => by
  rw [hCC] at hw
  cases f with
  | false => obtain ⟨q, rfl⟩ := hw; exact below_q2 W q
  | true => exact hw
 have DR : Hid (CC false { W with drawn := W.drawn + 1 }) := by show CC false _; rw [hCC]; exact ⟨1, rfl⟩
 have cB : Hid (∀ f w', CC f w' -> Calls Tryz.prog 141 #[.pointer (some ⟨s, 0, none⟩), .string (txt key)] w' fun e w' => e = .returned (.int .i64 (bk : Int)) /\ CC f w') := fun f w' hw => by
  refine (cB0.out w' (CB.out f w' hw)).mono ?_
  rintro e w2 ⟨rfl, q2, rfl⟩
  refine ⟨rfl, ?_⟩
  rw [hCC] at hw ⊢
  cases f with
  | false => obtain ⟨q, rfl⟩ := hw; exact ⟨q + q2, by rw [World.drewN_drewN]⟩
  | true => exact below_drew hw q2
 have cM : Hid (∀ w', CC false w' -> Calls Tryz.prog 142 #[.pointer (some ⟨xf, 0, none⟩), .string (txt key)] w' fun e w' => e = .returned (.bool res) /\ CC true w') := fun w' hw => by
  have hb := CB.out false w' hw
  refine (cM0.out w' hb).mono ?_
  rintro e w2 ⟨rfl, h2⟩
  refine ⟨rfl, ?_⟩
  rw [hCC]
  exact hb.trans (h2.mono hb.size)
 have cells : Hid (∀ f w', CC f w' -> w'.cell? ⟨s, 3, none⟩ = some (.slice (some ⟨q, 0, none⟩) n cap) /\ w'.cell? ⟨q, bk, none⟩ = some (.pointer (some ⟨xf, 0, none⟩))) := fun f w' hw => cl.out w' (CB.out f w' hw)
 clear hCC cB0 cM0 cl
 refine wp_region_turn (by kernel_rfl) (by kernel_rfl) (fun i => ([.pointer (some ⟨s, 0, none⟩), .pointer (some ⟨s, 0, none⟩), .pointer (some ⟨s, 3, none⟩), .slice (some ⟨q, 0, none⟩) n cap, .pointer (some ⟨s, 0, none⟩), .string (txt key), .int .i64 (bk : Int), .pointer (some ⟨q, bk, none⟩), .pointer (some ⟨xf, 0, none⟩), .string (txt key), .bool res, .bool res] : List Value).getD i undef) 10 (by decide) (CC) (DR.out) ?_ ?_
 ·intro i o hi f w' ev hc hz hin hout hcst hfn
  have hlt : i < 12 := by
   have := (Array.getElem?_eq_some_iff.1 hi).1
   simpa using this
  match i, hlt with
  | 0, _ =>
   cases hi
   have e0 : ev (.tmp 0) = .pointer (some ⟨s, 0, none⟩) := hout 0
   rw [if_neg (by decide)]
   refine .inl ⟨w', ?_, hc⟩
   simp [execOp, e0, hcst, go_sem]
  | 1, _ =>
   cases hi
   have e0 : ev (.tmp 5) = .pointer (some ⟨s, 0, none⟩) := hin 5 0 ⟨0, .data⟩
   rw [if_neg (by decide)]
   refine .inl ⟨w', ?_, hc⟩
   simp [execOp, e0, hcst, go_sem]
  | 2, _ =>
   cases hi
   have e0 : ev (.tmp 6) = .pointer (some ⟨s, 0, none⟩) := hin 6 1 ⟨1, .data⟩
   rw [if_neg (by decide)]
   refine .inl ⟨w', ?_, hc⟩
   simp [execOp, e0, hcst, go_sem]
  | 3, _ =>
   cases hi
   have e0 : ev (.tmp 7) = .pointer (some ⟨s, 3, none⟩) := hin 7 2 ⟨2, .data⟩
   rw [if_neg (by decide)]
   refine .inl ⟨w', ?_, hc⟩
   show _ = Result.ok (Next.value (.slice (some ⟨q, 0, none⟩) n cap)) w'
   have q1 := (cells.out f w' hc).1
   simp [execOp, e0, q1, hcst, go_sem]
  | 4, _ =>
   cases hi
   have e0 : ev (.tmp 0) = .pointer (some ⟨s, 0, none⟩) := hout 0
   rw [if_neg (by decide)]
   refine .inl ⟨w', ?_, hc⟩
   simp [execOp, e0, hcst, go_sem]
  | 5, _ =>
   cases hi
   have e0 : ev (.tmp 1) = .string (txt key) := hout 1
   rw [if_neg (by decide)]
   refine .inl ⟨w', ?_, hc⟩
   simp [execOp, e0, hcst, go_sem]
  | 6, _ =>
   cases hi
   have e0 : ev (.tmp 9) = .pointer (some ⟨s, 0, none⟩) := hin 9 4 ⟨4, .data⟩
   have e1 : ev (.tmp 10) = .string (txt key) := hin 10 5 ⟨5, .data⟩
   rw [if_neg (by decide)]
   refine .inr (.inr ⟨141, #[.pointer (some ⟨s, 0, none⟩), .string (txt key)], ?_, ?_⟩)
   ·have ef := hfn 141
    simp [execOp, resolve, invoke, ef, hcst, e0, e1, Result.andThen]
    exact entb32 _ _
   ·refine (cB.out f w' hc).mono ?_
    rintro e w2 ⟨rfl, h2⟩
    exact ⟨rfl, h2⟩
  | 7, _ =>
   cases hi
   have e0 : ev (.tmp 8) = .slice (some ⟨q, 0, none⟩) n cap := hin 8 3 ⟨3, .data⟩
   have e1 : ev (.tmp 11) = .int .i64 (bk : Int) := hin 11 6 ⟨6, .data⟩
   rw [if_neg (by decide)]
   refine .inl ⟨w', ?_, hc⟩
   simp [execOp, e0, e1, hcst, go_sem, hbn]
  | 8, _ =>
   cases hi
   have e0 : ev (.tmp 12) = .pointer (some ⟨q, bk, none⟩) := hin 12 7 ⟨7, .data⟩
   rw [if_neg (by decide)]
   refine .inl ⟨w', ?_, hc⟩
   show _ = Result.ok (Next.value (.pointer (some ⟨xf, 0, none⟩))) w'
   have q1 := (cells.out f w' hc).2
   simp [execOp, e0, q1, hcst, go_sem]
  | 9, _ =>
   cases hi
   have e0 : ev (.tmp 1) = .string (txt key) := hout 1
   rw [if_neg (by decide)]
   refine .inl ⟨w', ?_, hc⟩
   simp [execOp, e0, hcst, go_sem]
  | 10, _ =>
   cases hi
   have e0 : ev (.tmp 13) = .pointer (some ⟨xf, 0, none⟩) := hin 13 8 ⟨8, .data⟩
   have e1 : ev (.tmp 14) = .string (txt key) := hin 14 9 ⟨9, .data⟩
   rw [if_pos rfl]
   refine .inr (.inr ⟨142, #[.pointer (some ⟨xf, 0, none⟩), .string (txt key)], ?_, ?_⟩)
   ·have ef := hfn 142
    simp [execOp, resolve, invoke, ef, hcst, e0, e1, Result.andThen]
    exact entb39 _ _
   ·rw [hz rfl] at hc
    refine (cM.out w' hc).mono ?_
    rintro e w2 ⟨rfl, h2⟩
    exact ⟨rfl, h2⟩
  | 11, _ =>
   cases hi
   have e0 : ev (.tmp 15) = .bool res := hin 15 10 ⟨10, .data⟩
   rw [if_neg (by decide)]
   refine .inl ⟨w', ?_, hc⟩
   simp [execOp, e0, hcst, go_sem]
 ·intro w7 hc
  simp only [lexF, Act.put, List.setIfInBounds_toArray, List.set_cons_succ, List.set_cons_zero, List.getD_cons_succ, List.getD_cons_zero]
  have T := hide (CB.out true w7 hc)
  clear hc cB cM cells DR CB hbn
  go_wp2
  go_ret
  exact ⟨rfl, T.out⟩
variable {w0 W W' : World} {d s : Nat} {F F' : List Nat} {S S' : Dv} {L : Int} {first : Nat} {M : SM}
theorem run_app_nil {w : World} {base : Nat} {v : Value} {xs : List It} (h : Row w base v xs) (ty : TypeId) :
  (Builtin.append_ #[72, 72] ty #[v, .slice none 0 0]).run Tryz.prog w = .ok v w := by
 obtain ⟨i0, hi0, hp0⟩ := Option.map_eq_some_iff.1 info30
 simp only [Prod.mk.injEq] at hp0
 obtain ⟨hz0, hz1, hz2⟩ := hp0
 rcases h.form with ⟨rfl, rfl⟩ | ⟨g, cap, pad, rfl, hb, hh, hc, hm, hl⟩
 ·simp [Builtin.append_, run_underlying Tryz.underlying72, Builtin.lenOf, Builtin.firstCells]
 ·simp [Builtin.append_, run_underlying Tryz.underlying72, Builtin.lenOf, Builtin.firstCells, hc, storeCells]
theorem run_app_row {w : World} {base b2 : Nat} {v u : Value} {xs ys : List It} (h : Row w base v xs) (hy : Row w b2 u ys) (ho : Oks ys) (hn : xs.length + ys.length <= 1048576) (hb : base <= w.heap.size) :
  ∃ v' w', (Builtin.append_ #[72, 72] 72 #[v, u]).run Tryz.prog w = .ok v' w' /\ Row w' base v' (xs ++ ys) /\ w.grownBy w' v.ownBlock := by
 rcases hy.form with ⟨rfl, rfl⟩ | ⟨g, cap, pad, rfl, _, hh, hc, hm, hl⟩
 ·exact ⟨v, w, run_app_nil h 72, by rw [List.append_nil]; exact h, rfl, rfl, rfl, Nat.le_refl _, fun _ _ _ => rfl⟩
 ·obtain ⟨v', w', h1, h2, h3, _⟩ := run_app (c := cap) h (its_blk hh rfl ho) hn hb
  exact ⟨v', w', h1 72, h2, h3⟩
def Dv.all (S : Dv) (first n : Nat) : List It := (List.range n).flatMap fun k => S.its (first + k)
theorem Dv.all_succ (S : Dv) (first n : Nat) : S.all first (n + 1) = S.all first n ++ S.its (first + n) := by simp [Dv.all, List.range_succ]
theorem its_len {S : Dv} (hg : S.good) (k : Nat) : (S.its k).length <= 12 := by have h1 := (Dv.its_all hg k).1; have h2 := total_len (S.its k); omega
theorem all_len {S : Dv} (hg : S.good) (first : Nat) : ∀ n, (S.all first n).length <= 12 * n
 | 0 => by simp [Dv.all]
 | n + 1 => by rw [Dv.all_succ, List.length_append]; have := all_len hg first n; have := its_len hg (first + n); omega
theorem items_ok (h : Bk w0 W d F S s L first M) (hL : L = S.losses) (hoff : S.off = false) (hn2 : M.fs.length <= 256) (hfit : first + M.fs.length <= S.cs.length) :
  Calls Tryz.prog 95 #[.pointer (some ⟨s, 0, none⟩)] W fun e W' => ∃ v S', e = .returned (.tuple #[v, .int .i64 0]) /\ Row W' W.heap.size v (S.all first M.fs.length) /\ Bk w0 W' d F S' s L first M /\ LikeB S S' /\ Keep F W W' := by
 have c3 := h.st.box.cell (i := 3) rfl
 have H := hide h
 have HL := hide hL
 have HO := hide hoff
 have hgd := hide h.law.dev.good
 obtain ⟨n, hn⟩ : ∃ n, n = M.fs.length := ⟨_, rfl⟩
 rw [<- hn] at c3 hn2 hfit ⊢
 have HF := hide hfit
 have hFlt : Hid (∀ q, W.heap.size <= q -> q ∉ F) := fun q hq => h.law.dev.new q hq
 clear h hL hoff hn hfit
 go_enter Tryz.func95, Tryz.ntmps95
 go_wp2_with fail
 go_loopg [4, 13] n (fun kx s4 s13 wr => ∃ (i : Nat) (va : Option Addr) (vk vc : Nat) (S' : Dv), s4 = .slice va vk vc /\ s13 = .int .i64 i /\ i <= n /\ n - i <= kx /\ Hid (Row wr W.heap.size (.slice va vk vc) (S.all first i) /\ Bk w0 wr d F S' s L first M /\ LikeB S S' /\ Keep F W wr))
 case atStart => exact ⟨0, none, 0, 0, S, rfl, rfl, Nat.zero_le _, by omega, Row.nil _ _, H.out, LikeB.refl _, Keep.refl _ _⟩
 case round =>
  obtain ⟨i, va, vk, vc, S1, rfl, rfl, hin, hg, I⟩ := hrel
  by_cases hlt : i < n
  ·have hlt2 : (i : Int) < (n : Int) := by omega
   obtain ⟨c, hc⟩ : ∃ c, S.cs[first + i]? = some c := ⟨_, List.getElem?_eq_getElem (by have := HF.out; omega)⟩
   have cT := hide (list_ok I.out.2.1 (by rw [HL.out, I.out.2.2.1.losses]) (by rw [I.out.2.2.1.off]; exact HO.out) i c (by rw [I.out.2.2.1.cs]; exact hc))
   have EI := hide (Dv.its_of hc)
   clear hc
   go_wp2_with fail
   refine cT.out.mono ?_
   rintro e w1 ⟨u, rfl, hr, hb1, k1⟩
   rw [<- EI.out] at hr
   obtain ⟨ua, uc, rfl, _, _, _, _⟩ := hr.its (Oks.of_good (Dv.its_all hgd.out (first + i)).2)
   obtain ⟨un, hun⟩ : ∃ un, un = (S.its (first + i)).length := ⟨_, rfl⟩
   rw [<- hun] at hr ⊢
   have hv1 : Row w1 W.heap.size (.slice va vk vc) (S.all first i) := I.out.1.keep (fun q hq => k1.block q (I.out.1.lt q hq).2 (hFlt.out q (I.out.1.lt q hq).1))
   have hlen := all_len hgd.out first (i + 1)
   rw [Dv.all_succ, List.length_append] at hlen
   obtain ⟨v', w2, hrun, hrow, hgr⟩ := run_app_row hv1 hr (Oks.of_good (Dv.its_all hgd.out (first + i)).2) (by omega) (Nat.le_trans I.out.2.2.2.size k1.size)
   obtain ⟨a', c', rfl, _, _, _, _⟩ := hrow.its (by
    rw [<- Dv.all_succ]
    intro x hx
    simp only [Dv.all, List.mem_flatMap] at hx
    obtain ⟨k, _, hx⟩ := hx
    exact Oks.of_good (Dv.its_all hgd.out (first + k)).2 x hx)
   obtain ⟨nn, hnn⟩ : ∃ nn, nn = (S.all first i ++ S.its (first + i)).length := ⟨_, rfl⟩
   rw [<- hnn] at hrun hrow
   have HR := hide hrun
   have hk2 : Keep (Value.slice va vk vc).ownBlock.toList w1 w2 := ⟨hgr.os, hgr.tape, hgr.output, hgr.size, fun q hq hn => hgr.block q hq (fun e => hn (by rw [<- e]; simp))⟩
   have B2 := hide (hb1.keep hk2 (fun q hq => by
    have hq' : (Value.slice va vk vc).ownBlock = some q := by simpa using hq
    have h1 := (I.out.1.lt q hq').1
    refine ⟨hFlt.out q h1, fun hf => ?_, Nat.le_trans H.out.law.bel.size h1⟩
    have := H.out.st.lt q hf
    omega))
   have HROW : Hid (Row w2 W.heap.size (.slice a' nn c') (S.all first (i + 1))) := by show Row _ _ _ _; rw [Dv.all_succ]; exact hrow
   have KK := hide ((I.out.2.2.2.trans k1 (fun q hq => .inl hq)).trans hk2 (fun q hq => .inr (I.out.1.lt q (by simpa using hq)).1))
   clear hr hb1 k1 hv1 hlen hrun hrow hgr hk2 cT hun hnn
   go_wp2_with (at_builtin; refine Lib.wpList_append_run _ rfl _ _ _ _ rfl _ _ rfl rfl _ _ HR.out ?_)
   go_roundg (n - (i + 1))
   case measure => omega
   case rel => exact ⟨i + 1, a', nn, c', _, rfl, rfl, by omega, by omega, HROW.out, B2.out, I.out.2.2.1.trans (LikeB.read _ _), KK.out⟩
  ·obtain rfl : i = n := by omega
   have hlt2 : ¬ (i : Int) < (i : Int) := by omega
   go_wp2
   go_ret2
   exact ⟨_, rfl, I.out.1, S1, I.out.2.1, I.out.2.2.1, I.out.2.2.2⟩
variable {w0 W W' : World} {d s : Nat} {F F' : List Nat} {S S' : Dv} {L : Int} {first : Nat} {M : SM}
def getV (o : Option It) : Value := match o with
 | some x => .tuple #[.agg #[.string (txt x.key), .string (txt x.value), .int .u32 x.flags, .int .i64 x.exp, .int .u64 x.ver], .int .i64 0]
 | none => .tuple #[.agg #[.string ⟨#[]⟩, .string ⟨#[]⟩, .int .u32 0, .int .i64 0, .int .u64 0], .int .i64 5]
def isKey (key : List UInt8) (x : It) : Bool := decide (x.key = key)
theorem five_set {V : World} {N : Nat} {L0 : List Value} (h : Blk V N L0 39) (hl : L0.length = 5) (p0 p1 p2 p3 p4 : Value) :
  Blk (((((V.setCell ⟨N, 0, none⟩ p0).setCell ⟨N, 1, none⟩ p1).setCell ⟨N, 2, none⟩ p2).setCell ⟨N, 3, none⟩ p3).setCell ⟨N, 4, none⟩ p4) N [p0, p1, p2, p3, p4] 39 := by
 match L0, hl with
 | [a, b, c, d, e], _ => exact Blk.sets [p0, p1, p2, p3, p4] [] [a, b, c, d, e] [] V rfl (by simpa using h)
theorem box_end {V : World} (h : Bk w0 V d F S s L first M) (hK : Keep F W V) {N : Nat} (hN : N ∉ F /\ N ∉ M.foot s /\ w0.heap.size <= N) (hW : W.heap.size <= N) (p0 p1 p2 p3 p4 : Value) :
  Bk w0 (((((V.setCell ⟨N, 0, none⟩ p0).setCell ⟨N, 1, none⟩ p1).setCell ⟨N, 2, none⟩ p2).setCell ⟨N, 3, none⟩ p3).setCell ⟨N, 4, none⟩ p4) d F S s L first M /\ Keep F W (((((V.setCell ⟨N, 0, none⟩ p0).setCell ⟨N, 1, none⟩ p1).setCell ⟨N, 2, none⟩ p2).setCell ⟨N, 3, none⟩ p3).setCell ⟨N, 4, none⟩ p4) := by
 refine ⟨h.keep (G := [N]) ((((((Keep.refl [N] V).setCell (.inl (by simp)) _).setCell (.inl (by simp)) _).setCell (.inl (by simp)) _).setCell (.inl (by simp)) _).setCell (.inl (by simp)) _) (fun b hb => by simp at hb; subst hb; exact hN), ?_⟩
 exact (((((hK.setCell (.inr hW) _).setCell (.inr hW) _).setCell (.inr hW) _).setCell (.inr hW) _).setCell (.inr hW) _)
theorem get_ok (h : Bk w0 W d F S s L first M) (hL : L = S.losses) (hoff : S.off = false) (key : List UInt8) (hk : key.length <= maxLen) (x : FB) (hx : M.fs[bkt key M.fs.length]? = some x) (hn2 : M.fs.length <= 256) (hfit : first + M.fs.length <= S.cs.length) (o : Option It)
  (ho : o = if Bl.mayB x.l (Bl.plc (txt key) 256 3) = true then (S.its (first + bkt key M.fs.length)).find? (isKey key) else none) :
  Calls Tryz.prog 112 #[.pointer (some ⟨s, 0, none⟩), .string (txt key)] W fun e W' => ∃ S', e = .returned (getV o) /\ Bk w0 W' d F S' s L first M /\ LikeB S S' /\ Keep F W W' := by
 have hbx : Blk (W.alloc (.cells #[.string ⟨#[]⟩, .string ⟨#[]⟩, .int .u32 0, .int .i64 0, .int .u64 0] 39)) W.heap.size [.string ⟨#[]⟩, .string ⟨#[]⟩, .int .u32 0, .int .i64 0, .int .u64 0] 39 := Blk.new W _ 39
 have hbe : Below W.heap.size W (W.alloc (.cells #[.string ⟨#[]⟩, .string ⟨#[]⟩, .int .u32 0, .int .i64 0, .int .u64 0] 39)) := (Below.refl _ _).alloc (Nat.le_refl _) _
 have cM := hide (may_ok (h.below hbe) key hk x hx (by omega))
 obtain ⟨N, hN⟩ : ∃ N, N = W.heap.size := ⟨_, rfl⟩
 have HNF : Hid (N ∉ F /\ N ∉ M.foot s /\ w0.heap.size <= N) := ⟨by rw [hN]; exact h.law.dev.new _ (Nat.le_refl _), fun hf => by have := h.st.lt N hf; omega, by rw [hN]; exact h.law.bel.size⟩
 have H := hide h
 have HL := hide hL
 have HO := hide hoff
 have HFIT := hide hfit
 have hkn := (List.getElem?_eq_some_iff.1 hx).1
 have HKL := hide hk
 obtain ⟨bk, hbk⟩ : ∃ bk, bk = bkt key M.fs.length := ⟨_, rfl⟩
 rw [<- hbk] at hkn ho
 have HBK := hide hbk
 have HNN := hide hN
 rw [<- hN] at hbx
 have HBX := hide hbx
 have KA : Hid (Keep F W (W.alloc (.cells #[.string ⟨#[]⟩, .string ⟨#[]⟩, .int .u32 0, .int .i64 0, .int .u64 0] 39))) := Keep.of_below hbe
 have HA := hide (h.below hbe)
 have hb256 : bk <= 256 := by omega
 have HKN := hide hkn
 cases hm : Bl.mayB x.l (Bl.plc (txt key) 256 3) with
 | false =>
  rw [hm] at cM ho
  simp only [Bool.false_eq_true, if_false] at ho
  subst ho
  clear h hL hoff hk hx hfit hkn hbk hN hbx hbe hm
  go_enter Tryz.func112, Tryz.ntmps112
  go_wp2_with fail
  refine cM.out.mono ?_
  rintro e w1 ⟨rfl, b1⟩
  have X1 := hide (HBX.out.same (b1.block N HBX.out.lt))
  have H1 := hide (HA.out.below b1)
  have K1 := hide (KA.out.trans (Keep.of_below (F := []) b1) (by simp))
  clear b1 cM
  have e0 := X1.out.cell (i := 0) rfl
  have e1 := X1.out.cell (i := 1) rfl
  have e2 := X1.out.cell (i := 2) rfl
  have e3 := X1.out.cell (i := 3) rfl
  have e4 := X1.out.cell (i := 4) rfl
  have f0 := X1.out.frozen 0
  have f1 := X1.out.frozen 1
  have f2 := X1.out.frozen 2
  have f3 := X1.out.frozen 3
  have f4 := X1.out.frozen 4
  rw [HNN.out] at e0 e1 e2 e3 e4 f0 f1 f2 f3 f4
  go_wp2
  have E := box_end H1.out K1.out HNF.out (by rw [HNN.out]; exact Nat.le_refl _) (.string ⟨#[]⟩) (.string ⟨#[]⟩) (.int .u32 0) (.int .i64 0) (.int .u64 0)
  rw [HNN.out] at E
  exact bodyPost_ret (v := getV none) (by simp [results, Tryz.results112, go_sem, getV, e0, e1, e2, e3, e4]) rfl ⟨S, rfl, E.1, LikeB.refl _, E.2⟩
 | true =>
  rw [hm] at cM ho
  simp only [if_true] at ho
  obtain ⟨c, hc⟩ : ∃ c, S.cs[first + bk]? = some c := ⟨_, List.getElem?_eq_getElem (by omega)⟩
  have EI := hide (Dv.its_of hc)
  obtain ⟨xs, hxs⟩ : ∃ xs, xs = S.its (first + bk) := ⟨_, rfl⟩
  rw [<- hxs] at ho
  have HXG : Hid (∀ y ∈ xs, y.fits /\ y.good = true) := by rw [hxs]; exact (Dv.its_all h.law.dev.good _).2
  have hxl : xs.length <= 12 := by rw [hxs]; exact its_len h.law.dev.good _
  have HXS := hide hxs
  have HOO := hide ho
  have HCC := hide hc
  clear h hL hoff hk hx hfit hkn hbk hN hbx hbe hm ho hc hxs
  go_enter Tryz.func112, Tryz.ntmps112
  go_wp2_with fail
  refine cM.out.mono ?_
  rintro e w1 ⟨rfl, b1⟩
  have X1 := hide (HBX.out.same (b1.block N HBX.out.lt))
  have H1 := hide (HA.out.below b1)
  have K1 := hide (KA.out.trans (Keep.of_below (F := []) b1) (by simp))
  clear b1 cM
  have cB := hide (bucket_any H1.out.st key HKL.out (by have := HKN.out; omega) (by omega))
  rw [<- HBK.out] at cB
  go_wp2_with fail
  refine cB.out.mono ?_
  rintro e w2 ⟨rfl, q2, rfl⟩
  have H2 := hide (H1.out.below (below_q2 w1 q2))
  have X2 := hide (X1.out.same (w' := w1.drewN q2) rfl)
  have K2 := hide (K1.out.trans (keep_q (F := []) w1 q2) (by simp))
  have cT := hide (list_ok H2.out HL.out HO.out bk c HCC.out)
  clear cB
  go_wp2_with fail
  refine cT.out.mono ?_
  rintro e w3 ⟨v, rfl, hr, hb3, k3⟩
  rw [<- EI.out, <- HXS.out] at hr
  obtain ⟨a, cap, rfl, hI, hq, _, _⟩ := hr.its (Oks.of_good HXG.out)
  have HQ : Hid (∀ b o, a = some ⟨b, o, none⟩ -> b ≠ N) := fun b o hab => by
   have h1 := (hr.lt b (by rw [hab]; rfl)).1
   have h2 := X1.out.lt
   have h3 : (w1.drewN q2).heap.size = w1.heap.size := rfl
   omega
  have X3 := hide (X2.out.same (k3.block N X2.out.lt HNF.out.1))
  have H3 := hide hb3
  have K3 := hide (K2.out.trans k3 (fun q hq => .inl hq))
  have HI := hide hI
  obtain ⟨n, hn⟩ : ∃ n, n = xs.length := ⟨_, rfl⟩
  rw [<- hn] at HI hxl ⊢
  have HN2 := hide hn
  have hLk : Hid (LikeB S (S.readDo (first + bk : Nat))) := LikeB.read _ _
  clear hr hb3 k3 cT hI hq hn
  go_wp2_with fail
  go_loopg [29] n (fun kx s29 wr => ∃ i : Nat, s29 = .int .i64 i /\ i <= n /\ n - i <= kx /\ Hid ((∀ y ∈ xs.take i, y.key ≠ key) /\ Below w3.heap.size w3 wr))
  case atStart => exact ⟨0, rfl, Nat.zero_le _, by omega, by simp, Below.refl _ _⟩
  case round =>
   obtain ⟨i, rfl, hin, hg, I⟩ := hrel
   have XR := hide (X3.out.same (I.out.2.block N X3.out.lt))
   have HR := hide (H3.out.below I.out.2)
   have KR := hide (K3.out.trans (Keep.of_below (F := []) I.out.2) (by simp))
   by_cases hlt : i < n
   ·have hlt2 : (i : Int) < (n : Int) := by omega
    obtain ⟨y, hy⟩ : ∃ y, xs[i]? = some y := ⟨_, List.getElem?_eq_getElem (by rw [<- HN2.out]; exact hlt)⟩
    obtain ⟨b, o2, rfl, hb, hc⟩ := HI.out.cell i y hy
    obtain ⟨c0, c1, c2, c3, c4⟩ := (hc.below I.out.2 hb).vals
    have hbw : b < wr.heap.size := Nat.lt_of_lt_of_le hb I.out.2.size
    have HY := hide hy
    have hNw : N < wr.heap.size := XR.out.lt
    clear hc hy
    have he : ((txt y.key).toList == (txt key).toList) = decide (y.key = key) := by rw [txt_list, txt_list]; by_cases h : y.key = key <;> simp [h]
    by_cases hk : y.key = key
    ·rw [decide_eq_true hk] at he
     have HO2 : Hid (o = some y) := by
      show _ = _
      rw [HOO.out]
      have e1 : xs = xs.take i ++ y :: xs.drop (i + 1) := by
       obtain ⟨h1, h2⟩ := List.getElem?_eq_some_iff.1 HY.out
       rw [<- h2, <- List.drop_eq_getElem_cons h1, List.take_append_drop]
      rw [e1, List.find?_append]
      have e2 : (xs.take i).find? (isKey key) = none := by
       rw [List.find?_eq_none]
       intro z hz
       simp [isKey, I.out.1 z hz]
      rw [e2]
      simp [isKey, hk]
     clear hk
     have XA := hide (XR.out.alloc (.cells #[.string (txt y.key), .string (txt y.value), .int .u32 y.flags, .int .i64 y.exp, .int .u64 y.ver] 39))
     have e0 := XR.out.cell (i := 0) rfl
     have e1 := XR.out.cell (i := 1) rfl
     have e2 := XR.out.cell (i := 2) rfl
     have e3 := XR.out.cell (i := 3) rfl
     have e4 := XR.out.cell (i := 4) rfl
     have f0 := XR.out.frozen 0
     have f1 := XR.out.frozen 1
     have f2 := XR.out.frozen 2
     have f3 := XR.out.frozen 3
     have f4 := XR.out.frozen 4
     rw [HNN.out] at e0 e1 e2 e3 e4 f0 f1 f2 f3 f4 hNw
     go_wp2
     have E := box_end HR.out KR.out HNF.out (by rw [HNN.out]; exact Nat.le_refl _) (.string (txt y.key)) (.string (txt y.value)) (.int .u32 y.flags) (.int .i64 y.exp) (.int .u64 y.ver)
     have Q := (five_set XR.out rfl (.string (txt y.key)) (.string (txt y.value)) (.int .u32 y.flags) (.int .i64 y.exp) (.int .u64 y.ver)).alloc (.cells #[.string (txt y.key), .string (txt y.value), .int .u32 y.flags, .int .i64 y.exp, .int .u64 y.ver] 39)
     rw [HNN.out] at E Q
     have q0 := Q.cell (i := 0) rfl
     have q1 := Q.cell (i := 1) rfl
     have q2' := Q.cell (i := 2) rfl
     have q3 := Q.cell (i := 3) rfl
     have q4 := Q.cell (i := 4) rfl
     rw [HO2.out]
     generalize ((((wr.setCell ⟨W.heap.size, 0, none⟩ (.string (txt y.key))).setCell ⟨W.heap.size, 1, none⟩ (.string (txt y.value))).setCell ⟨W.heap.size, 2, none⟩ (.int .u32 y.flags)).setCell ⟨W.heap.size, 3, none⟩ (.int .i64 y.exp)).setCell ⟨W.heap.size, 4, none⟩ (.int .u64 y.ver) = WC at E q0 q1 q2' q3 q4 ⊢
     have E1 := E.1.below ((Below.refl _ _).alloc (Nat.le_refl _) (.cells #[.string (txt y.key), .string (txt y.value), .int .u32 y.flags, .int .i64 y.exp, .int .u64 y.ver] 39))
     have E2 := E.2.alloc (.cells #[.string (txt y.key), .string (txt y.value), .int .u32 y.flags, .int .i64 y.exp, .int .u64 y.ver] 39)
     generalize WC.alloc (.cells #[.string (txt y.key), .string (txt y.value), .int .u32 y.flags, .int .i64 y.exp, .int .u64 y.ver] 39) = WD at E1 E2 q0 q1 q2' q3 q4 ⊢
     exact bodyPost_ret (v := getV (some y)) (by simp [results, Tryz.results112, go_sem, getV, q0, q1, q2', q3, q4]) rfl ⟨_, rfl, E1, hLk.out, E2⟩
    ·rw [decide_eq_false hk] at he
     have HK := hide hk
     clear hk
     go_wp2
     go_roundg (n - (i + 1))
     case measure => omega
     case rel =>
      refine ⟨i + 1, rfl, by omega, by omega, fun z hz => ?_, I.out.2.alloc I.out.2.size _⟩
      rw [List.take_add_one, HY.out] at hz
      simp only [List.mem_append, Option.toList_some, List.mem_singleton] at hz
      rcases hz with hz | rfl
      ·exact I.out.1 z hz
      ·exact HK.out
   ·obtain rfl : i = n := by omega
    have hlt2 : ¬ (i : Int) < (i : Int) := by omega
    have HO2 : Hid (o = none) := by
     show _ = _
     rw [HOO.out, List.find?_eq_none]
     intro z hz
     have := I.out.1 z (by rw [HN2.out, List.take_length]; exact hz)
     simp [isKey, this]
    have e0 := XR.out.cell (i := 0) rfl
    have e1 := XR.out.cell (i := 1) rfl
    have e2 := XR.out.cell (i := 2) rfl
    have e3 := XR.out.cell (i := 3) rfl
    have e4 := XR.out.cell (i := 4) rfl
    have f0 := XR.out.frozen 0
    have f1 := XR.out.frozen 1
    have f2 := XR.out.frozen 2
    have f3 := XR.out.frozen 3
    have f4 := XR.out.frozen 4
    rw [HNN.out] at e0 e1 e2 e3 e4 f0 f1 f2 f3 f4
    go_wp2
    have E := box_end HR.out KR.out HNF.out (by rw [HNN.out]; exact Nat.le_refl _) (.string ⟨#[]⟩) (.string ⟨#[]⟩) (.int .u32 0) (.int .i64 0) (.int .u64 0)
    rw [HNN.out] at E
    rw [HO2.out]
    exact bodyPost_ret (v := getV none) (by simp [results, Tryz.results112, go_sem, getV, e0, e1, e2, e3, e4]) rfl (by first | exact ⟨_, rfl, E.1, hLk.out, E.2⟩ | exact ⟨rfl, _, E.1, hLk.out, E.2⟩)
variable {w0 W W' : World} {d s : Nat} {F F' : List Nat} {S S' : Dv} {L : Int} {first : Nat} {M : SM}
theorem entb34 (args : Array Value) (w : World) : (callFunc 159 args).run Tryz.prog w = .ok (.enter 159 args) w := enters_of Tryz.func159 (by kernel_rfl) rfl args w
structure PJ (W4 : World) (B : Nat) (v0 : Value) (xs : List It) (x : It) (xb : Nat) (listed : Array Bool) (V : Nat -> Value) (w' : World) : Prop where
 keep : Keep v0.ownBlock.toList W4 w'
 u0 : listed.getD 0 false = true -> V 0 = v0
 u1 : listed.getD 1 false = true -> V 1 = .pointer (some ⟨xb, 0, none⟩)
 u2 : listed.getD 2 false = true -> V 2 = .string (txt x.key)
 u4 : listed.getD 4 false = true -> V 4 = .agg #[.string (txt x.key), .string (txt x.value), .int .u32 x.flags, .int .i64 x.exp, .int .u64 x.ver]
 r0 : listed.getD 3 false = false -> Row w' B v0 xs
 r3 : listed.getD 3 false = true -> listed.getD 6 false = false -> Row w' B (V 3) (xs.filter (notKey x.key)) /\ (V 3).ownBlock = v0.ownBlock
 r5 : listed.getD 5 false = true -> listed.getD 6 false = false -> ∃ b, V 5 = .slice (some ⟨b, 0, none⟩) 1 1 /\ Blk w' b (itCells x) 39 /\ W4.heap.size <= b
 r6 : listed.getD 6 false = true -> Row w' B (V 6) (xs.filter (notKey x.key) ++ [x])
 u7 : listed.getD 7 false = true -> V 7 = V 6
 c6 : listed.getD 6 false = true -> listed.getD 3 false = true /\ listed.getD 5 false = true
 c7 : listed.getD 7 false = true -> listed.getD 6 false = true /\ listed.getD 0 false = true
theorem repl_getD (n j : Nat) : (Array.replicate n false).getD j false = false := by
 simp only [Array.getD_eq_getD_getElem?, Array.getElem?_replicate]
 split <;> rfl
theorem PJ.start {W4 : World} {B : Nat} {v0 : Value} {xs : List It} {x : It} {xb n : Nat} (h : Row W4 B v0 xs) : PJ W4 B v0 xs x xb (Array.replicate n false) (fun _ => undef) { W4 with drawn := W4.drawn + 1 } := by
 have no : ∀ {p : Prop} j, (Array.replicate n false).getD j false = true -> p := fun j hj => by rw [repl_getD] at hj; cases hj
 exact ⟨⟨rfl, rfl, rfl, Nat.le_refl _, fun _ _ _ => rfl⟩, no 0, no 1, no 2, no 4, fun _ => h.keep (fun _ _ => rfl), fun h => no 3 h, fun h => no 5 h, no 6, no 7, no 6, no 7⟩
end Go.Proofs.YtcdghalnneilpaaGreat
