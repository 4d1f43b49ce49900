/- Joined texts. -/
import Derived.RangeFuncWrites
import Derived.Test.YtcdghalnneilpaaGreatR46
set_option linter.unusedVariables false
set_option linter.unusedSimpArgs false
set_option maxRecDepth 8000
set_option maxHeartbeats 8000000
namespace Go.Proofs.YtcdghalnneilpaaGreat
open Go.RowKit Go.Deep Math
section
variable {w0 w w' : World} {x d : Nat} {E : En} {j m nj : Nat} {J : Jr} {s first n : Nat} {S S' : Dv} {f : Nat -> List It} {bs : List (List Bool)} {F F' G : List Nat} {M : SM} {l ml : Nat} {v5 v6 v7 : Value} {T : Lg}
theorem bu_turn (h : BuIn w0 w d F S s first n M f bs) (hd : DvAt w' d F' S') {xs : List Nat} (hk : Keep (xs ++ F) w w') (hxs : ∀ y ∈ xs, y ∉ M.foot s /\ w0.heap.size <= y) (hfoot : ∀ k ∈ F', k ∈ F \/ w.heap.size <= k) (hS : Sure S') (hlo : S'.losses = S.losses) (hle : S'.cs.length = S.cs.length) (hit : ∀ k, k < n -> S'.its (first + k) = S.its (first + k)) : BuIn w0 w' d F' S' s first n M f bs := by
 have hbel := h.bk.law.bel
 have hst : StIn w' s d S.losses first M := h.bk.st.same (fun q hq => hk.block q (h.bk.st.lt q hq) (fun hm => by
  rcases List.mem_append.1 hm with h1 | h1
  ·exact (hxs q h1).1 hq
  ·exact h.bk.off q hq h1))
 refine ⟨⟨⟨hd, fun k hkF => ?_, ?_⟩, ?_, h.bk.new, fun q hqM hqF => ?_⟩, hS, h.len, h.n1, h.n2, by rw [hle]; exact h.fit, fun k hkn => ?_, h.bits, h.told⟩
 ·rcases hfoot k hkF with h1 | h1
  ·exact h.bk.law.low k h1
  ·exact Nat.le_trans hbel.size h1
 ·exact hbel.trans (hk.below (fun k hkx => by
   rcases List.mem_append.1 hkx with h1 | h1
   ·exact (hxs k h1).2
   ·exact h.bk.law.low k h1) hbel.size)
 ·rw [hlo]; exact hst
 ·rcases hfoot q hqF with h1 | h1
  ·exact h.bk.off q hqM h1
  ·have := h.bk.st.lt q hqM; omega
 ·rw [hit k hkn]; exact h.its k hkn
theorem add_calm (hS : Sure S) (q : Nat) (hq : q < S.cs.length) (pg : ByteArray) (hp : pg.size <= 384) :
  addEr S q pg = 0 /\ (addDv S q pg).cs = (putAt S.cs q (.whole pg)).map Cl.flush /\ Sure (addDv S q pg) /\ (addDv S q pg).losses = S.losses /\ ∀ (J : Jr) (xs : List Mk), addJr J S q pg xs = ({ J with used := J.used + 1 } : Jr).keeps xs := by
 obtain ⟨e1, e2⟩ := sure_write hS q hq pg hp
 have hS2 : Sure (S.writeDo (q : Int) pg) := by rw [e2]; exact ⟨hS.off, hS.armed⟩
 obtain ⟨f1, f2, f3, f4⟩ := flush_calm hS2.calm
 have n1 : ¬ S.writeErr (q : Int) pg ≠ 0 := by simp [e1]
 have n2 : ¬ (S.writeDo (q : Int) pg).flushErr ≠ 0 := by simp [f1]
 have eD : addDv S q pg = (S.writeDo (q : Int) pg).flushDo := by unfold addDv; rw [if_neg n1]
 refine ⟨by unfold addEr; rw [if_neg n1, f1], ?_, ?_, ?_, fun J xs => by unfold addJr; rw [if_neg n1, if_neg n2]⟩
 ·rw [eD, f2, e2]
 ·rw [eD]; exact ⟨f3.off, f3.armed⟩
 ·rw [eD, f4, e2]
theorem add_en (h : EnAt w0 w x d E j m nj J s first n S f bs G l ml v5 v6 v7 T) (jf jp u : Nat) (ho : J.ok S jf jp u) (hu : u < jp) (hfp : jf + jp <= first) (hgen : J.gen < 18446744073709551616) (a : Option Addr) (len cap : Nat) (xs : List Mk) (h1 : 1 <= len) (h23 : len <= 23) (hl : S.losses = J.losses) (hn : nj < 900000) (hx : MksAt w a len xs) (hoff : ∀ b o, a = some ⟨b, o, none⟩ -> b ∉ G /\ b ≠ j /\ b ≠ m) (hpg : (pgOf J.gen xs).size <= 384) :
  Calls Tryz.prog 57 #[.pointer (some ⟨j, 0, none⟩), .slice a len cap] w fun e w' => e = .returned (.int .i64 0) /\ ∃ S' G' n', EnAt w0 w' x d E j m n' (({ J with used := J.used + 1 } : Jr).keeps xs) s first n S' f bs G' l ml v5 v6 v7 T /\ n' <= nj + len /\ S'.cs = (putAt S.cs (jf + u) (.whole (pgOf J.gen xs))).map Cl.flush /\ S'.losses = S.losses /\ Keep (j :: m :: G) w w' /\ ∀ k ∈ G', k ∈ G \/ w.heap.size <= k := by
 obtain ⟨F, M, hu0, hG⟩ := h.bu
 have inF : ∀ q, q ∈ F -> q ∈ G := fun q hF => by rw [hG]; exact List.mem_append.2 (.inl hF)
 have inM : ∀ q, q ∈ M.foot s -> q ∈ G := fun q hM => by rw [hG]; exact List.mem_append.2 (.inr hM)
 have hfit := ho.fits
 obtain ⟨t1, t2, t3, t4, t5⟩ := add_calm hu0.sure (jf + u) (by omega) (pgOf J.gen xs) hpg
 refine (add_go j d m nj F J S jf jp u ho hu hgen a len cap xs h1 h23 hl hn w ⟨hx, fun b o e => ⟨fun hF => (hoff b o e).1 (inF b hF), (hoff b o e).2⟩⟩ ⟨h.jr, hu0.bk.law.dev, fun hF => h.jG (inF j hF), fun hF => h.mG (inF m hF)⟩).mono ?_
 rintro e w' ⟨rfl, F', n', hJ, hk, hfo, hn'⟩
 rw [t5] at hJ
 have hfG : ∀ k ∈ F' ++ M.foot s, k ∈ G \/ w.heap.size <= k := fun k hk2 => by
  rcases List.mem_append.1 hk2 with h1 | h1
  ·rcases hfo k h1 with h3 | h3
   ·exact .inl (inF k h3)
   ·exact .inr h3
  ·exact .inl (inM k h1)
 have far : ∀ q, q < w.heap.size -> q ∉ G -> q ∉ F' ++ M.foot s := fun q hq hg hg' => by
  rcases hfG q hg' with h1 | h1
  ·exact hg h1
  ·omega
 have hu' := bu_turn hu0 hJ.dev (xs := [j, m]) hk (fun y hy => by
  simp only [List.mem_cons, List.not_mem_nil, or_false] at hy
  rcases hy with rfl | rfl
  ·exact ⟨fun hM => h.jG (inM _ hM), h.low _ (.inr (.inl rfl))⟩
  ·exact ⟨fun hM => h.mG (inM _ hM), h.low _ (.inr (.inr (.inl rfl)))⟩) hfo t3 t4 (by rw [t2, List.length_map, putAt_length]) (fun k hkn => by
   have q : ∀ A : Dv, A.its (first + k) = (((A.cs[first + k]?).map (·.now)).map Pg.its).getD [] := fun A => by
    unfold Dv.its
    cases A.cs[first + k]? <;> rfl
   rw [q, q, t2, flush_get, putAt_get, if_neg (by omega)])
 have nin : ∀ q, q ≠ j -> q ≠ m -> q ∉ G -> q ∉ j :: m :: F := fun q h1 h2 h3 h4 => by
  simp only [List.mem_cons] at h4
  rcases h4 with h4 | h4 | h4
  ·exact h1 h4
  ·exact h2 h4
  ·exact h3 (inF q h4)
 refine ⟨by rw [t1], _, F' ++ M.foot s, n', ⟨h.box.same (hk.block _ h.box.lt (nin x h.xj h.xm h.xG)), hJ.jr, ⟨F', M, hu', rfl⟩, h.lg.same (fun q hq => hk.block q (h.lg.lt q hq) (nin q (fun e => h.jL (e ▸ hq)) (fun e => h.mL (e ▸ hq)) (h.lG q hq))), far x h.box.lt h.xG, far j h.jr.blk.lt h.jG, far m h.jr.mlt h.mG, fun q hq => far q (h.lg.lt q hq) (h.lG q hq), h.low, h.xL, h.jL, h.mL, h.xm⟩, hn', t2, t4, hk.mono (fun y hy => .inl ?_), hfG⟩
 simp only [List.mem_cons] at hy ⊢
 rcases hy with h1 | h1 | h1
 ·exact .inl h1
 ·exact .inr (.inl h1)
 ·exact .inr (.inr (inF y h1))
theorem MRow.at_ {base : Nat} {va : Option Addr} {vn vc : Nat} {ms : List Mk} (h : MRow w base (.slice va vn vc) ms) (hf : ∀ y ∈ ms, Mk.fits y) (hne : ms ≠ []) : ∃ g, va = some ⟨g, 0, none⟩ /\ base <= g /\ ∀ i k, i + k <= ms.length -> MksAt w (some ⟨g, i * 2, none⟩) k ((ms.drop i).take k) := by
 rcases h.2 with ⟨_, h0⟩ | ⟨g, cap, cur, hv, hb, hh, hc, hm, hs, ht⟩
 ·exact absurd (List.length_eq_zero_iff.1 h0) hne
 ·cases hv
  have hgl : g < w.heap.size := (Array.getElem?_eq_some_iff.1 hh).1
  have hcell : ∀ i y, ms[i]? = some y -> OneMk w g (i * 2) y := fun i y hy => by
   have hi := (List.getElem?_eq_some_iff.1 hy).1
   have hli : (ms.take i).length = i := by rw [List.length_take]; omega
   have hsp : ms = ms.take i ++ y :: ms.drop (i + 1) := by
    have h1 := List.take_append_drop i ms
    rw [List.drop_eq_getElem_cons hi, (List.getElem?_eq_some_iff.1 hy).2] at h1
    exact h1.symm
   have e : ∀ r v, r < 2 -> [Value.int .u64 (y.1 : Int), .int .u64 (y.2 : Int)][r]? = some v -> w.cell? ⟨g, i * 2 + r, none⟩ = some v := fun r v hr hv => by
    have e1 : (mkCs ms)[i * 2 + r]? = some v := by
     rw [<- hv]
     have := flat_get (fun z : Mk => [Value.int .u64 (z.1 : Int), .int .u64 (z.2 : Int)]) 2 (fun _ => rfl) (ms.take i) y (ms.drop (i + 1)) r hr
     rw [hli, <- hsp] at this
     exact this
    have e2 : cur.toList[i * 2 + r]? = some v := by
     have h1 : (cur.toList.take (ms.length * 2))[i * 2 + r]? = some v := by rw [ht]; exact e1
     rw [List.getElem?_take] at h1
     split at h1
     ·exact h1
     ·cases h1
    simp [World.cell?, hh, <- Array.getElem?_toList, e2]
   exact ⟨e 0 _ (by decide) rfl, e 1 _ (by decide) rfl⟩
  refine ⟨g, rfl, hb, fun i k hik => ⟨by rw [List.length_take, List.length_drop]; omega, fun y hy => hf y (List.mem_of_mem_drop (List.mem_of_mem_take hy)), fun r y hy => ⟨g, i * 2, rfl, hgl, ?_⟩⟩⟩
  have hr : r < k := by
   have := (List.getElem?_eq_some_iff.1 hy).1
   rw [List.length_take] at this
   omega
  rw [List.getElem?_take, if_pos hr, List.getElem?_drop] at hy
  have := hcell (i + r) y hy
  rw [show i * 2 + r * 2 = (i + r) * 2 by omega]
  exact this
end
section
variable {w0 w w' : World} {x d : Nat} {E : En} {j m nj : Nat} {J : Jr} {s first n : Nat} {S S' : Dv} {f : Nat -> List It} {bs : List (List Bool)} {F F' G : List Nat} {M : SM} {l ml : Nat} {v5 v6 v7 : Value} {T : Lg}
theorem EnAt.small (h : EnAt w0 w x d E j m nj J s first n S f bs G l ml v5 v6 v7 T) : m ≠ ml /\ w0.heap.size <= ml := ⟨fun e => h.mL (e ▸ ml_mem), h.low ml (.inr (.inr (.inr ml_mem)))⟩
theorem eput_sm (h : EnAt w0 w x d E j m nj J s first n S f bs G l ml v5 v6 v7 T) (y : It) (hyf : y.fits) (hyg : y.good = true) (hys : y.size <= 120) :
  Calls Tryz.prog 13 #[.pointer (some ⟨x, 0, none⟩), .agg #[.string (txt y.key), .string (txt y.value), .int .u32 y.flags, .int .i64 y.exp, .int .u64 y.ver]] w fun e w' => e = .returned (.int .i64 0) /\ ∃ S' bs' G', EnAt w0 w' x d E j m nj J s first n S' (putF n f y) bs' G' l ml v5 v6 v7 (T.drop y.key) /\ (∀ lb, bs[bkt y.key n]? = some lb -> bs' = bs.set (bkt y.key n) (keyB lb y)) /\ S'.losses = S.losses /\ Dv.far first n S S' /\ EnMv G (lblocks l ml v5 v6 v7 T) G' (lblocks l ml v5 v6 v7 (T.drop y.key)) w w' := by
 have gs := good_sizes hyg
 refine (eput_small h y hyf hyg hys h.small.1 h.small.2 (by omega) (by omega)).mono ?_
 rintro e w' ⟨rfl, W, hW, S', bs', G', hE, hb, hl, hf, hk, hn⟩
 refine ⟨rfl, S', bs', G', hE, hb, hl, hf, (EnMv.below hW).trans ⟨hk.mono (fun q hq => .inl ?_), fun q hq => ?_⟩⟩
 ·rcases List.mem_cons.1 hq with rfl | h1
  ·exact List.mem_append.2 (.inl ml_mem)
  ·exact List.mem_append.2 (.inr h1)
 ·rcases hq with hq | hq
  ·rcases hn q hq with h1 | h1
   ·exact .inl (.inl h1)
   ·exact .inr h1
  ·exact .inl (.inr hq)
end
end Go.Proofs.YtcdghalnneilpaaGreat
namespace Go.Proofs.YtcdghalnneilpaaGreat
open Go.RowKit Go.Shelf Go.Deep Math
attribute [local go_sem] Oper.semAt_some
def chN (len : Nat) : Nat := (len + 22) / 23
def chV (g len k : Nat) : Value := .slice (some ⟨g, k * 46, none⟩) (min 23 (len - 23 * k)) (min 23 (len - 23 * k))
def KpC (sb nb : Nat) (W W' : World) : Prop := W'.cell? ⟨sb, 0, none⟩ = W.cell? ⟨sb, 0, none⟩ /\ W'.cell? ⟨nb, 0, none⟩ = W.cell? ⟨nb, 0, none⟩
theorem KpC.t {sb nb : Nat} {A B C : World} (h : KpC sb nb A B) (k : KpC sb nb B C) : KpC sb nb A C := ⟨k.1.trans h.1, k.2.trans h.2⟩
def uptoF (t k : Nat) : List (Fin t) := (List.range k).filterMap (fun i => if h : i < t then some ⟨i, h⟩ else none)
theorem uptoF_succ {t k : Nat} (h : k < t) : uptoF t (k + 1) = uptoF t k ++ [⟨k, h⟩] := by
 unfold uptoF
 rw [List.range_succ, List.filterMap_append]
 simp [h]
theorem uptoF_length {t : Nat} : ∀ {k : Nat}, k <= t -> (uptoF t k).length = k
 | 0, _ => rfl
 | k + 1, h => by
  rw [uptoF_succ (show k < t by omega), List.length_append, uptoF_length (k := k) (by omega)]
  rfl
set_option maxRecDepth 100000 in
theorem chunk_in (m : Nat) (hm : 1 <= m) (l sb nb g len cap t : Nat) (a : Option Addr) (ha : 0 < len -> a = some ⟨g, 0, none⟩) (ht : t = chN len) (hlen : len <= 40000) (hcap : 0 < len -> len <= cap) (J Jx : List (Fin t) -> World -> Prop)
  (hJd : ∀ pre W, J pre W -> J pre W.drew)
  (hY : ∀ pre x W, J pre W -> pre.length < t -> YieldAt Fence.wide (m - 1) Tryz.prog l #[chV g len (x : Fin t).val] W fun e W' =>
   (e = .returned (.bool true) /\ J (pre ++ [x]) W' /\ KpC sb nb W W') \/ (e = .returned (.bool false) /\ Jx (pre ++ [x]) W'))
  (W : World) (hsb : W.cell? ⟨sb, 0, none⟩ = some (.slice a len cap)) (hnb : W.cell? ⟨nb, 0, none⟩ = some (.int .i64 23)) (h0 : J [] W) :
  CallsIn Fence.wide m Tryz.prog 115 #[.func (.yield l) #[] #[], .pointer (some ⟨sb, 0, none⟩), .pointer (some ⟨nb, 0, none⟩)] W fun e W' => (∃ v, e = .returned v) /\
   ((∃ ys, ys = uptoF t t /\ J ys W') \/ (∃ pre, (∃ k, k <= t /\ pre = uptoF t k) /\ Jx pre W')) := by
 have hmx : Tryz.prog.follows .mixedOrders = true := by kernel_rfl
 refine callsIn_of_wp Tryz.func115 rfl trivial ?_ rfl
 simp only [Tryz.ntmps115, List.size_toArray, List.length_cons, List.length_nil, Nat.reduceAdd, Nat.reduceSub, Array.replicate_succ, Array.replicate_zero, List.push_toArray, List.append_toArray, List.nil_append, List.cons_append]
 gi_wp2
 gi_loopw [4] (fun i wr => ∃ k : Nat, k <= t /\ i = .int .i64 ((23 * k : Nat) : Int) /\ Hid (J (uptoF t k) wr) /\ Hid (KpC sb nb W wr))
   (fun i _ => 23 * t - (intOf i).toNat)
 case atStart => exact ⟨0, Nat.zero_le _, rfl, h0, rfl, rfl⟩
 case round =>
  obtain ⟨k, hk, rfl, hJs, hK⟩ := hrel
  have hsb' := hK.out.1.trans hsb
  have hnb' := hK.out.2.trans hnb
  by_cases hlt : k < t
  ·obtain ⟨i0, hi0⟩ : ∃ i0, i0 = 23 * k := ⟨_, rfl⟩
   have hlt2 : ((i0 : Nat) : Int) < (len : Int) := by unfold chN at ht; omega
   have hlt3 : i0 < len := by omega
   have hcap := hcap (by omega)
   obtain rfl := ha (by omega)
   have hlt4 : i0 <= len := by omega
   have hlt5 : i0 < cap := by omega
   obtain ⟨e0, he0⟩ : ∃ e0, e0 = min 23 (len - i0) := ⟨_, rfl⟩
   have HE0 : Hid (e0 = min 23 (len - i0)) := he0
   have he1 : min (23 : Int) ((len - i0 : Nat) : Int) = (e0 : Int) := by omega
   have he2 : i0 + e0 <= len := by omega
   have he3 : 0 < e0 := by omega
   have hi1 : i0 <= 40000 := by omega
   have hV : chV g len k = .slice (some ⟨g, i0 * 2, none⟩) e0 e0 := by
    unfold chV
    rw [<- hi0, <- he0, show k * 46 = i0 * 2 by omega]
   have hc1 : ¬ cap = i0 := by omega
   have hc2 : ¬ i0 + e0 = i0 := by omega
   have hc3 : i0 + e0 - i0 = e0 := by omega
   have hc4 : i0 + e0 <= cap := by omega
   have hY0 := hY _ ⟨k, hlt⟩ wr.drew (hJd _ _ hJs.out) (by rw [uptoF_length hk]; exact hlt)
   simp only [hV] at hY0
   obtain ⟨fn, tmps, assign, body, hy, hR⟩ := hY0
   rw [<- hi0]
   have HI0 := hide hi0
   clear hi0 he0 hV
   gi_wp2
   gi_region_with_o fail
   all_goals simp only [Act.put, List.setIfInBounds_toArray, List.set_cons_succ, List.set_cons_zero, List.getElem_toArray, List.getElem_cons_succ, List.getElem_cons_zero]
   all_goals gi_wp2
   all_goals
    refine hR.mono ?_
    rintro e W3 (⟨rfl, hJ3, hk3⟩ | ⟨rfl, hJx3⟩)
    ·have J3 := hide hJ3
     have hK3 : KpC sb nb W W3 := hK.out.t hk3
     have K3 := hide hK3
     have hnb3 := hK3.2.trans hnb
     clear hJ3 hk3 hK3
     gi_wp2
     go_roundw
     case rel => exact ⟨k + 1, by omega, by rw [HI0.out]; simp only [Value.int.injEq, true_and]; omega, by rw [uptoF_succ hlt]; exact J3.out, K3.out⟩
     case measure => simp [intOf]; have := HI0.out; omega
    ·gi_wp2
     refine bodyPost_ret (results_none rfl _ _ _) rfl ?_
     exact ⟨⟨_, rfl⟩, .inr ⟨_, ⟨k + 1, by omega, (uptoF_succ hlt).symm⟩, hJx3⟩⟩
  ·obtain rfl : k = t := by omega
   have hge : ¬ ((23 * k : Nat) : Int) < (len : Int) := by unfold chN at ht; omega
   have hge2 : ¬ 23 * (k : Int) < (len : Int) := by unfold chN at ht; omega
   clear ht
   gi_wp2
   go_end0
   exact ⟨⟨_, rfl⟩, .inl hJs.out⟩
theorem chunk_any (a : Option Addr) (n c : Nat) (w : World) :
  Calls Tryz.prog 55 #[.slice a n c, .int .i64 23] w fun e w' => e = .returned (.func (.func 115) #[] #[.pointer (some ⟨w.heap.size, 0, none⟩), .pointer (some ⟨w.heap.size + 1, 0, none⟩)]) /\
   w' = (w.alloc (.cells #[.slice a n c] 113)).alloc (.cells #[.int .i64 23] 3) := by
 have hb : ((w.alloc (.cells #[.slice a n c] 113)).alloc (.cells #[.int .i64 23] 3)).cell? ⟨w.heap.size + 1, 0, none⟩ = some (.int .i64 23) := by
  have := (Blk.new (w.alloc (.cells #[.slice a n c] 113)) [.int .i64 23] 3).cell (i := 0) rfl
  rw [nblk_alloc] at this
  exact this
 go_enter Tryz.func55, Tryz.ntmps55
 go_wp2
 go_ret
 exact ⟨rfl, rfl⟩
end Go.Proofs.YtcdghalnneilpaaGreat
namespace Go.Proofs.YtcdghalnneilpaaGreat
open Go Go.RowKit
variable {F : Fence} {n : Nat} {P : Program}
def OwnBut {β : Type} (L : Nat) (I : β -> World -> Prop) : Prop :=
 ∀ s W W' row, I s W -> W.grownBy W' row -> (∀ r, row = some r -> r = L /\ ∃ o : Obj, W.heap[r]? = some o /\ o.isCells = false) -> I s W'
theorem OwnBut.put {β : Type} {L : Nat} {I : β -> World -> Prop} (h : OwnBut L I) {s : β} {W : World} {o0 : Obj} (o : Obj) (hs : I s W) (hl : W.heap[L]? = some o0) (hc : o0.isCells = false) : I s (W.putObj L o) :=
 h s W _ (some L) hs (grownBy_putObj' W L o) (fun r e => by cases e; exact ⟨rfl, o0, hl, hc⟩)
theorem OwnBut.drew {β : Type} {L : Nat} {I : β -> World -> Prop} (h : OwnBut L I) {s : β} {W : World} (hs : I s W) : I s W.drew :=
 h s W _ none hs ⟨rfl, rfl, rfl, Nat.le_refl _, fun _ _ _ => rfl⟩ (fun r e => by cases e)
def SeqNear {α : Type} (F : Fence) (n : Nat) (P : Program) (g : Nat) (lb : Array Value) (encs : α -> Array Value) (Kp : World -> World -> Prop) (S Sp : List α -> Prop) (N : Nat) (w : World) : Prop :=
 ∀ (l : Nat) (J Jx : List α -> World -> Prop) (W : World), Below w.heap.size w W -> (∀ pre V, J pre V -> J pre V.drew) ->
  (∀ pre x V, J pre V -> pre.length < N -> YieldAt F (n - 1) P l (encs x) V fun e V' => (e = .returned (.bool true) /\ J (pre ++ [x]) V' /\ Kp V V') \/ (e = .returned (.bool false) /\ Jx (pre ++ [x]) V')) ->
  J [] W -> CallsIn F n P g (#[.func (.yield l) #[] #[]] ++ lb) W fun e W' => (∃ v, e = .returned v) /\ ((∃ xs, S xs /\ J xs W') \/ (∃ pre, Sp pre /\ Jx pre W'))
def butPost {α : Type} (D : Nat) (Kp : World -> World -> Prop) (I Ix : List α -> World -> Prop) (xs : List α) (W : World) : Exit -> Act -> World -> Prop
 | .normal, _, W' => W'.heap[D]? = W.heap[D]? /\ W'.heap[D + 1]? = W.heap[D + 1]? /\ Kp W W' /\ I xs W'
 | .ret, _, W' => W'.heap[D]? = W.heap[D]? /\ W'.heap[D + 1]? = W.heap[D + 1]? /\ Ix xs W'
 | _, _, _ => False
theorem range_but {α : Type} {g : Operand} {ps : Array Tmp} {assign body : Code} {Q : Exit -> Act -> World -> Prop} {a : Act} {w : World}
  (hro : F.round = none) (h1 : 1 <= n) {gf : Nat} {lb : Array Value} (hg : a.eval g = .func (.func gf) #[] lb) (hFg : F.fn gf) (eg : ∀ args w, (callFunc gf args).run P w = .ok (.enter gf args) w)
  {encs : α -> Array Value} {Kp : World -> World -> Prop} {S Sp : List α -> Prop} {N : Nat} {w0 : World} (hseq : SeqNear F (n - 1) P gf lb encs Kp S Sp N w0)
  (hKt : ∀ {A B C : World}, Kp A B -> Kp B C -> Kp A C) (hKb : ∀ (W : World) (o' : Obj), Kp W (W.putObj (w.heap.size + 1) o')) (hb0 : Below w0.heap.size w0 w) (hps : ∀ x, (encs x).size = ps.size)
  (I Ix : List α -> World -> Prop) (hI : OwnBut (w.heap.size + 1) I) (hIx : OwnBut (w.heap.size + 1) Ix) (h0 : ∀ o, I [] ((w.alloc (.deferred (some []))).alloc o)) (a₁ : α -> Act)
  (hassign : ∀ (l : Nat) (x : α) (W : World) (K : Act -> World -> Prop), K (a₁ x) W ->
   assign.wpIn (F.inRound l) (n - 1 - 1) P (Exit.then K (fun _ _ _ => False)) { tmps := (ps.zip (encs x)).foldl (fun t (p, v) => t.setIfInBounds p v) a.tmps, defers := [] } W)
  (hbody : ∀ (l : Nat) (pre : List α) (x : α) (W : World), I pre W -> pre.length < N -> (∃ o : Obj, W.heap[w.heap.size]? = some o /\ o.isCells = false) -> (∃ o : Obj, W.heap[w.heap.size + 1]? = some o /\ o.isCells = false) -> body.wpIn (F.inRound l) (n - 1 - 1) P (butPost w.heap.size Kp I Ix (pre ++ [x]) W) (a₁ x) W)
  (hdone : ∀ (xs : List α) (W : World), S xs -> I xs W -> W.heap[w.heap.size]? = some (.deferred (some [])) -> Q .normal { a with defers := { target := .collected w.heap.size, args := #[] } :: a.defers } W)
  (hstop : ∀ (pre : List α) (W : World), Sp pre -> Ix pre W -> W.heap[w.heap.size]? = some (.deferred (some [])) -> Code.ret.wpIn F n P Q { a with defers := { target := .collected w.heap.size, args := #[] } :: a.defers } W) :
  (Code.rangeFunc g ps assign body).wpIn F n P Q a w := by
 refine wpIn_rangeFunc fun fn hfn => ?_
 rw [hro]
 obtain ⟨D, hD⟩ : ∃ D, D = w.heap.size := ⟨_, rfl⟩
 obtain ⟨rc, hrc⟩ : ∃ rc : LoopState -> Option Code -> Loop, rc = fun st pe => { state := st, pending := pe, fn, tmps := a.tmps, params := ps, assign, body, defers := w.heap.size } := ⟨_, rfl⟩
 obtain ⟨V, hV⟩ : ∃ V, V = (w.alloc (.deferred (some []))).alloc (.loop (rc .ready none)) := ⟨_, rfl⟩
 have vL : V.heap[w.heap.size + 1]? = some (.loop (rc .ready none)) := by
  have := World.alloc_heap_new (w.alloc (.deferred (some []))) (.loop (rc .ready none))
  rw [World.size_alloc, <- hV] at this
  exact this
 have vD : V.heap[w.heap.size]? = some (.deferred (some [])) := by
  rw [hV]; exact (Below.heap_alloc _ _ _ (by simp)).trans (World.alloc_heap_new w _)
 have vS : V.heap.size = w.heap.size + 2 := by rw [hV]; simp
 have vI : I [] V := by rw [hV]; exact h0 _
 have vB : Below w0.heap.size w0 V := by
  rw [hV]; exact hb0.trans ((((Below.refl _ w).alloc (Nat.le_refl _) _).alloc (by simp) _).mono hb0.size)
 refine ⟨w.heap.size + 1, [{ target := .collected w.heap.size, args := #[] }], V, { target := .fn (.func gf) lb, args := #[.func (.yield (w.heap.size + 1)) #[] #[]] }, V, gf, #[.func (.yield (w.heap.size + 1)) #[] #[]] ++ lb, V, ?_, ?_, ?_, ?_, fun _ => h1, ?_⟩
 ·rw [hV, hrc]; exact run_enterLoop_outer _ _ _ _ _
 ·simp only [resolve, hg]
  simp [go_sem]
 ·intro f' hf'; simp [Target.leads] at hf'; subst hf'; exact hFg
 ·simp [invoke, go_sem, eg]
 have bel : w.heap.size + 1 < V.heap.size := by omega
 refine (hseq (w.heap.size + 1)
  (fun pre W => I pre W /\ W.heap[w.heap.size + 1]? = some (.loop (rc .ready none)) /\ W.heap[w.heap.size]? = some (.deferred (some [])))
  (fun pre W => Ix pre W /\ W.heap[w.heap.size + 1]? = some (.loop (rc .done (some .ret))) /\ W.heap[w.heap.size]? = some (.deferred (some [])))
  V vB
  (fun s A hs => ⟨hI.drew hs.1, hs.2.1, hs.2.2⟩)
  ?_ ⟨vI, vL, vD⟩).mono ?_
 ·rintro pre x W ⟨hi, hl, hk⟩ hlen
  have hlt : w.heap.size + 1 < W.heap.size := (Array.getElem?_eq_some_iff.1 hl).1
  have hy := run_yield (P := P) (args := encs x) hl (by rw [hrc]; exact hps x)
  rw [hrc] at hy
  refine ⟨fn, _, assign, body, hy, roundIn_of_wpIn hfn (hassign _ x W _ ⟨_, run_beginRound hl (by rw [hrc]), ?_⟩)⟩
  obtain ⟨U, hU⟩ : ∃ U, U = W.putObj (w.heap.size + 1) (.loop { rc .ready none with state := .busy }) := ⟨_, rfl⟩
  have uL : U.heap[w.heap.size + 1]? = some (.loop { rc .ready none with state := .busy }) := by rw [hU]; exact World.putObj_heap_same hlt
  have uD : U.heap[w.heap.size]? = some (.deferred (some [])) := by rw [hU]; exact (World.putObj_heap_other (by omega)).trans hk
  have uK : Kp W U := by rw [hU]; exact hKb _ _
  have uI : I pre U := by rw [hU]; exact hI.put _ hi hl rfl
  rw [<- hU]
  refine wpIn_mono (hbody _ pre x U uI hlen ⟨_, uD, rfl⟩ ⟨_, uL, rfl⟩) ?_
  intro e a3 W3 hp
  cases e with
  | normal =>
   obtain ⟨k1, k2, hkp, hi3⟩ := hp
   have l3 := k2.trans uL
   have hr := run_endRound (P := P) none l3
   have hlt3 := (Array.getElem?_eq_some_iff.1 l3).1
   refine ⟨_, _, hr, .inl ⟨rfl, ⟨hI.put _ hi3 l3 rfl, ?_, (World.putObj_heap_other (by omega)).trans (k1.trans uD)⟩, hKt (hKt uK hkp) (hKb _ _)⟩⟩
   rw [World.putObj_heap_same hlt3, hrc]; rfl
  | ret =>
   obtain ⟨k1, k2, hi3⟩ := hp
   have l3 := k2.trans uL
   have hr := run_endRound (P := P) (some .ret) l3
   have hlt3 := (Array.getElem?_eq_some_iff.1 l3).1
   refine ⟨_, _, hr, .inr ⟨rfl, hIx.put _ hi3 l3 rfl, ?_, (World.putObj_heap_other (by omega)).trans (k1.trans uD)⟩⟩
   rw [World.putObj_heap_same hlt3, hrc]; rfl
  | exit id => exact hp.elim
  | goto t => exact hp.elim
  | panic ch => exact hp.elim
  | outgrown => exact hp.elim
 ·rintro e W2 ⟨⟨v, rfl⟩, (⟨xs, hS, hi, hl, hk⟩ | ⟨pre, hSp, hi, hl, hk⟩)⟩
  ·exact ⟨none, _, by have := run_endLoop (P := P) hl (by rw [hrc]; simp); rw [hrc] at this; exact this, hdone xs _ hS (hI.put _ hi hl rfl) ((World.putObj_heap_other (by omega)).trans hk)⟩
  ·exact ⟨some .ret, _, by have := run_endLoop (P := P) hl (by rw [hrc]; simp); rw [hrc] at this; exact this, hstop pre _ hSp (hIx.put _ hi hl rfl) ((World.putObj_heap_other (by omega)).trans hk)⟩
end Go.Proofs.YtcdghalnneilpaaGreat
