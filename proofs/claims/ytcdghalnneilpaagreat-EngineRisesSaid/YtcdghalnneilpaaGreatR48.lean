/- Joined texts. -/
import Derived.Test.YtcdghalnneilpaaGreatR47
set_option linter.unusedVariables false
set_option linter.unusedSimpArgs false
set_option maxRecDepth 8000
set_option maxHeartbeats 8000000
namespace Go.Proofs.YtcdghalnneilpaaGreat
open Go.RowKit Go.Shelf Go.Deep Math
def ckM (ms : List Mk) (k : Nat) : List Mk := (ms.drop (23 * k)).take 23
theorem ckM_len (ms : List Mk) (k : Nat) : (ckM ms k).length = min 23 (ms.length - 23 * k) := by unfold ckM; simp
def csL (cs : List Cl) (q g : Nat) (L : List (List Mk)) : List Cl := (L.foldl (fun (p : List Cl × Nat) xs => ((putAt p.1 p.2 (.whole (pgOf g xs))).map Cl.flush, p.2 + 1)) (cs, q)).1
theorem csL_at (g : Nat) : ∀ (L : List (List Mk)) (cs : List Cl) (q : Nat), (L.foldl (fun (p : List Cl × Nat) xs => ((putAt p.1 p.2 (.whole (pgOf g xs))).map Cl.flush, p.2 + 1)) (cs, q)).2 = q + L.length
 | [], _, _ => rfl
 | _ :: L, _, _ => by rw [List.foldl_cons, csL_at g L, List.length_cons]; omega
theorem csL_snoc (cs : List Cl) (q g : Nat) (L : List (List Mk)) (xs : List Mk) : csL cs q g (L ++ [xs]) = (putAt (csL cs q g L) (q + L.length) (.whole (pgOf g xs))).map Cl.flush := by
 have := csL_at g L cs q
 unfold csL
 rw [List.foldl_append, List.foldl_cons, List.foldl_nil, this]
theorem csL_length (g : Nat) : ∀ (L : List (List Mk)) (cs : List Cl) (q : Nat), (csL cs q g L).length = cs.length
 | [], _, _ => rfl
 | xs :: L, cs, q => by
  have := csL_length g L ((putAt cs q (.whole (pgOf g xs))).map Cl.flush) (q + 1)
  unfold csL at this ⊢
  rw [List.foldl_cons, this, List.length_map, putAt_length]
def Jr.addL (J : Jr) (L : List (List Mk)) : Jr := { J.keeps L.flatten with used := J.used + (L.length : Int) }
theorem addL_nil (J : Jr) : J.addL [] = J := by
 unfold Jr.addL
 simp [Jr.keeps_nil]
theorem addL_snoc (J : Jr) (L : List (List Mk)) (xs : List Mk) : ({ J.addL L with used := (J.addL L).used + 1 } : Jr).keeps xs = J.addL (L ++ [xs]) := by
 have s := keeps_same xs ({ J.addL L with used := (J.addL L).used + 1 } : Jr)
 have s2 := keeps_same L.flatten J
 have s3 := keeps_same (L ++ [xs]).flatten J
 apply Jr.ext'
 ·rw [s.1]; exact s2.1.trans s3.1.symm
 ·rw [s.2.1]; exact s2.2.1.trans s3.2.1.symm
 ·rw [s.2.2.1]; exact s2.2.2.1.trans s3.2.2.1.symm
 ·rw [s.2.2.2.1]
  show J.used + (L.length : Int) + 1 = J.used + ((L ++ [xs]).length : Int)
  rw [List.length_append, List.length_singleton]; omega
 ·rw [s.2.2.2.2]; exact s2.2.2.2.2.trans s3.2.2.2.2.symm
 ·rw [keeps_M]
  show kM (J.keeps L.flatten).M xs = (J.keeps (L ++ [xs]).flatten).M
  rw [keeps_M, keeps_M, List.flatten_append]
  simp [kM, List.foldl_append]
theorem addL_gen (J : Jr) (L : List (List Mk)) : (J.addL L).gen = J.gen := (keeps_same L.flatten J).2.2.2.2
theorem addL_losses (J : Jr) (L : List (List Mk)) : (J.addL L).losses = J.losses := (keeps_same L.flatten J).1
theorem addL_ok {J : Jr} {S S' : Dv} {jf jp u : Nat} (h : J.ok S jf jp u) (L : List (List Mk)) (hk : u + L.length <= jp) (hc : S'.cs.length = S.cs.length) : (J.addL L).ok S' jf jp (u + L.length) := by
 have s2 := keeps_same L.flatten J
 refine ⟨s2.2.1.trans h.first, s2.2.2.1.trans h.pages, ?_, hk, by rw [hc]; exact h.fits⟩
 show J.used + (L.length : Int) = ((u + L.length : Nat) : Int)
 rw [h.used]; omega
def ckAll (ms : List Mk) : List (List Mk) := (List.range (chN ms.length)).map (ckM ms)
theorem uptoF_rows {t : Nat} (r : Nat -> List Mk) : ∀ k, k <= t -> (uptoF t k).map (fun i => r i.val) = (List.range k).map r
 | 0, _ => rfl
 | k + 1, h => by rw [uptoF_succ (show k < t by omega), List.map_append, uptoF_rows r k (by omega), List.range_succ, List.map_append]; rfl
theorem pgOf_size (g : Nat) (xs : List Mk) (h : xs.length <= 23) : (pgOf g xs).size <= 384 := by
 show (pageB g xs).toArray.size <= 384
 rw [List.size_toArray, pageB_length]; omega
theorem ckM_take (ms : List Mk) (k : Nat) : (ms.drop (23 * k)).take (min 23 (ms.length - 23 * k)) = ckM ms k := by
 unfold ckM
 by_cases h : 23 <= ms.length - 23 * k
 ·rw [Nat.min_eq_left h]
 ·rw [Nat.min_eq_right (by omega), List.take_of_length_le (by simp), List.take_of_length_le (by simp; omega)]
theorem grown_off {W W' : World} {row : Option Nat} (hg : W.grownBy W' row) : ∃ N, Keep [N] W W' /\ (row = some N \/ N = W.heap.size) := by
 cases row with
 | none => exact ⟨W.heap.size, (Keep.refl _ W).grown hg (fun k e => by cases e), .inr rfl⟩
 | some r => exact ⟨r, (Keep.refl _ W).grown hg (fun k e => by cases e; exact .inl (by simp)), .inl rfl⟩
section
variable {w0 wo w W W' : World} {B x d : Nat} {E : En} {j m nj : Nat} {J : Jr} {s first n : Nat} {S : Dv} {f : Nat -> List It} {bs : List (List Bool)} {G : List Nat} {l ml : Nat} {v5 v6 v7 : Value} {T : Lg} {jf jp u : Nat} {ms : List Mk} {k sb nb : Nat} {rv : Value} {L : List (List Mk)} {S' : Dv} {G' : List Nat} {n' m' : Nat} {J' : Jr} {E' : En}
theorem EnAt.cells (h : EnAt w0 W x d E j m nj J s first n S f bs G l ml v5 v6 v7 T) : ∀ q ∈ G, ∃ o : Obj, W.heap[q]? = some o /\ o.isCells = true := fun q hq => by
 obtain ⟨F, M, hu, rfl⟩ := h.bu
 rcases List.mem_append.1 hq with h1 | h1
 ·obtain ⟨c, e, hc, _⟩ := hu.bk.law.dev.kinds q h1
  exact ⟨_, hc, rfl⟩
 ·rcases SM.foot_inv h1 with rfl | ⟨a, ha, rfl⟩ | ⟨y, hy, rfl | rfl⟩
  ·exact ⟨_, hu.bk.st.box, rfl⟩
  ·rcases hu.bk.st.row.2 with ⟨hv, _⟩ | ⟨g, cap, cur, hv, _, hh, _⟩
   ·rw [ha] at hv; cases hv
   ·rw [ha] at hv; cases hv; exact ⟨_, hh, rfl⟩
  ·exact ⟨_, (hu.bk.st.flt y hy).1.own, rfl⟩
  ·exact ⟨_, (hu.bk.st.flt y hy).1.row, rfl⟩
theorem EnAt.turned (h : EnAt w0 W x d E j m nj J s first n S f bs G l ml v5 v6 v7 T) {N B : Nat} (hk : Keep [N] W W') (hN : N = W.heap.size \/ ∃ o : Obj, W.heap[N]? = some o /\ o.isCells = false) (hB : B <= N) (h0 : w0.heap.size <= B) (hx : x < B) (hj : j < B) (hm : m ≠ N) (hL : ∀ q ∈ lblocks l ml v5 v6 v7 T, q < B) : EnAt w0 W' x d E j m nj J s first n S f bs G l ml v5 v6 v7 T := by
 refine h.off hk (fun q hq => ?_) (by omega)
 rcases hq with rfl | rfl | rfl | hq | hq
 ·omega
 ·omega
 ·exact hm
 ·rcases hN with rfl | ⟨o, h1, h2⟩
  ·have := h.lt q (.inr (.inr (.inr (.inl hq)))); omega
  ·intro e
   obtain ⟨o', h3, h4⟩ := h.cells q hq
   rw [e, h1] at h3; cases h3; rw [h2] at h4; cases h4
 ·have := hL q hq; omega
theorem full_en (h : EnAt w0 W x d E j m nj J s first n S f bs G l ml v5 v6 v7 T) (ho : J.ok S jf jp u) (hu : u = jp) (a : Option Addr) (len cap : Nat) (h1 : 1 <= len) (h23 : len <= 23) (hl : S.losses = J.losses) :
  Calls Tryz.prog 57 #[.pointer (some ⟨j, 0, none⟩), .slice a len cap] W fun e w' => e = .returned (.int .i64 7) /\ ∃ G' n', EnAt w0 w' x d E j m n' J s first n S f bs G' l ml v5 v6 v7 T /\ n' <= nj /\ Keep (j :: m :: G) W w' /\ ∀ k ∈ G', k ∈ G \/ W.heap.size <= k := by
 obtain ⟨F, M, hu0, hG⟩ := h.bu
 have inF : ∀ q, q ∈ F -> q ∈ G := fun q hF => by rw [hG]; exact List.mem_append.2 (.inl hF)
 have inM : ∀ q, q ∈ M.foot s -> q ∈ G := fun q hM => by rw [hG]; exact List.mem_append.2 (.inr hM)
 refine (add_full j d m nj F J S jf jp u ho hu a len cap h1 h23 hl W ⟨h.jr, hu0.bk.law.dev, fun hF => h.jG (inF j hF), fun hF => h.mG (inF m hF)⟩).mono ?_
 rintro e w' ⟨rfl, F', n', hJ, hk, hfo, hn'⟩
 have hfG : ∀ k ∈ F' ++ M.foot s, k ∈ G \/ W.heap.size <= k := fun k hk2 => by
  rcases List.mem_append.1 hk2 with h1 | h1
  ·rcases hfo k h1 with h3 | h3
   ·exact .inl (inF k h3)
   ·exact .inr h3
  ·exact .inl (inM k h1)
 have far : ∀ q, q < W.heap.size -> q ∉ G -> q ∉ F' ++ M.foot s := fun q hq hg hg' => by
  rcases hfG q hg' with h1 | h1
  ·exact hg h1
  ·omega
 have hu' := bu_turn hu0 hJ.dev (xs := [j, m]) hk (fun y hy => by
  simp only [List.mem_cons, List.not_mem_nil, or_false] at hy
  rcases hy with rfl | rfl
  ·exact ⟨fun hM => h.jG (inM _ hM), h.low _ (.inr (.inl rfl))⟩
  ·exact ⟨fun hM => h.mG (inM _ hM), h.low _ (.inr (.inr (.inl rfl)))⟩) hfo hu0.sure rfl rfl (fun k hkn => rfl)
 have nin : ∀ q, q ≠ j -> q ≠ m -> q ∉ G -> q ∉ j :: m :: F := fun q h1 h2 h3 h4 => by
  simp only [List.mem_cons] at h4
  rcases h4 with h4 | h4 | h4
  ·exact h1 h4
  ·exact h2 h4
  ·exact h3 (inF q h4)
 refine ⟨rfl, F' ++ M.foot s, n', ⟨h.box.same (hk.block _ h.box.lt (nin x h.xj h.xm h.xG)), hJ.jr, ⟨F', M, hu', rfl⟩, h.lg.same (fun q hq => hk.block q (h.lg.lt q hq) (nin q (fun e => h.jL (e ▸ hq)) (fun e => h.mL (e ▸ hq)) (h.lG q hq))), far x h.box.lt h.xG, far j h.jr.blk.lt h.jG, far m h.jr.mlt h.mG, fun q hq => far q (h.lg.lt q hq) (h.lG q hq), h.low, h.xL, h.jL, h.mL, h.xm⟩, by omega, hk.mono (fun y hy => .inl ?_), hfG⟩
 simp only [List.mem_cons] at hy ⊢
 rcases hy with h1 | h1 | h1
 ·exact .inl h1
 ·exact .inr (.inl h1)
 ·exact .inr (.inr (inF y h1))
structure RmI (w0 wo : World) (B x d : Nat) (E : En) (j m nj : Nat) (J : Jr) (s first n : Nat) (S : Dv) (f : Nat -> List It) (bs : List (List Bool)) (G : List Nat) (l ml : Nat) (v5 v6 v7 : Value) (T : Lg) (jf jp u : Nat) (ms : List Mk) (rv : Value) (L : List (List Mk)) (W : World) : Prop where
 en : ∃ S' G' n', EnAt w0 W x d E j m n' (J.addL L) s first n S' f bs G' l ml v5 v6 v7 T /\ n' <= nj + 23 * L.length /\ S'.cs = csL S.cs (jf + u) J.gen L /\ S'.losses = S.losses /\ ∀ q ∈ G', q ∈ G \/ B <= q
 most : u + L.length <= jp
 keep : Keep (j :: m :: G) wo W
 size : B <= W.heap.size
 box : Blk W wo.heap.size [.pointer (some ⟨x, 0, none⟩)] 27
 res : Blk W (wo.heap.size + 1) [.int .i64 0] 24
 row : MRow W (wo.heap.size + 2) rv ms
structure RmB (w0 wo : World) (B x j m : Nat) (G : List Nat) (l ml : Nat) (v5 v6 v7 : Value) (T : Lg) (rv : Value) : Prop where
 old : ∀ q, (q = x \/ q = j \/ q = m \/ q ∈ G \/ q ∈ lblocks l ml v5 v6 v7 T) -> q < wo.heap.size
 le : wo.heap.size + 2 <= B
 low : w0.heap.size <= wo.heap.size
 row : ∀ q, rv.ownBlock = some q -> q < B
theorem RmI.turn (h : RmI w0 wo B x d E j m nj J s first n S f bs G l ml v5 v6 v7 T jf jp u ms rv L W) (b : RmB w0 wo B x j m G l ml v5 v6 v7 T rv) {N : Nat} (hk : Keep [N] W W') (hN : N = W.heap.size \/ (B <= N /\ ∃ o : Obj, W.heap[N]? = some o /\ o.isCells = false)) : RmI w0 wo B x d E j m nj J s first n S f bs G l ml v5 v6 v7 T jf jp u ms rv L W' := by
 obtain ⟨S', G', n', he, hn', hcs, hlo, hG'⟩ := h.en
 have hBN : B <= N := by
  rcases hN with rfl | h1
  ·exact h.size
  ·exact h1.1
 have hle := b.le
 have hlow := b.low
 have old := b.old
 have hoffs : ∀ q, q < B -> q ∉ [N] := fun q hq hm => by rw [List.mem_singleton.1 hm] at hq; omega
 refine ⟨⟨S', G', n', he.turned (B := B) hk (hN.imp id (·.2)) hBN (by omega) (by have := old x (.inl rfl); omega) (by have := old j (.inr (.inl rfl)); omega) (by have := old m (.inr (.inr (.inl rfl))); omega) (fun q hq => by have := old q (.inr (.inr (.inr (.inr hq)))); omega), hn', hcs, hlo, hG'⟩, h.most, h.keep.trans hk (fun y hy => ?_), Nat.le_trans h.size hk.size, h.box.same (hk.block _ h.box.lt (hoffs _ (by omega))), h.res.same (hk.block _ h.res.lt (hoffs _ (by omega))), h.row.keep (fun q hq => hk.block q (h.row.lt q hq).2 (hoffs q (b.row q hq)))⟩
 rw [List.mem_singleton.1 hy]; exact .inr (by omega)
theorem RmI.set0 (h : RmI w0 wo B x d E j m nj J s first n S f bs G l ml v5 v6 v7 T jf jp u ms rv L W) (b : RmB w0 wo B x j m G l ml v5 v6 v7 T rv) : RmI w0 wo B x d E j m nj J s first n S f bs G l ml v5 v6 v7 T jf jp u ms rv L (W.setCell ⟨wo.heap.size + 1, 0, none⟩ (.int .i64 0)) := by
 obtain ⟨S', G', n', he, hn', hcs, hlo, hG'⟩ := h.en
 have hk : Keep [wo.heap.size + 1] W (W.setCell ⟨wo.heap.size + 1, 0, none⟩ (.int .i64 0)) := (Keep.refl _ W).setCell (p := ⟨wo.heap.size + 1, 0, none⟩) (.inl (by simp)) _
 have hle := b.le
 have hlow := b.low
 refine ⟨⟨S', G', n', he.off hk (fun q hq => ?_) (by omega), hn', hcs, hlo, hG'⟩, h.most, h.keep.trans hk (fun y hy => ?_), Nat.le_trans h.size hk.size, h.box.same (hk.block _ h.box.lt (by simp)), h.res.set 0 _, h.row.keep (fun q hq => hk.block q (h.row.lt q hq).2 (by have := (h.row.lt q hq).1; simp only [List.mem_singleton]; omega))⟩
 ·rcases hq with hq | hq | hq | hq | hq
  ·have := b.old q (.inl hq); omega
  ·have := b.old q (.inr (.inl hq)); omega
  ·have := b.old q (.inr (.inr (.inl hq))); omega
  ·rcases hG' q hq with h3 | h3
   ·have := b.old q (.inr (.inr (.inr (.inl h3)))); omega
   ·omega
  ·have := b.old q (.inr (.inr (.inr (.inr hq)))); omega
 ·rw [List.mem_singleton.1 hy]; exact .inr (by omega)
theorem RmI.own {t K : Nat} (b : RmB w0 wo B x j m G l ml v5 v6 v7 T rv) (hK : B <= K) : OwnBut K (fun (pre : List (Fin t)) W => RmI w0 wo B x d E j m nj J s first n S f bs G l ml v5 v6 v7 T jf jp u ms rv (pre.map (fun i => ckM ms i.val)) W) := by
 intro pre W W' row h hg hr
 obtain ⟨N, hk, hN⟩ := grown_off hg
 refine RmI.turn h b hk ?_
 rcases hN with hN | hN
 ·obtain ⟨h1, h2⟩ := hr N hN
  exact .inr ⟨by omega, h2⟩
 ·exact .inl hN
theorem rm_step (h : RmI w0 wo B x d E j m nj J s first n S f bs G l ml v5 v6 v7 T jf jp u ms rv L W) (b : RmB w0 wo B x j m G l ml v5 v6 v7 T rv) (ho : J.ok S jf jp u) (hu : u + L.length < jp) (hfp : jf + jp <= first) (hgen : J.gen < 18446744073709551616) (hl : S.losses = J.losses) (hn : nj + 23 * L.length < 900000) (g vn vc : Nat) (hrv : rv = .slice (some ⟨g, 0, none⟩) vn vc) (hf : ∀ y ∈ ms, Mk.fits y) (hkt : 23 * k < ms.length) (hsb : wo.heap.size <= sb /\ sb < B) (hnb : wo.heap.size <= nb /\ nb < B) :
  Calls Tryz.prog 57 #[.pointer (some ⟨j, 0, none⟩), chV g ms.length k] W fun e W' => e = .returned (.int .i64 0) /\ RmI w0 wo B x d E j m nj J s first n S f bs G l ml v5 v6 v7 T jf jp u ms rv (L ++ [ckM ms k]) W' /\ (∀ q (o : Obj), B <= q -> W.heap[q]? = some o -> o.isCells = false -> W'.heap[q]? = W.heap[q]?) /\ KpC sb nb W W' := by
 obtain ⟨S', G', n', he, hn', hcs, hlo, hG'⟩ := h.en
 have hcl : S'.cs.length = S.cs.length := by rw [hcs, csL_length]
 have hle := b.le
 have hlow := b.low
 have hrow := h.row
 have hro : rv.ownBlock = some g := by rw [hrv]; rfl
 have hgB := b.row g hro
 rw [hrv] at hrow
 obtain ⟨g1, hg1, hg2, hat⟩ := hrow.at_ hf (by intro e; rw [e] at hkt; simp at hkt)
 have hgg : g1 = g := by cases hg1; rfl
 subst hgg
 have hmk := hat (23 * k) (min 23 (ms.length - 23 * k)) (by omega)
 rw [ckM_take, show 23 * k * 2 = k * 46 by omega] at hmk
 have mid : ∀ q, wo.heap.size <= q -> q < B -> q ∉ G' /\ q ≠ j /\ q ≠ m := fun q h1 h2 => by
  refine ⟨fun hq => ?_, fun e => ?_, fun e => ?_⟩
  ·rcases hG' q hq with h3 | h3
   ·have := b.old q (.inr (.inr (.inr (.inl h3)))); omega
   ·omega
  ·have := b.old q (.inr (.inl e)); omega
  ·have := b.old q (.inr (.inr (.inl e))); omega
 unfold chV
 refine (add_en he jf jp (u + L.length) (addL_ok ho L (by omega) hcl) hu hfp (by rw [addL_gen]; exact hgen) (some ⟨g1, k * 46, none⟩) (min 23 (ms.length - 23 * k)) _ (ckM ms k) (by omega) (by omega) (by rw [hlo, addL_losses]; exact hl) (by omega) hmk (fun b' o e => by cases e; exact mid g1 (by omega) hgB) (pgOf_size _ _ (by rw [ckM_len]; omega))).mono ?_
 rintro e W' ⟨rfl, S2, G2, n2, he2, hn2, hcs2, hlo2, hk, hG2⟩
 rw [addL_snoc] at he2
 have nin : ∀ q, wo.heap.size <= q -> q < B -> q ∉ j :: m :: G' := fun q h1 h2 h3 => by
  have h4 := mid q h1 h2
  simp only [List.mem_cons] at h3
  rcases h3 with h3 | h3 | h3
  ·exact h4.2.1 h3
  ·exact h4.2.2 h3
  ·exact h4.1 h3
 have hsz := h.size
 have cellK : ∀ q, wo.heap.size <= q -> q < B -> W'.cell? ⟨q, 0, none⟩ = W.cell? ⟨q, 0, none⟩ := fun q h1 h2 => by
  have := hk.block q (by omega) (nin q h1 h2)
  simp only [World.cell?, this]
 refine ⟨rfl, ⟨⟨S2, G2, n2, he2, by rw [List.length_append, List.length_singleton]; omega, ?_, hlo2.trans hlo, fun q hq => ?_⟩, by rw [List.length_append, List.length_singleton]; omega, h.keep.trans hk (fun y hy => ?_), Nat.le_trans hsz hk.size, h.box.same (hk.block _ h.box.lt (nin _ (Nat.le_refl _) (by omega))), h.res.same (hk.block _ h.res.lt (nin _ (by omega) (by omega))), h.row.keep (fun q hq => hk.block q (h.row.lt q hq).2 (nin q (by have := (h.row.lt q hq).1; omega) (b.row q hq)))⟩, fun q o hb hq ho => ?_, cellK sb hsb.1 hsb.2, cellK nb hnb.1 hnb.2⟩
 ·rw [hcs2, hcs, addL_gen, csL_snoc, Nat.add_assoc]
 ·rcases hG2 q hq with h1 | h1
  ·exact hG' q h1
  ·exact .inr (by omega)
 ·simp only [List.mem_cons] at hy ⊢
  rcases hy with h1 | h1 | h1
  ·exact .inl (.inl h1)
  ·exact .inl (.inr (.inl h1))
  ·rcases hG' y h1 with h2 | h2
   ·exact .inl (.inr (.inr h2))
   ·exact .inr (by omega)
 ·refine hk.block q (Array.getElem?_eq_some_iff.1 hq).1 (fun hm => ?_)
  simp only [List.mem_cons] at hm
  rcases hm with h1 | h1 | h1
  ·have := b.old q (.inr (.inl h1)); omega
  ·have := b.old q (.inr (.inr (.inl h1))); omega
  ·obtain ⟨o2, h2, h3⟩ := he.cells q h1
   rw [hq] at h2; cases h2; rw [ho] at h3; cases h3
theorem rm_full (h : RmI w0 wo B x d E j m nj J s first n S f bs G l ml v5 v6 v7 T jf jp u ms rv L W) (b : RmB w0 wo B x j m G l ml v5 v6 v7 T rv) (ho : J.ok S jf jp u) (hu : u + L.length = jp) (hl : S.losses = J.losses) (g : Nat) (hkt : 23 * k < ms.length) :
  Calls Tryz.prog 57 #[.pointer (some ⟨j, 0, none⟩), chV g ms.length k] W fun e W' => e = .returned (.int .i64 7) /\ RmI w0 wo B x d E j m nj J s first n S f bs G l ml v5 v6 v7 T jf jp u ms rv L W' /\ W.heap.size <= W'.heap.size /\ ∀ q (o : Obj), B <= q -> W.heap[q]? = some o -> o.isCells = false -> W'.heap[q]? = W.heap[q]? := by
 obtain ⟨S', G', n', he, hn', hcs, hlo, hG'⟩ := h.en
 have hcl : S'.cs.length = S.cs.length := by rw [hcs, csL_length]
 have hle := b.le
 have hlow := b.low
 have hsz := h.size
 unfold chV
 refine (full_en he (addL_ok ho L (by omega) hcl) hu (some ⟨g, k * 46, none⟩) (min 23 (ms.length - 23 * k)) _ (by omega) (by omega) (by rw [hlo, addL_losses]; exact hl)).mono ?_
 rintro e W' ⟨rfl, G2, n2, he2, hn2, hk, hG2⟩
 have nin : ∀ q, wo.heap.size <= q -> q < B -> q ∉ j :: m :: G' := fun q h1 h2 h3 => by
  simp only [List.mem_cons] at h3
  rcases h3 with h3 | h3 | h3
  ·have := b.old q (.inr (.inl h3)); omega
  ·have := b.old q (.inr (.inr (.inl h3))); omega
  ·rcases hG' q h3 with h4 | h4
   ·have := b.old q (.inr (.inr (.inr (.inl h4)))); omega
   ·omega
 refine ⟨rfl, ⟨⟨S', G2, n2, he2, by omega, hcs, hlo, fun q hq => ?_⟩, h.most, h.keep.trans hk (fun y hy => ?_), Nat.le_trans hsz hk.size, h.box.same (hk.block _ h.box.lt (nin _ (Nat.le_refl _) (by omega))), h.res.same (hk.block _ h.res.lt (nin _ (by omega) (by omega))), h.row.keep (fun q hq => hk.block q (h.row.lt q hq).2 (nin q (by have := (h.row.lt q hq).1; omega) (b.row q hq)))⟩, hk.size, fun q o hb hq ho => ?_⟩
 ·rcases hG2 q hq with h1 | h1
  ·exact hG' q h1
  ·exact .inr (by omega)
 ·simp only [List.mem_cons] at hy ⊢
  rcases hy with h1 | h1 | h1
  ·exact .inl (.inl h1)
  ·exact .inl (.inr (.inl h1))
  ·rcases hG' y h1 with h2 | h2
   ·exact .inl (.inr (.inr h2))
   ·exact .inr (by omega)
 ·refine hk.block q (Array.getElem?_eq_some_iff.1 hq).1 (fun hm => ?_)
  simp only [List.mem_cons] at hm
  rcases hm with h1 | h1 | h1
  ·have := b.old q (.inr (.inl h1)); omega
  ·have := b.old q (.inr (.inr (.inl h1))); omega
  ·obtain ⟨o2, h2, h3⟩ := he.cells q h1
   rw [hq] at h2; cases h2; rw [ho] at h3; cases h3
structure RmX (w0 wo : World) (B x d : Nat) (E : En) (j m : Nat) (J : Jr) (s first n : Nat) (S : Dv) (f : Nat -> List It) (bs : List (List Bool)) (G : List Nat) (l ml : Nat) (v5 v6 v7 : Value) (T : Lg) (jf jp u : Nat) (W : World) : Prop where
 en : ∃ (L : List (List Mk)) (S1 : Dv) (G' : List Nat) (m' n' : Nat), u + L.length = jp /\ S1.cs = csL S.cs (jf + u) J.gen L /\ S1.losses = S.losses /\ EnAt w0 W x d { E with b := S1.nextB E.wiped } j m' n' ((J.addL L).begun E.wiped.gen) s first n (S1.storeDo E.wiped) f bs G' l ml v5 v6 v7 T /\ (∀ q ∈ G', q ∈ G \/ B <= q) /\ (m' = m \/ B + 1 < m')
 keep : Keep (x :: j :: m :: G) wo W
 size : B <= W.heap.size
 res : Blk W (wo.heap.size + 1) [.int .i64 0] 24
theorem RmX.turn (h : RmX w0 wo B x d E j m J s first n S f bs G l ml v5 v6 v7 T jf jp u W) (b : RmB w0 wo B x j m G l ml v5 v6 v7 T rv) {N : Nat} (hk : Keep [N] W W') (hN : N = W.heap.size \/ (B <= N /\ N <= B + 1 /\ ∃ o : Obj, W.heap[N]? = some o /\ o.isCells = false)) : RmX w0 wo B x d E j m J s first n S f bs G l ml v5 v6 v7 T jf jp u W' := by
 obtain ⟨L, S1, G', m', n', hL, hcs, hlo, he, hG', hm'⟩ := h.en
 have hBN : B <= N := by
  rcases hN with rfl | h1
  ·exact h.size
  ·exact h1.1
 have hle := b.le
 have hlow := b.low
 have old := b.old
 have hoffs : ∀ q, q < B -> q ∉ [N] := fun q hq hm => by rw [List.mem_singleton.1 hm] at hq; omega
 have hmN : m' ≠ N := fun e => by
  rcases hN with h1 | ⟨_, h3, _⟩
  ·have := he.lt m' (.inr (.inr (.inl rfl))); omega
  ·rcases hm' with h4 | h4
   ·have := old m (.inr (.inr (.inl rfl))); omega
   ·omega
 refine ⟨⟨L, S1, G', m', n', hL, hcs, hlo, he.turned (B := B) hk (hN.imp id (·.2.2)) hBN (by omega) (by have := old x (.inl rfl); omega) (by have := old j (.inr (.inl rfl)); omega) hmN (fun q hq => by have := old q (.inr (.inr (.inr (.inr hq)))); omega), hG', hm'⟩, h.keep.trans hk (fun y hy => ?_), Nat.le_trans h.size hk.size, h.res.same (hk.block _ h.res.lt (hoffs _ (by omega)))⟩
 rw [List.mem_singleton.1 hy]; exact .inr (by omega)
theorem RmX.own {α : Type} (b : RmB w0 wo B x j m G l ml v5 v6 v7 T rv) : OwnBut (B + 1) (fun (_ : List α) W => RmX w0 wo B x d E j m J s first n S f bs G l ml v5 v6 v7 T jf jp u W) := by
 intro pre W W' row h hg hr
 obtain ⟨N, hk, hN⟩ := grown_off hg
 refine RmX.turn h b hk ?_
 rcases hN with hN | hN
 ·obtain ⟨h1, h2⟩ := hr N hN
  exact .inr ⟨by omega, by omega, h2⟩
 ·exact .inl hN
theorem RmX.set0 (h : RmX w0 wo B x d E j m J s first n S f bs G l ml v5 v6 v7 T jf jp u W) (b : RmB w0 wo B x j m G l ml v5 v6 v7 T rv) : RmX w0 wo B x d E j m J s first n S f bs G l ml v5 v6 v7 T jf jp u (W.setCell ⟨wo.heap.size + 1, 0, none⟩ (.int .i64 0)) := by
 obtain ⟨L, S1, G', m', n', hL, hcs, hlo, he, hG', hm'⟩ := h.en
 have hk : Keep [wo.heap.size + 1] W (W.setCell ⟨wo.heap.size + 1, 0, none⟩ (.int .i64 0)) := (Keep.refl _ W).setCell (p := ⟨wo.heap.size + 1, 0, none⟩) (.inl (by simp)) _
 have hle := b.le
 have hlow := b.low
 refine ⟨⟨L, S1, G', m', n', hL, hcs, hlo, he.off hk (fun q hq => ?_) (by omega), hG', hm'⟩, h.keep.trans hk (fun y hy => ?_), Nat.le_trans h.size hk.size, h.res.set 0 _⟩
 ·rcases hq with hq | hq | hq | hq | hq
  ·have := b.old q (.inl hq); omega
  ·have := b.old q (.inr (.inl hq)); omega
  ·rcases hm' with h1 | h1
   ·have := b.old m (.inr (.inr (.inl rfl))); omega
   ·omega
  ·rcases hG' q hq with h3 | h3
   ·have := b.old q (.inr (.inr (.inr (.inl h3)))); omega
   ·omega
  ·have := b.old q (.inr (.inr (.inr (.inr hq)))); omega
 ·rw [List.mem_singleton.1 hy]; exact .inr (by omega)
theorem rm_wipe (h : RmI w0 wo B x d E j m nj J s first n S f bs G l ml v5 v6 v7 T jf jp u ms rv L W) (b : RmB w0 wo B x j m G l ml v5 v6 v7 T rv) (hu : u + L.length = jp) (hl : S.losses = E.losses) (h2 : 2 <= first) (hq : ∀ (L : List (List Mk)) (S1 : Dv), S1.cs = csL S.cs (jf + u) J.gen L -> S1.lastSeq ≠ 18446744073709551615) (hf : E.b.fits) (hla : E.last < 18446744073709551616) (hB : B + 1 < W.heap.size) :
  Calls Tryz.prog 28 #[.pointer (some ⟨x, 0, none⟩)] W fun e W' => e = .returned (.int .i64 0) /\ RmX w0 wo B x d E j m J s first n S f bs G l ml v5 v6 v7 T jf jp u W' /\ ∀ q (o : Obj), B <= q -> W.heap[q]? = some o -> o.isCells = false -> W'.heap[q]? = W.heap[q]? := by
 obtain ⟨S', G', n', he, hn', hcs, hlo, hG'⟩ := h.en
 have hle := b.le
 have hlow := b.low
 have hsz := h.size
 refine (wipe_en he (hlo.trans hl) h2 (hq L S' hcs) hf hla).mono ?_
 rintro e W' ⟨rfl, G2, m2, n2, he2, hk, hG2, hm2⟩
 refine ⟨rfl, ⟨⟨L, S', G2, m2, n2, hu, hcs, hlo, he2, fun q hq => ?_, ?_⟩, ?_, Nat.le_trans hsz hk.size, h.res.same (hk.block _ h.res.lt (fun h3 => ?_))⟩, fun q o hb hq ho => ?_⟩
 ·rcases hG2 q hq with h1 | h1
  ·exact hG' q h1
  ·exact .inr (by omega)
 ·rcases hm2 with h1 | h1
  ·exact .inl h1
  ·exact .inr (by omega)
 ·refine (h.keep.mono (G := x :: j :: m :: G) (fun y hy => .inl (List.mem_cons_of_mem _ hy))).trans hk (fun y hy => ?_)
  simp only [List.mem_cons] at hy ⊢
  rcases hy with h1 | h1 | h1
  ·exact .inl (.inl h1)
  ·exact .inl (.inr (.inl h1))
  ·rcases hG' y h1 with h2 | h2
   ·exact .inl (.inr (.inr (.inr h2)))
   ·exact .inr (by omega)
 ·simp only [List.mem_cons] at h3
  rcases h3 with h3 | h3 | h3
  ·have := b.old x (.inl rfl); omega
  ·have := b.old j (.inr (.inl rfl)); omega
  ·rcases hG' _ h3 with h4 | h4
   ·have := b.old _ (.inr (.inr (.inr (.inl h4)))); omega
   ·omega
 ·refine hk.block q (Array.getElem?_eq_some_iff.1 hq).1 (fun hm => ?_)
  simp only [List.mem_cons] at hm
  rcases hm with h1 | h1 | h1
  ·have := b.old q (.inl h1); omega
  ·have := b.old q (.inr (.inl h1)); omega
  ·obtain ⟨o2, h2, h3⟩ := he.cells q h1
   rw [hq] at h2; cases h2; rw [ho] at h3; cases h3
end
end Go.Proofs.YtcdghalnneilpaaGreat
