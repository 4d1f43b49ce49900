/- Joined texts. -/
import Derived.Test.YtcdghalnneilpaaGreatK33
set_option linter.unusedVariables false
set_option linter.unusedSimpArgs false
set_option maxRecDepth 8000
set_option maxHeartbeats 8000000
namespace Go.Proofs.YtcdghalnneilpaaGreat
open Go.RowKit Go.Shelf Go.Deep Math
def ckM (ms : List Mk) (k : Nat) : List Mk := (ms.drop (23 * k)).take 23
theorem ckM_len (ms : List Mk) (k : Nat) : (ckM ms k).length = min 23 (ms.length - 23 * k) := by unfold ckM; simp
def csL (cs : List Cl) (q g : Nat) (L : List (List Mk)) : List Cl := (L.foldl (fun (p : List Cl × Nat) xs => ((putAt p.1 p.2 (.whole (pgOf g xs))).map Cl.flush, p.2 + 1)) (cs, q)).1
theorem csL_at (g : Nat) : ∀ (L : List (List Mk)) (cs : List Cl) (q : Nat), (L.foldl (fun (p : List Cl × Nat) xs => ((putAt p.1 p.2 (.whole (pgOf g xs))).map Cl.flush, p.2 + 1)) (cs, q)).2 = q + L.length
 | [], _, _ => rfl
 | _ :: L, _, _ => by rw [List.foldl_cons, csL_at g L, List.length_cons]; omega
theorem csL_snoc (cs : List Cl) (q g : Nat) (L : List (List Mk)) (xs : List Mk) : csL cs q g (L ++ [xs]) = (putAt (csL cs q g L) (q + L.length) (.whole (pgOf g xs))).map Cl.flush := by
 have := csL_at g L cs q
 unfold csL
 rw [List.foldl_append, List.foldl_cons, List.foldl_nil, this]
theorem csL_length (g : Nat) : ∀ (L : List (List Mk)) (cs : List Cl) (q : Nat), (csL cs q g L).length = cs.length
 | [], _, _ => rfl
 | xs :: L, cs, q => by
  have := csL_length g L ((putAt cs q (.whole (pgOf g xs))).map Cl.flush) (q + 1)
  unfold csL at this ⊢
  rw [List.foldl_cons, this, List.length_map, putAt_length]
def Jr.addL (J : Jr) (L : List (List Mk)) : Jr := { J.keeps L.flatten with used := J.used + (L.length : Int) }
theorem addL_nil (J : Jr) : J.addL [] = J := by
 unfold Jr.addL
 simp [Jr.keeps_nil]
theorem addL_snoc (J : Jr) (L : List (List Mk)) (xs : List Mk) : ({ J.addL L with used := (J.addL L).used + 1 } : Jr).keeps xs = J.addL (L ++ [xs]) := by
 have s := keeps_same xs ({ J.addL L with used := (J.addL L).used + 1 } : Jr)
 have s2 := keeps_same L.flatten J
 have s3 := keeps_same (L ++ [xs]).flatten J
 apply Jr.ext'
 ·rw [s.1]; exact s2.1.trans s3.1.symm
 ·rw [s.2.1]; exact s2.2.1.trans s3.2.1.symm
 ·rw [s.2.2.1]; exact s2.2.2.1.trans s3.2.2.1.symm
 ·rw [s.2.2.2.1]
  show J.used + (L.length : Int) + 1 = J.used + ((L ++ [xs]).length : Int)
  rw [List.length_append, List.length_singleton]; omega
 ·rw [s.2.2.2.2]; exact s2.2.2.2.2.trans s3.2.2.2.2.symm
 ·rw [keeps_M]
  show kM (J.keeps L.flatten).M xs = (J.keeps (L ++ [xs]).flatten).M
  rw [keeps_M, keeps_M, List.flatten_append]
  simp [kM, List.foldl_append]
theorem addL_gen (J : Jr) (L : List (List Mk)) : (J.addL L).gen = J.gen := (keeps_same L.flatten J).2.2.2.2
theorem addL_losses (J : Jr) (L : List (List Mk)) : (J.addL L).losses = J.losses := (keeps_same L.flatten J).1
theorem addL_ok {J : Jr} {S S' : Dv} {jf jp u : Nat} (h : J.ok S jf jp u) (L : List (List Mk)) (hk : u + L.length <= jp) (hc : S'.cs.length = S.cs.length) : (J.addL L).ok S' jf jp (u + L.length) := by
 have s2 := keeps_same L.flatten J
 refine ⟨s2.2.1.trans h.first, s2.2.2.1.trans h.pages, ?_, hk, by rw [hc]; exact h.fits⟩
 show J.used + (L.length : Int) = ((u + L.length : Nat) : Int)
 rw [h.used]; omega
def ckAll (ms : List Mk) : List (List Mk) := (List.range (chN ms.length)).map (ckM ms)
theorem uptoF_rows {t : Nat} (r : Nat -> List Mk) : ∀ k, k <= t -> (uptoF t k).map (fun i => r i.val) = (List.range k).map r
 | 0, _ => rfl
 | k + 1, h => by rw [uptoF_succ (show k < t by omega), List.map_append, uptoF_rows r k (by omega), List.range_succ, List.map_append]; rfl
theorem pgOf_size (g : Nat) (xs : List Mk) (h : xs.length <= 23) : (pgOf g xs).size <= 384 := by
 show (pageB g xs).toArray.size <= 384
 rw [List.size_toArray, pageB_length]; omega
theorem ckM_take (ms : List Mk) (k : Nat) : (ms.drop (23 * k)).take (min 23 (ms.length - 23 * k)) = ckM ms k := by
 unfold ckM
 by_cases h : 23 <= ms.length - 23 * k
 ·rw [Nat.min_eq_left h]
 ·rw [Nat.min_eq_right (by omega), List.take_of_length_le (by simp), List.take_of_length_le (by simp; omega)]
theorem grown_off {W W' : World} {row : Option Nat} (hg : W.grownBy W' row) : ∃ N, Keep [N] W W' /\ (row = some N \/ N = W.heap.size) := by
 cases row with
 | none => exact ⟨W.heap.size, (Keep.refl _ W).grown hg (fun k e => by cases e), .inr rfl⟩
 | some r => exact ⟨r, (Keep.refl _ W).grown hg (fun k e => by cases e; exact .inl (by simp)), .inl rfl⟩
section
variable {w0 wo w W W' : World} {B x d : Nat} {E : En} {j m nj : Nat} {J : Jr} {s first n : Nat} {S : Dv} {f : Nat -> List It} {bs : List (List Bool)} {G : List Nat} {l ml : Nat} {v5 v6 v7 : Value} {T : Lg} {jf jp u : Nat} {ms : List Mk} {k sb nb : Nat} {rv : Value} {L : List (List Mk)} {S' : Dv} {G' : List Nat} {n' m' : Nat} {J' : Jr} {E' : En}
theorem EnAt.cells (h : EnAt w0 W x d E j m nj J s first n S f bs G l ml v5 v6 v7 T) : ∀ q ∈ G, ∃ o : Obj, W.heap[q]? = some o /\ o.isCells = true := fun q hq => by
 obtain ⟨F, M, hu, rfl⟩ := h.bu
 rcases List.mem_append.1 hq with h1 | h1
 ·obtain ⟨c, e, hc, _⟩ := hu.bk.law.dev.kinds q h1
  exact ⟨_, hc, rfl⟩
 ·rcases SM.foot_inv h1 with rfl | ⟨a, ha, rfl⟩ | ⟨y, hy, rfl | rfl⟩
  ·exact ⟨_, hu.bk.st.box, rfl⟩
  ·rcases hu.bk.st.row.2 with ⟨hv, _⟩ | ⟨g, cap, cur, hv, _, hh, _⟩
   ·rw [ha] at hv; cases hv
   ·rw [ha] at hv; cases hv; exact ⟨_, hh, rfl⟩
  ·exact ⟨_, (hu.bk.st.flt y hy).1.own, rfl⟩
  ·exact ⟨_, (hu.bk.st.flt y hy).1.row, rfl⟩
theorem EnAt.turned (h : EnAt w0 W x d E j m nj J s first n S f bs G l ml v5 v6 v7 T) {N B : Nat} (hk : Keep [N] W W') (hN : N = W.heap.size \/ ∃ o : Obj, W.heap[N]? = some o /\ o.isCells = false) (hB : B <= N) (h0 : w0.heap.size <= B) (hx : x < B) (hj : j < B) (hm : m ≠ N) (hL : ∀ q ∈ lblocks l ml v5 v6 v7 T, q < B) : EnAt w0 W' x d E j m nj J s first n S f bs G l ml v5 v6 v7 T := by
 refine h.off hk (fun q hq => ?_) (by omega)
 rcases hq with rfl | rfl | rfl | hq | hq
 ·omega
 ·omega
 ·exact hm
 ·rcases hN with rfl | ⟨o, h1, h2⟩
  ·have := h.lt q (.inr (.inr (.inr (.inl hq)))); omega
  ·intro e
   obtain ⟨o', h3, h4⟩ := h.cells q hq
   rw [e, h1] at h3; cases h3; rw [h2] at h4; cases h4
 ·have := hL q hq; omega
theorem full_en (h : EnAt w0 W x d E j m nj J s first n S f bs G l ml v5 v6 v7 T) (ho : J.ok S jf jp u) (hu : u = jp) (a : Option Addr) (len cap : Nat) (h1 : 1 <= len) (h23 : len <= 23) (hl : S.losses = J.losses) :
  Calls Tryz.prog 57 #[.pointer (some ⟨j, 0, none⟩), .slice a len cap] W fun e w' => e = .returned (.int .i64 7) /\ ∃ G' n', EnAt w0 w' x d E j m n' J s first n S f bs G' l ml v5 v6 v7 T /\ n' <= nj /\ Keep (j :: m :: G) W w' /\ ∀ k ∈ G', k ∈ G \/ W.heap.size <= k := by
 obtain ⟨F, M, hu0, hG⟩ := h.bu
 have inF : ∀ q, q ∈ F -> q ∈ G := fun q hF => by rw [hG]; exact List.mem_append.2 (.inl hF)
 have inM : ∀ q, q ∈ M.foot s -> q ∈ G := fun q hM => by rw [hG]; exact List.mem_append.2 (.inr hM)
 refine (add_full j d m nj F J S jf jp u ho hu a len cap h1 h23 hl W ⟨h.jr, hu0.bk.law.dev, fun hF => h.jG (inF j hF), fun hF => h.mG (inF m hF)⟩).mono ?_
 rintro e w' ⟨rfl, F', n', hJ, hk, hfo, hn'⟩
 have hfG : ∀ k ∈ F' ++ M.foot s, k ∈ G \/ W.heap.size <= k := fun k hk2 => by
  rcases List.mem_append.1 hk2 with h1 | h1
  ·rcases hfo k h1 with h3 | h3
   ·exact .inl (inF k h3)
   ·exact .inr h3
  ·exact .inl (inM k h1)
 have far : ∀ q, q < W.heap.size -> q ∉ G -> q ∉ F' ++ M.foot s := fun q hq hg hg' => by
  rcases hfG q hg' with h1 | h1
  ·exact hg h1
  ·omega
 have hu' := bu_turn hu0 hJ.dev (xs := [j, m]) hk (fun y hy => by
  simp only [List.mem_cons, List.not_mem_nil, or_false] at hy
  rcases hy with rfl | rfl
  ·exact ⟨fun hM => h.jG (inM _ hM), h.low _ (.inr (.inl rfl))⟩
  ·exact ⟨fun hM => h.mG (inM _ hM), h.low _ (.inr (.inr (.inl rfl)))⟩) hfo hu0.sure rfl rfl (fun k hkn => rfl)
 have nin : ∀ q, q ≠ j -> q ≠ m -> q ∉ G -> q ∉ j :: m :: F := fun q h1 h2 h3 h4 => by
  simp only [List.mem_cons] at h4
  rcases h4 with h4 | h4 | h4
  ·exact h1 h4
  ·exact h2 h4
  ·exact h3 (inF q h4)
 refine ⟨rfl, F' ++ M.foot s, n', ⟨h.box.same (hk.block _ h.box.lt (nin x h.xj h.xm h.xG)), hJ.jr, ⟨F', M, hu', rfl⟩, h.lg.same (fun q hq => hk.block q (h.lg.lt q hq) (nin q (fun e => h.jL (e ▸ hq)) (fun e => h.mL (e ▸ hq)) (h.lG q hq))), far x h.box.lt h.xG, far j h.jr.blk.lt h.jG, far m h.jr.mlt h.mG, fun q hq => far q (h.lg.lt q hq) (h.lG q hq), h.low, h.xL, h.jL, h.mL, h.xm⟩, by omega, hk.mono (fun y hy => .inl ?_), hfG⟩
 simp only [List.mem_cons] at hy ⊢
 rcases hy with h1 | h1 | h1
 ·exact .inl h1
 ·exact .inr (.inl h1)
 ·exact .inr (.inr (inF y h1))
structure RmI (w0 wo : World) (B x d : Nat) (E : En) (j m nj : Nat) (J : Jr) (s first n : Nat) (S : Dv) (f : Nat -> List It) (bs : List (List Bool)) (G : List Nat) (l ml : Nat) (v5 v6 v7 : Value) (T : Lg) (jf jp u : Nat) (ms : List Mk) (rv : Value) (L : List (List Mk)) (W : World) : Prop where
 en : ∃ S' G' n', EnAt w0 W x d E j m n' (J.addL L) s first n S' f bs G' l ml v5 v6 v7 T /\ n' <= nj + 23 * L.length /\ S'.cs = csL S.cs (jf + u) J.gen L /\ S'.losses = S.losses /\ ∀ q ∈ G', q ∈ G \/ B <= q
 most : u + L.length <= jp
 keep : Keep (j :: m :: G) wo W
 size : B <= W.heap.size
 box : Blk W wo.heap.size [.pointer (some ⟨x, 0, none⟩)] 27
 res : Blk W (wo.heap.size + 1) [.int .i64 0] 24
 row : MRow W (wo.heap.size + 2) rv ms
structure RmB (w0 wo : World) (B x j m : Nat) (G : List Nat) (l ml : Nat) (v5 v6 v7 : Value) (T : Lg) (rv : Value) : Prop where
 old : ∀ q, (q = x \/ q = j \/ q = m \/ q ∈ G \/ q ∈ lblocks l ml v5 v6 v7 T) -> q < wo.heap.size
 le : wo.heap.size + 2 <= B
 low : w0.heap.size <= wo.heap.size
 row : ∀ q, rv.ownBlock = some q -> q < B
theorem RmI.turn (h : RmI w0 wo B x d E j m nj J s first n S f bs G l ml v5 v6 v7 T jf jp u ms rv L W) (b : RmB w0 wo B x j m G l ml v5 v6 v7 T rv) {N : Nat} (hk : Keep [N] W W') (hN : N = W.heap.size \/ (B <= N /\ ∃ o : Obj, W.heap[N]? = some o /\ o.isCells = false)) : RmI w0 wo B x d E j m nj J s first n S f bs G l ml v5 v6 v7 T jf jp u ms rv L W' := by
 obtain ⟨S', G', n', he, hn', hcs, hlo, hG'⟩ := h.en
 have hBN : B <= N := by
  rcases hN with rfl | h1
  ·exact h.size
  ·exact h1.1
 have hle := b.le
 have hlow := b.low
 have old := b.old
 have hoffs : ∀ q, q < B -> q ∉ [N] := fun q hq hm => by rw [List.mem_singleton.1 hm] at hq; omega
 refine ⟨⟨S', G', n', he.turned (B := B) hk (hN.imp id (·.2)) hBN (by omega) (by have := old x (.inl rfl); omega) (by have := old j (.inr (.inl rfl)); omega) (by have := old m (.inr (.inr (.inl rfl))); omega) (fun q hq => by have := old q (.inr (.inr (.inr (.inr hq)))); omega), hn', hcs, hlo, hG'⟩, h.most, h.keep.trans hk (fun y hy => ?_), Nat.le_trans h.size hk.size, h.box.same (hk.block _ h.box.lt (hoffs _ (by omega))), h.res.same (hk.block _ h.res.lt (hoffs _ (by omega))), h.row.keep (fun q hq => hk.block q (h.row.lt q hq).2 (hoffs q (b.row q hq)))⟩
 rw [List.mem_singleton.1 hy]; exact .inr (by omega)
theorem RmI.set0 (h : RmI w0 wo B x d E j m nj J s first n S f bs G l ml v5 v6 v7 T jf jp u ms rv L W) (b : RmB w0 wo B x j m G l ml v5 v6 v7 T rv) : RmI w0 wo B x d E j m nj J s first n S f bs G l ml v5 v6 v7 T jf jp u ms rv L (W.setCell ⟨wo.heap.size + 1, 0, none⟩ (.int .i64 0)) := by
 obtain ⟨S', G', n', he, hn', hcs, hlo, hG'⟩ := h.en
 have hk : Keep [wo.heap.size + 1] W (W.setCell ⟨wo.heap.size + 1, 0, none⟩ (.int .i64 0)) := (Keep.refl _ W).setCell (p := ⟨wo.heap.size + 1, 0, none⟩) (.inl (by simp)) _
 have hle := b.le
 have hlow := b.low
 refine ⟨⟨S', G', n', he.off hk (fun q hq => ?_) (by omega), hn', hcs, hlo, hG'⟩, h.most, h.keep.trans hk (fun y hy => ?_), Nat.le_trans h.size hk.size, h.box.same (hk.block _ h.box.lt (by simp)), h.res.set 0 _, h.row.keep (fun q hq => hk.block q (h.row.lt q hq).2 (by have := (h.row.lt q hq).1; simp only [List.mem_singleton]; omega))⟩
 ·rcases hq with hq | hq | hq | hq | hq
  ·have := b.old q (.inl hq); omega
  ·have := b.old q (.inr (.inl hq)); omega
  ·have := b.old q (.inr (.inr (.inl hq))); omega
  ·rcases hG' q hq with h3 | h3
   ·have := b.old q (.inr (.inr (.inr (.inl h3)))); omega
   ·omega
  ·have := b.old q (.inr (.inr (.inr (.inr hq)))); omega
 ·rw [List.mem_singleton.1 hy]; exact .inr (by omega)
theorem RmI.own {t K : Nat} (b : RmB w0 wo B x j m G l ml v5 v6 v7 T rv) (hK : B <= K) : OwnBut K (fun (pre : List (Fin t)) W => RmI w0 wo B x d E j m nj J s first n S f bs G l ml v5 v6 v7 T jf jp u ms rv (pre.map (fun i => ckM ms i.val)) W) := by
 intro pre W W' row h hg hr
 obtain ⟨N, hk, hN⟩ := grown_off hg
 refine RmI.turn h b hk ?_
 rcases hN with hN | hN
 ·obtain ⟨h1, h2⟩ := hr N hN
  exact .inr ⟨by omega, h2⟩
 ·exact .inl hN
theorem rm_step (h : RmI w0 wo B x d E j m nj J s first n S f bs G l ml v5 v6 v7 T jf jp u ms rv L W) (b : RmB w0 wo B x j m G l ml v5 v6 v7 T rv) (ho : J.ok S jf jp u) (hu : u + L.length < jp) (hfp : jf + jp <= first) (hgen : J.gen < 18446744073709551616) (hl : S.losses = J.losses) (hn : nj + 23 * L.length < 900000) (g vn vc : Nat) (hrv : rv = .slice (some ⟨g, 0, none⟩) vn vc) (hf : ∀ y ∈ ms, Mk.fits y) (hkt : 23 * k < ms.length) (hsb : wo.heap.size <= sb /\ sb < B) (hnb : wo.heap.size <= nb /\ nb < B) :
  Calls Tryz.prog 57 #[.pointer (some ⟨j, 0, none⟩), chV g ms.length k] W fun e W' => e = .returned (.int .i64 0) /\ RmI w0 wo B x d E j m nj J s first n S f bs G l ml v5 v6 v7 T jf jp u ms rv (L ++ [ckM ms k]) W' /\ (∀ q (o : Obj), B <= q -> W.heap[q]? = some o -> o.isCells = false -> W'.heap[q]? = W.heap[q]?) /\ KpC sb nb W W' := by
 obtain ⟨S', G', n', he, hn', hcs, hlo, hG'⟩ := h.en
 have hcl : S'.cs.length = S.cs.length := by rw [hcs, csL_length]
 have hle := b.le
 have hlow := b.low
 have hrow := h.row
 have hro : rv.ownBlock = some g := by rw [hrv]; rfl
 have hgB := b.row g hro
 rw [hrv] at hrow
 obtain ⟨g1, hg1, hg2, hat⟩ := hrow.at_ hf (by intro e; rw [e] at hkt; simp at hkt)
 have hgg : g1 = g := by cases hg1; rfl
 subst hgg
 have hmk := hat (23 * k) (min 23 (ms.length - 23 * k)) (by omega)
 rw [ckM_take, show 23 * k * 2 = k * 46 by omega] at hmk
 have mid : ∀ q, wo.heap.size <= q -> q < B -> q ∉ G' /\ q ≠ j /\ q ≠ m := fun q h1 h2 => by
  refine ⟨fun hq => ?_, fun e => ?_, fun e => ?_⟩
  ·rcases hG' q hq with h3 | h3
   ·have := b.old q (.inr (.inr (.inr (.inl h3)))); omega
   ·omega
  ·have := b.old q (.inr (.inl e)); omega
  ·have := b.old q (.inr (.inr (.inl e))); omega
 unfold chV
 refine (add_en he jf jp (u + L.length) (addL_ok ho L (by omega) hcl) hu hfp (by rw [addL_gen]; exact hgen) (some ⟨g1, k * 46, none⟩) (min 23 (ms.length - 23 * k)) _ (ckM ms k) (by omega) (by omega) (by rw [hlo, addL_losses]; exact hl) (by omega) hmk (fun b' o e => by cases e; exact mid g1 (by omega) hgB) (pgOf_size _ _ (by rw [ckM_len]; omega))).mono ?_
 rintro e W' ⟨rfl, S2, G2, n2, he2, hn2, hcs2, hlo2, hk, hG2⟩
 rw [addL_snoc] at he2
 have nin : ∀ q, wo.heap.size <= q -> q < B -> q ∉ j :: m :: G' := fun q h1 h2 h3 => by
  have h4 := mid q h1 h2
  simp only [List.mem_cons] at h3
  rcases h3 with h3 | h3 | h3
  ·exact h4.2.1 h3
  ·exact h4.2.2 h3
  ·exact h4.1 h3
 have hsz := h.size
 have cellK : ∀ q, wo.heap.size <= q -> q < B -> W'.cell? ⟨q, 0, none⟩ = W.cell? ⟨q, 0, none⟩ := fun q h1 h2 => by
  have := hk.block q (by omega) (nin q h1 h2)
  simp only [World.cell?, this]
 refine ⟨rfl, ⟨⟨S2, G2, n2, he2, by rw [List.length_append, List.length_singleton]; omega, ?_, hlo2.trans hlo, fun q hq => ?_⟩, by rw [List.length_append, List.length_singleton]; omega, h.keep.trans hk (fun y hy => ?_), Nat.le_trans hsz hk.size, h.box.same (hk.block _ h.box.lt (nin _ (Nat.le_refl _) (by omega))), h.res.same (hk.block _ h.res.lt (nin _ (by omega) (by omega))), h.row.keep (fun q hq => hk.block q (h.row.lt q hq).2 (nin q (by have := (h.row.lt q hq).1; omega) (b.row q hq)))⟩, fun q o hb hq ho => ?_, cellK sb hsb.1 hsb.2, cellK nb hnb.1 hnb.2⟩
 ·rw [hcs2, hcs, addL_gen, csL_snoc, Nat.add_assoc]
 ·rcases hG2 q hq with h1 | h1
  ·exact hG' q h1
  ·exact .inr (by omega)
 ·simp only [List.mem_cons] at hy ⊢
  rcases hy with h1 | h1 | h1
  ·exact .inl (.inl h1)
  ·exact .inl (.inr (.inl h1))
  ·rcases hG' y h1 with h2 | h2
   ·exact .inl (.inr (.inr h2))
   ·exact .inr (by omega)
 ·refine hk.block q (Array.getElem?_eq_some_iff.1 hq).1 (fun hm => ?_)
  simp only [List.mem_cons] at hm
  rcases hm with h1 | h1 | h1
  ·have := b.old q (.inr (.inl h1)); omega
  ·have := b.old q (.inr (.inr (.inl h1))); omega
  ·obtain ⟨o2, h2, h3⟩ := he.cells q h1
   rw [hq] at h2; cases h2; rw [ho] at h3; cases h3
theorem rm_full (h : RmI w0 wo B x d E j m nj J s first n S f bs G l ml v5 v6 v7 T jf jp u ms rv L W) (b : RmB w0 wo B x j m G l ml v5 v6 v7 T rv) (ho : J.ok S jf jp u) (hu : u + L.length = jp) (hl : S.losses = J.losses) (g : Nat) (hkt : 23 * k < ms.length) :
  Calls Tryz.prog 57 #[.pointer (some ⟨j, 0, none⟩), chV g ms.length k] W fun e W' => e = .returned (.int .i64 7) /\ RmI w0 wo B x d E j m nj J s first n S f bs G l ml v5 v6 v7 T jf jp u ms rv L W' /\ W.heap.size <= W'.heap.size /\ ∀ q (o : Obj), B <= q -> W.heap[q]? = some o -> o.isCells = false -> W'.heap[q]? = W.heap[q]? := by
 obtain ⟨S', G', n', he, hn', hcs, hlo, hG'⟩ := h.en
 have hcl : S'.cs.length = S.cs.length := by rw [hcs, csL_length]
 have hle := b.le
 have hlow := b.low
 have hsz := h.size
 unfold chV
 refine (full_en he (addL_ok ho L (by omega) hcl) hu (some ⟨g, k * 46, none⟩) (min 23 (ms.length - 23 * k)) _ (by omega) (by omega) (by rw [hlo, addL_losses]; exact hl)).mono ?_
 rintro e W' ⟨rfl, G2, n2, he2, hn2, hk, hG2⟩
 have nin : ∀ q, wo.heap.size <= q -> q < B -> q ∉ j :: m :: G' := fun q h1 h2 h3 => by
  simp only [List.mem_cons] at h3
  rcases h3 with h3 | h3 | h3
  ·have := b.old q (.inr (.inl h3)); omega
  ·have := b.old q (.inr (.inr (.inl h3))); omega
  ·rcases hG' q h3 with h4 | h4
   ·have := b.old q (.inr (.inr (.inr (.inl h4)))); omega
   ·omega
 refine ⟨rfl, ⟨⟨S', G2, n2, he2, by omega, hcs, hlo, fun q hq => ?_⟩, h.most, h.keep.trans hk (fun y hy => ?_), Nat.le_trans hsz hk.size, h.box.same (hk.block _ h.box.lt (nin _ (Nat.le_refl _) (by omega))), h.res.same (hk.block _ h.res.lt (nin _ (by omega) (by omega))), h.row.keep (fun q hq => hk.block q (h.row.lt q hq).2 (nin q (by have := (h.row.lt q hq).1; omega) (b.row q hq)))⟩, hk.size, fun q o hb hq ho => ?_⟩
 ·rcases hG2 q hq with h1 | h1
  ·exact hG' q h1
  ·exact .inr (by omega)
 ·simp only [List.mem_cons] at hy ⊢
  rcases hy with h1 | h1 | h1
  ·exact .inl (.inl h1)
  ·exact .inl (.inr (.inl h1))
  ·rcases hG' y h1 with h2 | h2
   ·exact .inl (.inr (.inr h2))
   ·exact .inr (by omega)
 ·refine hk.block q (Array.getElem?_eq_some_iff.1 hq).1 (fun hm => ?_)
  simp only [List.mem_cons] at hm
  rcases hm with h1 | h1 | h1
  ·have := b.old q (.inr (.inl h1)); omega
  ·have := b.old q (.inr (.inr (.inl h1))); omega
  ·obtain ⟨o2, h2, h3⟩ := he.cells q h1
   rw [hq] at h2; cases h2; rw [ho] at h3; cases h3
structure RmX (w0 wo : World) (B x d : Nat) (E : En) (j m : Nat) (J : Jr) (s first n : Nat) (S : Dv) (f : Nat -> List It) (bs : List (List Bool)) (G : List Nat) (l ml : Nat) (v5 v6 v7 : Value) (T : Lg) (jf jp u : Nat) (W : World) : Prop where
 en : ∃ (L : List (List Mk)) (S1 : Dv) (G' : List Nat) (m' n' : Nat), u + L.length = jp /\ S1.cs = csL S.cs (jf + u) J.gen L /\ S1.losses = S.losses /\ EnAt w0 W x d { E with b := S1.nextB E.wiped } j m' n' ((J.addL L).begun E.wiped.gen) s first n (S1.storeDo E.wiped) f bs G' l ml v5 v6 v7 T /\ (∀ q ∈ G', q ∈ G \/ B <= q) /\ (m' = m \/ B + 1 < m')
 keep : Keep (x :: j :: m :: G) wo W
 size : B <= W.heap.size
 res : Blk W (wo.heap.size + 1) [.int .i64 0] 24
theorem RmX.turn (h : RmX w0 wo B x d E j m J s first n S f bs G l ml v5 v6 v7 T jf jp u W) (b : RmB w0 wo B x j m G l ml v5 v6 v7 T rv) {N : Nat} (hk : Keep [N] W W') (hN : N = W.heap.size \/ (B <= N /\ N <= B + 1 /\ ∃ o : Obj, W.heap[N]? = some o /\ o.isCells = false)) : RmX w0 wo B x d E j m J s first n S f bs G l ml v5 v6 v7 T jf jp u W' := by
 obtain ⟨L, S1, G', m', n', hL, hcs, hlo, he, hG', hm'⟩ := h.en
 have hBN : B <= N := by
  rcases hN with rfl | h1
  ·exact h.size
  ·exact h1.1
 have hle := b.le
 have hlow := b.low
 have old := b.old
 have hoffs : ∀ q, q < B -> q ∉ [N] := fun q hq hm => by rw [List.mem_singleton.1 hm] at hq; omega
 have hmN : m' ≠ N := fun e => by
  rcases hN with h1 | ⟨_, h3, _⟩
  ·have := he.lt m' (.inr (.inr (.inl rfl))); omega
  ·rcases hm' with h4 | h4
   ·have := old m (.inr (.inr (.inl rfl))); omega
   ·omega
 refine ⟨⟨L, S1, G', m', n', hL, hcs, hlo, he.turned (B := B) hk (hN.imp id (·.2.2)) hBN (by omega) (by have := old x (.inl rfl); omega) (by have := old j (.inr (.inl rfl)); omega) hmN (fun q hq => by have := old q (.inr (.inr (.inr (.inr hq)))); omega), hG', hm'⟩, h.keep.trans hk (fun y hy => ?_), Nat.le_trans h.size hk.size, h.res.same (hk.block _ h.res.lt (hoffs _ (by omega)))⟩
 rw [List.mem_singleton.1 hy]; exact .inr (by omega)
theorem RmX.own {α : Type} (b : RmB w0 wo B x j m G l ml v5 v6 v7 T rv) : OwnBut (B + 1) (fun (_ : List α) W => RmX w0 wo B x d E j m J s first n S f bs G l ml v5 v6 v7 T jf jp u W) := by
 intro pre W W' row h hg hr
 obtain ⟨N, hk, hN⟩ := grown_off hg
 refine RmX.turn h b hk ?_
 rcases hN with hN | hN
 ·obtain ⟨h1, h2⟩ := hr N hN
  exact .inr ⟨by omega, by omega, h2⟩
 ·exact .inl hN
theorem RmX.set0 (h : RmX w0 wo B x d E j m J s first n S f bs G l ml v5 v6 v7 T jf jp u W) (b : RmB w0 wo B x j m G l ml v5 v6 v7 T rv) : RmX w0 wo B x d E j m J s first n S f bs G l ml v5 v6 v7 T jf jp u (W.setCell ⟨wo.heap.size + 1, 0, none⟩ (.int .i64 0)) := by
 obtain ⟨L, S1, G', m', n', hL, hcs, hlo, he, hG', hm'⟩ := h.en
 have hk : Keep [wo.heap.size + 1] W (W.setCell ⟨wo.heap.size + 1, 0, none⟩ (.int .i64 0)) := (Keep.refl _ W).setCell (p := ⟨wo.heap.size + 1, 0, none⟩) (.inl (by simp)) _
 have hle := b.le
 have hlow := b.low
 refine ⟨⟨L, S1, G', m', n', hL, hcs, hlo, he.off hk (fun q hq => ?_) (by omega), hG', hm'⟩, h.keep.trans hk (fun y hy => ?_), Nat.le_trans h.size hk.size, h.res.set 0 _⟩
 ·rcases hq with hq | hq | hq | hq | hq
  ·have := b.old q (.inl hq); omega
  ·have := b.old q (.inr (.inl hq)); omega
  ·rcases hm' with h1 | h1
   ·have := b.old m (.inr (.inr (.inl rfl))); omega
   ·omega
  ·rcases hG' q hq with h3 | h3
   ·have := b.old q (.inr (.inr (.inr (.inl h3)))); omega
   ·omega
  ·have := b.old q (.inr (.inr (.inr (.inr hq)))); omega
 ·rw [List.mem_singleton.1 hy]; exact .inr (by omega)
theorem rm_wipe (h : RmI w0 wo B x d E j m nj J s first n S f bs G l ml v5 v6 v7 T jf jp u ms rv L W) (b : RmB w0 wo B x j m G l ml v5 v6 v7 T rv) (hu : u + L.length = jp) (hl : S.losses = E.losses) (h2 : 2 <= first) (hq : ∀ (L : List (List Mk)) (S1 : Dv), S1.cs = csL S.cs (jf + u) J.gen L -> S1.lastSeq ≠ 18446744073709551615) (hf : E.b.fits) (hla : E.last < 18446744073709551616) (hB : B + 1 < W.heap.size) :
  Calls Tryz.prog 28 #[.pointer (some ⟨x, 0, none⟩)] W fun e W' => e = .returned (.int .i64 0) /\ RmX w0 wo B x d E j m J s first n S f bs G l ml v5 v6 v7 T jf jp u W' /\ ∀ q (o : Obj), B <= q -> W.heap[q]? = some o -> o.isCells = false -> W'.heap[q]? = W.heap[q]? := by
 obtain ⟨S', G', n', he, hn', hcs, hlo, hG'⟩ := h.en
 have hle := b.le
 have hlow := b.low
 have hsz := h.size
 refine (wipe_en he (hlo.trans hl) h2 (hq L S' hcs) hf hla).mono ?_
 rintro e W' ⟨rfl, G2, m2, n2, he2, hk, hG2, hm2⟩
 refine ⟨rfl, ⟨⟨L, S', G2, m2, n2, hu, hcs, hlo, he2, fun q hq => ?_, ?_⟩, ?_, Nat.le_trans hsz hk.size, h.res.same (hk.block _ h.res.lt (fun h3 => ?_))⟩, fun q o hb hq ho => ?_⟩
 ·rcases hG2 q hq with h1 | h1
  ·exact hG' q h1
  ·exact .inr (by omega)
 ·rcases hm2 with h1 | h1
  ·exact .inl h1
  ·exact .inr (by omega)
 ·refine (h.keep.mono (G := x :: j :: m :: G) (fun y hy => .inl (List.mem_cons_of_mem _ hy))).trans hk (fun y hy => ?_)
  simp only [List.mem_cons] at hy ⊢
  rcases hy with h1 | h1 | h1
  ·exact .inl (.inl h1)
  ·exact .inl (.inr (.inl h1))
  ·rcases hG' y h1 with h2 | h2
   ·exact .inl (.inr (.inr (.inr h2)))
   ·exact .inr (by omega)
 ·simp only [List.mem_cons] at h3
  rcases h3 with h3 | h3 | h3
  ·have := b.old x (.inl rfl); omega
  ·have := b.old j (.inr (.inl rfl)); omega
  ·rcases hG' _ h3 with h4 | h4
   ·have := b.old _ (.inr (.inr (.inr (.inl h4)))); omega
   ·omega
 ·refine hk.block q (Array.getElem?_eq_some_iff.1 hq).1 (fun hm => ?_)
  simp only [List.mem_cons] at hm
  rcases hm with h1 | h1 | h1
  ·have := b.old q (.inl h1); omega
  ·have := b.old q (.inr (.inl h1)); omega
  ·obtain ⟨o2, h2, h3⟩ := he.cells q h1
   rw [hq] at h2; cases h2; rw [ho] at h3; cases h3
end
attribute [local go_sem] Oper.semAt_some
theorem mksTo_fits (may : List UInt8 -> Bool) (last : Nat) (ks : List (List UInt8)) (hla : last < 18446744073709551616) : ∀ i, ∀ y ∈ mksTo may last ks i, Mk.fits y
 | 0, y, hy => by simp [mksTo] at hy
 | i + 1, y, hy => by
  unfold mksTo at hy
  rcases List.mem_append.1 hy with h | h
  ·exact mksTo_fits may last ks hla i y h
  ·split at h
   ·split at h
    ·rename_i k _ _
     rw [List.mem_singleton.1 h]
     exact ⟨by have := Bl.hashK_range (txt k); show (Bl.hashK (txt k)).toNat < _; omega, hla⟩
    ·cases h
   ·cases h
theorem MRow.open_ {w : World} {base : Nat} {va : Option Addr} {vn vc : Nat} {ms : List Mk} (h : MRow w base (.slice va vn vc) ms) : vn = ms.length /\ (0 < ms.length -> ∃ g, va = some ⟨g, 0, none⟩ /\ base <= g /\ g < w.heap.size /\ vn <= vc) := by
 rcases h.2 with ⟨hv, h0⟩ | ⟨g, cap, cur, hv, hb, hh, hc, hm, hs, ht⟩
 ·cases hv
  exact ⟨h0.symm, fun h => by omega⟩
 ·cases hv
  exact ⟨rfl, fun _ => ⟨g, rfl, hb, (Array.getElem?_eq_some_iff.1 hh).1, hc⟩⟩
theorem chunk_near (m : Nat) (hm : 1 <= m) (sb nb g len cap t : Nat) (a : Option Addr) (ha : 0 < len -> a = some ⟨g, 0, none⟩) (ht : t = chN len) (hlen : len <= 40000) (hcap : 0 < len -> len <= cap) (w : World)
  (hsb : w.cell? ⟨sb, 0, none⟩ = some (.slice a len cap)) (hnb : w.cell? ⟨nb, 0, none⟩ = some (.int .i64 23)) :
  SeqNear Fence.wide m Tryz.prog 115 #[.pointer (some ⟨sb, 0, none⟩), .pointer (some ⟨nb, 0, none⟩)] (fun x : Fin t => #[chV g len x.val]) (KpC sb nb)
   (fun ys => ys = uptoF t t) (fun pre => ∃ k, k <= t /\ pre = uptoF t k) t w := fun l J Jx W hW hJ hY h0 =>
 chunk_in m hm l sb nb g len cap t a ha ht hlen hcap J Jx hJ hY W (cell_later hW hsb) (cell_later hW hnb) h0
section
variable {w0 w w' : World} {x d : Nat} {E : En} {j m nj : Nat} {J : Jr} {s first n : Nat} {S S' : Dv} {f : Nat -> List It} {bs : List (List Bool)} {G : List Nat} {l ml : Nat} {v5 v6 v7 : Value} {T : Lg}
theorem KpC.b {sb nb K : Nat} (h1 : sb < K) (h2 : nb < K) (W : World) (o' : Obj) : KpC sb nb W (W.putObj K o') := by
 have e1 : (W.putObj K o').heap[sb]? = W.heap[sb]? := World.putObj_heap_other (by omega)
 have e2 : (W.putObj K o').heap[nb]? = W.heap[nb]? := World.putObj_heap_other (by omega)
 exact ⟨by simp only [World.cell?, e1], by simp only [World.cell?, e2]⟩
set_option maxRecDepth 100000 in
theorem remove_by (h : EnAt w0 w x d E j m nj J s first n S f bs G l ml v5 v6 v7 T) (a : Option Addr) (kn kc : Nat) (ks : List (List UInt8)) (hks : KeysAt w a ks) (hkn : kn = ks.length) (hkc : kn <= kc) (hmax : kn <= 30000) (hla : E.last < 18446744073709551616) (ms : List Mk) (hms : ms = mksTo (mayF bs n T) E.last ks kn)
  (jf jp u : Nat) (ho : J.ok S jf jp u) (hfp : jf + jp <= first) (hgen : J.gen < 18446744073709551616) (hl : S.losses = J.losses) (hlE : S.losses = E.losses) (hn : nj < 800000) (h22 : 2 <= first) (hq : ∀ (L : List (List Mk)) (S1 : Dv), S1.cs = csL S.cs (jf + u) J.gen L -> S1.lastSeq ≠ 18446744073709551615) (hf : E.b.fits)
  (R : Ending -> World -> Prop) (hR1 : Hid (∀ w', (u + chN ms.length <= jp /\ ∃ S' G' n', EnAt w0 w' x d E j m n' (J.addL (ckAll ms)) s first n S' f bs G' l ml v5 v6 v7 T /\ n' <= nj + 23 * chN ms.length /\ S'.cs = csL S.cs (jf + u) J.gen (ckAll ms) /\ S'.losses = S.losses /\ Keep (j :: m :: G) w w' /\ ∀ q ∈ G', q ∈ G \/ w.heap.size <= q) -> R (.returned (.int .i64 0)) w'))
  (hR2 : Hid (∀ w', (jp < u + chN ms.length /\ ∃ (L : List (List Mk)) (S1 : Dv) (G' : List Nat) (m' n' : Nat), u + L.length = jp /\ S1.cs = csL S.cs (jf + u) J.gen L /\ S1.losses = S.losses /\ EnAt w0 w' x d { E with b := S1.nextB E.wiped } j m' n' ((J.addL L).begun E.wiped.gen) s first n (S1.storeDo E.wiped) f bs G' l ml v5 v6 v7 T /\ Keep (x :: j :: m :: G) w w' /\ (∀ q ∈ G', q ∈ G \/ w.heap.size <= q) /\ (m' = m \/ w.heap.size <= m')) -> R (.returned (.int .i64 0)) w')) :
  Calls Tryz.prog 16 #[.pointer (some ⟨x, 0, none⟩), .slice a kn kc] w R := by
 have hml : ms.length <= 30000 := by
  have := mksTo_len (mayF bs n T) E.last ks kn
  rw [<- hms] at this; omega
 have hfits : ∀ y ∈ ms, Mk.fits y := by rw [hms]; exact mksTo_fits _ _ _ hla _
 obtain ⟨w2, hw2⟩ : ∃ w2, (w.alloc (.cells #[.pointer (some ⟨x, 0, none⟩)] 27)).alloc (.cells #[.int .i64 0] 24) = w2 := ⟨_, rfl⟩
 have b2 : Below w.heap.size w w2 := by rw [<- hw2]; exact ((Below.refl _ _).alloc (Nat.le_refl _) _).alloc (by simp) _
 have h2 := h.below b2
 have hsz2 : w2.heap.size = w.heap.size + 2 := by rw [<- hw2]; simp
 have x2 : Blk w2 w.heap.size [.pointer (some ⟨x, 0, none⟩)] 27 := by rw [<- hw2]; exact (Blk.new w [.pointer (some ⟨x, 0, none⟩)] 27).alloc _
 have r2 : Blk w2 (w.heap.size + 1) [.int .i64 0] 24 := by
  have := Blk.new (w.alloc (.cells #[.pointer (some ⟨x, 0, none⟩)] 27)) [.int .i64 0] 24
  rw [nblk_alloc, hw2] at this
  exact this
 have c2 := x2.cell (i := 0) rfl
 have cM : Hid (CallsIn Fence.wide 4 Tryz.prog 56 #[.pointer (some ⟨x, 0, none⟩), .slice a kn kc] w2 fun e w' => ∃ va vn vc, e = .returned (.slice va vn vc) /\ MRow w' w2.heap.size (.slice va vn vc) ms /\ Below w2.heap.size w2 w') := callsIn_wide.2 (by rw [hms]; exact marks_en h2 a kn kc ks (hks.below rfl b2) hkn hkc (by omega))
 have cC : Hid (∀ (W : World) (va : Option Addr) (vn vc : Nat), CallsIn Fence.wide 4 Tryz.prog 55 #[.slice va vn vc, .int .i64 23] W fun e w' => e = .returned (.func (.func 115) #[] #[.pointer (some ⟨W.heap.size, 0, none⟩), .pointer (some ⟨W.heap.size + 1, 0, none⟩)]) /\
   w' = (W.alloc (.cells #[.slice va vn vc] 113)).alloc (.cells #[.int .i64 23] 3)) := fun W va vn vc => callsIn_wide.2 (chunk_any va vn vc W)
 have H2 := hide h2
 have HB2 := hide b2
 have X2 := hide (And.intro x2 r2)
 have HH := hide h
 have HKS := hide hks
 have HQ := hide hq
 have HO := hide ho
 clear h2 b2 x2 r2 h hks hkn hms hq hkc hmax ho
 refine (callsIn_wide (n := 5)).1 ?_
 refine callsIn_of_wp_marks Tryz.func16 rfl trivial ?_ rfl
 simp only [Tryz.ntmps16, List.size_toArray, List.length_cons, List.length_nil, Nat.reduceAdd, Nat.reduceSub, Array.replicate_succ, Array.replicate_zero, List.push_toArray, List.append_toArray, List.nil_append, List.cons_append]
 gi_wp2_with fail
 refine ⟨trivial, ?_⟩
 gi_at_call 56
 refine cM.out.mono ?_
 rintro e w3 ⟨va, vn, vc, rfl, hrow, b3⟩
 obtain ⟨hvn, hgo⟩ := hrow.open_
 obtain ⟨g, hg⟩ : ∃ g, 0 < ms.length -> va = some ⟨g, 0, none⟩ /\ vn <= vc := by
  by_cases h0 : 0 < ms.length
  ·obtain ⟨g, h1, _, _, h4⟩ := hgo h0
   exact ⟨g, fun _ => ⟨h1, h4⟩⟩
  ·exact ⟨0, fun h => absurd h h0⟩
 subst hvn
 gi_wp2_with fail
 refine ⟨trivial, ?_⟩
 gi_at_call 55
 refine (cC.out _ _ _ _).mono ?_
 rintro e w' ⟨rfl, rfl⟩
 gi_wp2_with fail
 obtain ⟨w4, hw4⟩ : ∃ w4, (w3.alloc (.cells #[.slice va ms.length vc] 113)).alloc (.cells #[.int .i64 23] 3) = w4 := ⟨_, rfl⟩
 have s4 : Blk w4 w3.heap.size [.slice va ms.length vc] 113 := by rw [<- hw4]; exact (Blk.new w3 [.slice va ms.length vc] 113).alloc _
 have n4 : Blk w4 (w3.heap.size + 1) [.int .i64 23] 3 := by
  have := Blk.new (w3.alloc (.cells #[.slice va ms.length vc] 113)) [.int .i64 23] 3
  rw [nblk_alloc, hw4] at this
  exact this
 have b4 : Below w3.heap.size w3 w4 := by rw [<- hw4]; exact ((Below.refl _ _).alloc (Nat.le_refl _) _).alloc (by simp) _
 have hsz4 : w4.heap.size = w3.heap.size + 2 := by rw [<- hw4]; simp
 have hsz3 := b3.size
 have h4 := (H2.out.below b3).below b4
 have hrow4 : MRow w4 (w.heap.size + 2) (.slice va ms.length vc) ms := (hrow.keep (fun q hq => b4.block q (hrow.lt q hq).2)).mono (by omega)
 have bb : RmB w0 w w4.heap.size x j m G l ml v5 v6 v7 T (.slice va ms.length vc) := ⟨HH.out.lt, by omega, HH.out.bu.bel.size, fun q hq => by have := (hrow.lt q hq).2; omega⟩
 have b34 : Below w.heap.size w w4 := (HB2.out.trans (b3.mono (by omega))).trans (b4.mono (by omega))
 have I0 : RmI w0 w w4.heap.size x d E j m nj J s first n S f bs G l ml v5 v6 v7 T jf jp u ms (.slice va ms.length vc) [] w4 :=
  ⟨⟨S, G, nj, by rw [addL_nil]; exact h4, by simp, rfl, rfl, fun q hq => .inl hq⟩, HO.out.le, Keep.of_below b34, Nat.le_refl _,
   (X2.out.1.same (b3.block _ X2.out.1.lt)).same (b4.block _ (Nat.lt_of_lt_of_le X2.out.1.lt hsz3)), (X2.out.2.same (b3.block _ X2.out.2.lt)).same (b4.block _ (Nat.lt_of_lt_of_le X2.out.2.lt hsz3)), hrow4⟩
 simp only [hw4]
 have HW4 := hide hw4
 clear cM cC hw4 h4 hrow4 H2 HB2 X2 HKS b34
 refine range_but rfl (by omega) (gf := 115) (lb := #[.pointer (some ⟨w3.heap.size, 0, none⟩), .pointer (some ⟨w3.heap.size + 1, 0, none⟩)]) rfl trivial (enters_of Tryz.func115 (by kernel_rfl) rfl)
  (chunk_near (5 - 1) (by omega) w3.heap.size (w3.heap.size + 1) g ms.length vc (chN ms.length) va (fun h => (hg h).1) rfl (by omega) (fun h => (hg h).2) w4 (s4.cell (i := 0) rfl) (n4.cell (i := 0) rfl))
  (fun h k => KpC.t h k) (KpC.b (by omega) (by omega)) (Below.refl _ _) (fun _ => rfl)
  (fun pre W => RmI w0 w w4.heap.size x d E j m nj J s first n S f bs G l ml v5 v6 v7 T jf jp u ms (.slice va ms.length vc) (pre.map (fun i => ckM ms i.val)) W)
  (fun pre W => (∃ k, k < pre.length /\ u + k = jp) /\ RmX w0 w w4.heap.size x d E j m J s first n S f bs G l ml v5 v6 v7 T jf jp u W)
  (RmI.own bb (by omega)) (fun pre A A' row hs hg' hr => ⟨hs.1, RmX.own (α := Nat) bb [] A A' row hs.2 hg' hr⟩)
  (fun o => RmI.turn (I0.turn bb (Keep.of_below ((Below.refl _ _).alloc (Nat.le_refl _) _)) (.inl rfl)) bb (N := (w4.alloc (.deferred (some []))).heap.size) (Keep.of_below ((Below.refl _ _).alloc (Nat.le_refl _) _)) (.inl rfl))
  (fun i => { tmps := #[.pointer (some ⟨x, 0, none⟩), .slice a kn kc, .pointer (some ⟨w.heap.size, 0, none⟩), undef, .pointer (some ⟨w.heap.size + 1, 0, none⟩), chV g ms.length i.val, undef, .pointer (some ⟨x, 0, none⟩), .slice a kn kc, .slice va ms.length vc, .func (.func 115) #[] #[.pointer (some ⟨w3.heap.size, 0, none⟩), .pointer (some ⟨w3.heap.size + 1, 0, none⟩)], chV g ms.length i.val, undef, undef, undef, undef, undef, undef, undef, undef, undef, undef, undef, undef, undef, undef], defers := [] }) ?assign ?body ?done ?stop
 case assign =>
  intro l x W K hK
  gi_wp2
  exact hK
 case body =>
  rintro l0 pre i W hI hp ⟨o1, d1, d2⟩ ⟨o2, d3, d4⟩
  have hlt : 23 * i.val < ms.length := by have := i.isLt; unfold chN at this; omega
  have hcn : 23 * chN ms.length <= 30022 := by unfold chN; omega
  have c0 := hI.box.cell (i := 0) rfl
  obtain ⟨_, _, _, he, _⟩ := hI.en
  have c1 := he.box.cell (i := 10) rfl
  have hLl : (pre.map (fun i => ckM ms i.val)).length = pre.length := List.length_map _
  have hW1 : w4.heap.size + 1 < W.heap.size := (Array.getElem?_eq_some_iff.1 d3).1
  by_cases hroom : u + pre.length < jp
  ·have cA : CallsIn Fence.wide 2 Tryz.prog 57 _ W _ := callsIn_wide.2 (rm_step (sb := w3.heap.size) (nb := w3.heap.size + 1) hI bb HO.out (by rw [hLl]; omega) hfp hgen hl (by rw [hLl]; omega) g _ _ (by rw [(hg (by omega)).1]) hfits hlt ⟨by omega, by omega⟩ ⟨by omega, by omega⟩)
   have CA := hide cA
   have HD := hide (And.intro d1 (And.intro d2 (And.intro d3 d4)))
   clear cA he hI I0 bb hfits b3 b4 s4 n4 hrow d1 d2 d3 d4
   generalize chV g ms.length i.val = cv at *
   gi_wp2_with fail
   refine ⟨trivial, ?_⟩
   gi_at_call 57
   refine CA.out.mono ?_
   rintro e W5 ⟨rfl, g1, g2, g3⟩
   gi_wp2
   refine ⟨g2 _ _ (Nat.le_refl _) HD.out.1 HD.out.2.1, g2 _ _ (by omega) HD.out.2.2.1 HD.out.2.2.2, g3, ?_⟩
   simp only [List.map_append, List.map_cons, List.map_nil]; exact g1
  ·have hfull : u + pre.length = jp := by have := hI.most; rw [hLl] at this; omega
   have cA : CallsIn Fence.wide 2 Tryz.prog 57 _ W _ := callsIn_wide.2 (rm_full hI bb HO.out (by rw [hLl]; exact hfull) hl g hlt)
   have CA := hide cA
   have HD := hide (And.intro d1 (And.intro d2 (And.intro d3 d4)))
   have HBB := hide bb
   have cW : Hid (∀ V, RmI w0 w w4.heap.size x d E j m nj J s first n S f bs G l ml v5 v6 v7 T jf jp u ms (.slice va ms.length vc) (pre.map (fun i => ckM ms i.val)) V -> W.heap.size <= V.heap.size -> CallsIn Fence.wide 2 Tryz.prog 28 #[.pointer (some ⟨x, 0, none⟩)] V fun e W' => e = .returned (.int .i64 0) /\ RmX w0 w w4.heap.size x d E j m J s first n S f bs G l ml v5 v6 v7 T jf jp u W' /\ ∀ q (o : Obj), w4.heap.size <= q -> V.heap[q]? = some o -> o.isCells = false -> W'.heap[q]? = V.heap[q]?) := fun V hV hs => callsIn_wide.2 (rm_wipe hV bb (by rw [hLl]; exact hfull) hlE h22 HQ.out hf hla (by omega))
   clear cA he hI I0 bb hfits b3 b4 s4 n4 hrow d1 d2 d3 d4
   generalize chV g ms.length i.val = cv at *
   gi_wp2_with fail
   refine ⟨trivial, ?_⟩
   gi_at_call 57
   refine CA.out.mono ?_
   rintro e W5 ⟨rfl, g1, g2, g3⟩
   have c5 := g1.box.cell (i := 0) rfl
   have cX := hide (cW.out W5 g1 g2)
   have HG1 := hide (And.intro g1 g3)
   clear g1 g2 g3 CA cW c0 c1
   gi_wp2_with fail
   refine ⟨trivial, ?_⟩
   gi_at_call 28
   refine cX.out.mono ?_
   rintro e W6 ⟨rfl, g4, g5⟩
   have r0 := g4.res.cell (i := 0) rfl
   have r1 := g4.res.frozen 0
   have HG4 := hide (And.intro g4 g5)
   clear g4 g5 cX
   gi_wp2
   obtain ⟨d1, d2, d3, d4⟩ := HD.out
   have e1 := HG1.out.2 _ _ (Nat.le_refl _) d1 d2
   have e2 := HG1.out.2 _ _ (by omega) d3 d4
   have e3 := HG4.out.2 _ _ (Nat.le_refl _) (e1.trans d1) d2
   have e4 := HG4.out.2 _ _ (by omega) (e2.trans d3) d4
   have hle := HBB.out.le
   refine ⟨(blk_setCell_other _ _ _ _ (show w4.heap.size ≠ w.heap.size + 1 by omega)).trans (e3.trans e1), (blk_setCell_other _ _ _ _ (show w4.heap.size + 1 ≠ w.heap.size + 1 by omega)).trans (e4.trans e2), ⟨pre.length, by simp, hfull⟩, HG4.out.1.set0 HBB.out⟩
 case done =>
  rintro ys W rfl hI hK
  have r0 := hI.res.cell (i := 0) rfl
  have r1 := hI.res.frozen 0
  have hmost := hI.most
  rw [List.length_map, uptoF_length (Nat.le_refl _)] at hmost
  have G0 := hide hI
  have HBB := hide bb
  clear hI I0 bb hfits b3 b4 s4 n4 hrow
  gi_wp2
  have hK' := (KeepsOthers.setCell W ⟨w.heap.size + 1, 0, none⟩ (.int .i64 0)).same w4.heap.size _ hK rfl
  refine ⟨by simp, .inl ⟨_, _, rfl, run_takeDeferred hK', ?_⟩⟩
  have hc5 := cell_kept (World.cell?_setCell_same' W ⟨w.heap.size + 1, 0, none⟩ (.int .i64 0) (by rw [r0]; rfl)) (grownBy_putObj' _ w4.heap.size (.deferred none)) (fun r e => by cases e; exact ⟨_, hK', rfl⟩)
  refine ⟨.int .i64 0, ?_, hR1.out _ ⟨hmost, ?_⟩⟩
  ·simp [results, Tryz.f16, go_sem, hc5]
  ·have I1 := (G0.out.set0 HBB.out).turn HBB.out ((Keep.refl [w4.heap.size] _).grown (grownBy_putObj' _ w4.heap.size (.deferred none)) (fun k e => by cases e; exact .inl (by simp))) (.inr ⟨Nat.le_refl _, _, hK', rfl⟩)
   rw [uptoF_rows (ckM ms) _ (Nat.le_refl _)] at I1
   obtain ⟨S', G', n', he, hn', hcs, hlo, hG'⟩ := I1.en
   refine ⟨S', G', n', he, ?_, hcs, hlo, I1.keep, fun q hq => ?_⟩
   ·simpa using hn'
   ·rcases hG' q hq with h1 | h1
    ·exact .inl h1
    ·exact .inr (by have := HBB.out.le; omega)
 case stop =>
  rintro pre W hpre ⟨⟨k, hk1, hk2⟩, hX⟩ hK
  have hfew : jp < u + chN ms.length := by
   obtain ⟨k2, hk3, rfl⟩ := hpre
   rw [uptoF_length hk3] at hk1; omega
  have r0 := hX.res.cell (i := 0) rfl
  have G0 := hide hX
  have HBB := hide bb
  clear hX I0 bb hfits b3 b4 s4 n4 hrow
  gi_wp2
  refine ⟨by simp, .inl ⟨_, _, rfl, run_takeDeferred hK, ?_⟩⟩
  have hc5 := cell_kept r0 (grownBy_putObj' _ w4.heap.size (.deferred none)) (fun r e => by cases e; exact ⟨_, hK, rfl⟩)
  refine ⟨.int .i64 0, ?_, hR2.out _ ⟨hfew, ?_⟩⟩
  ·simp [results, Tryz.f16, go_sem, hc5]
  ·have I1 := G0.out.turn HBB.out ((Keep.refl [w4.heap.size] _).grown (grownBy_putObj' _ w4.heap.size (.deferred none)) (fun k e => by cases e; exact .inl (by simp))) (.inr ⟨Nat.le_refl _, by omega, _, hK, rfl⟩)
   obtain ⟨L, S1, G', m', n', hL, hcs, hlo, he, hG', hm'⟩ := I1.en
   have hle := HBB.out.le
   refine ⟨L, S1, G', m', n', hL, hcs, hlo, he, I1.keep, fun q hq => ?_, ?_⟩
   ·rcases hG' q hq with h1 | h1
    ·exact .inl h1
    ·exact .inr (by omega)
   ·rcases hm' with h1 | h1
    ·exact .inl h1
    ·exact .inr (by omega)
end
end Go.Proofs.YtcdghalnneilpaaGreat
namespace Go.Proofs.YtcdghalnneilpaaGreat
open Go.RowKit Go.Deep Math
theorem csL_cons (cs : List Cl) (q g : Nat) (xs : List Mk) (L : List (List Mk)) : csL cs q g (xs :: L) = csL ((putAt cs q (.whole (pgOf g xs))).map Cl.flush) (q + 1) g L := rfl
theorem csL_other (g : Nat) : ∀ (L : List (List Mk)) (cs : List Cl) (q j : Nat), (j < q \/ q + L.length <= j) -> ((csL cs q g L)[j]?).map (·.now) = (cs[j]?).map (·.now)
 | [], _, _, _, _ => rfl
 | xs :: L, cs, q, j, h => by
  rw [List.length_cons] at h
  rw [csL_cons, csL_other g L _ (q + 1) j (by omega), flush_get, putAt_get, if_neg (by omega)]
theorem begun_addL (J : Jr) (L : List (List Mk)) (g : Nat) : (J.addL L).begun g = J.begun g := by
 have s2 := keeps_same L.flatten J
 apply Jr.ext'
 ·exact s2.1
 ·exact s2.2.1
 ·exact s2.2.2.1
 ·rfl
 ·rfl
 ·rfl
theorem slotB_pg2 (S : Dv) (k : Nat) : S.slotB k = match S.pg k with | some p => pgBk p | none => none := by
 unfold Dv.slotB Dv.pg
 cases S.cs[k]? <;> rfl
theorem lastSeq_pg {S S1 : Dv} (h0 : S1.pg 0 = S.pg 0) (h1 : S1.pg 1 = S.pg 1) : S1.lastSeq = S.lastSeq := by
 unfold Dv.lastSeq Dv.loadB
 rw [slotB_pg2, slotB_pg2, slotB_pg2, slotB_pg2, h0, h1]
theorem lastSeq_csL {S S1 : Dv} {q g : Nat} {L : List (List Mk)} (hc : S1.cs = csL S.cs q g L) (hq : 2 <= q) : S1.lastSeq = S.lastSeq := by
 refine lastSeq_pg ?_ ?_
 ·unfold Dv.pg; rw [hc]; exact csL_other g L _ q 0 (by omega)
 ·unfold Dv.pg; rw [hc]; exact csL_other g L _ q 1 (by omega)
theorem lastSeq_far {first n : Nat} {S S1 : Dv} (h : Dv.far first n S S1) (h2 : 2 <= first) : S1.lastSeq = S.lastSeq := lastSeq_pg (h.pg 0 (by omega)) (h.pg 1 (by omega))
def sqO (a : Option Sb) : Nat := match a with
 | some x => x.seq
 | none => 0
theorem lastS_max (a b : Option Sb) : lastS a b = max (sqO a) (sqO b) := by
 cases a with
 | none =>
  cases b with
  | none => rfl
  | some y => show y.seq = max 0 y.seq; omega
 | some x =>
  cases b with
  | none => show x.seq = max x.seq 0; omega
  | some y =>
   have e : newer (some x) (some y) = if x.seq < y.seq then some y else some x := rfl
   unfold lastS
   rw [e]
   show _ = max x.seq y.seq
   by_cases h : x.seq < y.seq
   ·rw [if_pos h]; show y.seq = _; omega
   ·rw [if_neg h]; show x.seq = _; omega
theorem lastSeq_store {S : Dv} (hS : Sure S) (h2 : 2 <= S.cs.length) (hl : S.lastSeq ≠ 18446744073709551615) (x : Sb) (hf : x.fits) : (S.storeDo x).lastSeq = S.lastSeq + 1 := by
 have h : Two S (S.slotB 0) (S.slotB 1) := ⟨h2, hS.off, rfl, rfl⟩
 have k := (h.store x hf (by rw [<- h.lastSeq]; exact hl) (by rw [hS.armed]; decide) (by rw [hS.armed]; decide)).2.2.2.1
 rw [k.lastSeq, h.lastSeq]
 generalize S.slotB 0 = a at *
 generalize S.slotB 1 = b at *
 obtain ⟨N, hN⟩ : ∃ N, N = nxt a b x := ⟨_, rfl⟩
 have e : N.seq = lastS a b + 1 := by rw [hN]; rfl
 rw [<- hN]
 rcases Nat.mod_two_eq_zero_or_one N.seq with h0 | h0
 ·rw [if_pos h0, if_neg (by omega)]
  rw [lastS_max] at e ⊢
  rw [lastS_max]
  show max N.seq (sqO b) = _
  omega
 ·rw [if_neg (by omega), if_pos h0]
  rw [lastS_max] at e ⊢
  rw [lastS_max]
  show max (sqO a) N.seq = _
  omega
section
variable {w0 w w' : World} {x d : Nat} {E : En} {j m nj : Nat} {J : Jr} {s first n : Nat} {S S' : Dv} {f : Nat -> List It} {bs : List (List Bool)} {G : List Nat} {l ml : Nat} {v5 v6 v7 : Value} {T : Lg}
theorem remove_calm (h : EnAt w0 w x d E j m nj J s first n S f bs G l ml v5 v6 v7 T) (a : Option Addr) (kn kc : Nat) (ks : List (List UInt8)) (hks : KeysAt w a ks) (hkn : kn = ks.length) (hkc : kn <= kc) (hmax : kn <= 30000) (hla : E.last < 18446744073709551616) (ms : List Mk) (hms : ms = mksTo (mayF bs n T) E.last ks kn)
  (jf jp u : Nat) (ho : J.ok S jf jp u) (hjf : 2 <= jf) (hfp : jf + jp <= first) (hgen : J.gen < 18446744073709551616) (hl : S.losses = J.losses) (hlE : S.losses = E.losses) (hn : nj < 800000) (hq : S.lastSeq ≠ 18446744073709551615) (hf : E.b.fits) :
  Calls Tryz.prog 16 #[.pointer (some ⟨x, 0, none⟩), .slice a kn kc] w fun e w' => e = .returned (.int .i64 0) /\
   ((u + chN ms.length <= jp /\ ∃ S' G' n', EnAt w0 w' x d E j m n' (J.addL (ckAll ms)) s first n S' f bs G' l ml v5 v6 v7 T /\ n' <= nj + 23 * chN ms.length /\ S'.cs = csL S.cs (jf + u) J.gen (ckAll ms) /\ S'.losses = S.losses /\ Keep (j :: m :: G) w w' /\ ∀ q ∈ G', q ∈ G \/ w.heap.size <= q) \/
    (jp < u + chN ms.length /\ ∃ (L : List (List Mk)) (S1 : Dv) (G' : List Nat) (m' n' : Nat), u + L.length = jp /\ S1.cs = csL S.cs (jf + u) J.gen L /\ S1.losses = S.losses /\ S1.lastSeq = S.lastSeq /\ EnAt w0 w' x d { E with b := S.nextB E.wiped } j m' n' (J.begun E.wiped.gen) s first n (S1.storeDo E.wiped) f bs G' l ml v5 v6 v7 T /\ Keep (x :: j :: m :: G) w w' /\ (∀ q ∈ G', q ∈ G \/ w.heap.size <= q) /\ (m' = m \/ w.heap.size <= m'))) :=
 remove_by h a kn kc ks hks hkn hkc hmax hla ms hms jf jp u ho hfp hgen hl hlE hn (by omega) (fun L S1 hc => by rw [lastSeq_csL hc (by omega)]; exact hq) hf _ (fun w' h => ⟨rfl, .inl h⟩) (fun w' h => by
  obtain ⟨h1, L, S1, G', m', n', h2, h3, h4, h5, h6⟩ := h
  have e := lastSeq_csL h3 (by omega)
  have e2 : S1.nextB E.wiped = S.nextB E.wiped := by unfold Dv.nextB; rw [e]
  rw [begun_addL, e2] at h5
  exact ⟨rfl, .inr ⟨h1, L, S1, G', m', n', h2, h3, h4, e, h5, h6⟩⟩)
end
theorem fresh_its (n k : Nat) : (Dv.fresh n).its k = [] := by
 unfold Dv.its
 cases h : (Dv.fresh n).cs[k]? with
 | none => rfl
 | some c => rw [fresh_get n k h]; rfl
theorem fresh_opF (n first : Nat) : opF (Dv.fresh n) first = fun _ => [] := funext fun k => fresh_its n _
theorem fresh_opB (n first gb : Nat) : opB (Dv.fresh n) first gb = List.replicate gb (toldB []) := by
 unfold opB
 rw [List.eq_replicate_iff]
 refine ⟨by simp, fun b hb => ?_⟩
 obtain ⟨k, _, rfl⟩ := List.mem_map.1 hb
 rw [fresh_its]
theorem fresh_loadV (n : Nat) (h : 2 <= n) : (Dv.fresh n).loadV = bkV Sb.zero 5 := (Two.fresh n h).loadV
theorem fresh_lastSeq (n : Nat) (h : 2 <= n) : (Dv.fresh n).lastSeq = 0 := (Two.fresh n h).lastSeq
theorem fresh_openJ (n first pages gen : Nat) : openJ (Dv.fresh n) first pages gen = ⟨0, first, pages, 0, gen, fun _ => none⟩ := by
 have e : scanP gen ((Dv.fresh n).pgs first pages) = [] := by
  unfold Dv.pgs
  cases h : (((Dv.fresh n).cs.drop first).take pages) with
  | nil => rfl
  | cons c r =>
   have hc : (Dv.fresh n).cs[first]? = some c := by
    have h0 : (((Dv.fresh n).cs.drop first).take pages)[0]? = some c := by rw [h]; rfl
    rw [List.getElem?_take] at h0
    split at h0
    ·rw [List.getElem?_drop] at h0; exact h0
    ·cases h0
   rw [List.map_cons, fresh_get n first hc]
   rfl
 unfold openJ
 rw [e]
 rfl
theorem fresh_T {n first regions : Nat} {T : Lg} (h : OpT (Dv.fresh n) first regions T) : T.regs = [] /\ T.opn = [] /\ T.num = 0 /\ T.losses = 0 /\ T.first = first /\ T.regions = regions := by
 obtain ⟨rs, h1, h2⟩ := h.regs
 rw [(fresh_cnts n first regions).1] at h1
 have : rs = [] := List.map_eq_nil_iff.1 h1
 subst this
 exact ⟨h2, h.opn, by rw [h.num]; exact (fresh_cnts n first regions).2, h.losses, h.first', h.regions'⟩
end Go.Proofs.YtcdghalnneilpaaGreat
