/- Joined texts. -/
import Derived.Laws.StructEq
import Derived.Maps.AppendAt
import Derived.LaidEqlPtr
import Derived.Test.YtcdghalnneilpaaGreatK06
set_option linter.unusedVariables false
set_option linter.unusedSimpArgs false
set_option maxRecDepth 8000
set_option maxHeartbeats 8000000
namespace Go.Proofs.YtcdghalnneilpaaGreat
open Go.RowKit Go.Deep Math
theorem buf_full {w : World} {g r : Nat} {l : List UInt8} (h : Buf w g l r) : Buf w g (l ++ List.replicate r 0) 0 := by
 unfold Buf at *
 rw [bCells_append, show bCells (List.replicate r 0) = zc r by simp [bCells, zc], show zc 0 = [] from rfl, List.append_nil]
 exact h
theorem buf_bs {w : World} {g : Nat} {l : List UInt8} {n cap : Nat} (h : Buf w g l 0) (hn : n = l.length) (hc : n <= cap) : BS w (some ⟨g, 0, none⟩) n cap l :=
 BS.mk' hn hc (by have := h.reads 0; rwa [List.drop_zero] at this)
theorem lst_all : ∀ (n : Nat) (b : List UInt8) (xs : List It), b.length <= n -> lst b = some xs -> total xs <= b.length /\ ∀ x ∈ xs, x.fits /\ x.good = true := by
 intro n
 induction n with
 | zero =>
  intro b xs hb h
  have : b = [] := List.eq_nil_of_length_eq_zero (by omega)
  subst this
  rw [lst_none (by simp [take, ended])] at h
  simp at h
  subst h
  simp [total]
 | succ n ih =>
  intro b xs hb h
  rcases hT : take b with ⟨_ | _ | ⟨x, k⟩⟩
  ·rw [lst_none hT] at h
   simp at h
   subst h
   simp [total]
  ·rw [lst_bad hT] at h; cases h
  ·
   obtain ⟨t1, t2, t3, t4, t5⟩ := take_ok hT
   rw [lst_ok hT] at h
   cases hl : lst (b.drop k) with
   | none => rw [hl] at h; simp at h
   | some ys =>
    rw [hl] at h
    simp at h
    subst h
    have hp := x.size_pos
    obtain ⟨i1, i2⟩ := ih (b.drop k) ys (by rw [List.length_drop]; omega) hl
    rw [List.length_drop] at i1
    refine ⟨by simp only [total]; omega, fun y hy => ?_⟩
    rcases List.mem_cons.1 hy with rfl | hy
    ·exact ⟨t1, t2⟩
    ·exact i2 y hy
def lsO (b : List UInt8) : List It := (lst b).getD []
theorem lsO_all (b : List UInt8) : total (lsO b) <= b.length /\ ∀ x ∈ lsO b, x.fits /\ x.good = true := by
 unfold lsO
 cases h : lst b with
 | none => simp [total]
 | some xs => exact lst_all b.length b xs (Nat.le_refl _) h
theorem good_sizes {x : It} (h : x.good = true) : x.key.length <= 250 /\ x.value.length <= 1024 := by
 have := (It.good_iff x).1 h
 exact ⟨this.2.1, this.2.2.1⟩
theorem total_len : ∀ xs : List It, xs.length * 32 <= total xs
 | [] => by simp [total]
 | x :: r => by have := total_len r; simp only [total, List.length_cons, It.size]; omega
end Go.Proofs.YtcdghalnneilpaaGreat
set_option maxRecDepth 100000
namespace Go.Proofs.YtcdghalnneilpaaGreat
open Go.RowKit Go.Deep Go.ChangeShapes Go.WideShapes Math
end Go.Proofs.YtcdghalnneilpaaGreat
set_option maxRecDepth 100000
namespace Go.Proofs.YtcdghalnneilpaaGreat
open Go.RowKit Go.Deep Math
def itEq (x y : It) : Bool := decide (x.key = y.key) && (decide (x.value = y.value) && (decide (x.flags = y.flags) && (decide (x.exp = y.exp) && decide (x.ver = y.ver))))
theorem txt_list (l : List UInt8) : (txt l).toList = l := by
 unfold txt
 simp [ByteArray.toList_eq]
theorem run_eql_items (x y : It) (W : World) : (binOp .eql 39 x.val y.val).run Tryz.prog W = .ok (.bool (itEq x y)) W := by
 unfold itEq
 unfold It.val itV
 have i2 : (((x.flags : Nat) : Int) = ((y.flags : Nat) : Int)) = (x.flags = y.flags) := propext Int.ofNat_inj
 have i4 : (((x.ver : Nat) : Int) = ((y.ver : Nat) : Int)) = (x.ver = y.ver) := propext Int.ofNat_inj
 simp [go_sem, txt_list, i2, i4]
 by_cases h0 : x.key = y.key <;> by_cases h1 : x.value = y.value <;> by_cases h2 : x.flags = y.flags <;> by_cases h3 : x.exp = y.exp <;> by_cases h4 : x.ver = y.ver <;> simp [h0, h1, h2, h3, h4]
end Go.Proofs.YtcdghalnneilpaaGreat
namespace Go.Proofs.YtcdghalnneilpaaGreat
open Go.RowKit Go.Deep Math
theorem its_blk {w : World} {g n : Nat} {xs : List It} {pad : List Value} (h : Blk w g (itsCells xs ++ pad) 39) (hn : n = xs.length) (hs : ∀ x ∈ xs, x.fits /\ x.key.length <= 140737488351232 /\ x.value.length <= 140737488351232) : ItsAt w (some ⟨g, 0, none⟩) n xs := by
 refine ⟨hn, hs, fun i x hx => ⟨g, 0, rfl, h.lt, ?_⟩⟩
 obtain ⟨A, B, rfl, hA⟩ : ∃ A B, xs = A ++ x :: B /\ A.length = i := by
  obtain ⟨hi, he⟩ := List.getElem?_eq_some_iff.1 hx
  refine ⟨xs.take i, xs.drop (i + 1), ?_, by simp; omega⟩
  rw [<- he, <- List.drop_eq_getElem_cons hi, List.take_append_drop]
 have key : ∀ j v, j < 5 -> (itCells x)[j]? = some v -> w.cell? ⟨g, 0 + i * 5 + j, none⟩ = some v := fun j v hj hv => by
  rw [Nat.zero_add]
  refine h.cell ?_
  rw [<- hA, <- hv]
  exact flat_getP itCells 5 (fun _ => rfl) A x B pad j hj
 exact ⟨key 0 _ (by omega) rfl, key 1 _ (by omega) rfl, key 2 _ (by omega) rfl, key 3 _ (by omega) rfl, key 4 _ (by omega) rfl⟩
def Oks (xs : List It) : Prop := ∀ x ∈ xs, x.fits /\ x.key.length <= 140737488351232 /\ x.value.length <= 140737488351232
def Row (w : World) (base : Nat) (v : Value) (xs : List It) : Prop := w.ownsRow base 39 5 v xs.length (itsCells xs)
theorem Row.nil (w : World) (base : Nat) : Row w base (.slice none 0 0) [] := World.ownsRow_nil _ _ _ _
theorem Row.form {w : World} {base : Nat} {v : Value} {xs : List It} (h : Row w base v xs) : (v = .slice none 0 0 /\ xs = []) \/ ∃ g cap pad, v = .slice (some ⟨g, 0, none⟩) xs.length cap /\ base <= g /\ Blk w g (itsCells xs ++ pad) 39 /\ xs.length <= cap /\ cap <= maxLen /\ (itsCells xs ++ pad).length = cap * 5 := by
 rcases h.2 with ⟨hv, h0⟩ | ⟨g, cap, cur, hv, hb, hh, hc, hm, hs, ht⟩
 ·exact .inl ⟨hv, List.eq_nil_of_length_eq_zero h0⟩
 ·have e : itsCells xs ++ cur.toList.drop (xs.length * 5) = cur.toList := by rw [<- ht, List.take_append_drop]
  refine .inr ⟨g, cap, cur.toList.drop (xs.length * 5), hv, hb, ?_, hc, hm, by rw [e]; simpa using hs⟩
  unfold Blk
  rw [e]
  simpa using hh
theorem Row.of {w : World} {base g cap : Nat} {xs : List It} {pad : List Value} (hb : base <= g) (h : Blk w g (itsCells xs ++ pad) 39) (hc : xs.length <= cap) (hm : cap <= maxLen) (hl : (itsCells xs ++ pad).length = cap * 5) : Row w base (.slice (some ⟨g, 0, none⟩) xs.length cap) xs := by
 refine ⟨itsCells_length xs, .inr ⟨g, cap, (itsCells xs ++ pad).toArray, rfl, hb, h, hc, hm, by simpa using hl, ?_⟩⟩
 rw [List.toList_toArray, <- itsCells_length xs]
 simp
theorem Row.its {w : World} {base : Nat} {v : Value} {xs : List It} (h : Row w base v xs) (ho : Oks xs) : ∃ a cap, v = .slice a xs.length cap /\ ItsAt w a xs.length xs /\ (∀ q, v.ownBlock = some q -> a = some ⟨q, 0, none⟩) /\ xs.length <= cap /\ cap <= maxLen := by
 rcases h.form with ⟨rfl, rfl⟩ | ⟨g, cap, pad, rfl, hb, hh, hc, hm, hl⟩
 ·exact ⟨none, 0, rfl, ⟨rfl, ho, fun i x hx => by simp at hx⟩, fun q hq => by simp [Value.ownBlock] at hq, by simp, by simp⟩
 ·exact ⟨_, cap, rfl, its_blk hh rfl ho, fun q hq => by simp [Value.ownBlock] at hq; rw [hq], hc, hm⟩
theorem Row.keep {w w' : World} {base : Nat} {v : Value} {xs : List It} (h : Row w base v xs) (k : ∀ q, v.ownBlock = some q -> w'.heap[q]? = w.heap[q]?) : Row w' base v xs := by
 refine ⟨h.1, ?_⟩
 rcases h.2 with h2 | ⟨g, cap, cur, hv, hg, hh, r⟩
 ·exact .inl h2
 ·exact .inr ⟨g, cap, cur, hv, hg, by rw [k g (by rw [hv]; rfl)]; exact hh, r⟩
theorem Row.lt {w : World} {base : Nat} {v : Value} {xs : List It} (h : Row w base v xs) : ∀ q, v.ownBlock = some q -> base <= q /\ q < w.heap.size := by
 intro q hq
 rcases h.form with ⟨rfl, rfl⟩ | ⟨g, cap, pad, rfl, hb, hh, hc, hm, hl⟩
 ·simp [Value.ownBlock] at hq
 ·simp [Value.ownBlock] at hq; subst hq; exact ⟨hb, hh.lt⟩
theorem Row.below {w w' : World} {base : Nat} {v : Value} {xs : List It} (h : Row w base v xs) (b : Below w.heap.size w w') : Row w' base v xs := h.keep (fun q hq => b.block q (h.lt q hq).2)
theorem Row.mono {w : World} {base base' : Nat} {v : Value} {xs : List It} (h : Row w base v xs) (hb : base' <= base) : Row w base' v xs := by
 refine ⟨h.1, ?_⟩
 rcases h.2 with h2 | ⟨g, cap, cur, hv, hg, r⟩
 ·exact .inl h2
 ·exact .inr ⟨g, cap, cur, hv, Nat.le_trans hb hg, r⟩
theorem itsCells_append (xs ys : List It) : itsCells xs ++ itsCells ys = itsCells (xs ++ ys) := by simp [itsCells]
theorem its_one (xs : List It) : ∀ u ∈ itsCells xs, u.oneCell' = true := by
 intro u hu
 simp only [itsCells, List.mem_flatMap] at hu
 obtain ⟨x, _, hu⟩ := hu
 simp only [itCells, List.mem_cons, List.not_mem_nil, or_false] at hu
 rcases hu with rfl | rfl | rfl | rfl | rfl <;> rfl
theorem its_news {W : World} {b o len : Nat} {xs : List It} (h : ItsAt W (some ⟨b, o, none⟩) len xs) : ∀ (t : Nat) (u : Value), (itsCells xs)[t]? = some u -> W.cell? ((⟨b, o, none⟩ : Addr).add t) = some u := by
 intro t u hu
 have ht : t < xs.length * 5 := by rw [<- itsCells_length]; exact (List.getElem?_eq_some_iff.1 hu).1
 have hi : t / 5 < xs.length := by omega
 obtain ⟨x, hx⟩ : ∃ x, xs[t / 5]? = some x := ⟨_, List.getElem?_eq_getElem hi⟩
 obtain ⟨_, _, he, _, hc⟩ := h.cell (t / 5) x hx
 cases he
 obtain ⟨A, B, e, hA⟩ : ∃ A B, xs = A ++ x :: B /\ A.length = t / 5 := by
  obtain ⟨hi, he⟩ := List.getElem?_eq_some_iff.1 hx
  refine ⟨xs.take (t / 5), xs.drop (t / 5 + 1), ?_, by simp; omega⟩
  rw [<- he, <- List.drop_eq_getElem_cons hi, List.take_append_drop]
 have h5 : t % 5 < 5 := Nat.mod_lt _ (by decide)
 have et : t = A.length * 5 + t % 5 := by rw [hA]; omega
 have hv : (itCells x)[t % 5]? = some u := by
  rw [<- hu, e, et]
  have := flat_get itCells 5 (fun _ => rfl) A x B (t % 5) h5
  rw [show (A.length * 5 + t % 5) % 5 = t % 5 by omega]
  exact this.symm
 rw [Addr.add_lit, show o + t = o + t / 5 * 5 + t % 5 by omega]
 generalize t % 5 = k at hv h5
 match k, h5 with
 | 0, _ => simp [itCells] at hv; rw [<- hv]; exact hc.c0
 | 1, _ => simp [itCells] at hv; rw [<- hv]; exact hc.c1
 | 2, _ => simp [itCells] at hv; rw [<- hv]; exact hc.c2
 | 3, _ => simp [itCells] at hv; rw [<- hv]; exact hc.c3
 | 4, _ => simp [itCells] at hv; rw [<- hv]; exact hc.c4
theorem Row.sl {w : World} {base : Nat} {v : Value} {xs : List It} (h : Row w base v xs) : ∃ a c, v = .slice a xs.length c := by
 rcases h.form with ⟨rfl, rfl⟩ | ⟨g, cap, pad, rfl, _⟩
 ·exact ⟨none, 0, rfl⟩
 ·exact ⟨_, cap, rfl⟩
theorem app_gen {w : World} {base : Nat} {t e : TypeId} {i : TypeInfo} {z : Value} {sz bytes : Nat} (ht : Tryz.prog.underlying t = some (.slice e)) (hi : Tryz.prog.info? e = some i) (hz : i.zero = some z) (hsize : i.size = sz) (hby : i.bytes = bytes) (hzs : z.cells.size = sz) (hsz : 0 < sz)
  {v : Value} {n : Nat} {xs : List Value} (h : w.ownsRow base e sz v n xs) (news : List Value) (hl : news.length = sz) (h1 : ∀ u ∈ news, u.oneCell' = true) (hn : n + 1 <= 1048576) (hb8 : bytes <= 1000) (hb : base <= w.heap.size) :
  ∃ va vc w', (∀ ty, (Builtin.append_ #[t, t] ty #[v, .slice (some ⟨w.heap.size, 0, none⟩) 1 1]).run Tryz.prog (w.alloc (.cells news.toArray e)) = .ok (.slice va (n + 1) vc) w') /\
   w'.ownsRow base e sz (.slice va (n + 1) vc) (n + 1) (xs ++ news) /\ Keep (own v) w w' /\ (∀ q ∈ own (.slice va (n + 1) vc), q ∈ own v \/ w.heap.size <= q) /\ w.heap.size < w'.heap.size := by
 have b := (Below.refl w.heap.size w).alloc (Nat.le_refl _) (.cells news.toArray e)
 have hown : (w.alloc (.cells news.toArray e)).ownsRow base e sz v n xs := own_same h (fun q hq => by
  obtain ⟨c, hc⟩ := own_ty h hq
  exact b.block q (Array.getElem?_eq_some_iff.1 hc).1)
 have hnews : ∀ j u, news[j]? = some u -> (w.alloc (.cells news.toArray e)).cell? ((⟨w.heap.size, 0, none⟩ : Addr).add j) = some u := fun j u hu => by
  rw [Addr.add_lit, Nat.zero_add]
  exact (Blk.new w news e).cell hu
 have hbytes : (n + 1) * bytes <= 140737488355328 := Nat.le_trans (Nat.mul_le_mul hn hb8) (by decide)
 obtain ⟨v', w', hrun, ho, hg, hnil, hblk⟩ := run_append_own_at (P := Tryz.prog) (w.alloc (.cells news.toArray e)) base t 0 e i z sz bytes ht hi hz hsize hby hzs hsz v n xs hown ⟨w.heap.size, 0, none⟩ 1 1 news (by rw [hl, Nat.one_mul]) hnews h1 (by unfold maxLen; omega) hbytes (Nat.le_trans hb b.size)
 have hform : ∃ va vc, v' = .slice va (n + 1) vc := by
  rcases ho.2 with ⟨_, h0⟩ | ⟨g, cap, cur, hv, _⟩
  ·omega
  ·exact ⟨_, _, hv⟩
 obtain ⟨va, vc, rfl⟩ := hform
 have k1 : Keep (own v) w (w.alloc (.cells news.toArray e)) := Keep.of_below b
 refine ⟨va, vc, w', fun ty => hrun, ho, k1.grown hg (fun q hq => .inl (mem_own.2 hq)), fun q hq => ?_, ?_⟩
 ·rcases hblk with h2 | h2
  ·exact .inl (mem_own.2 (h2 ▸ mem_own.1 hq))
  ·have := mem_own.1 hq
   rw [h2] at this
   have e2 : (w.alloc (.cells news.toArray e)).heap.size = q := Option.some.inj this
   rw [nblk_alloc] at e2
   exact .inr (by omega)
 ·have := hg.size
  rw [nblk_alloc] at this
  omega
theorem infoPtr : (Tryz.prog.info? 211).map (fun i => (i.zero, i.size, i.bytes)) = some (some (.pointer none), 1, 8) := by kernel_rfl
theorem info68 : (Tryz.prog.info? 206).map (fun i => (i.zero, i.size, i.bytes)) = some (some (.agg #[.int .i64 0, .int .u64 0, .slice none 0 0]), 3, 40) := by kernel_rfl
theorem info82 : (Tryz.prog.info? 259).map (fun i => (i.zero, i.size, i.bytes)) = some (some (.agg #[.int .u8 0, .int .u64 0, .slice none 0 0]), 3, 40) := by kernel_rfl
theorem app_ptr {w : World} {base : Nat} {v : Value} {n : Nat} {xs : List Value} (h : w.ownsRow base 211 1 v n xs) (p : Value) (hp : p.oneCell' = true) (hn : n + 1 <= 1048576) (hb : base <= w.heap.size) :
  ∃ va vc w', (∀ ty, (Builtin.append_ #[199, 199] ty #[v, .slice (some ⟨w.heap.size, 0, none⟩) 1 1]).run Tryz.prog (w.alloc (.cells #[p] 211)) = .ok (.slice va (n + 1) vc) w') /\
   w'.ownsRow base 211 1 (.slice va (n + 1) vc) (n + 1) (xs ++ [p]) /\ Keep (own v) w w' /\ (∀ q ∈ own (.slice va (n + 1) vc), q ∈ own v \/ w.heap.size <= q) /\ w.heap.size < w'.heap.size := by
 obtain ⟨i0, hi0, hp0⟩ := Option.map_eq_some_iff.1 infoPtr
 simp only [Prod.mk.injEq] at hp0
 exact app_gen Tryz.underlying199 hi0 hp0.1 hp0.2.1 hp0.2.2 rfl (by decide) h [p] rfl (by simpa using hp) hn (by decide) hb
theorem app_rg {w : World} {base : Nat} {v : Value} {n : Nat} {xs : List Value} (h : w.ownsRow base 206 3 v n xs) (p0 p1 p2 : Value) (h0 : p0.oneCell' = true) (h1 : p1.oneCell' = true) (h2 : p2.oneCell' = true) (hn : n + 1 <= 1048576) (hb : base <= w.heap.size) :
  ∃ va vc w', (∀ ty, (Builtin.append_ #[198, 198] ty #[v, .slice (some ⟨w.heap.size, 0, none⟩) 1 1]).run Tryz.prog (w.alloc (.cells #[p0, p1, p2] 206)) = .ok (.slice va (n + 1) vc) w') /\
   w'.ownsRow base 206 3 (.slice va (n + 1) vc) (n + 1) (xs ++ [p0, p1, p2]) /\ Keep (own v) w w' /\ (∀ q ∈ own (.slice va (n + 1) vc), q ∈ own v \/ w.heap.size <= q) /\ w.heap.size < w'.heap.size := by
 obtain ⟨i0, hi0, hp0⟩ := Option.map_eq_some_iff.1 info68
 simp only [Prod.mk.injEq] at hp0
 exact app_gen Tryz.underlying198 hi0 hp0.1 hp0.2.1 hp0.2.2 rfl (by decide) h [p0, p1, p2] rfl (by simp [h0, h1, h2]) hn (by decide) hb
theorem app_pg {w : World} {base : Nat} {v : Value} {n : Nat} {xs : List Value} (h : w.ownsRow base 259 3 v n xs) (p0 p1 p2 : Value) (h0 : p0.oneCell' = true) (h1 : p1.oneCell' = true) (h2 : p2.oneCell' = true) (hn : n + 1 <= 1048576) (hb : base <= w.heap.size) :
  ∃ va vc w', (∀ ty, (Builtin.append_ #[257, 257] ty #[v, .slice (some ⟨w.heap.size, 0, none⟩) 1 1]).run Tryz.prog (w.alloc (.cells #[p0, p1, p2] 259)) = .ok (.slice va (n + 1) vc) w') /\
   w'.ownsRow base 259 3 (.slice va (n + 1) vc) (n + 1) (xs ++ [p0, p1, p2]) /\ Keep (own v) w w' /\ (∀ q ∈ own (.slice va (n + 1) vc), q ∈ own v \/ w.heap.size <= q) /\ w.heap.size < w'.heap.size := by
 obtain ⟨i0, hi0, hp0⟩ := Option.map_eq_some_iff.1 info82
 simp only [Prod.mk.injEq] at hp0
 exact app_gen Tryz.underlying257 hi0 hp0.1 hp0.2.1 hp0.2.2 rfl (by decide) h [p0, p1, p2] rfl (by simp [h0, h1, h2]) hn (by decide) hb
theorem app_it {w : World} {base : Nat} {v : Value} {xs : List It} (h : Row w base v xs) (x : It) (hn : xs.length + 1 <= 1048576) (hb : base <= w.heap.size) :
  ∃ va vc w', (∀ ty, (Builtin.append_ #[72, 72] ty #[v, .slice (some ⟨w.heap.size, 0, none⟩) 1 1]).run Tryz.prog (w.alloc (.cells #[.string (txt x.key), .string (txt x.value), .int .u32 x.flags, .int .i64 x.exp, .int .u64 x.ver] 39)) = .ok (.slice va (xs.length + 1) vc) w') /\
   Row w' base (.slice va (xs.length + 1) vc) (xs ++ [x]) /\ Keep (own v) w w' /\ (∀ q ∈ own (.slice va (xs.length + 1) vc), q ∈ own v \/ w.heap.size <= q) /\ w.heap.size < w'.heap.size := by
 obtain ⟨i0, hi0, hp0⟩ := Option.map_eq_some_iff.1 info30
 simp only [Prod.mk.injEq] at hp0
 obtain ⟨va, vc, w', h1, h2, h3, h4⟩ := app_gen Tryz.underlying72 hi0 hp0.1 hp0.2.1 hp0.2.2 rfl (by decide) h (itCells x) rfl (by simp [itCells]; exact ⟨rfl, rfl, rfl, rfl, rfl⟩) hn (by decide) hb
 refine ⟨va, vc, w', h1, ?_, h3, h4⟩
 unfold Row
 rw [List.length_append, <- itsCells_snoc]
 exact h2
theorem OneIt.vals {w : World} {b o : Nat} {x : It} (h : OneIt w b o x) : w.cell? ⟨b, o, none⟩ = some (.string (txt x.key)) /\ w.cell? ⟨b, o + 1, none⟩ = some (.string (txt x.value)) /\ w.cell? ⟨b, o + 2, none⟩ = some (.int .u32 x.flags) /\ w.cell? ⟨b, o + 3, none⟩ = some (.int .i64 x.exp) /\ w.cell? ⟨b, o + 4, none⟩ = some (.int .u64 x.ver) := ⟨h.c0, h.c1, h.c2, h.c3, h.c4⟩
def notKey (key : List UInt8) (x : It) : Bool := decide (x.key ≠ key)
theorem has_nat {S : Dv} {k : Nat} (hk : k < S.cs.length) : S.has (k : Int) = true := by
 unfold Dv.has
 simp
 exact hk
theorem read_facts {S : Dv} {k : Nat} {c : Cl} (hk : S.cs[k]? = some c) (hoff : S.off = false) : S.readErr (k : Int) = c.now.err /\ S.readText (k : Int) = c.now.read := by
 have hlt : k < S.cs.length := (List.getElem?_eq_some_iff.1 hk).1
 constructor
 ·simp [Dv.readErr, has_nat hlt, hoff, hk]
 ·simp [Dv.readText, has_nat hlt, hoff, hk]
theorem read_whole {d : Nat} {F : List Nat} {S : Dv} {k : Nat} {c : Cl} {b : ByteArray} (hk : S.cs[k]? = some c) (hoff : S.off = false) (hc : c.now = .whole b) (w : World) (h : DvAt w d F S) :
  Calls Tryz.prog 99 #[.pointer (some ⟨d, 0, none⟩), .int .i64 (k : Nat)] w fun e w' => e = .returned (.tuple #[.slice (some ⟨w.heap.size + 1, 0, none⟩) 384 384, .int .i64 0]) /\
   BS w' (some ⟨w.heap.size + 1, 0, none⟩) 384 384 (full b).data.toList /\ DvAt w' d F (S.readDo (k : Nat)) /\ Keep F w w' := by
 obtain ⟨e1, e2⟩ := read_facts hk hoff
 rw [hc] at e1 e2
 refine (read_at d F S k w h).mono ?_
 rintro r w1 ⟨v, rfl, hr, hd1, kp1⟩
 rw [e1, e2] at hr
 rw [e1]
 rcases hr with ⟨h0, _⟩ | ⟨_, hsz, g, rfl, rfl, hb⟩
 ·exact absurd rfl h0
 ·have hsz' : (full b).data.toList.length = 384 := by rw [Array.length_toList]; exact hsz
  refine ⟨rfl, buf_bs ?_ hsz'.symm (Nat.le_refl _), hd1, kp1⟩
  unfold Buf
  rw [show zc 0 = [] from rfl, List.append_nil]
  exact hb
theorem read_bare {d : Nat} {F : List Nat} {S : Dv} {k : Nat} {c : Cl} {p : Pg} {e0 : Int} (hk : S.cs[k]? = some c) (hoff : S.off = false) (hc : c.now = p) (he : p.err = e0) (h0 : e0 ≠ 0) (w : World) (h : DvAt w d F S) :
  Calls Tryz.prog 99 #[.pointer (some ⟨d, 0, none⟩), .int .i64 (k : Nat)] w fun e w' => e = .returned (.tuple #[.slice none 0 0, .int .i64 e0]) /\ DvAt w' d F (S.readDo (k : Nat)) /\ Keep F w w' := by
 obtain ⟨e1, e2⟩ := read_facts hk hoff
 rw [hc, he] at e1
 refine (read_at d F S k w h).mono ?_
 rintro r w1 ⟨v, rfl, hr, hd1, kp1⟩
 rw [e1] at hr ⊢
 rcases hr with ⟨_, rfl, _⟩ | ⟨h1, _⟩
 ·exact ⟨rfl, hd1, kp1⟩
 ·exact absurd h1 h0
theorem DvAt.alloc {w : World} {d : Nat} {F : List Nat} {S : Dv} (h : DvAt w d F S) (o : Obj) : DvAt (w.alloc o) d F S := h.same (fun k hk => blk_alloc_lt _ _ _ (h.lt k hk))
theorem DvAt.below {w w' : World} {d : Nat} {F : List Nat} {S : Dv} (h : DvAt w d F S) (b : Below w.heap.size w w') : DvAt w' d F S := h.same (fun k hk => b.block k (h.lt k hk))
theorem DvAt.new {w : World} {d : Nat} {F : List Nat} {S : Dv} (h : DvAt w d F S) (k : Nat) (hk : w.heap.size <= k) : k ∉ F := fun hf => by have := h.lt k hf; omega
structure Law (w0 : World) (d : Nat) (F : List Nat) (S : Dv) (W : World) : Prop where
 dev : DvAt W d F S
 low : ∀ k ∈ F, w0.heap.size <= k
 bel : Below w0.heap.size w0 W
theorem Law.move {w0 W W' : World} {d : Nat} {F F' : List Nat} {S S' : Dv} (h : Law w0 d F S W) (hd : DvAt W' d F' S') (m : Moves F F' W W') : Law w0 d F' S' W' := by
 have hs := h.bel.size
 refine ⟨hd, fun k hk => ?_, h.bel.trans (m.keep.below h.low hs)⟩
 rcases m.foot k hk with h1 | h1
 ·exact h.low k h1
 ·omega
theorem Law.below {w0 W W' : World} {d : Nat} {F : List Nat} {S : Dv} (h : Law w0 d F S W) (b : Below W.heap.size W W') : Law w0 d F S W' := h.move (h.dev.below b) (Moves.of_keep (Keep.of_below b))
theorem Law.alloc {w0 W : World} {d : Nat} {F : List Nat} {S : Dv} (h : Law w0 d F S W) (o : Obj) : Law w0 d F S (W.alloc o) := h.below ((Below.refl _ _).alloc (Nat.le_refl _) _)
theorem new_law {w0 W : World} (b : Below w0.heap.size w0 W) (n : Nat) (h1 : 1 <= n) (h2 : n <= 4096) :
  Calls Tryz.prog 10 #[.int .i64 n] W fun e W' => ∃ d F, e = .returned (.tuple #[.pointer (some ⟨d, 0, none⟩), .int .i64 0]) /\ Law w0 d F (Dv.fresh n) W' /\ Below W.heap.size W W' := by
 have hs := b.size
 refine (new_any n h1 h2 W).mono ?_
 rintro e W' ⟨rfl, hd, hb⟩
 refine ⟨W.heap.size + 1, foot (W.heap.size + 1) W.heap.size none, rfl, ⟨⟨_, _, _, _, rfl, hd⟩, fun k hk => ?_, b.trans (hb.mono hs)⟩, hb⟩
 simp [foot] at hk
 omega
def Dv.pg (S : Dv) (k : Nat) : Option Pg := (S.cs[k]?).map (·.now)
theorem putAt_get : ∀ (cs : List Cl) (i j : Nat) (p : Pg), ((putAt cs i p)[j]?).map (·.now) = if j = i /\ j < cs.length then some p else (cs[j]?).map (·.now)
 | [], i, j, p => by simp [putAt]
 | c :: r, 0, 0, p => by simp [putAt, Cl.put]
 | c :: r, 0, j + 1, p => by simp [putAt]
 | c :: r, i + 1, 0, p => by simp [putAt]
 | c :: r, i + 1, j + 1, p => by
  have := putAt_get r i j p
  simp only [putAt, List.getElem?_cons_succ, this, List.length_cons]
  by_cases h : j = i /\ j < r.length
  ·rw [if_pos h, if_pos (by omega)]
  ·rw [if_neg h, if_neg (by omega)]
theorem flush_get (cs : List Cl) (j : Nat) : (((cs.map Cl.flush)[j]?).map (·.now)) = (cs[j]?).map (·.now) := by
 rw [List.getElem?_map]
 cases cs[j]? <;> rfl
theorem used_off (S : Dv) (ha : S.armed ≠ 1) : S.used.off = S.off := by
 unfold Dv.used; split
 ·rfl
 ·rfl
theorem used_armed (S : Dv) (ho : S.off = false) (ha : S.armed ≠ 1) : S.used.armed = S.armed - 1 := by
 unfold Dv.used; split
 ·rename_i h
  rcases h with h | h
  ·rw [ho] at h; cases h
  ·omega
 ·rfl
end Go.Proofs.YtcdghalnneilpaaGreat
namespace Go.Proofs.YtcdghalnneilpaaGreat
open Go.RowKit Go.Deep Math
theorem wpList_delete_run {P : Program} {w : World} {ops : Array Oper} {rest : List Oper} {o : Oper} {a : Act} {Q : Exit -> Act -> World -> Prop} (hg : o.guard = none) (m x : Operand) (t k : TypeId) (hop : o.op = Op.call { callee := Callee.builtin Builtin.delete, args := #[m, x], argTypes := #[t, k] })
  (vm vk : Value) (hm : a.eval m = vm) (hx : a.eval x = vk) (w' : World) (hr : (Builtin.delete_ #[t, k] o.type #[vm, vk]).run P w = .ok (.tuple #[]) w') (h : wpList P ops Q rest (a.put o.dst (.tuple #[])) w') : wpList P ops Q (o :: rest) a w := by
 refine wpList_plain hg fun K' hK' => ?_
 unfold Oper.wp
 simp [execOp, hop, resolve, invoke, builtin, hm, hx, hr, Result.andThen]
 exact hK' _ _ h
section
variable {w : World} {l d m : Nat} {v5 v6 v7 : Value} {T : Lg}
theorem where_any (h : LgIn w l d m v5 v6 v7 T) (place at0 : Nat) (hf : T.first <= 4096) (hp : place <= 64) (ha : at0 <= 4) :
  Calls Tryz.prog 174 #[.pointer (some ⟨l, 0, none⟩), .int .i64 place, .int .i64 at0] w fun e w' => e = .returned (.int .i64 (T.first + 4 * place + at0 : Nat)) /\ w' = w := by
 have c2 := h.box.cell (i := 2) rfl
 obtain ⟨k, hk⟩ : ∃ k, k = T.first + 4 * place + at0 := ⟨_, rfl⟩
 have e1 : wrap64 (4 * (place : Int)) = 4 * (place : Int) := by unfold wrap64; omega
 generalize T.first = f at *
 have HK := hide hk
 have HF := hide hf
 have HP := hide hp
 have HA := hide ha
 rw [<- hk]
 clear h hk hf
 go_enter Tryz.func174, Tryz.ntmps174
 have hf2 : (f : Int) <= 4096 := by have := HF.out; omega
 go_wp2
 go_ret
 refine ⟨ret_int ?_, rfl⟩
 have := HK.out
 omega
theorem may_log (h : LgIn w l d m v5 v6 v7 T) (k : List UInt8) (hk : k.length <= 140737488351232) : Calls Tryz.prog 86 #[.pointer (some ⟨l, 0, none⟩), .string (txt k)] w fun e w' => e = .returned (.bool (T.has k).isSome) /\ w' = w := by
 have c8 := h.box.cell (i := 8) rfl
 have hl := h.map.look_ok k (Nat.le_trans hk (by decide))
 clear h
 generalize txt k = kb at *
 generalize hv : ptrV (T.has k) = pv at *
 generalize hb : (T.has k).isSome = pb at *
 clear hv hb
 go_enter Tryz.func86, Tryz.ntmps86
 go_wp2
 go_ret
 exact ⟨rfl, rfl⟩
theorem get_none (h : LgIn w l d m v5 v6 v7 T) (k : List UInt8) (hk : k.length <= 140737488351232) (hn : T.has k = none) : Calls Tryz.prog 113 #[.pointer (some ⟨l, 0, none⟩), .string (txt k)] w fun e w' => e = .returned (.tuple #[It.zero.val, .int .i64 5]) /\ Below w.heap.size w w' := by
 have hA := h.alloc (.cells #[.string ⟨#[]⟩, .string ⟨#[]⟩, .int .u32 0, .int .i64 0, .int .u64 0] 39)
 have c8 := hA.box.cell (i := 8) rfl
 have hl := hA.map.look_ok k (Nat.le_trans hk (by decide))
 rw [hn] at hl
 have B := hide ((Below.refl w.heap.size w).alloc (Nat.le_refl _) (.cells #[.string ⟨#[]⟩, .string ⟨#[]⟩, .int .u32 0, .int .i64 0, .int .u64 0] 39))
 clear h hA hn
 simp only [ptrV, Option.isSome_none] at hl
 generalize txt k = kb at *
 go_enter Tryz.func113, Tryz.ntmps113
 go_wp2
 exact bodyPost_ret (v := .tuple #[It.zero.val, .int .i64 5]) (by simp [results, Tryz.results113, go_sem, It.val, It.zero, itV, txt]) rfl ⟨rfl, B.out⟩
theorem get_some (h : LgIn w l d m v5 v6 v7 T) (k : List UInt8) (hk : k.length <= 140737488351232) (t : Th) (ht : ThAt w t) (hn : T.has k = some t.pos) : Calls Tryz.prog 113 #[.pointer (some ⟨l, 0, none⟩), .string (txt k)] w fun e w' => e = .returned (.tuple #[t.it.val, .int .i64 0]) /\ Below w.heap.size w w' := by
 have hA := h.alloc (.cells #[.string ⟨#[]⟩, .string ⟨#[]⟩, .int .u32 0, .int .i64 0, .int .u64 0] 39)
 have hT := ht.same (w' := w.alloc (.cells #[.string ⟨#[]⟩, .string ⟨#[]⟩, .int .u32 0, .int .i64 0, .int .u64 0] 39)) (blk_alloc_lt _ _ _ ht.lt)
 have c8 := hA.box.cell (i := 8) rfl
 have hl := hA.map.look_ok k (Nat.le_trans hk (by decide))
 rw [hn] at hl
 obtain ⟨t0, t1, t2, t3, t4⟩ := hT.one.vals
 have B := hide ((Below.refl w.heap.size w).alloc (Nat.le_refl _) (.cells #[.string ⟨#[]⟩, .string ⟨#[]⟩, .int .u32 0, .int .i64 0, .int .u64 0] 39))
 have hlt := ht.lt
 obtain ⟨tb, to, x⟩ := t
 simp only at t0 t1 t2 t3 t4 hlt
 clear h hA hn ht hT
 simp only [ptrV, Th.pos, Option.isSome_some] at hl
 generalize txt k = kb at *
 have ev : x.val = itV (txt x.key) (txt x.value) x.flags x.exp x.ver := rfl
 simp only
 rw [ev]
 generalize txt x.key = xk at *
 generalize txt x.value = xv at *
 go_enter Tryz.func113, Tryz.ntmps113
 go_wp2
 exact bodyPost_ret (v := .tuple #[itV xk xv x.flags x.exp x.ver, .int .i64 0]) (by simp [results, Tryz.results113, go_sem, itV]) rfl ⟨rfl, (Below.refl _ _).alloc (Nat.le_refl _) _⟩
theorem LgIn.notM (h : LgIn w l d m v5 v6 v7 T) {q : Nat} {c : Array Value} {e : TypeId} {f : Nat × Nat} (hq : w.heap[q]? = some (.cells c e f)) : q ≠ m := by
 rintro rfl
 obtain ⟨es, c', hm⟩ := h.map.isMap
 rw [hq] at hm
 cases hm
theorem LgIn.mapTurn {w' : World} {n' : Nat} {M' : List UInt8 -> Option (Nat × Nat)} (h : LgIn w l d m v5 v6 v7 T) (hm : MapAt w' m n' M') (k : Keep [m] w w') (ha : ∀ k p, M' k = some p -> ∃ t ∈ T.all, t.pos = p /\ t.it.key = k) : LgIn w' l d m v5 v6 v7 { T with cap := n', has := M' } := by
 have sm : ∀ {q : Nat} {c : Array Value} {e : TypeId} {f : Nat × Nat}, w.heap[q]? = some (.cells c e f) -> w'.heap[q]? = w.heap[q]? := fun {q c e f} hq => k.block q (Array.getElem?_eq_some_iff.1 hq).1 (by simpa using h.notM hq)
 refine ⟨h.box.same (sm h.box), own_same h.sld (fun q hq => ?_), fun r hr => own_same (h.rows r hr) (fun q hq => ?_), own_same h.opn (fun q hq => ?_), own_same h.cont (fun q hq => ?_), hm, fun t ht => ?_, h.apart, ha⟩
 ·obtain ⟨c, hc⟩ := own_ty h.sld hq; exact sm hc
 ·obtain ⟨c, hc⟩ := own_ty (h.rows r hr) hq; exact sm hc
 ·obtain ⟨c, hc⟩ := own_ty h.opn hq; exact sm hc
 ·obtain ⟨c, hc⟩ := own_ty h.cont hq; exact sm hc
 ·obtain ⟨c, hc⟩ := (h.ths t ht).ty
  exact (h.ths t ht).same (sm hc)
def Lg.drop (T : Lg) (k : List UInt8) : Lg := { T with has := updK T.has k none }
theorem drop_log (h : LgIn w l d m v5 v6 v7 T) (k : List UInt8) (hk : k.length <= 140737488351232) : Calls Tryz.prog 111 #[.pointer (some ⟨l, 0, none⟩), .string (txt k)] w fun e w' => e = .returned (.tuple #[]) /\ LgIn w' l d m v5 v6 v7 (T.drop k) /\ Keep [m] w w' := by
 have c8 := h.box.cell (i := 8) rfl
 obtain ⟨w2, hrun, hm, hkp, _⟩ := h.map.drop k (Nat.le_trans hk (by decide)) 0
 have E := hide (h.mapTurn hm hkp (fun x p hx => by
  by_cases e : x = k
  ·rw [e, updK_same] at hx; cases hx
  ·rw [updK_other _ _ _ _ e] at hx; exact h.hasAt x p hx))
 have K := hide hkp
 have HR := hide hrun
 clear h hm hkp hrun
 generalize txt k = kb at *
 go_enter Tryz.func111, Tryz.ntmps111
 go_wp2_with (at_delete; refine wpList_delete_run rfl _ _ _ _ rfl _ _ rfl rfl _ HR.out ?_)
 go_end0
 exact ⟨rfl, E.out, K.out⟩
end
end Go.Proofs.YtcdghalnneilpaaGreat
namespace Go.Proofs.YtcdghalnneilpaaGreat
open Go.RowKit Go.Deep Math
def Lg.cur (T : Lg) (t : Th) : Bool := decide (T.has t.it.key = some t.pos)
def Lg.hadOf (T : Lg) (ths : List Th) : List It := (ths.filter T.cur).map Th.it
theorem hadOf_append (T : Lg) (a b : List Th) : T.hadOf (a ++ b) = T.hadOf a ++ T.hadOf b := by simp [Lg.hadOf]
theorem hadOf_length (T : Lg) (a : List Th) : (T.hadOf a).length <= a.length := by unfold Lg.hadOf; rw [List.length_map]; exact List.length_filter_le _ _
theorem info36 : ∃ j, Tryz.prog.info? 39 = some j /\ j.size ≠ 0 := by
 obtain ⟨i0, hi0, hp0⟩ := Option.map_eq_some_iff.1 info30
 simp only [Prod.mk.injEq] at hp0
 exact ⟨i0, hi0, by rw [hp0.2.1]; decide⟩
theorem eq_ptr {W : World} {p : Option (Nat × Nat)} {t : Th} (ht : ThAt W t) (hp : ∀ q, p = some q -> ∃ u, ThAt W u /\ u.pos = q) : (binOp .eql 211 (ptrV p) t.ptr).run Tryz.prog W = .ok (.bool (decide (p = some t.pos))) W := by
 obtain ⟨j, hj, hsz⟩ := info36
 cases p with
 | none =>
  simp only [ptrV, Th.ptr]
  have h : ∀ d : Nat, (Go.Op.equalIn (d + 1) 211 (.pointer none) (.pointer (some ⟨t.blk, t.off, none⟩))).run Tryz.prog W = .ok false W := fun d => by
   simp [Go.Op.equalIn, run_underlying Tryz.underlying211]
  simp only [binOp]
  simp [Go.Op.equal, Go.Op.maxDepth, h 9999]
 | some q =>
  obtain ⟨u, hu, rfl⟩ := hp q rfl
  by_cases e : u.pos = t.pos
  ·have e2 : (⟨u.pos.1, u.pos.2, none⟩ : Addr) = ⟨t.blk, t.off, none⟩ := by rw [e]; rfl
   simp only [ptrV, Th.ptr]
   rw [e2, run_eql_ptr_same W _ Tryz.underlying211 hj]
   simp [e]
  ·obtain ⟨c1, h1⟩ := hu.ty
   obtain ⟨c2, h2⟩ := ht.ty
   simp only [ptrV, Th.ptr]
   rw [run_eql_ptr_other W (a := ⟨u.pos.1, u.pos.2, none⟩) (b := ⟨t.blk, t.off, none⟩) Tryz.underlying211 hj hsz (fun h => e (by simp at h; exact Prod.ext h.1 h.2)) h1 h2]
   simp [e]
theorem ptr_cell {w : World} {base : Nat} {v : Value} {n : Nat} {ths : List Th} (h : w.ownsRow base 211 1 v n (ptrCells ths)) {i : Nat} {t : Th} (ht : ths[i]? = some t) : ∃ g c, v = .slice (some ⟨g, 0, none⟩) n c /\ w.cell? ⟨g, i, none⟩ = some t.ptr /\ g ∈ own v /\ n <= c := by
 have hi : i < n := by
  have h1 := (List.getElem?_eq_some_iff.1 ht).1
  have h2 := h.1
  rw [ptrCells_length, Nat.mul_one] at h2
  omega
 rcases h.2 with ⟨_, h0⟩ | ⟨g, cap, cur, rfl, hb, hh, hc, hm, hs, htk⟩
 ·omega
 ·refine ⟨g, cap, rfl, ?_, by simp [own, Value.ownBlock], hc⟩
  have e : cur.toList[i]? = some t.ptr := by
   have h1 : (cur.toList.take (n * 1))[i]? = some t.ptr := by
    rw [htk]
    simp [ptrCells, List.getElem?_map, ht]
   rw [List.getElem?_take] at h1
   split at h1
   ·exact h1
   ·cases h1
  simp [World.cell?, hh, <- Array.getElem?_toList, e]
section
variable {w : World} {l d m : Nat} {v5 v6 v7 : Value} {T : Lg}
theorem had_any (h : LgIn w l d m v5 v6 v7 T) (B : Nat) (hB : ∀ q ∈ lblocks l m v5 v6 v7 T, q < B) (hBw : B <= w.heap.size) (ta : Option Addr) (tn tc : Nat) (xs : List It) (hto : Row w B (.slice ta tn tc) xs)
  (a : Option Addr) (n c : Nat) (ths : List Th) (hrow : w.ownsRow 0 211 1 (.slice a n c) n (ptrCells ths)) (hths : ∀ t ∈ ths, t ∈ T.all) (hrb : ∀ q ∈ own (.slice a n c), q ∈ lblocks l m v5 v6 v7 T) (hcap : xs.length + n <= 100000) :
  Calls Tryz.prog 149 #[.pointer (some ⟨l, 0, none⟩), .slice ta tn tc, .slice a n c] w fun e w' => ∃ va vn vc, e = .returned (.slice va vn vc) /\ Row w' B (.slice va vn vc) (xs ++ T.hadOf ths) /\ Keep (own (.slice ta tn tc)) w w' /\ ∀ q ∈ own (.slice va vn vc), q ∈ own (.slice ta tn tc) \/ w.heap.size <= q := by
 have hn : n = ths.length := by have := hrow.1; rw [ptrCells_length] at this; omega
 have hlow : ∀ q ∈ own (.slice ta tn tc), B <= q := fun q hq => (hto.lt q (mem_own.1 hq)).1
 have HL : Hid (∀ wr, Keep (own (.slice ta tn tc)) w wr -> LgIn wr l d m v5 v6 v7 T) := fun wr k => h.same (fun q hq => k.block q (h.lt q hq) (fun hf => by have := hlow q hf; have := hB q hq; omega))
 have HR : Hid (∀ wr, Keep (own (.slice ta tn tc)) w wr -> wr.ownsRow 0 211 1 (.slice a n c) n (ptrCells ths)) := fun wr k => own_same hrow (fun q hq => by
  have h1 := hrb q (mem_own.2 hq)
  exact k.block q (h.lt q h1) (fun hf => by have := hlow q hf; have := hB q h1; omega))
 have HT := hide hths
 have HN := hide hn
 have HC := hide hcap
 have hn5 : n <= 100000 := by omega
 have HBW := hide hBw
 have HTO := hide hto
 clear h hto hrow hths hrb hB hlow hn hcap hBw
 go_enter Tryz.func149, Tryz.ntmps149
 go_wp2_with fail
 go_loopg [1, 11] n (fun kx s1 s11 wr => ∃ (i : Nat) (va : Option Addr) (vn vc : Nat), s1 = .slice va vn vc /\ s11 = .int .i64 i /\ i <= n /\ n - i <= kx /\ Hid (Row wr B (.slice va vn vc) (xs ++ T.hadOf (ths.take i)) /\ Keep (own (.slice ta tn tc)) w wr /\ ∀ q ∈ own (.slice va vn vc), q ∈ own (.slice ta tn tc) \/ w.heap.size <= q))
 case atStart => exact ⟨0, ta, tn, tc, rfl, rfl, Nat.zero_le _, by omega, by simpa [Lg.hadOf] using HTO.out, Keep.refl _ _, fun q hq => .inl hq⟩
 case round =>
  obtain ⟨i, va, vn, vc, rfl, rfl, hin, hg, I⟩ := hrel
  by_cases hlt : i < n
  ·have hlt2 : (i : Int) < (n : Int) := by omega
   obtain ⟨t, ht⟩ : ∃ t, ths[i]? = some t := ⟨_, List.getElem?_eq_getElem (by rw [<- HN.out]; exact hlt)⟩
   obtain ⟨g, c', hv, hc, _, _⟩ := ptr_cell (HR.out wr I.out.2.1) ht
   simp only [Value.slice.injEq, true_and] at hv
   obtain ⟨rfl, rfl⟩ := hv
   have hL := HL.out wr I.out.2.1
   have hTA := hL.ths t (HT.out t (List.mem_of_getElem? ht))
   have hLd : LgIn wr.drew l d m v5 v6 v7 T := hL.heap rfl
   have c8 := hLd.box.cell (i := 8) rfl
   have hlk := hLd.map.look t.it.key (Nat.le_trans hTA.key (by decide))
   have heq := eq_ptr (W := wr.drew) (p := T.has t.it.key) (hLd.ths t (HT.out t (List.mem_of_getElem? ht))) (fun q hq => by
    obtain ⟨u, hu, hp, _⟩ := hLd.hasAt _ q hq
    exact ⟨u, hLd.ths u hu, hp⟩)
   have ET : Hid (ths.take (i + 1) = ths.take i ++ [t]) := by show _ = _; rw [List.take_add_one, ht]; rfl
   obtain ⟨t0, t1, t2, t3, t4⟩ := hTA.one.vals
   have d0 : wr.drew.cell? ⟨t.blk, t.off, none⟩ = some (.string (txt t.it.key)) := t0
   have hlen : (xs ++ T.hadOf (ths.take i)).length <= 100000 := by
    have h1 := hadOf_length T (ths.take i)
    have h2 : (ths.take i).length <= i := by rw [List.length_take]; omega
    rw [List.length_append]
    have := HC.out
    omega
   have HLEN := hide hlen
   have e0 := hide (show T.cur t = decide (T.has t.it.key = some t.pos) from rfl)
   have O := hide (show Oks [t.it] from fun z hz => by simp at hz; rw [hz]; exact ⟨hTA.fits, hTA.key, hTA.val⟩)
   have hblt := hTA.lt
   clear hTA hLd ht hL hlen
   simp only [Th.ptr] at hc heq
   obtain ⟨po, hpo⟩ : ∃ po, ptrV (T.has t.it.key) = .pointer po := by cases T.has t.it.key <;> exact ⟨_, rfl⟩
   rw [hpo] at hlk heq
   generalize hcu : decide (T.has t.it.key = some t.pos) = cu at *
   clear hpo hcu
   cases cu with
   | false =>
    have E : Hid (T.hadOf (ths.take (i + 1)) = T.hadOf (ths.take i)) := by show _ = _; rw [ET.out, hadOf_append]; simp [Lg.hadOf, e0.out]
    clear e0
    go_wp2_with fail
    go_region
    all_goals go_wp2
    all_goals go_roundg (n - (i + 1))
    all_goals first
     | omega
     | exact ⟨i + 1, va, vn, vc, rfl, rfl, by omega, by omega, by rw [E.out]; exact ⟨I.out.1.keep (fun _ _ => rfl), I.out.2.1.drew, I.out.2.2⟩⟩
   | true =>
    have E : Hid (T.hadOf (ths.take (i + 1)) = T.hadOf (ths.take i) ++ [t.it]) := by show _ = _; rw [ET.out, hadOf_append]; simp [Lg.hadOf, e0.out]
    have t0d : wr.drew.cell? ⟨t.blk, t.off, none⟩ = some (.string (txt t.it.key)) := t0
    have t1d : wr.drew.cell? ⟨t.blk, t.off + 1, none⟩ = some (.string (txt t.it.value)) := t1
    have t2d : wr.drew.cell? ⟨t.blk, t.off + 2, none⟩ = some (.int .u32 t.it.flags) := t2
    have t3d : wr.drew.cell? ⟨t.blk, t.off + 3, none⟩ = some (.int .i64 t.it.exp) := t3
    have t4d : wr.drew.cell? ⟨t.blk, t.off + 4, none⟩ = some (.int .u64 t.it.ver) := t4
    have hRd : Row wr.drew B (.slice va vn vc) (xs ++ T.hadOf (ths.take i)) := I.out.1.keep (fun _ _ => rfl)
    have hsz := I.out.2.1.size
    obtain ⟨ua, uc, w2, hrun, hrow, hkp, hblk, _⟩ := app_it hRd t.it (by have := HLEN.out; omega) (Nat.le_trans HBW.out hsz)
    have HRUN := hide hrun
    have TT : Hid (Row w2 B (.slice ua ((xs ++ T.hadOf (ths.take i)).length + 1) uc) (xs ++ T.hadOf (ths.take (i + 1))) /\ Keep (own (.slice ta tn tc)) w w2 /\ ∀ q ∈ own (.slice ua ((xs ++ T.hadOf (ths.take i)).length + 1) uc), q ∈ own (.slice ta tn tc) \/ w.heap.size <= q) := by
     refine ⟨by rw [E.out, <- List.append_assoc]; exact hrow, I.out.2.1.drew.trans hkp I.out.2.2, fun q hq => ?_⟩
     rcases hblk q hq with h1 | h1
     ·exact I.out.2.2 q h1
     ·exact .inr (Nat.le_trans hsz h1)
    clear e0 hrun hrow hkp hblk hRd hsz
    generalize (xs ++ T.hadOf (ths.take i)).length + 1 = un at *
    go_wp2_with fail
    go_region
    all_goals go_wp2_with (at_builtin; refine Lib.wpList_append_run _ rfl _ _ _ _ rfl _ _ rfl rfl _ _ (HRUN.out _) ?_)
    all_goals go_roundg (n - (i + 1))
    all_goals first
     | omega
     | exact ⟨i + 1, ua, un, uc, rfl, rfl, by omega, by omega, TT.out⟩
  ·obtain rfl : i = n := by omega
   have hlt2 : ¬ (i : Int) < (i : Int) := by omega
   have I' := I.out
   rw [HN.out, List.take_length] at I'
   have II := hide I'
   clear I'
   go_wp2
   go_ret
   exact ⟨va, vn, vc, rfl, II.out⟩
end
end Go.Proofs.YtcdghalnneilpaaGreat
namespace Go.Proofs.YtcdghalnneilpaaGreat
open Go.RowKit Go.Deep Math
def Lg.items (T : Lg) : List It := T.hadOf T.all
theorem rg_cell {w : World} {base : Nat} {v : Value} {n : Nat} {rs : List Rg} (h : w.ownsRow base 206 3 v n (rgRow rs)) {i : Nat} {r : Rg} (hr : rs[i]? = some r) : ∃ g c, v = .slice (some ⟨g, 0, none⟩) n c /\ w.cell? ⟨g, i * 3, none⟩ = some (.int .i64 r.place) /\ w.cell? ⟨g, i * 3 + 1, none⟩ = some (.int .u64 r.num) /\ w.cell? ⟨g, i * 3 + 2, none⟩ = some r.v /\ g ∈ own v /\ n <= c := by
 have hi : i < rs.length := (List.getElem?_eq_some_iff.1 hr).1
 have hn : n = rs.length := by have := h.1; rw [rgRow_length] at this; omega
 rcases h.2 with ⟨_, h0⟩ | ⟨g, cap, cur, rfl, hb, hh, hc, hm, hs, htk⟩
 ·omega
 ·obtain ⟨A, B, e, hA⟩ : ∃ A B, rs = A ++ r :: B /\ A.length = i := by
   obtain ⟨hi, he⟩ := List.getElem?_eq_some_iff.1 hr
   refine ⟨rs.take i, rs.drop (i + 1), ?_, by simp; omega⟩
   rw [<- he, <- List.drop_eq_getElem_cons hi, List.take_append_drop]
  have key : ∀ j v, j < 3 -> (rgCells r)[j]? = some v -> w.cell? ⟨g, i * 3 + j, none⟩ = some v := fun j v hj hv => by
   have h1 : (cur.toList.take (n * 3))[i * 3 + j]? = some v := by
    rw [htk, e, <- hA, <- hv]
    exact flat_get rgCells 3 (fun _ => rfl) A r B j hj
   rw [List.getElem?_take] at h1
   split at h1
   ·simp [World.cell?, hh, <- Array.getElem?_toList, h1]
   ·cases h1
  exact ⟨g, cap, rfl, key 0 _ (by omega) rfl, key 1 _ (by omega) rfl, key 2 _ (by omega) rfl, by simp [own, Value.ownBlock], hc⟩
theorem own_slice {w : World} {base : Nat} {e : TypeId} {sz : Nat} {v : Value} {n : Nat} {xs : List Value} (h : w.ownsRow base e sz v n xs) : ∃ a c, v = .slice a n c := by
 rcases h.2 with ⟨h1, h0⟩ | ⟨g, cap, cur, hv, _⟩
 ·exact ⟨none, 0, by rw [h1, h0]⟩
 ·exact ⟨_, _, hv⟩
theorem mem_all_regs {T : Lg} {r : Rg} (hr : r ∈ T.regs) {t : Th} (ht : t ∈ r.ths) : t ∈ T.all := List.mem_append.2 (.inl (List.mem_flatMap.2 ⟨r, hr, ht⟩))
section
variable {w : World} {l d m : Nat} {v5 v6 v7 : Value} {T : Lg}
theorem items_log (h : LgIn w l d m v5 v6 v7 T) (hcap : T.all.length <= 40000) (hr64 : T.regs.length <= 100) :
  Calls Tryz.prog 96 #[.pointer (some ⟨l, 0, none⟩)] w fun e w' => ∃ va vn vc, e = .returned (.slice va vn vc) /\ vn = T.items.length /\ Row w' w.heap.size (.slice va vn vc) T.items /\ Below w.heap.size w w' := by
 obtain ⟨a5, c5', rfl⟩ := own_slice h.sld
 obtain ⟨a6, c6', rfl⟩ := own_slice h.opn
 have c5 := h.box.cell (i := 5) rfl
 have H := hide h
 have hall : (T.regs.flatMap Rg.ths).length + T.opn.length <= 40000 := by rw [<- List.length_append]; exact hcap
 have HC := hide hall
 have HB : Hid (∀ wr, Below w.heap.size w wr -> LgIn wr l d m (.slice a5 T.regs.length c5') (.slice a6 T.opn.length c6') v7 T) := fun wr b => h.below b
 clear h hcap hall
 obtain ⟨n5, hn5⟩ : ∃ n5, n5 = T.regs.length := ⟨_, rfl⟩
 obtain ⟨n6, hn6⟩ : ∃ n6, n6 = T.opn.length := ⟨_, rfl⟩
 have HN5 := hide hn5
 have HN6 := hide hn6
 rw [<- hn5] at c5 H HB hr64
 rw [<- hn6] at H HB
 have ITM : Hid (T.items = T.hadOf (T.regs.flatMap Rg.ths) ++ T.hadOf T.opn) := by show _ = _; unfold Lg.items Lg.all; rw [hadOf_append]
 clear hn5 hn6
 go_enter Tryz.func96, Tryz.ntmps96
 go_wp2_with fail
 go_loopg [3, 11] n5 (fun kx s3 s11 wr => ∃ (i : Nat) (va : Option Addr) (vn vc : Nat), s3 = .slice va vn vc /\ s11 = .int .i64 i /\ i <= n5 /\ n5 - i <= kx /\ Hid (Row wr w.heap.size (.slice va vn vc) (T.hadOf ((T.regs.take i).flatMap Rg.ths)) /\ Below w.heap.size w wr))
 case atStart => exact ⟨0, none, 0, 0, rfl, rfl, Nat.zero_le _, by omega, Row.nil _ _, Below.refl _ _⟩
 case round =>
  obtain ⟨i, va, vn, vc, rfl, rfl, hin, hg, I⟩ := hrel
  by_cases hlt : i < n5
  ·have hlt2 : (i : Int) < (n5 : Int) := by omega
   obtain ⟨r, hr⟩ : ∃ r, T.regs[i]? = some r := ⟨_, List.getElem?_eq_getElem (by rw [<- HN5.out]; exact hlt)⟩
   have hmem := List.mem_of_getElem? hr
   have hL := HB.out wr I.out.2
   have hsl := hL.sld
   rw [<- HN5.out] at hsl
   obtain ⟨g, c', hv, k0, k1, k2, _, _⟩ := rg_cell hsl hr
   simp only [Value.slice.injEq, true_and] at hv
   obtain ⟨rfl, rfl⟩ := hv
   have hrow := hL.rows r hmem
   obtain ⟨ra, rc, hrv⟩ := own_slice hrow
   rw [hrv] at k2 hrow
   have ET : Hid ((T.regs.take (i + 1)).flatMap Rg.ths = (T.regs.take i).flatMap Rg.ths ++ r.ths) := by show _ = _; rw [List.take_add_one, hr]; simp
   have hlenT : ((T.regs.take (i + 1)).flatMap Rg.ths).length <= 40000 := by
    have h1 : (T.regs.flatMap Rg.ths).length = ((T.regs.take (i + 1)).flatMap Rg.ths).length + ((T.regs.drop (i + 1)).flatMap Rg.ths).length := by
     rw [<- List.length_append, <- List.flatMap_append, List.take_append_drop]
    have := HC.out
    omega
   rw [ET.out, List.length_append] at hlenT
   have hhl := hadOf_length T ((T.regs.take i).flatMap Rg.ths)
   have hrb : ∀ q ∈ own (.slice ra r.ths.length rc), q ∈ lblocks l m (.slice (some ⟨g, 0, none⟩) n5 c5') (.slice a6 n6 c6') v7 T := fun q hq => List.mem_append.2 (.inr (List.mem_append.2 (.inl (List.mem_flatMap.2 ⟨r, hmem, by rw [hrv]; exact hq⟩))))
   have cH : Hid (∀ W, Below wr.heap.size wr W -> Calls Tryz.prog 149 #[.pointer (some ⟨l, 0, none⟩), .slice va vn vc, .slice ra r.ths.length rc] W fun e w' => ∃ va' vn' vc', e = .returned (.slice va' vn' vc') /\ Row w' w.heap.size (.slice va' vn' vc') (T.hadOf ((T.regs.take (i + 1)).flatMap Rg.ths)) /\ Below w.heap.size w w') := fun W b => by
    have bw := I.out.2.trans (b.mono I.out.2.size)
    have hRW := I.out.1.below b
    refine (had_any (hL.below b) w.heap.size (fun q hq => H.out.lt q hq) bw.size va vn vc _ hRW ra _ rc r.ths (own_same hrow (fun q hq => b.block q (hL.lt q (hrb q (mem_own.2 hq))))) (fun t ht => mem_all_regs hmem ht) hrb (by omega)).mono ?_
    rintro e w' ⟨va', vn', vc', rfl, h1, h2, _⟩
    refine ⟨va', vn', vc', rfl, by rw [ET.out, hadOf_append]; exact h1, bw.trans (h2.below (fun q hq => (hRW.lt q (mem_own.1 hq)).1) bw.size)⟩
   clear hL hsl hrow hrb hlenT hhl hr hmem hrv ET
   generalize r.ths.length = rn at *
   generalize (r.place : Int) = rp at *
   generalize (r.num : Int) = rnum at *
   go_wp2_with fail
   refine (cH.out _ ((Below.refl _ _).alloc (Nat.le_refl _) _)).mono ?_
   rintro e w2 ⟨va', vn', vc', rfl, h1, h2⟩
   have H1 := hide (And.intro h1 h2)
   clear h1 h2 cH
   go_wp2
   go_roundg (n5 - (i + 1))
   case measure => omega
   case rel => exact ⟨i + 1, va', vn', vc', rfl, rfl, by omega, by omega, H1.out⟩
  ·obtain rfl : i = n5 := by omega
   have hlt2 : ¬ (i : Int) < (i : Int) := by omega
   have I' := I.out
   rw [HN5.out, List.take_length] at I'
   have hL := HB.out wr I'.2
   have c6 := hL.box.cell (i := 6) rfl
   have hop := hL.opn
   have hhl := hadOf_length T (T.regs.flatMap Rg.ths)
   have hcc := HC.out
   have cH := hide (had_any hL w.heap.size (fun q hq => H.out.lt q hq) I'.2.size va vn vc _ I'.1 a6 T.opn.length c6' T.opn (by rw [<- HN6.out] at hop ⊢; exact hop) (fun t ht => List.mem_append.2 (.inr ht)) (fun q hq => List.mem_append.2 (.inl (by rw [<- HN6.out] at hq; simp [lfoot, hq]))) (by omega))
   rw [<- HN6.out] at cH
   have II := hide I'
   clear I' hL hop hhl hcc
   go_wp2_with fail
   refine cH.out.mono ?_
   rintro e w2 ⟨va', vn', vc', rfl, h1, h2, _⟩
   have T1 : Hid (vn' = T.items.length /\ Row w2 w.heap.size (.slice va' vn' vc') T.items /\ Below w.heap.size w w2) := by
    rw [<- ITM.out] at h1
    obtain ⟨_, _, he⟩ := h1.sl
    simp only [Value.slice.injEq] at he
    exact ⟨he.2.1, h1, II.out.2.trans (h2.below (fun q hq => (II.out.1.lt q (mem_own.1 hq)).1) II.out.2.size)⟩
   clear h1 h2 cH
   go_wp2
   go_ret
   exact ⟨va', vn', vc', rfl, T1.out⟩
end
end Go.Proofs.YtcdghalnneilpaaGreat
