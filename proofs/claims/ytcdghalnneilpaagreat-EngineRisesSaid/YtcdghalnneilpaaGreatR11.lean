/- Joined texts. -/
import Derived.Maps.AppendAt
import Derived.Test.YtcdghalnneilpaaGreatR10
set_option linter.unusedVariables false
set_option linter.unusedSimpArgs false
set_option maxRecDepth 8000
set_option maxHeartbeats 8000000
namespace Go.Proofs.YtcdghalnneilpaaGreat
open Go.RowKit Go.Deep Math
theorem its_blk {w : World} {g n : Nat} {xs : List It} {pad : List Value} (h : Blk w g (itsCells xs ++ pad) 39) (hn : n = xs.length) (hs : ∀ x ∈ xs, x.fits /\ x.key.length <= 140737488351232 /\ x.value.length <= 140737488351232) : ItsAt w (some ⟨g, 0, none⟩) n xs := by
 refine ⟨hn, hs, fun i x hx => ⟨g, 0, rfl, h.lt, ?_⟩⟩
 obtain ⟨A, B, rfl, hA⟩ : ∃ A B, xs = A ++ x :: B /\ A.length = i := by
  obtain ⟨hi, he⟩ := List.getElem?_eq_some_iff.1 hx
  refine ⟨xs.take i, xs.drop (i + 1), ?_, by simp; omega⟩
  rw [<- he, <- List.drop_eq_getElem_cons hi, List.take_append_drop]
 have key : ∀ j v, j < 5 -> (itCells x)[j]? = some v -> w.cell? ⟨g, 0 + i * 5 + j, none⟩ = some v := fun j v hj hv => by
  rw [Nat.zero_add]
  refine h.cell ?_
  rw [<- hA, <- hv]
  exact flat_getP itCells 5 (fun _ => rfl) A x B pad j hj
 exact ⟨key 0 _ (by omega) rfl, key 1 _ (by omega) rfl, key 2 _ (by omega) rfl, key 3 _ (by omega) rfl, key 4 _ (by omega) rfl⟩
def Oks (xs : List It) : Prop := ∀ x ∈ xs, x.fits /\ x.key.length <= 140737488351232 /\ x.value.length <= 140737488351232
def Row (w : World) (base : Nat) (v : Value) (xs : List It) : Prop := w.ownsRow base 39 5 v xs.length (itsCells xs)
theorem Row.nil (w : World) (base : Nat) : Row w base (.slice none 0 0) [] := World.ownsRow_nil _ _ _ _
theorem Row.form {w : World} {base : Nat} {v : Value} {xs : List It} (h : Row w base v xs) : (v = .slice none 0 0 /\ xs = []) \/ ∃ g cap pad, v = .slice (some ⟨g, 0, none⟩) xs.length cap /\ base <= g /\ Blk w g (itsCells xs ++ pad) 39 /\ xs.length <= cap /\ cap <= maxLen /\ (itsCells xs ++ pad).length = cap * 5 := by
 rcases h.2 with ⟨hv, h0⟩ | ⟨g, cap, cur, hv, hb, hh, hc, hm, hs, ht⟩
 ·exact .inl ⟨hv, List.eq_nil_of_length_eq_zero h0⟩
 ·have e : itsCells xs ++ cur.toList.drop (xs.length * 5) = cur.toList := by rw [<- ht, List.take_append_drop]
  refine .inr ⟨g, cap, cur.toList.drop (xs.length * 5), hv, hb, ?_, hc, hm, by rw [e]; simpa using hs⟩
  unfold Blk
  rw [e]
  simpa using hh
theorem Row.of {w : World} {base g cap : Nat} {xs : List It} {pad : List Value} (hb : base <= g) (h : Blk w g (itsCells xs ++ pad) 39) (hc : xs.length <= cap) (hm : cap <= maxLen) (hl : (itsCells xs ++ pad).length = cap * 5) : Row w base (.slice (some ⟨g, 0, none⟩) xs.length cap) xs := by
 refine ⟨itsCells_length xs, .inr ⟨g, cap, (itsCells xs ++ pad).toArray, rfl, hb, h, hc, hm, by simpa using hl, ?_⟩⟩
 rw [List.toList_toArray, <- itsCells_length xs]
 simp
theorem Row.its {w : World} {base : Nat} {v : Value} {xs : List It} (h : Row w base v xs) (ho : Oks xs) : ∃ a cap, v = .slice a xs.length cap /\ ItsAt w a xs.length xs /\ (∀ q, v.ownBlock = some q -> a = some ⟨q, 0, none⟩) /\ xs.length <= cap /\ cap <= maxLen := by
 rcases h.form with ⟨rfl, rfl⟩ | ⟨g, cap, pad, rfl, hb, hh, hc, hm, hl⟩
 ·exact ⟨none, 0, rfl, ⟨rfl, ho, fun i x hx => by simp at hx⟩, fun q hq => by simp [Value.ownBlock] at hq, by simp, by simp⟩
 ·exact ⟨_, cap, rfl, its_blk hh rfl ho, fun q hq => by simp [Value.ownBlock] at hq; rw [hq], hc, hm⟩
theorem Row.keep {w w' : World} {base : Nat} {v : Value} {xs : List It} (h : Row w base v xs) (k : ∀ q, v.ownBlock = some q -> w'.heap[q]? = w.heap[q]?) : Row w' base v xs := by
 refine ⟨h.1, ?_⟩
 rcases h.2 with h2 | ⟨g, cap, cur, hv, hg, hh, r⟩
 ·exact .inl h2
 ·exact .inr ⟨g, cap, cur, hv, hg, by rw [k g (by rw [hv]; rfl)]; exact hh, r⟩
theorem Row.lt {w : World} {base : Nat} {v : Value} {xs : List It} (h : Row w base v xs) : ∀ q, v.ownBlock = some q -> base <= q /\ q < w.heap.size := by
 intro q hq
 rcases h.form with ⟨rfl, rfl⟩ | ⟨g, cap, pad, rfl, hb, hh, hc, hm, hl⟩
 ·simp [Value.ownBlock] at hq
 ·simp [Value.ownBlock] at hq; subst hq; exact ⟨hb, hh.lt⟩
theorem Row.below {w w' : World} {base : Nat} {v : Value} {xs : List It} (h : Row w base v xs) (b : Below w.heap.size w w') : Row w' base v xs := h.keep (fun q hq => b.block q (h.lt q hq).2)
theorem Row.mono {w : World} {base base' : Nat} {v : Value} {xs : List It} (h : Row w base v xs) (hb : base' <= base) : Row w base' v xs := by
 refine ⟨h.1, ?_⟩
 rcases h.2 with h2 | ⟨g, cap, cur, hv, hg, r⟩
 ·exact .inl h2
 ·exact .inr ⟨g, cap, cur, hv, Nat.le_trans hb hg, r⟩
theorem itsCells_append (xs ys : List It) : itsCells xs ++ itsCells ys = itsCells (xs ++ ys) := by simp [itsCells]
theorem its_one (xs : List It) : ∀ u ∈ itsCells xs, u.oneCell' = true := by
 intro u hu
 simp only [itsCells, List.mem_flatMap] at hu
 obtain ⟨x, _, hu⟩ := hu
 simp only [itCells, List.mem_cons, List.not_mem_nil, or_false] at hu
 rcases hu with rfl | rfl | rfl | rfl | rfl <;> rfl
theorem its_news {W : World} {b o len : Nat} {xs : List It} (h : ItsAt W (some ⟨b, o, none⟩) len xs) : ∀ (t : Nat) (u : Value), (itsCells xs)[t]? = some u -> W.cell? ((⟨b, o, none⟩ : Addr).add t) = some u := by
 intro t u hu
 have ht : t < xs.length * 5 := by rw [<- itsCells_length]; exact (List.getElem?_eq_some_iff.1 hu).1
 have hi : t / 5 < xs.length := by omega
 obtain ⟨x, hx⟩ : ∃ x, xs[t / 5]? = some x := ⟨_, List.getElem?_eq_getElem hi⟩
 obtain ⟨_, _, he, _, hc⟩ := h.cell (t / 5) x hx
 cases he
 obtain ⟨A, B, e, hA⟩ : ∃ A B, xs = A ++ x :: B /\ A.length = t / 5 := by
  obtain ⟨hi, he⟩ := List.getElem?_eq_some_iff.1 hx
  refine ⟨xs.take (t / 5), xs.drop (t / 5 + 1), ?_, by simp; omega⟩
  rw [<- he, <- List.drop_eq_getElem_cons hi, List.take_append_drop]
 have h5 : t % 5 < 5 := Nat.mod_lt _ (by decide)
 have et : t = A.length * 5 + t % 5 := by rw [hA]; omega
 have hv : (itCells x)[t % 5]? = some u := by
  rw [<- hu, e, et]
  have := flat_get itCells 5 (fun _ => rfl) A x B (t % 5) h5
  rw [show (A.length * 5 + t % 5) % 5 = t % 5 by omega]
  exact this.symm
 rw [Addr.add_lit, show o + t = o + t / 5 * 5 + t % 5 by omega]
 generalize t % 5 = k at hv h5
 match k, h5 with
 | 0, _ => simp [itCells] at hv; rw [<- hv]; exact hc.c0
 | 1, _ => simp [itCells] at hv; rw [<- hv]; exact hc.c1
 | 2, _ => simp [itCells] at hv; rw [<- hv]; exact hc.c2
 | 3, _ => simp [itCells] at hv; rw [<- hv]; exact hc.c3
 | 4, _ => simp [itCells] at hv; rw [<- hv]; exact hc.c4
theorem Row.sl {w : World} {base : Nat} {v : Value} {xs : List It} (h : Row w base v xs) : ∃ a c, v = .slice a xs.length c := by
 rcases h.form with ⟨rfl, rfl⟩ | ⟨g, cap, pad, rfl, _⟩
 ·exact ⟨none, 0, rfl⟩
 ·exact ⟨_, cap, rfl⟩
theorem app_gen {w : World} {base : Nat} {t e : TypeId} {i : TypeInfo} {z : Value} {sz bytes : Nat} (ht : Tryz.prog.underlying t = some (.slice e)) (hi : Tryz.prog.info? e = some i) (hz : i.zero = some z) (hsize : i.size = sz) (hby : i.bytes = bytes) (hzs : z.cells.size = sz) (hsz : 0 < sz)
  {v : Value} {n : Nat} {xs : List Value} (h : w.ownsRow base e sz v n xs) (news : List Value) (hl : news.length = sz) (h1 : ∀ u ∈ news, u.oneCell' = true) (hn : n + 1 <= 1048576) (hb8 : bytes <= 1000) (hb : base <= w.heap.size) :
  ∃ va vc w', (∀ ty, (Builtin.append_ #[t, t] ty #[v, .slice (some ⟨w.heap.size, 0, none⟩) 1 1]).run Tryz.prog (w.alloc (.cells news.toArray e)) = .ok (.slice va (n + 1) vc) w') /\
   w'.ownsRow base e sz (.slice va (n + 1) vc) (n + 1) (xs ++ news) /\ Keep (own v) w w' /\ (∀ q ∈ own (.slice va (n + 1) vc), q ∈ own v \/ w.heap.size <= q) /\ w.heap.size < w'.heap.size := by
 have b := (Below.refl w.heap.size w).alloc (Nat.le_refl _) (.cells news.toArray e)
 have hown : (w.alloc (.cells news.toArray e)).ownsRow base e sz v n xs := own_same h (fun q hq => by
  obtain ⟨c, hc⟩ := own_ty h hq
  exact b.block q (Array.getElem?_eq_some_iff.1 hc).1)
 have hnews : ∀ j u, news[j]? = some u -> (w.alloc (.cells news.toArray e)).cell? ((⟨w.heap.size, 0, none⟩ : Addr).add j) = some u := fun j u hu => by
  rw [Addr.add_lit, Nat.zero_add]
  exact (Blk.new w news e).cell hu
 have hbytes : (n + 1) * bytes <= 140737488355328 := Nat.le_trans (Nat.mul_le_mul hn hb8) (by decide)
 obtain ⟨v', w', hrun, ho, hg, hnil, hblk⟩ := run_append_own_at (P := Tryz.prog) (w.alloc (.cells news.toArray e)) base t 0 e i z sz bytes ht hi hz hsize hby hzs hsz v n xs hown ⟨w.heap.size, 0, none⟩ 1 1 news (by rw [hl, Nat.one_mul]) hnews h1 (by unfold maxLen; omega) hbytes (Nat.le_trans hb b.size)
 have hform : ∃ va vc, v' = .slice va (n + 1) vc := by
  rcases ho.2 with ⟨_, h0⟩ | ⟨g, cap, cur, hv, _⟩
  ·omega
  ·exact ⟨_, _, hv⟩
 obtain ⟨va, vc, rfl⟩ := hform
 have k1 : Keep (own v) w (w.alloc (.cells news.toArray e)) := Keep.of_below b
 refine ⟨va, vc, w', fun ty => hrun, ho, k1.grown hg (fun q hq => .inl (mem_own.2 hq)), fun q hq => ?_, ?_⟩
 ·rcases hblk with h2 | h2
  ·exact .inl (mem_own.2 (h2 ▸ mem_own.1 hq))
  ·have := mem_own.1 hq
   rw [h2] at this
   have e2 : (w.alloc (.cells news.toArray e)).heap.size = q := Option.some.inj this
   rw [nblk_alloc] at e2
   exact .inr (by omega)
 ·have := hg.size
  rw [nblk_alloc] at this
  omega
theorem infoPtr : (Tryz.prog.info? 211).map (fun i => (i.zero, i.size, i.bytes)) = some (some (.pointer none), 1, 8) := by kernel_rfl
theorem info68 : (Tryz.prog.info? 206).map (fun i => (i.zero, i.size, i.bytes)) = some (some (.agg #[.int .i64 0, .int .u64 0, .slice none 0 0]), 3, 40) := by kernel_rfl
theorem info82 : (Tryz.prog.info? 259).map (fun i => (i.zero, i.size, i.bytes)) = some (some (.agg #[.int .u8 0, .int .u64 0, .slice none 0 0]), 3, 40) := by kernel_rfl
theorem app_ptr {w : World} {base : Nat} {v : Value} {n : Nat} {xs : List Value} (h : w.ownsRow base 211 1 v n xs) (p : Value) (hp : p.oneCell' = true) (hn : n + 1 <= 1048576) (hb : base <= w.heap.size) :
  ∃ va vc w', (∀ ty, (Builtin.append_ #[199, 199] ty #[v, .slice (some ⟨w.heap.size, 0, none⟩) 1 1]).run Tryz.prog (w.alloc (.cells #[p] 211)) = .ok (.slice va (n + 1) vc) w') /\
   w'.ownsRow base 211 1 (.slice va (n + 1) vc) (n + 1) (xs ++ [p]) /\ Keep (own v) w w' /\ (∀ q ∈ own (.slice va (n + 1) vc), q ∈ own v \/ w.heap.size <= q) /\ w.heap.size < w'.heap.size := by
 obtain ⟨i0, hi0, hp0⟩ := Option.map_eq_some_iff.1 infoPtr
 simp only [Prod.mk.injEq] at hp0
 exact app_gen Tryz.underlying199 hi0 hp0.1 hp0.2.1 hp0.2.2 rfl (by decide) h [p] rfl (by simpa using hp) hn (by decide) hb
theorem app_rg {w : World} {base : Nat} {v : Value} {n : Nat} {xs : List Value} (h : w.ownsRow base 206 3 v n xs) (p0 p1 p2 : Value) (h0 : p0.oneCell' = true) (h1 : p1.oneCell' = true) (h2 : p2.oneCell' = true) (hn : n + 1 <= 1048576) (hb : base <= w.heap.size) :
  ∃ va vc w', (∀ ty, (Builtin.append_ #[198, 198] ty #[v, .slice (some ⟨w.heap.size, 0, none⟩) 1 1]).run Tryz.prog (w.alloc (.cells #[p0, p1, p2] 206)) = .ok (.slice va (n + 1) vc) w') /\
   w'.ownsRow base 206 3 (.slice va (n + 1) vc) (n + 1) (xs ++ [p0, p1, p2]) /\ Keep (own v) w w' /\ (∀ q ∈ own (.slice va (n + 1) vc), q ∈ own v \/ w.heap.size <= q) /\ w.heap.size < w'.heap.size := by
 obtain ⟨i0, hi0, hp0⟩ := Option.map_eq_some_iff.1 info68
 simp only [Prod.mk.injEq] at hp0
 exact app_gen Tryz.underlying198 hi0 hp0.1 hp0.2.1 hp0.2.2 rfl (by decide) h [p0, p1, p2] rfl (by simp [h0, h1, h2]) hn (by decide) hb
theorem app_pg {w : World} {base : Nat} {v : Value} {n : Nat} {xs : List Value} (h : w.ownsRow base 259 3 v n xs) (p0 p1 p2 : Value) (h0 : p0.oneCell' = true) (h1 : p1.oneCell' = true) (h2 : p2.oneCell' = true) (hn : n + 1 <= 1048576) (hb : base <= w.heap.size) :
  ∃ va vc w', (∀ ty, (Builtin.append_ #[257, 257] ty #[v, .slice (some ⟨w.heap.size, 0, none⟩) 1 1]).run Tryz.prog (w.alloc (.cells #[p0, p1, p2] 259)) = .ok (.slice va (n + 1) vc) w') /\
   w'.ownsRow base 259 3 (.slice va (n + 1) vc) (n + 1) (xs ++ [p0, p1, p2]) /\ Keep (own v) w w' /\ (∀ q ∈ own (.slice va (n + 1) vc), q ∈ own v \/ w.heap.size <= q) /\ w.heap.size < w'.heap.size := by
 obtain ⟨i0, hi0, hp0⟩ := Option.map_eq_some_iff.1 info82
 simp only [Prod.mk.injEq] at hp0
 exact app_gen Tryz.underlying257 hi0 hp0.1 hp0.2.1 hp0.2.2 rfl (by decide) h [p0, p1, p2] rfl (by simp [h0, h1, h2]) hn (by decide) hb
theorem app_it {w : World} {base : Nat} {v : Value} {xs : List It} (h : Row w base v xs) (x : It) (hn : xs.length + 1 <= 1048576) (hb : base <= w.heap.size) :
  ∃ va vc w', (∀ ty, (Builtin.append_ #[72, 72] ty #[v, .slice (some ⟨w.heap.size, 0, none⟩) 1 1]).run Tryz.prog (w.alloc (.cells #[.string (txt x.key), .string (txt x.value), .int .u32 x.flags, .int .i64 x.exp, .int .u64 x.ver] 39)) = .ok (.slice va (xs.length + 1) vc) w') /\
   Row w' base (.slice va (xs.length + 1) vc) (xs ++ [x]) /\ Keep (own v) w w' /\ (∀ q ∈ own (.slice va (xs.length + 1) vc), q ∈ own v \/ w.heap.size <= q) /\ w.heap.size < w'.heap.size := by
 obtain ⟨i0, hi0, hp0⟩ := Option.map_eq_some_iff.1 info30
 simp only [Prod.mk.injEq] at hp0
 obtain ⟨va, vc, w', h1, h2, h3, h4⟩ := app_gen Tryz.underlying72 hi0 hp0.1 hp0.2.1 hp0.2.2 rfl (by decide) h (itCells x) rfl (by simp [itCells]; exact ⟨rfl, rfl, rfl, rfl, rfl⟩) hn (by decide) hb
 refine ⟨va, vc, w', h1, ?_, h3, h4⟩
 unfold Row
 rw [List.length_append, <- itsCells_snoc]
 exact h2
theorem OneIt.vals {w : World} {b o : Nat} {x : It} (h : OneIt w b o x) : w.cell? ⟨b, o, none⟩ = some (.string (txt x.key)) /\ w.cell? ⟨b, o + 1, none⟩ = some (.string (txt x.value)) /\ w.cell? ⟨b, o + 2, none⟩ = some (.int .u32 x.flags) /\ w.cell? ⟨b, o + 3, none⟩ = some (.int .i64 x.exp) /\ w.cell? ⟨b, o + 4, none⟩ = some (.int .u64 x.ver) := ⟨h.c0, h.c1, h.c2, h.c3, h.c4⟩
def notKey (key : List UInt8) (x : It) : Bool := decide (x.key ≠ key)
theorem has_nat {S : Dv} {k : Nat} (hk : k < S.cs.length) : S.has (k : Int) = true := by
 unfold Dv.has
 simp
 exact hk
theorem read_facts {S : Dv} {k : Nat} {c : Cl} (hk : S.cs[k]? = some c) (hoff : S.off = false) : S.readErr (k : Int) = c.now.err /\ S.readText (k : Int) = c.now.read := by
 have hlt : k < S.cs.length := (List.getElem?_eq_some_iff.1 hk).1
 constructor
 ·simp [Dv.readErr, has_nat hlt, hoff, hk]
 ·simp [Dv.readText, has_nat hlt, hoff, hk]
theorem read_whole {d : Nat} {F : List Nat} {S : Dv} {k : Nat} {c : Cl} {b : ByteArray} (hk : S.cs[k]? = some c) (hoff : S.off = false) (hc : c.now = .whole b) (w : World) (h : DvAt w d F S) :
  Calls Tryz.prog 99 #[.pointer (some ⟨d, 0, none⟩), .int .i64 (k : Nat)] w fun e w' => e = .returned (.tuple #[.slice (some ⟨w.heap.size + 1, 0, none⟩) 384 384, .int .i64 0]) /\
   BS w' (some ⟨w.heap.size + 1, 0, none⟩) 384 384 (full b).data.toList /\ DvAt w' d F (S.readDo (k : Nat)) /\ Keep F w w' := by
 obtain ⟨e1, e2⟩ := read_facts hk hoff
 rw [hc] at e1 e2
 refine (read_at d F S k w h).mono ?_
 rintro r w1 ⟨v, rfl, hr, hd1, kp1⟩
 rw [e1, e2] at hr
 rw [e1]
 rcases hr with ⟨h0, _⟩ | ⟨_, hsz, g, rfl, rfl, hb⟩
 ·exact absurd rfl h0
 ·have hsz' : (full b).data.toList.length = 384 := by rw [Array.length_toList]; exact hsz
  refine ⟨rfl, buf_bs ?_ hsz'.symm (Nat.le_refl _), hd1, kp1⟩
  unfold Buf
  rw [show zc 0 = [] from rfl, List.append_nil]
  exact hb
theorem read_bare {d : Nat} {F : List Nat} {S : Dv} {k : Nat} {c : Cl} {p : Pg} {e0 : Int} (hk : S.cs[k]? = some c) (hoff : S.off = false) (hc : c.now = p) (he : p.err = e0) (h0 : e0 ≠ 0) (w : World) (h : DvAt w d F S) :
  Calls Tryz.prog 99 #[.pointer (some ⟨d, 0, none⟩), .int .i64 (k : Nat)] w fun e w' => e = .returned (.tuple #[.slice none 0 0, .int .i64 e0]) /\ DvAt w' d F (S.readDo (k : Nat)) /\ Keep F w w' := by
 obtain ⟨e1, e2⟩ := read_facts hk hoff
 rw [hc, he] at e1
 refine (read_at d F S k w h).mono ?_
 rintro r w1 ⟨v, rfl, hr, hd1, kp1⟩
 rw [e1] at hr ⊢
 rcases hr with ⟨_, rfl, _⟩ | ⟨h1, _⟩
 ·exact ⟨rfl, hd1, kp1⟩
 ·exact absurd h1 h0
theorem DvAt.alloc {w : World} {d : Nat} {F : List Nat} {S : Dv} (h : DvAt w d F S) (o : Obj) : DvAt (w.alloc o) d F S := h.same (fun k hk => blk_alloc_lt _ _ _ (h.lt k hk))
theorem DvAt.below {w w' : World} {d : Nat} {F : List Nat} {S : Dv} (h : DvAt w d F S) (b : Below w.heap.size w w') : DvAt w' d F S := h.same (fun k hk => b.block k (h.lt k hk))
theorem DvAt.new {w : World} {d : Nat} {F : List Nat} {S : Dv} (h : DvAt w d F S) (k : Nat) (hk : w.heap.size <= k) : k ∉ F := fun hf => by have := h.lt k hf; omega
structure Law (w0 : World) (d : Nat) (F : List Nat) (S : Dv) (W : World) : Prop where
 dev : DvAt W d F S
 low : ∀ k ∈ F, w0.heap.size <= k
 bel : Below w0.heap.size w0 W
theorem Law.move {w0 W W' : World} {d : Nat} {F F' : List Nat} {S S' : Dv} (h : Law w0 d F S W) (hd : DvAt W' d F' S') (m : Moves F F' W W') : Law w0 d F' S' W' := by
 have hs := h.bel.size
 refine ⟨hd, fun k hk => ?_, h.bel.trans (m.keep.below h.low hs)⟩
 rcases m.foot k hk with h1 | h1
 ·exact h.low k h1
 ·omega
theorem Law.below {w0 W W' : World} {d : Nat} {F : List Nat} {S : Dv} (h : Law w0 d F S W) (b : Below W.heap.size W W') : Law w0 d F S W' := h.move (h.dev.below b) (Moves.of_keep (Keep.of_below b))
theorem Law.alloc {w0 W : World} {d : Nat} {F : List Nat} {S : Dv} (h : Law w0 d F S W) (o : Obj) : Law w0 d F S (W.alloc o) := h.below ((Below.refl _ _).alloc (Nat.le_refl _) _)
theorem new_law {w0 W : World} (b : Below w0.heap.size w0 W) (n : Nat) (h1 : 1 <= n) (h2 : n <= 4096) :
  Calls Tryz.prog 10 #[.int .i64 n] W fun e W' => ∃ d F, e = .returned (.tuple #[.pointer (some ⟨d, 0, none⟩), .int .i64 0]) /\ Law w0 d F (Dv.fresh n) W' /\ Below W.heap.size W W' := by
 have hs := b.size
 refine (new_any n h1 h2 W).mono ?_
 rintro e W' ⟨rfl, hd, hb⟩
 refine ⟨W.heap.size + 1, foot (W.heap.size + 1) W.heap.size none, rfl, ⟨⟨_, _, _, _, rfl, hd⟩, fun k hk => ?_, b.trans (hb.mono hs)⟩, hb⟩
 simp [foot] at hk
 omega
def Dv.pg (S : Dv) (k : Nat) : Option Pg := (S.cs[k]?).map (·.now)
theorem putAt_get : ∀ (cs : List Cl) (i j : Nat) (p : Pg), ((putAt cs i p)[j]?).map (·.now) = if j = i /\ j < cs.length then some p else (cs[j]?).map (·.now)
 | [], i, j, p => by simp [putAt]
 | c :: r, 0, 0, p => by simp [putAt, Cl.put]
 | c :: r, 0, j + 1, p => by simp [putAt]
 | c :: r, i + 1, 0, p => by simp [putAt]
 | c :: r, i + 1, j + 1, p => by
  have := putAt_get r i j p
  simp only [putAt, List.getElem?_cons_succ, this, List.length_cons]
  by_cases h : j = i /\ j < r.length
  ·rw [if_pos h, if_pos (by omega)]
  ·rw [if_neg h, if_neg (by omega)]
theorem flush_get (cs : List Cl) (j : Nat) : (((cs.map Cl.flush)[j]?).map (·.now)) = (cs[j]?).map (·.now) := by
 rw [List.getElem?_map]
 cases cs[j]? <;> rfl
theorem used_off (S : Dv) (ha : S.armed ≠ 1) : S.used.off = S.off := by
 unfold Dv.used; split
 ·rfl
 ·rfl
theorem used_armed (S : Dv) (ho : S.off = false) (ha : S.armed ≠ 1) : S.used.armed = S.armed - 1 := by
 unfold Dv.used; split
 ·rename_i h
  rcases h with h | h
  ·rw [ho] at h; cases h
  ·omega
 ·rfl
end Go.Proofs.YtcdghalnneilpaaGreat
