/- Rows that are owned: of items, of pointers, of regions, of pages; one more at their end; 'without'. -/
import Derived.Test.YtbjkahdlejaheaaLg1
import Derived.Test.YtbjkahdlejaheaaRExt
import Derived.Test.YtbjkahdlejaheaaREq
import Derived.Maps.AppendAt
set_option linter.unusedVariables false
set_option linter.unusedSimpArgs false
set_option maxRecDepth 8000
namespace Go.Proofs.Ytbjkahdlejaheaa
open Go.RowKit Go.Deep Math

theorem its_blk {w : World} {g n : Nat} {xs : List It} {pad : List Value} (h : Blk w g (itsCells xs ++ pad) 36) (hn : n = xs.length) (hs : ∀ x ∈ xs, x.fits ∧ x.key.length ≤ 140737488351232 ∧ x.value.length ≤ 140737488351232) : ItsAt w (some ⟨g, 0, none⟩) n xs := by
  refine ⟨hn, hs, fun i x hx => ⟨g, 0, rfl, h.lt, ?_⟩⟩
  obtain ⟨A, B, rfl, hA⟩ : ∃ A B, xs = A ++ x :: B ∧ A.length = i := by
    obtain ⟨hi, he⟩ := List.getElem?_eq_some_iff.1 hx
    refine ⟨xs.take i, xs.drop (i + 1), ?_, by simp; omega⟩
    rw [← he, ← List.drop_eq_getElem_cons hi, List.take_append_drop]
  have key : ∀ j v, j < 5 → (itCells x)[j]? = some v → w.cell? ⟨g, 0 + i * 5 + j, none⟩ = some v := fun j v hj hv => by
    rw [Nat.zero_add]
    refine h.cell ?_
    rw [← hA, ← hv]
    exact flat_getP itCells 5 (fun _ => rfl) A x B pad j hj
  exact ⟨key 0 _ (by omega) rfl, key 1 _ (by omega) rfl, key 2 _ (by omega) rfl, key 3 _ (by omega) rfl, key 4 _ (by omega) rfl⟩
/-- Items that stay within bounds. -/
def Oks (xs : List It) : Prop := ∀ x ∈ xs, x.fits ∧ x.key.length ≤ 140737488351232 ∧ x.value.length ≤ 140737488351232
/-- A row of items, at or above base. -/
def Row (w : World) (base : Nat) (v : Value) (xs : List It) : Prop := w.ownsRow base 36 5 v xs.length (itsCells xs)
theorem Row.nil (w : World) (base : Nat) : Row w base (.slice none 0 0) [] := World.ownsRow_nil _ _ _ _
theorem Row.form {w : World} {base : Nat} {v : Value} {xs : List It} (h : Row w base v xs) : (v = .slice none 0 0 ∧ xs = []) ∨ ∃ g cap pad, v = .slice (some ⟨g, 0, none⟩) xs.length cap ∧ base ≤ g ∧ Blk w g (itsCells xs ++ pad) 36 ∧ xs.length ≤ cap ∧ cap ≤ maxLen ∧ (itsCells xs ++ pad).length = cap * 5 := by
  rcases h.2 with ⟨hv, h0⟩ | ⟨g, cap, cur, hv, hb, hh, hc, hm, hs, ht⟩
  · exact .inl ⟨hv, List.eq_nil_of_length_eq_zero h0⟩
  · have e : itsCells xs ++ cur.toList.drop (xs.length * 5) = cur.toList := by rw [← ht, List.take_append_drop]
    refine .inr ⟨g, cap, cur.toList.drop (xs.length * 5), hv, hb, ?_, hc, hm, by rw [e]; simpa using hs⟩
    unfold Blk
    rw [e]
    simpa using hh
theorem Row.of {w : World} {base g cap : Nat} {xs : List It} {pad : List Value} (hb : base ≤ g) (h : Blk w g (itsCells xs ++ pad) 36) (hc : xs.length ≤ cap) (hm : cap ≤ maxLen) (hl : (itsCells xs ++ pad).length = cap * 5) : Row w base (.slice (some ⟨g, 0, none⟩) xs.length cap) xs := by
  refine ⟨itsCells_length xs, .inr ⟨g, cap, (itsCells xs ++ pad).toArray, rfl, hb, h, hc, hm, by simpa using hl, ?_⟩⟩
  rw [List.toList_toArray, ← itsCells_length xs]
  simp
theorem Row.its {w : World} {base : Nat} {v : Value} {xs : List It} (h : Row w base v xs) (ho : Oks xs) : ∃ a cap, v = .slice a xs.length cap ∧ ItsAt w a xs.length xs ∧ (∀ q, v.ownBlock = some q → a = some ⟨q, 0, none⟩) ∧ xs.length ≤ cap ∧ cap ≤ maxLen := by
  rcases h.form with ⟨rfl, rfl⟩ | ⟨g, cap, pad, rfl, hb, hh, hc, hm, hl⟩
  · exact ⟨none, 0, rfl, ⟨rfl, ho, fun i x hx => by simp at hx⟩, fun q hq => by simp [Value.ownBlock] at hq, by simp, by simp⟩
  · exact ⟨_, cap, rfl, its_blk hh rfl ho, fun q hq => by simp [Value.ownBlock] at hq; rw [hq], hc, hm⟩
theorem Row.keep {w w' : World} {base : Nat} {v : Value} {xs : List It} (h : Row w base v xs) (k : ∀ q, v.ownBlock = some q → w'.heap[q]? = w.heap[q]?) : Row w' base v xs := by
  refine ⟨h.1, ?_⟩
  rcases h.2 with h2 | ⟨g, cap, cur, hv, hg, hh, r⟩
  · exact .inl h2
  · exact .inr ⟨g, cap, cur, hv, hg, by rw [k g (by rw [hv]; rfl)]; exact hh, r⟩
theorem Row.lt {w : World} {base : Nat} {v : Value} {xs : List It} (h : Row w base v xs) : ∀ q, v.ownBlock = some q → base ≤ q ∧ q < w.heap.size := by
  intro q hq
  rcases h.form with ⟨rfl, rfl⟩ | ⟨g, cap, pad, rfl, hb, hh, hc, hm, hl⟩
  · simp [Value.ownBlock] at hq
  · simp [Value.ownBlock] at hq; subst hq; exact ⟨hb, hh.lt⟩
theorem Row.below {w w' : World} {base : Nat} {v : Value} {xs : List It} (h : Row w base v xs) (b : Below w.heap.size w w') : Row w' base v xs := h.keep (fun q hq => b.block q (h.lt q hq).2)
theorem Row.mono {w : World} {base base' : Nat} {v : Value} {xs : List It} (h : Row w base v xs) (hb : base' ≤ base) : Row w base' v xs := by
  refine ⟨h.1, ?_⟩
  rcases h.2 with h2 | ⟨g, cap, cur, hv, hg, r⟩
  · exact .inl h2
  · exact .inr ⟨g, cap, cur, hv, Nat.le_trans hb hg, r⟩
theorem itsCells_append (xs ys : List It) : itsCells xs ++ itsCells ys = itsCells (xs ++ ys) := by simp [itsCells]
theorem its_one (xs : List It) : ∀ u ∈ itsCells xs, u.oneCell' = true := by
  intro u hu
  simp only [itsCells, List.mem_flatMap] at hu
  obtain ⟨x, _, hu⟩ := hu
  simp only [itCells, List.mem_cons, List.not_mem_nil, or_false] at hu
  rcases hu with rfl | rfl | rfl | rfl | rfl <;> rfl
theorem its_news {W : World} {b o len : Nat} {xs : List It} (h : ItsAt W (some ⟨b, o, none⟩) len xs) : ∀ (t : Nat) (u : Value), (itsCells xs)[t]? = some u → W.cell? ((⟨b, o, none⟩ : Addr).add t) = some u := by
  intro t u hu
  have ht : t < xs.length * 5 := by rw [← itsCells_length]; exact (List.getElem?_eq_some_iff.1 hu).1
  have hi : t / 5 < xs.length := by omega
  obtain ⟨x, hx⟩ : ∃ x, xs[t / 5]? = some x := ⟨_, List.getElem?_eq_getElem hi⟩
  obtain ⟨_, _, he, _, hc⟩ := h.cell (t / 5) x hx
  cases he
  obtain ⟨A, B, e, hA⟩ : ∃ A B, xs = A ++ x :: B ∧ A.length = t / 5 := by
    obtain ⟨hi, he⟩ := List.getElem?_eq_some_iff.1 hx
    refine ⟨xs.take (t / 5), xs.drop (t / 5 + 1), ?_, by simp; omega⟩
    rw [← he, ← List.drop_eq_getElem_cons hi, List.take_append_drop]
  have h5 : t % 5 < 5 := Nat.mod_lt _ (by decide)
  have et : t = A.length * 5 + t % 5 := by rw [hA]; omega
  have hv : (itCells x)[t % 5]? = some u := by
    rw [← hu, e, et]
    have := flat_get itCells 5 (fun _ => rfl) A x B (t % 5) h5
    rw [show (A.length * 5 + t % 5) % 5 = t % 5 by omega]
    exact this.symm
  rw [Addr.add_lit, show o + t = o + t / 5 * 5 + t % 5 by omega]
  generalize t % 5 = k at hv h5
  match k, h5 with
  | 0, _ => simp [itCells] at hv; rw [← hv]; exact hc.c0
  | 1, _ => simp [itCells] at hv; rw [← hv]; exact hc.c1
  | 2, _ => simp [itCells] at hv; rw [← hv]; exact hc.c2
  | 3, _ => simp [itCells] at hv; rw [← hv]; exact hc.c3
  | 4, _ => simp [itCells] at hv; rw [← hv]; exact hc.c4
theorem Row.sl {w : World} {base : Nat} {v : Value} {xs : List It} (h : Row w base v xs) : ∃ a c, v = .slice a xs.length c := by
  rcases h.form with ⟨rfl, rfl⟩ | ⟨g, cap, pad, rfl, _⟩
  · exact ⟨none, 0, rfl⟩
  · exact ⟨_, cap, rfl⟩

/-- One more at the end of an owned row. -/
theorem app_gen {w : World} {base : Nat} {t e : TypeId} {i : TypeInfo} {z : Value} {sz bytes : Nat} (ht : Try.prog.underlying t = some (.slice e)) (hi : Try.prog.info? e = some i) (hz : i.zero = some z) (hsize : i.size = sz) (hby : i.bytes = bytes) (hzs : z.cells.size = sz) (hsz : 0 < sz)
    {v : Value} {n : Nat} {xs : List Value} (h : w.ownsRow base e sz v n xs) (news : List Value) (hl : news.length = sz) (h1 : ∀ u ∈ news, u.oneCell' = true) (hn : n + 1 ≤ 1048576) (hb8 : bytes ≤ 1000) (hb : base ≤ w.heap.size) :
    ∃ va vc w', (∀ ty, (Builtin.append_ #[t, t] ty #[v, .slice (some ⟨w.heap.size, 0, none⟩) 1 1]).run Try.prog (w.alloc (.cells news.toArray e)) = .ok (.slice va (n + 1) vc) w') ∧
      w'.ownsRow base e sz (.slice va (n + 1) vc) (n + 1) (xs ++ news) ∧ Keep (own v) w w' ∧ (∀ q ∈ own (.slice va (n + 1) vc), q ∈ own v ∨ w.heap.size ≤ q) ∧ w.heap.size < w'.heap.size := by
  have b := (Below.refl w.heap.size w).alloc (Nat.le_refl _) (.cells news.toArray e)
  have hown : (w.alloc (.cells news.toArray e)).ownsRow base e sz v n xs := own_same h (fun q hq => by
    obtain ⟨c, hc⟩ := own_ty h hq
    exact b.block q (Array.getElem?_eq_some_iff.1 hc).1)
  have hnews : ∀ j u, news[j]? = some u → (w.alloc (.cells news.toArray e)).cell? ((⟨w.heap.size, 0, none⟩ : Addr).add j) = some u := fun j u hu => by
    rw [Addr.add_lit, Nat.zero_add]
    exact (Blk.new w news e).cell hu
  have hbytes : (n + 1) * bytes ≤ 140737488355328 := Nat.le_trans (Nat.mul_le_mul hn hb8) (by decide)
  obtain ⟨v', w', hrun, ho, hg, hnil, hblk⟩ := run_append_own_at (P := Try.prog) (w.alloc (.cells news.toArray e)) base t 0 e i z sz bytes ht hi hz hsize hby hzs hsz v n xs hown ⟨w.heap.size, 0, none⟩ 1 1 news (by rw [hl, Nat.one_mul]) hnews h1 (by unfold maxLen; omega) hbytes (Nat.le_trans hb b.size)
  have hform : ∃ va vc, v' = .slice va (n + 1) vc := by
    rcases ho.2 with ⟨_, h0⟩ | ⟨g, cap, cur, hv, _⟩
    · omega
    · exact ⟨_, _, hv⟩
  obtain ⟨va, vc, rfl⟩ := hform
  have k1 : Keep (own v) w (w.alloc (.cells news.toArray e)) := Keep.of_below b
  refine ⟨va, vc, w', fun ty => hrun, ho, k1.grown hg (fun q hq => .inl (mem_own.2 hq)), fun q hq => ?_, ?_⟩
  · rcases hblk with h2 | h2
    · exact .inl (mem_own.2 (h2 ▸ mem_own.1 hq))
    · have := mem_own.1 hq
      rw [h2] at this
      have e2 : (w.alloc (.cells news.toArray e)).heap.size = q := Option.some.inj this
      rw [nblk_alloc] at e2
      exact .inr (by omega)
  · have := hg.size
    rw [nblk_alloc] at this
    omega
theorem infoPtr : (Try.prog.info? 71).map (fun i => (i.zero, i.size, i.bytes)) = some (some (.pointer none), 1, 8) := by kernel_rfl
theorem info68 : (Try.prog.info? 68).map (fun i => (i.zero, i.size, i.bytes)) = some (some (.agg #[.int .i64 0, .int .u64 0, .slice none 0 0]), 3, 40) := by kernel_rfl
theorem info82 : (Try.prog.info? 82).map (fun i => (i.zero, i.size, i.bytes)) = some (some (.agg #[.int .u8 0, .int .u64 0, .slice none 0 0]), 3, 40) := by kernel_rfl
theorem app_ptr {w : World} {base : Nat} {v : Value} {n : Nat} {xs : List Value} (h : w.ownsRow base 71 1 v n xs) (p : Value) (hp : p.oneCell' = true) (hn : n + 1 ≤ 1048576) (hb : base ≤ w.heap.size) :
    ∃ va vc w', (∀ ty, (Builtin.append_ #[63, 63] ty #[v, .slice (some ⟨w.heap.size, 0, none⟩) 1 1]).run Try.prog (w.alloc (.cells #[p] 71)) = .ok (.slice va (n + 1) vc) w') ∧
      w'.ownsRow base 71 1 (.slice va (n + 1) vc) (n + 1) (xs ++ [p]) ∧ Keep (own v) w w' ∧ (∀ q ∈ own (.slice va (n + 1) vc), q ∈ own v ∨ w.heap.size ≤ q) ∧ w.heap.size < w'.heap.size := by
  obtain ⟨i0, hi0, hp0⟩ := Option.map_eq_some_iff.1 infoPtr
  simp only [Prod.mk.injEq] at hp0
  exact app_gen Try.underlying63 hi0 hp0.1 hp0.2.1 hp0.2.2 rfl (by decide) h [p] rfl (by simpa using hp) hn (by decide) hb
theorem app_rg {w : World} {base : Nat} {v : Value} {n : Nat} {xs : List Value} (h : w.ownsRow base 68 3 v n xs) (p0 p1 p2 : Value) (h0 : p0.oneCell' = true) (h1 : p1.oneCell' = true) (h2 : p2.oneCell' = true) (hn : n + 1 ≤ 1048576) (hb : base ≤ w.heap.size) :
    ∃ va vc w', (∀ ty, (Builtin.append_ #[62, 62] ty #[v, .slice (some ⟨w.heap.size, 0, none⟩) 1 1]).run Try.prog (w.alloc (.cells #[p0, p1, p2] 68)) = .ok (.slice va (n + 1) vc) w') ∧
      w'.ownsRow base 68 3 (.slice va (n + 1) vc) (n + 1) (xs ++ [p0, p1, p2]) ∧ Keep (own v) w w' ∧ (∀ q ∈ own (.slice va (n + 1) vc), q ∈ own v ∨ w.heap.size ≤ q) ∧ w.heap.size < w'.heap.size := by
  obtain ⟨i0, hi0, hp0⟩ := Option.map_eq_some_iff.1 info68
  simp only [Prod.mk.injEq] at hp0
  exact app_gen Try.underlying62 hi0 hp0.1 hp0.2.1 hp0.2.2 rfl (by decide) h [p0, p1, p2] rfl (by simp [h0, h1, h2]) hn (by decide) hb
theorem app_pg {w : World} {base : Nat} {v : Value} {n : Nat} {xs : List Value} (h : w.ownsRow base 82 3 v n xs) (p0 p1 p2 : Value) (h0 : p0.oneCell' = true) (h1 : p1.oneCell' = true) (h2 : p2.oneCell' = true) (hn : n + 1 ≤ 1048576) (hb : base ≤ w.heap.size) :
    ∃ va vc w', (∀ ty, (Builtin.append_ #[78, 78] ty #[v, .slice (some ⟨w.heap.size, 0, none⟩) 1 1]).run Try.prog (w.alloc (.cells #[p0, p1, p2] 82)) = .ok (.slice va (n + 1) vc) w') ∧
      w'.ownsRow base 82 3 (.slice va (n + 1) vc) (n + 1) (xs ++ [p0, p1, p2]) ∧ Keep (own v) w w' ∧ (∀ q ∈ own (.slice va (n + 1) vc), q ∈ own v ∨ w.heap.size ≤ q) ∧ w.heap.size < w'.heap.size := by
  obtain ⟨i0, hi0, hp0⟩ := Option.map_eq_some_iff.1 info82
  simp only [Prod.mk.injEq] at hp0
  exact app_gen Try.underlying78 hi0 hp0.1 hp0.2.1 hp0.2.2 rfl (by decide) h [p0, p1, p2] rfl (by simp [h0, h1, h2]) hn (by decide) hb
theorem app_it {w : World} {base : Nat} {v : Value} {xs : List It} (h : Row w base v xs) (x : It) (hn : xs.length + 1 ≤ 1048576) (hb : base ≤ w.heap.size) :
    ∃ va vc w', (∀ ty, (Builtin.append_ #[30, 30] ty #[v, .slice (some ⟨w.heap.size, 0, none⟩) 1 1]).run Try.prog (w.alloc (.cells #[.string (txt x.key), .string (txt x.value), .int .u32 x.flags, .int .i64 x.exp, .int .u64 x.ver] 36)) = .ok (.slice va (xs.length + 1) vc) w') ∧
      Row w' base (.slice va (xs.length + 1) vc) (xs ++ [x]) ∧ Keep (own v) w w' ∧ (∀ q ∈ own (.slice va (xs.length + 1) vc), q ∈ own v ∨ w.heap.size ≤ q) ∧ w.heap.size < w'.heap.size := by
  obtain ⟨i0, hi0, hp0⟩ := Option.map_eq_some_iff.1 info30
  simp only [Prod.mk.injEq] at hp0
  obtain ⟨va, vc, w', h1, h2, h3, h4⟩ := app_gen Try.underlying30 hi0 hp0.1 hp0.2.1 hp0.2.2 rfl (by decide) h (itCells x) rfl (by simp [itCells]; exact ⟨rfl, rfl, rfl, rfl, rfl⟩) hn (by decide) hb
  refine ⟨va, vc, w', h1, ?_, h3, h4⟩
  unfold Row
  rw [List.length_append, ← itsCells_snoc]
  exact h2
theorem app_one {w : World} {base : Nat} {v : Value} {xs : List It} (h : Row w base v xs) (x : It) (hx : Oks [x]) (hn : xs.length + 1 ≤ 1048576) (hb : base ≤ w.heap.size) :
    ∃ va vn vc w', (Builtin.append_ #[30, 30] 30 #[v, .slice (some ⟨w.heap.size, 0, none⟩) 1 1]).run Try.prog (w.alloc (.cells #[.string (txt x.key), .string (txt x.value), .int .u32 x.flags, .int .i64 x.exp, .int .u64 x.ver] 36)) = .ok (.slice va vn vc) w' ∧ vn = xs.length + 1 ∧ Row w' base (.slice va vn vc) (xs ++ [x]) ∧ Keep v.ownBlock.toList w w' := by
  obtain ⟨va, vc, w', h1, h2, h3, _⟩ := app_it h x hn hb
  exact ⟨va, _, vc, w', h1 30, rfl, h2, h3⟩
theorem OneIt.vals {w : World} {b o : Nat} {x : It} (h : OneIt w b o x) : w.cell? ⟨b, o, none⟩ = some (.string (txt x.key)) ∧ w.cell? ⟨b, o + 1, none⟩ = some (.string (txt x.value)) ∧ w.cell? ⟨b, o + 2, none⟩ = some (.int .u32 x.flags) ∧ w.cell? ⟨b, o + 3, none⟩ = some (.int .i64 x.exp) ∧ w.cell? ⟨b, o + 4, none⟩ = some (.int .u64 x.ver) := ⟨h.c0, h.c1, h.c2, h.c3, h.c4⟩
def notKey (key : List UInt8) (x : It) : Bool := decide (x.key ≠ key)
theorem row_keep_bel {w0 w w' : World} {v : Value} {xs : List It} (hr : Row w w0.heap.size v xs) (hb : Below w0.heap.size w0 w) (k : Keep v.ownBlock.toList w w') : Below w0.heap.size w0 w' :=
  hb.trans (k.below (fun q hq => (hr.lt q (by simpa using hq)).1) hb.size)

set_option maxHeartbeats 4000000 in
theorem without_any (a : Option Addr) (n cap : Nat) (xs : List It) (key : List UInt8) (hn : n ≤ 1000) (w : World) (h : ItsAt w a n xs) :
    Calls Try.prog 21 #[.slice a n cap, .string (txt key)] w fun e w' => ∃ va vn vc, e = .returned (.slice va vn vc) ∧ vn = (xs.filter (notKey key)).length ∧ Row w' w.heap.size (.slice va vn vc) (xs.filter (notKey key)) ∧ Below w.heap.size w w' := by
  have H := hide h
  have HL := hide h.len
  clear h
  go_enter Try.func21, Try.ntmps21
  go_wp2_with fail
  go_loopg [5, 6] n (fun kx s5 s6 wr => ∃ (i : Nat) (va : Option Addr) (vn vc : Nat), s5 = .slice va vn vc ∧ s6 = .int .i64 i ∧ i ≤ n ∧ n - i ≤ kx ∧ Hid (vn = ((xs.take i).filter (notKey key)).length ∧ Row wr w.heap.size (.slice va vn vc) ((xs.take i).filter (notKey key)) ∧ Below w.heap.size w wr))
  case atStart => exact ⟨0, none, 0, 0, rfl, rfl, Nat.zero_le _, by omega, rfl, Row.nil _ _, Below.refl _ _⟩
  case round =>
    obtain ⟨i, va, vn, vc, rfl, rfl, hin, hg, I⟩ := hrel
    by_cases hlt : i < n
    · have hlt2 : (i : Int) < (n : Int) := by omega
      obtain ⟨x, hx⟩ : ∃ x, xs[i]? = some x := ⟨_, List.getElem?_eq_getElem (by rw [← HL.out]; exact hlt)⟩
      obtain ⟨b, o, rfl, hb, hc⟩ := (H.out.below I.out.2.2).cell i x hx
      obtain ⟨c0, c1, c2, c3, c4⟩ := hc.vals
      have HT : Hid (xs.take (i + 1) = xs.take i ++ [x]) := by show _ = _; rw [List.take_add_one, hx]; rfl
      have HO : Hid (Oks [x]) := fun z hz => by simp at hz; rw [hz]; exact H.out.fits x (List.mem_of_getElem? hx)
      have he : ((txt x.key).toList == (txt key).toList) = decide (x.key = key) := by rw [txt_list, txt_list]; by_cases h : x.key = key <;> simp [h]
      clear hc hx hb
      by_cases hk : x.key = key
      · rw [decide_eq_true hk] at he
        have E : Hid ((xs.take (i + 1)).filter (notKey key) = (xs.take i).filter (notKey key)) := by show _ = _; rw [HT.out]; simp [notKey, hk]
        clear hk HT
        go_wp2
        go_roundg (n - (i + 1))
        case measure => omega
        case rel => exact ⟨i + 1, va, vn, vc, rfl, rfl, by omega, by omega, by rw [E.out]; exact I.out⟩
      · rw [decide_eq_false hk] at he
        have E : Hid ((xs.take (i + 1)).filter (notKey key) = (xs.take i).filter (notKey key) ++ [x]) := by show _ = _; rw [HT.out]; simp [notKey, hk]
        have hfl : ((xs.take i).filter (notKey key)).length ≤ 1000 := by
          have h1 := List.length_filter_le (notKey key) (xs.take i)
          have h2 : (xs.take i).length ≤ i := by rw [List.length_take]; omega
          omega
        obtain ⟨ua, un, uc, w2, hrun, hun, hrow, hkp⟩ := app_one I.out.2.1 x HO.out (by omega) I.out.2.2.size
        have HR := hide hrun
        have T : Hid (un = ((xs.take (i + 1)).filter (notKey key)).length ∧ Row w2 w.heap.size (.slice ua un uc) ((xs.take (i + 1)).filter (notKey key)) ∧ Below w.heap.size w w2) := by
          refine ⟨by rw [E.out, hun]; simp, by rw [E.out]; exact hrow, row_keep_bel I.out.2.1 I.out.2.2 hkp⟩
        clear hk HT hrun hun hrow hkp hfl
        go_wp2_with (at_builtin; refine Lib.wpList_append_run _ rfl _ _ _ _ rfl _ _ rfl rfl _ _ HR.out ?_)
        go_roundg (n - (i + 1))
        case measure => omega
        case rel => exact ⟨i + 1, ua, un, uc, rfl, rfl, by omega, by omega, T.out⟩
    · obtain rfl : i = n := by omega
      have hlt2 : ¬ (i : Int) < (i : Int) := by omega
      have I' := I.out
      rw [HL.out, List.take_length] at I'
      have II := hide I'
      clear I'
      go_wp2
      go_ret
      exact ⟨va, vn, vc, rfl, II.out⟩

end Go.Proofs.Ytbjkahdlejaheaa
