/- Texts joined: Un9, UnA, UnB, UnC. -/
import Derived.Test.YtbccnfbombgdmaaGreatJ44
import Derived.Test.YtbccnfbombgdmaaGreatJ24
import Derived.Test.YtbccnfbombgdmaaGreatJ05
/- A list of calls as it comes in: a row of structs, each with an item, a text, and a call of the device with a slice of bytes of its own. -/
set_option linter.unusedVariables false
set_option linter.unusedSimpArgs false
set_option maxRecDepth 30000
namespace Go.Proofs.YtbccnfbombgdmaaGreat
open Go.RowKit Go.Deep Go.ChangeShapes Go.WideShapes Math

/-- A call: which, the item, the key, the call of the device. -/
structure CallI where
  op : Int
  x : It
  key : List UInt8
  t : ActI
structure OneCall (w : World) (b o : Nat) (c : CallI) : Prop where
  c0 : w.cell? ⟨b, o, none⟩ = some (.int .i64 c.op)
  cx : OneIt w b (o + 1) c.x
  ck : w.cell? ⟨b, o + 6, none⟩ = some (.string (txt c.key))
  a0 : w.cell? ⟨b, o + 7, none⟩ = some (.int .i64 c.t.op)
  a1 : w.cell? ⟨b, o + 8, none⟩ = some (.int .i64 c.t.page)
  a2 : w.cell? ⟨b, o + 9, none⟩ = some (.slice c.t.a c.t.l.length c.t.cap)
  fits : c.x.fits
  bytes : BSlice w c.t.a c.t.l c.t.bb
  nil : c.t.a = none → c.t.l = []
  small : c.t.l.length ≤ 140737488351232
  page : c.t.page ≤ 9223372036854775807
/-- The list of calls. -/
def CallsAt (w : World) (a : Option Addr) (len : Nat) (ts : List CallI) : Prop :=
  ts.length = len ∧ (ts = [] ∨ ∃ b o, a = some ⟨b, o, none⟩ ∧ b < w.heap.size ∧ ∀ i t, ts[i]? = some t → OneCall w b (o + i * 10) t)
theorem OneCall.below {w0 w w' : World} {b o : Nat} {c : CallI} (h : OneCall w0 b o c) (k : Below w0.heap.size w0 w') : OneCall w' b o c := by
  have lt : b < w0.heap.size := block_lt_of_cell h.c0
  have e : ∀ j v, w0.cell? ⟨b, j, none⟩ = some v → w'.cell? ⟨b, j, none⟩ = some v := fun j v hv => by
    rw [World.cell?_of_block (a := ⟨b, j, none⟩) (k.block b lt)]; exact hv
  exact ⟨e _ _ h.c0, h.cx.below k lt, e _ _ h.ck, e _ _ h.a0, e _ _ h.a1, e _ _ h.a2, h.fits, h.bytes.same k.size (fun hb _ => k.block _ hb), h.nil, h.small, h.page⟩
theorem cells40 : Tryz.prog.cellsOf 40 = 1 := by kernel_rfl
theorem cells3i : Tryz.prog.cellsOf 3 = 1 := by kernel_rfl
theorem cells42 : Tryz.prog.cellsOf 42 = 3 := by kernel_rfl
theorem cells39i : Tryz.prog.cellsOf 39 = 5 := by kernel_rfl
theorem cells44 : Tryz.prog.cellsOf 44 = 10 := by kernel_rfl
/-- One slice of bytes, by its cells. -/
theorem bs_open {H : Type} {enc : TypeId × Value → H} {W : World} {fuel : Nat} {cs : List Value} {x : DataW H × List MemPlace} (h : DataW.trod enc Tryz.prog W 0 (fun _ => true) true fuel 40 cs = some x)
    (hw : ∀ n ∈ x.1.weights Tryz.prog 40, n ≤ reachBytes) :
    ∃ (a : Option Addr) (cap bb : Nat) (l : List UInt8), cs = [.slice a l.length cap] ∧ BSlice W a l bb ∧ (a = none → l = []) ∧ l.length ≤ 140737488351232 := by
  rcases open_ints Tryz.underlying40 Tryz.underlying5 cells5 h with ⟨rfl, _⟩ | ⟨a, len, cap, zs, rfl, _, hl, hm, hz, hx, hcell, hwz⟩
  · exact ⟨none, 0, 0, [], rfl, .inl rfl, fun _ => rfl, Nat.zero_le _⟩
  · have hz' : zs.length = cap := by simpa using hz
    have row : RowIs W (some a) len cap zs := .inr ⟨a, rfl, hl, hm, hz', hcell, hwz⟩
    obtain ⟨l, bb, h1, h2, h3, _⟩ := row_bytes row
    have hb : (zs.take len).length + (zs.drop len).length ≤ reachBytes := by
      have := hw (((lits (H := H) .u8 (zs.take len)).length + (lits (H := H) .u8 (zs.drop len)).length) * Tryz.prog.bytesOf 5) (by rw [hx]; simp [DataW.weights, Tryz.underlying40])
      rw [bytes5] at this
      simpa [lits] using this
    refine ⟨some a, cap, bb, l, by rw [h1], h2, h3, ?_⟩
    rw [h1]
    have e : reachBytes = 140737488351232 := by decide
    simp at hb
    omega
theorem act_open {H : Type} {enc : TypeId × Value → H} {W : World} {fuel : Nat} {cs : List Value} {x : DataW H × List MemPlace} (h : DataW.trod enc Tryz.prog W 0 (fun _ => true) true fuel 42 cs = some x) (hl : cs.length = 3)
    (hw : ∀ n ∈ x.1.weights Tryz.prog 42, n ≤ reachBytes) :
    ∃ t : ActI, cs = [.int .i64 t.op, .int .i64 t.page, .slice t.a t.l.length t.cap] ∧ BSlice W t.a t.l t.bb ∧ (t.a = none → t.l = []) ∧ t.l.length ≤ 140737488351232 ∧ t.page ≤ 9223372036854775807 := by
  obtain ⟨xs, k, hk, hxy, _, hxl, hf⟩ := DataW.trod_struct Tryz.underlying42 h
  match xs, hxl, cs, hl with
  | [y0, y1, y2], _, [v0, v1, v2], _ =>
    have g0 := hf 0 _ rfl
    have g1 := hf 1 _ rfl
    have g2 := hf 2 _ rfl
    simp at g0 g1 g2
    simp only [cells3i, cells40] at g0 g1 g2
    simp only [List.take_succ_cons, List.take_zero] at g0 g1 g2
    obtain ⟨n0, hv0, _, _⟩ := DataW.trod_int Tryz.underlying3 g0
    obtain ⟨n1, hv1, _, hwf⟩ := DataW.trod_int Tryz.underlying3 g1
    obtain ⟨ba, bc, bb, l, hv2, b1, b2, b3⟩ := bs_open g2 (fun k hk => by
      refine hw k ?_
      rw [hxy]
      simp only [DataW.weights, Tryz.underlying42]
      simp [DataW.weightsEach, hk])
    simp only [List.cons.injEq, and_true] at hv0 hv1 hv2
    subst hv0 hv1 hv2
    exact ⟨⟨n0, n1, ba, bc, bb, l⟩, rfl, b1, b2, b3, i64_wf hwf⟩
theorem weights_all {H : Type} {P : Program} {e : TypeId} : ∀ {ds : List (DataW H)} {d : DataW H}, d ∈ ds → ∀ n ∈ d.weights P e, n ∈ DataW.weightsAll P e ds
  | d0 :: r, d, hd, n, hn => by
    simp only [DataW.weightsAll, List.mem_append]
    rcases List.mem_cons.1 hd with rfl | hd
    · exact .inl hn
    · exact .inr (weights_all hd n hn)
/-- One call, by its cells. -/
theorem call_open {H : Type} {enc : TypeId × Value → H} {W : World} {fuel : Nat} {cs : List Value} {x : DataW H × List MemPlace} (h : DataW.trod enc Tryz.prog W 0 (fun _ => true) true fuel 44 cs = some x) (hl : cs.length = 10)
    (hw : ∀ n ∈ x.1.weights Tryz.prog 44, n ≤ reachBytes) :
    ∃ c : CallI, cs = [.int .i64 c.op] ++ itCells c.x ++ [.string (txt c.key), .int .i64 c.t.op, .int .i64 c.t.page, .slice c.t.a c.t.l.length c.t.cap] ∧ c.x.fits ∧ BSlice W c.t.a c.t.l c.t.bb ∧ (c.t.a = none → c.t.l = []) ∧ c.t.l.length ≤ 140737488351232 ∧ c.t.page ≤ 9223372036854775807 := by
  obtain ⟨xs, k, hk, hxy, _, hxl, hf⟩ := DataW.trod_struct Tryz.underlying44 h
  match xs, hxl, cs, hl with
  | [y0, y1, y2, y3], _, [v0, v1, v2, v3, v4, v5, v6, v7, v8, v9], _ =>
    have g0 := hf 0 _ rfl
    have g1 := hf 1 _ rfl
    have g2 := hf 2 _ rfl
    have g3 := hf 3 _ rfl
    simp at g0 g1 g2 g3
    simp only [cells3i, cells39i, cells9, cells42] at g0 g1 g2 g3
    simp only [List.take_succ_cons, List.take_zero] at g0 g1 g2 g3
    obtain ⟨n0, hv0, _, _⟩ := DataW.trod_int Tryz.underlying3 g0
    obtain ⟨it, hif, hiv⟩ := item_open g1 rfl
    obtain ⟨s0, hs0, _, _⟩ := DataW.trod_string Tryz.underlying9 g2
    obtain ⟨t, ht, b1, b2, b3, b4⟩ := act_open g3 rfl (fun k hk => by
      refine hw k ?_
      rw [hxy]
      simp only [DataW.weights, Tryz.underlying44]
      simp [DataW.weightsEach, hk])
    refine ⟨⟨n0, it, s0.data.toList, t⟩, ?_, hif, b1, b2, b3, b4⟩
    simp only [List.cons.injEq, and_true] at hv0 hs0 ht
    simp only [itCells, List.cons.injEq, and_true] at hiv
    simp only [itCells, List.cons_append, List.nil_append, List.cons.injEq, and_true, txt_data]
    obtain ⟨i0, i1, i2, i3, i4⟩ := hiv
    obtain ⟨t0, t1, t2⟩ := ht
    exact ⟨hv0, i0, i1, i2, i3, i4, hs0, t0, t1, t2⟩
end Go.Proofs.YtbccnfbombgdmaaGreat

/- The row of calls opened. -/
set_option linter.unusedVariables false
set_option linter.unusedSimpArgs false
set_option maxRecDepth 30000
namespace Go.Proofs.YtbccnfbombgdmaaGreat
open Go.RowKit Go.Deep Go.ChangeShapes Go.WideShapes Math

set_option maxHeartbeats 400000 in
theorem calls_open {H : Type} {enc : TypeId × Value → H} {W : World} {fuel : Nat} {a0 : Option Addr} {len0 cap0 : Nat} {x : DataW H × List MemPlace} (h : DataW.trod enc Tryz.prog W 0 (fun _ => true) true fuel 22 [.slice a0 len0 cap0] = some x)
    (hw : ∀ n ∈ x.1.weights Tryz.prog 22, n ≤ reachBytes) : ∃ ts, CallsAt W a0 len0 ts := by
  rcases open_slice Tryz.underlying22 h with ⟨hcs, _⟩ | ⟨a, len, cap, m, n, D, Pl, hcs, _, hl, hm, hmm, hx, hel⟩
  · simp at hcs
    obtain ⟨rfl, rfl, rfl⟩ := hcs
    exact ⟨[], rfl, .inl rfl⟩
  · simp only [List.cons.injEq, Value.slice.injEq, and_true] at hcs
    obtain ⟨rfl, rfl, rfl⟩ := hcs
    have hmc : m = cap0 := by simpa using hmm
    by_cases h0 : len0 = 0
    · subst h0; exact ⟨[], rfl, .inl rfl⟩
    have hspot : a.spot = none := by
      obtain ⟨cs', h1, h2⟩ := hel 0 (by omega)
      rw [cells44] at h1
      obtain ⟨_, hlen, hcell⟩ := World.cells?_some h1
      match cs', hlen with
      | [v0, v1, v2, v3, v4, v5, v6, v7, v8, v9], _ =>
        have e0 := hcell 0 (by omega)
        have := World.cell?_spot (v := v0) (by simpa using e0)
        simpa [Addr.add] using this
    have each : ∀ i, i < len0 → ∃ t : CallI, ∃ o, a = ⟨a.block, o, none⟩ ∧ OneCall W a.block (o + i * 10) t := by
      intro i hi
      obtain ⟨cs', h1, h2⟩ := hel i (by omega)
      rw [cells44] at h1
      obtain ⟨_, hlen, hcell⟩ := World.cells?_some h1
      have hwi : ∀ k ∈ (D i).weights Tryz.prog 44, k ≤ reachBytes := fun k hk => by
        refine hw k ?_
        rw [hx]
        simp only [DataW.weights, Tryz.underlying22, List.mem_cons, List.mem_append]
        refine .inr (.inl (weights_all (d := D i) ?_ k hk))
        exact List.mem_map.2 ⟨i, List.mem_range.2 hi, rfl⟩
      obtain ⟨c, hc, hf, b1, b2, b3, b4⟩ := call_open h2 hlen hwi
      subst hc
      obtain ⟨b, off, sp⟩ := a
      simp only at hspot
      subst hspot
      have get : ∀ (j : Nat) (v : Value), j < 10 → ([.int .i64 c.op] ++ itCells c.x ++ [.string (txt c.key), .int .i64 c.t.op, .int .i64 c.t.page, .slice c.t.a c.t.l.length c.t.cap] : List Value)[j]? = some v → W.cell? ⟨b, off + i * 10 + j, none⟩ = some v := fun j v hj hv => by
        have e := hcell j (by omega)
        rw [add_add, Addr.add_lit] at e
        rw [show off + i * 10 + j = off + (i * 10 + j) by omega]
        rw [e]
        simpa using hv
      refine ⟨c, off, rfl, ⟨get 0 _ (by omega) rfl, ⟨get 1 _ (by omega) rfl, get 2 _ (by omega) rfl, get 3 _ (by omega) rfl, get 4 _ (by omega) rfl, get 5 _ (by omega) rfl⟩, get 6 _ (by omega) rfl, get 7 _ (by omega) rfl, get 8 _ (by omega) rfl, get 9 _ (by omega) rfl, hf, b1, b2, b3, b4⟩⟩
    · obtain ⟨_, o, ha, _⟩ := each 0 (by omega)
      have each2 : ∀ i, i < len0 → ∃ t : CallI, OneCall W a.block (o + i * 10) t := fun i hi => by
        obtain ⟨t, o', ha', ht⟩ := each i hi
        have : o' = o := by rw [ha'] at ha; simpa using ha
        subst this
        exact ⟨t, ht⟩
      haveI : Inhabited CallI := ⟨⟨0, It.zero, [], ⟨0, 0, none, 0, 0, []⟩⟩⟩
      obtain ⟨T, hT⟩ := choose_lt each2
      refine ⟨(List.range len0).map T, by simp, .inr ⟨a.block, o, by rw [← ha], block_lt_of_cell (a := ⟨a.block, o + 0 * 10, none⟩) (hT 0 (by omega)).c0, fun i t ht => ?_⟩⟩
      have hi : i < len0 := by have := (List.getElem?_eq_some_iff.1 ht).1; simpa using this
      have : t = T i := by
        rw [List.getElem?_map, List.getElem?_range hi] at ht
        simpa using ht.symm
      rw [this]
      exact hT i hi
theorem CallsAt.below {w w' : World} {a : Option Addr} {len : Nat} {ts : List CallI} (h : CallsAt w a len ts) (k : Below w.heap.size w w') : CallsAt w' a len ts := by
  refine ⟨h.1, ?_⟩
  rcases h.2 with h0 | ⟨b, o, ha, hb, hc⟩
  · exact .inl h0
  · exact .inr ⟨b, o, ha, Nat.lt_of_lt_of_le hb k.size, fun i t ht => OneCall.below (w := w) (hc i t ht) k⟩
end Go.Proofs.YtbccnfbombgdmaaGreat

/- Put of any item on both sides. -/
set_option linter.unusedVariables false
set_option linter.unusedSimpArgs false
set_option maxRecDepth 8000
namespace Go.Proofs.YtbccnfbombgdmaaGreat
open Go.RowKit Go.Deep Math
variable {w0 W W' : World} {d s : Nat} {F F' : List Nat} {S S' T T' : Dv} {L : Int} {first : Nat} {M M' : SM} {s' r : Nat} {G G' : List Nat} {tv : Value} {vs : List Value} {td : List (List (List UInt8))} {er : Int}

/-- What the bucket would hold. -/
def l1Of (S : Dv) (k : Nat) (x : It) : List It := (S.its k).filter (notKey x.key) ++ [x]
/-- Between the two calls of Put. -/
def PutM (w0 : World) (d : Nat) (F : List Nat) (S : Dv) (s : Nat) (L : Int) (first : Nat) (M : SM) (s' r : Nat) (G : List Nat) (T : Dv) (tv : Value) (vs : List Value) (td : List (List (List UInt8))) (x : It) (base : Nat) (v : Value) (er : Int) (W1 : World) : Prop :=
  ((x.good = false ∨ 120 < x.size) ∧ er = 1 ∧ v = .slice none 0 0 ∧ Two w0 W1 d F S s L first M s' r G T tv vs td) ∨
  ((x.good = true ∧ x.size ≤ 120) ∧ S.losses ≠ L ∧ er = 4 ∧ v = .slice none 0 0 ∧ Two w0 W1 d F S s L first M s' r G T tv vs td) ∨
  ((x.good = true ∧ x.size ≤ 120) ∧ L = S.losses ∧ S.off = false ∧ (∀ q ∈ ftR s' G tv vs, q < base) ∧ ∃ F' S' M', MidP w0 W1 d F' S S' s L first M M' s' r G T tv vs td (first + bkt x.key M.fs.length) ((l1Of S (first + bkt x.key M.fs.length) x).drop (ovr (l1Of S (first + bkt x.key M.fs.length) x))) er ∧
    ((er = 0 ∧ Row W1 base v ((l1Of S (first + bkt x.key M.fs.length) x).take (ovr (l1Of S (first + bkt x.key M.fs.length) x))) ∧ ∃ y, M.fs[bkt x.key M.fs.length]? = some y ∧ M' = ⟨M.a, M.cap, M.fs.set (bkt x.key M.fs.length) ⟨y.f, y.s, keyB y.l x⟩⟩) ∨ (er = 4 ∧ v = .slice none 0 0 ∧ M' = M)))
theorem PutM.below {x : It} {base : Nat} {v : Value} {W1 W2 : World} (h : PutM w0 d F S s L first M s' r G T tv vs td x base v er W1) (b : Below W1.heap.size W1 W2) : PutM w0 d F S s L first M s' r G T tv vs td x base v er W2 := by
  rcases h with ⟨h1, h2, h3, h4⟩ | ⟨h1, h2, h3, h4, h5⟩ | ⟨h1, h2, h3, h4, F', S', M', h5, h6⟩
  · exact .inl ⟨h1, h2, h3, h4.below b⟩
  · exact .inr (.inl ⟨h1, h2, h3, h4, h5.below b⟩)
  · refine .inr (.inr ⟨h1, h2, h3, h4, F', S', M', h5.below b, ?_⟩)
    rcases h6 with ⟨g1, g2, g3⟩ | h6
    · exact .inl ⟨g1, g2.below b, g3⟩
    · exact .inr h6
theorem Two.P1 (h : Two w0 W d F S s L first M s' r G T tv vs td) (x : It) (hxf : x.fits) :
    Calls Tryz.prog 9 #[.pointer (some ⟨s, 0, none⟩), .agg #[.string (txt x.key), .string (txt x.value), .int .u32 x.flags, .int .i64 x.exp, .int .u64 x.ver]] W fun e W' => ∃ v er, e = .returned (.tuple #[v, .int .i64 er]) ∧ (∀ q, q < W.heap.size → q ∉ F → q ∉ M.foot s → W'.heap[q]? = W.heap[q]?) ∧ PutM w0 d F S s L first M s' r G T tv vs td x W.heap.size v er W' := by
  by_cases hb : x.good = false ∨ 120 < x.size
  · refine (put_bad s x hb W).mono ?_
    rintro e W' ⟨rfl, b⟩
    exact ⟨_, 1, rfl, fun q hq _ _ => b.block q hq, .inl ⟨hb, rfl, rfl, h.below b⟩⟩
  · have hg : x.good = true ∧ x.size ≤ 120 := by
      constructor
      · cases hx : x.good with
        | true => rfl
        | false => exact absurd (.inl hx) hb
      · exact Nat.le_of_not_lt (fun e => hb (.inr e))
    by_cases hL : S.losses = L
    · refine (h.put1 hL.symm (h.live hL.symm) x hxf hg.1 hg.2 _ rfl).mono ?_
      rintro e W' ⟨v, er, F', S', M', rfl, hst, h1, h2⟩
      exact ⟨v, er, rfl, hst, .inr (.inr ⟨hg, hL.symm, h.live hL.symm, h.q.lt, F', S', M', h1, h2⟩)⟩
    · refine (put_done h.p hL h.n1 h.n2 x hg.1 hg.2).mono ?_
      rintro e W' ⟨rfl, b⟩
      exact ⟨_, 4, rfl, fun q hq _ _ => b.block q hq, .inr (.inl ⟨hg, hL, rfl, rfl, h.below b⟩)⟩
theorem take_len {S : Dv} (hg : S.good) (k : Nat) (x : It) (j : Nat) : ((l1Of S k x).take j).length ≤ 13 := by
  have h := its_len hg k
  have h2 := List.length_filter_le (notKey x.key) (S.its k)
  unfold l1Of
  rw [List.length_take, List.length_append]
  simp only [List.length_singleton]
  omega
theorem PutM.P2 {x : It} {base : Nat} {v : Value} (h : PutM w0 d F S s L first M s' r G T tv vs td x base v er W) (hxf : x.fits) (hgd : S.good) {n : Int} (hc : Cnt L S n) (hn : n ≤ 100000) (c : Nat) (hcl : ∀ t ∈ td, t.length ≤ c) (hc2 : c ≤ 100000) :
    Calls Tryz.prog 10 #[.pointer (some ⟨s', 0, none⟩), .agg #[.string (txt x.key), .string (txt x.value), .int .u32 x.flags, .int .i64 x.exp, .int .u64 x.ver]] W fun e W' => ∃ u, e = .returned (.tuple #[u, .int .i64 er]) ∧
      ∃ F' S' T' M' vs' td' xs, Two w0 W' d F' S' s L first M' s' r G T' tv vs' td' ∧ (∀ t ∈ td', t.length ≤ c + 1) ∧ Cnt L S' (n + 1) ∧ Row W' base v xs ∧ Row W' W.heap.size u xs ∧ xs.length ≤ 13 ∧ ∀ z ∈ xs, z.fits ∧ z.good = true := by
  rcases h with ⟨h1, rfl, rfl, h4⟩ | ⟨h1, h2, rfl, rfl, h5⟩ | ⟨h1, h2, h3, h4, F', S', M', h5, h6⟩
  · refine (rput_bad s' x h1 W).mono ?_
    rintro e W' ⟨rfl, b⟩
    exact ⟨_, rfl, F, S, T, M, vs, td, [], h4.below b, fun t ht => by have := hcl t ht; omega, hc.more (by omega), Row.nil _ _, Row.nil _ _, Nat.zero_le _, fun z hz => by cases hz⟩
  · refine (rput_done h5.q (by rw [h5.like.losses]; exact h2) x h1.1 h1.2).mono ?_
    rintro e W' ⟨rfl, b⟩
    exact ⟨_, rfl, F, S, T, M, vs, td, [], h5.below b, fun t ht => by have := hcl t ht; omega, hc.more (by omega), Row.nil _ _, Row.nil _ _, Nat.zero_le _, fun z hz => by cases hz⟩
  · have hall : ∀ z ∈ l1Of S (first + bkt x.key M.fs.length) x, z.fits ∧ z.good = true := fun z hz => by
      rcases List.mem_append.1 hz with g1 | g1
      · exact (Dv.its_all hgd _).2 z (List.mem_filter.1 g1).1
      · simp only [List.mem_singleton] at g1; subst g1; exact ⟨hxf, h1.1⟩
    refine (h5.put2 h2 h3 hxf h1.1 h1.2 rfl (by
      rcases h6 with ⟨g1, _, g3⟩ | ⟨g1, _, g3⟩
      · exact .inl ⟨g1, g3⟩
      · exact .inr ⟨g1, g3⟩) c hcl hc2).mono ?_
    rintro e W' ⟨u, T', vs', td', rfl, g1, g2, g3, g4⟩
    have hw := hc.wr hn h5.wr
    rcases h6 with ⟨rfl, g6, _⟩ | ⟨rfl, rfl, _⟩
    · rcases g4 with ⟨_, g7⟩ | ⟨g7, _⟩
      · refine ⟨u, rfl, F', S', T', M', vs', td', _, g1, g2, hw, g6.still g3 (fun q hq => h4 q (by
          rcases List.mem_append.1 hq with g8 | g8 <;> simp [ftR, g8])), g7, take_len hgd _ x _, fun z hz => hall z (List.mem_of_mem_take hz)⟩
      · exact absurd g7 (by decide)
    · rcases g4 with ⟨g7, _⟩ | ⟨_, rfl⟩
      · exact absurd g7 (by decide)
      · exact ⟨_, rfl, F', S', T', M', vs', td', [], g1, g2, hw, Row.nil _ _, Row.nil _ _, Nat.zero_le _, fun z hz => by cases hz⟩
end Go.Proofs.YtbccnfbombgdmaaGreat

/- Two rows of the same items compared; the pages of one bucket and of all. -/
set_option linter.unusedVariables false
set_option linter.unusedSimpArgs false
set_option maxRecDepth 8000
namespace Go.Proofs.YtbccnfbombgdmaaGreat
open Go.RowKit Go.Deep Math

theorem rows_eq {W : World} {b b' : Nat} {v u : Value} {xs : List It} (h1 : Row W b v xs) (h2 : Row W b' u xs) (hg : ∀ z ∈ xs, z.fits ∧ z.good = true) (hn : xs.length ≤ 1048576) :
    Calls Tryz.prog 11 #[v, u] W fun e w' => e = .returned (.bool true) ∧ Below W.heap.size W w' := by
  obtain ⟨a, c, rfl, hI, _⟩ := h1.its (Oks.of_good hg)
  obtain ⟨a', c', rfl, hI', _⟩ := h2.its (Oks.of_good hg)
  exact items_same a a' xs.length c c' xs hn W hI hI'
theorem all_len12 {S : Dv} (hg : S.good) (first : Nat) : ∀ n, (S.all first n).length ≤ 12 * n
  | 0 => by simp [Dv.all]
  | n + 1 => by
    have ih := all_len12 hg first n
    have h := its_len hg (first + n)
    unfold Dv.all at ih ⊢
    rw [List.range_succ, List.flatMap_append, List.length_append]
    simp only [List.flatMap_cons, List.flatMap_nil, List.append_nil]
    omega
end Go.Proofs.YtbccnfbombgdmaaGreat
