/- Texts joined: Ub. -/
import Derived.Test.YtbccnfbombgdmaaGreatJ45
/- Both stores side by side, as the law's loop holds them: one contract for each call. -/
set_option linter.unusedVariables false
set_option linter.unusedSimpArgs false
set_option maxRecDepth 8000
namespace Go.Proofs.YtbccnfbombgdmaaGreat
open Go.RowKit Go.Deep Math

/-- Both stores: losses counted up to c, told keys of a bucket at most tl. -/
def StB (w0 W : World) (d r s s' f : Nat) (c : Int) (tl : Nat) : Prop :=
  ∃ F G S T L M tv vs td, Two w0 W d F S s L f M s' r G T tv vs td ∧ Cnt L S c ∧ ∀ t ∈ td, t.length ≤ tl
/-- What the law's own block is: old, and no store's. -/
def Old (W : World) (W' : World) (q : Nat) : Prop := W'.heap[q]? = W.heap[q]?
section
variable {w0 W W' : World} {d r s s' f : Nat} {c : Int} {tl : Nat}
theorem StB.below (h : StB w0 W d r s s' f c tl) (b : Below W.heap.size W W') : StB w0 W' d r s s' f c tl := by
  obtain ⟨F, G, S, T, L, M, tv, vs, td, h1, h2, h3⟩ := h
  exact ⟨F, G, S, T, L, M, tv, vs, td, h1.below b, h2, h3⟩
theorem StB.more (h : StB w0 W d r s s' f c tl) {c' : Int} {tl' : Nat} (hc : c ≤ c') (ht : tl ≤ tl') : StB w0 W d r s s' f c' tl' := by
  obtain ⟨F, G, S, T, L, M, tv, vs, td, h1, h2, h3⟩ := h
  exact ⟨F, G, S, T, L, M, tv, vs, td, h1, h2.more hc, fun t h => Nat.le_trans (h3 t h) ht⟩
theorem StB.bel (h : StB w0 W d r s s' f c tl) : Below w0.heap.size w0 W := by
  obtain ⟨F, G, S, T, L, M, tv, vs, td, h1, h2, h3⟩ := h
  exact h1.p.law.bel

/-! ### Put -/
def MidA (w0 W : World) (d r s s' f : Nat) (c : Int) (tl : Nat) (x : It) (v : Value) (er : Int) : Prop :=
  ∃ F G S T L M tv vs td base, PutM w0 d F S s L f M s' r G T tv vs td x base v er W ∧ S.good ∧ Cnt L S c ∧ ∀ t ∈ td, t.length ≤ tl
theorem StB.p1 (h : StB w0 W d r s s' f c tl) (m : Nat) (hm : W.heap.size ≤ m) (o : Obj) (hW : W' = W.alloc o) (hmm : m = W.heap.size) (x : It) (hxf : x.fits) :
    Calls Tryz.prog 9 #[.pointer (some ⟨s, 0, none⟩), .agg #[.string (txt x.key), .string (txt x.value), .int .u32 x.flags, .int .i64 x.exp, .int .u64 x.ver]] W' fun e W2 => ∃ v er, e = .returned (.tuple #[v, .int .i64 er]) ∧ W2.heap[m]? = W'.heap[m]? ∧ MidA w0 W2 d r s s' f c tl x v er := by
  obtain ⟨F, G, S, T, L, M, tv, vs, td, h1, h2, h3⟩ := h
  have h1' : Two w0 W' d F S s L f M s' r G T tv vs td := by rw [hW]; exact h1.below ((Below.refl _ _).alloc (Nat.le_refl _) _)
  refine (h1'.P1 x hxf).mono ?_
  rintro e W2 ⟨v, er, rfl, hst, hp⟩
  refine ⟨v, er, rfl, hst m (by rw [hW, hmm]; show _ < (W.heap.push _).size; rw [Array.size_push]; omega) (fun hf => ?_) (fun hf => ?_), F, G, S, T, L, M, tv, vs, td, _, hp, h1.p.law.dev.good, h2, h3⟩
  · have := h1.p.law.dev.lt m hf; omega
  · have := h1.p.st.lt m hf; omega
theorem MidA.below {x : It} {v : Value} {er : Int} (h : MidA w0 W d r s s' f c tl x v er) (b : Below W.heap.size W W') : MidA w0 W' d r s s' f c tl x v er := by
  obtain ⟨F, G, S, T, L, M, tv, vs, td, base, h1, h2, h3, h4⟩ := h
  exact ⟨F, G, S, T, L, M, tv, vs, td, base, h1.below b, h2, h3, h4⟩
theorem MidA.p2 {x : It} {v : Value} {er : Int} (h : MidA w0 W d r s s' f c tl x v er) (hxf : x.fits) (hc : c ≤ 100000) (ht : tl ≤ 100000) :
    Calls Tryz.prog 10 #[.pointer (some ⟨s', 0, none⟩), .agg #[.string (txt x.key), .string (txt x.value), .int .u32 x.flags, .int .i64 x.exp, .int .u64 x.ver]] W fun e W' => ∃ u, e = .returned (.tuple #[u, .int .i64 er]) ∧ StB w0 W' d r s s' f (c + 1) (tl + 1) ∧
      Calls Tryz.prog 11 #[v, u] W' fun e w' => e = .returned (.bool true) ∧ Below W'.heap.size W' w' := by
  obtain ⟨F, G, S, T, L, M, tv, vs, td, base, h1, h2, h3, h4⟩ := h
  refine (h1.P2 hxf h2 h3 hc tl h4 ht).mono ?_
  rintro e W2 ⟨u, rfl, F', S', T', M', vs', td', xs, g1, g2, g3, g4, g5, g6, g7⟩
  exact ⟨u, rfl, ⟨F', G, S', T', L, M', tv, vs', td', g1, g3, g2⟩, rows_eq g4 g5 g7 (by omega)⟩

/-! ### Get -/
def MidG (w0 W : World) (d r s s' f : Nat) (c : Int) (tl : Nat) (key : List UInt8) (o : Option It) (er : Int) : Prop :=
  ∃ F G S T L M tv vs td t, Two w0 W d F S s L f M s' r G T tv vs td ∧ Cnt L S c ∧ (∀ t ∈ td, t.length ≤ tl) ∧ td[bkt key M.fs.length]? = some t ∧ AnsG S L (f + bkt key M.fs.length) t key o er
theorem StB.g1 (h : StB w0 W d r s s' f c tl) (m : Nat) (o : Obj) (hW : W' = W.alloc o) (hmm : m = W.heap.size) (key : List UInt8) (hk : key.length ≤ maxLen) :
    Calls Tryz.prog 12 #[.pointer (some ⟨s, 0, none⟩), .string (txt key)] W' fun e W2 => ∃ o er, e = .returned (.tuple #[fV o, .int .i64 er]) ∧ W2.heap[m]? = W'.heap[m]? ∧ MidG w0 W2 d r s s' f c tl key o er := by
  obtain ⟨F, G, S, T, L, M, tv, vs, td, h1, h2, h3⟩ := h
  have h1' : Two w0 W' d F S s L f M s' r G T tv vs td := by rw [hW]; exact h1.below ((Below.refl _ _).alloc (Nat.le_refl _) _)
  obtain ⟨t, ht⟩ : ∃ t, td[bkt key M.fs.length]? = some t := ⟨_, List.getElem?_eq_getElem (by rw [h1.q.len]; exact bkt_lt key M.fs.length h1.q.n1)⟩
  refine (h1'.get1 key hk t ht).mono ?_
  rintro e W2 ⟨o', er, S', rfl, hst, hA, h4, h5⟩
  refine ⟨o', er, rfl, hst m (by rw [hW, hmm]; show _ < (W.heap.push _).size; rw [Array.size_push]; omega) (fun hf => ?_), F, G, S', T, L, M, tv, vs, td, t, h4, h2.like h5, h3, ht, hA.like h5⟩
  have := h1.p.law.dev.lt m hf; omega
theorem MidG.below {key : List UInt8} {o : Option It} {er : Int} (h : MidG w0 W d r s s' f c tl key o er) (b : Below W.heap.size W W') : MidG w0 W' d r s s' f c tl key o er := by
  obtain ⟨F, G, S, T, L, M, tv, vs, td, t, h1, h2, h3, h4, h5⟩ := h
  exact ⟨F, G, S, T, L, M, tv, vs, td, t, h1.below b, h2, h3, h4, h5⟩
theorem MidG.g2 {key : List UInt8} {o : Option It} {er : Int} (h : MidG w0 W d r s s' f c tl key o er) (q : Nat) (ob : Obj) (hW : W' = W.alloc ob) (hq : q = W.heap.size) (hk : key.length ≤ 1048000) (ht : tl ≤ 100000) :
    Calls Tryz.prog 13 #[.pointer (some ⟨s', 0, none⟩), .string (txt key)] W' fun e W2 => e = .returned (.tuple #[fV o, .int .i64 er]) ∧ W2.heap[q]? = W'.heap[q]? ∧ StB w0 W2 d r s s' f c tl := by
  obtain ⟨F, G, S, T, L, M, tv, vs, td, t, h1, h2, h3, h4, h5⟩ := h
  have h1' : Two w0 W' d F S s L f M s' r G T tv vs td := by rw [hW]; exact h1.below ((Below.refl _ _).alloc (Nat.le_refl _) _)
  refine (h1'.get2 key hk t h4 (Nat.le_trans (h3 t (List.mem_of_getElem? h4)) ht) o h5).mono ?_
  rintro e W2 ⟨rfl, T', h6, h7⟩
  refine ⟨rfl, h7.block q (by rw [hW, hq]; show _ < (W.heap.push _).size; rw [Array.size_push]; omega) (fun hf => ?_), F, G, S, T', L, M, tv, vs, td, h6, h2, h3⟩
  have := h1.q.lt q (ftG hf); omega

/-! ### Drop -/
def MidR (w0 W : World) (d r s s' f : Nat) (c : Int) (tl : Nat) (m : Nat) (key : List UInt8) (er : Int) : Prop :=
  ∃ F F' G S S' T L M tv vs td, (∀ q ∈ G, q < m) ∧ ((S.losses ≠ L ∧ er = 4 ∧ Two w0 W d F S s L f M s' r G T tv vs td ∧ Cnt L S c ∧ (∀ t ∈ td, t.length ≤ tl)) ∨
    (L = S.losses ∧ S.off = false ∧ MidD w0 W d F F' S S' s L f M s' r G T tv vs td (f + bkt key M.fs.length) key er ∧ Cnt L S c ∧ ∀ t ∈ td, t.length ≤ tl))
theorem StB.d1 (h : StB w0 W d r s s' f c tl) (m : Nat) (b : Below W.heap.size W W') (hms : m < W'.heap.size) (hmm : m = W.heap.size) (key : List UInt8) (hk : key.length ≤ maxLen) :
    Calls Tryz.prog 14 #[.pointer (some ⟨s, 0, none⟩), .string (txt key)] W' fun e W2 => ∃ er, e = .returned (.int .i64 er) ∧ W2.heap[m]? = W'.heap[m]? ∧ MidR w0 W2 d r s s' f c tl m key er := by
  obtain ⟨F, G, S, T, L, M, tv, vs, td, h1, h2, h3⟩ := h
  have h1' : Two w0 W' d F S s L f M s' r G T tv vs td := h1.below b
  have hGm : ∀ q ∈ G, q < m := fun q hq => by have := h1.q.lt q (ftG hq); omega
  by_cases hL : S.losses = L
  · refine (h1'.drop1 hL.symm key hk).mono ?_
    rintro e W2 ⟨er, F', S', rfl, hst, h4⟩
    refine ⟨er, rfl, hst m hms (fun hf => ?_), F, F', G, S, S', T, L, M, tv, vs, td, hGm, .inr ⟨hL.symm, h1.live hL.symm, h4, h2, h3⟩⟩
    have := h1.p.law.dev.lt m hf; omega
  · refine (drop_done h1'.p hL h1.q.n1 h1.q.n2 key hk).mono ?_
    rintro e W2 ⟨rfl, b⟩
    exact ⟨4, rfl, b.block m hms, F, F, G, S, S, T, L, M, tv, vs, td, hGm, .inl ⟨hL, rfl, h1'.below b, h2, h3⟩⟩
theorem MidR.below {key : List UInt8} {er : Int} {m : Nat} (h : MidR w0 W d r s s' f c tl m key er) (b : Below W.heap.size W W') : MidR w0 W' d r s s' f c tl m key er := by
  obtain ⟨F, F', G, S, S', T, L, M, tv, vs, td, hG, h1 | h1⟩ := h
  · exact ⟨F, F', G, S, S', T, L, M, tv, vs, td, hG, .inl ⟨h1.1, h1.2.1, h1.2.2.1.below b, h1.2.2.2⟩⟩
  · exact ⟨F, F', G, S, S', T, L, M, tv, vs, td, hG, .inr ⟨h1.1, h1.2.1, h1.2.2.1.below b, h1.2.2.2⟩⟩
theorem MidR.d2 {key : List UInt8} {er : Int} {m : Nat} (h : MidR w0 W d r s s' f c tl m key er) (hk : key.length ≤ maxLen) (hc : c ≤ 100000) (hms : m < W.heap.size) :
    Calls Tryz.prog 15 #[.pointer (some ⟨s', 0, none⟩), .string (txt key)] W fun e W' => e = .returned (.int .i64 er) ∧ W'.heap[m]? = W.heap[m]? ∧ StB w0 W' d r s s' f (c + 1) tl := by
  obtain ⟨F, F', G, S, S', T, L, M, tv, vs, td, hG, ⟨hL, rfl, h1, h2, h3⟩ | ⟨hL, ho, h1, h2, h3⟩⟩ := h
  · refine (rdrop_done h1.q (by rw [h1.like.losses]; exact hL) (txt key)).mono ?_
    rintro e W2 ⟨rfl, b⟩
    exact ⟨rfl, b.block m hms, F, G, S, T, L, M, tv, vs, td, h1.below b, h2.more (by omega), h3⟩
  · refine (h1.drop2 hL ho hk).mono ?_
    rintro e W2 ⟨rfl, T', h4, hk4⟩
    refine ⟨rfl, hk4.block m hms (fun hf => by have := hG m hf; omega), F', G, S', T', L, M, tv, vs, td, h4, ?_, h3⟩
    rcases h1.out with ⟨_, _, h5⟩ | ⟨_, h5⟩
    · exact (h2.like h5).more (by omega)
    · exact h2.wr hc h5

/-! ### May -/
def MidM (w0 W : World) (d r s s' f : Nat) (c : Int) (tl : Nat) (key : List UInt8) (b : Bool) : Prop :=
  ∃ F G S T L M tv vs td t, Two w0 W d F S s L f M s' r G T tv vs td ∧ Cnt L S c ∧ (∀ t ∈ td, t.length ≤ tl) ∧ td[bkt key M.fs.length]? = some t ∧ b = mayR t key
theorem StB.m1 (h : StB w0 W d r s s' f c tl) (key : List UInt8) (hk : key.length ≤ maxLen) :
    Calls Tryz.prog 16 #[.pointer (some ⟨s, 0, none⟩), .string (txt key)] W fun e W2 => ∃ b, e = .returned (.bool b) ∧ Below W.heap.size W W2 ∧ MidM w0 W2 d r s s' f c tl key b := by
  obtain ⟨F, G, S, T, L, M, tv, vs, td, h1, h2, h3⟩ := h
  obtain ⟨t, ht⟩ : ∃ t, td[bkt key M.fs.length]? = some t := ⟨_, List.getElem?_eq_getElem (by rw [h1.q.len]; exact bkt_lt key M.fs.length h1.q.n1)⟩
  refine (h1.may1 key hk t ht).mono ?_
  rintro e W2 ⟨rfl, b⟩
  exact ⟨_, rfl, b, F, G, S, T, L, M, tv, vs, td, t, h1.below b, h2, h3, ht, rfl⟩
theorem MidM.below {key : List UInt8} {bo : Bool} (h : MidM w0 W d r s s' f c tl key bo) (b : Below W.heap.size W W') : MidM w0 W' d r s s' f c tl key bo := by
  obtain ⟨F, G, S, T, L, M, tv, vs, td, t, h1, h2, h3, h4, h5⟩ := h
  exact ⟨F, G, S, T, L, M, tv, vs, td, t, h1.below b, h2, h3, h4, h5⟩
theorem MidM.m2 {key : List UInt8} {bo : Bool} (h : MidM w0 W d r s s' f c tl key bo) (hk : key.length ≤ 1048000) (ht : tl ≤ 100000) :
    Calls Tryz.prog 17 #[.pointer (some ⟨s', 0, none⟩), .string (txt key)] W fun e W2 => e = .returned (.bool bo) ∧ Below W.heap.size W W2 ∧ StB w0 W2 d r s s' f c tl := by
  obtain ⟨F, G, S, T, L, M, tv, vs, td, t, h1, h2, h3, h4, rfl⟩ := h
  refine (h1.may2 key hk t h4 (Nat.le_trans (h3 t (List.mem_of_getElem? h4)) ht)).mono ?_
  rintro e W2 ⟨rfl, b⟩
  exact ⟨rfl, b, F, G, S, T, L, M, tv, vs, td, h1.below b, h2, h3⟩

/-! ### Open anew -/
def MidO (w0 W : World) (d r s s' f : Nat) (c : Int) (tl : Nat) (a b : Int) (v : Value) (er : Int) : Prop :=
  (er ≠ 0 ∧ v = .pointer none ∧ ∃ F G S T L M tv vs td, AnsO S a b er ∧ Two w0 W d F S s L f M s' r G T tv vs td ∧ Cnt L S c ∧ ∀ t ∈ td, t.length ≤ tl) ∨
  (er = 0 ∧ ∃ F G S T L Wo, Devs w0 Wo d F S r G T ∧ OpenQ w0 Wo d F S a b r G T er v W ∧ AnsO S a b er ∧ Cnt L S c)
theorem StB.o1 (h : StB w0 W d r s s' f c tl) (a b : Int) (ha : -9223372036854775808 ≤ a ∧ a ≤ 9223372036854775807) (hb : -9223372036854775808 ≤ b ∧ b ≤ 9223372036854775807) :
    Calls Tryz.prog 7 #[.pointer (some ⟨d, 0, none⟩), .int .i64 a, .int .i64 b] W fun e W2 => ∃ v er, e = .returned (.tuple #[v, .int .i64 er]) ∧ MidO w0 W2 d r s s' f c tl a b v er := by
  obtain ⟨F, G, S, T, L, M, tv, vs, td, h1, h2, h3⟩ := h
  obtain ⟨er, hA⟩ := ans_o S a b
  by_cases he : er = 0
  · refine (h1.devs.open1 a b ha hb hA).mono ?_
    rintro e W2 ⟨v, rfl, hO⟩
    exact ⟨v, er, rfl, .inr ⟨he, F, G, S, T, L, W, h1.devs, hO, hA, h2⟩⟩
  · refine (h1.openN1 a b ha hb hA he).mono ?_
    rintro e W2 ⟨rfl, S', h4, h5⟩
    exact ⟨_, er, rfl, .inl ⟨he, rfl, F, G, S', T, L, M, tv, vs, td, hA.like h5, h4, h2.like h5, h3⟩⟩
theorem MidO.o2 {a b : Int} {v : Value} {er : Int} (h : MidO w0 W d r s s' f c tl a b v er) (ha : -9223372036854775808 ≤ a ∧ a ≤ 9223372036854775807) (hb : -9223372036854775808 ≤ b ∧ b ≤ 9223372036854775807) (ht : 12 ≤ tl) :
    Calls Tryz.prog 8 #[.pointer (some ⟨r, 0, none⟩), .int .i64 a, .int .i64 b] W fun e W2 => ∃ u, e = .returned (.tuple #[u, .int .i64 er]) ∧
      ((er ≠ 0 ∧ StB w0 W2 d r s s' f c tl) ∨ (er = 0 ∧ ∃ f2 s2 s2', v = .pointer (some ⟨s2, 0, none⟩) ∧ u = .pointer (some ⟨s2', 0, none⟩) ∧ StB w0 W2 d r s2 s2' f2 c tl)) := by
  rcases h with ⟨he, rfl, F, G, S, T, L, M, tv, vs, td, hA, h1, h2, h3⟩ | ⟨he, F, G, S, T, L, Wo, hD, hO, hA, h2⟩
  · refine (h1.openN2 a b ha hb hA he).mono ?_
    rintro e W2 ⟨rfl, rfl⟩
    exact ⟨_, rfl, .inl ⟨he, F, G, S, T, L, M, tv, vs, td, h1, h2, h3⟩⟩
  · refine (hO.open2 hD ha hb hA).mono ?_
    rintro e W2 ⟨u, rfl, ⟨hne, _⟩ | ⟨_, f2, n, s2, s2', M, S', T', tv, vs, hv, hu, hT, hl⟩⟩
    · exact absurd he hne
    · refine ⟨u, rfl, .inr ⟨he, f2, s2, s2', hv, hu, F, G, S', T', S.losses, M, tv, vs, _, hT, ⟨Int.le_trans h2.1 h2.2.1, by rw [hl.losses]; exact Int.le_refl _, by rw [hl.losses]; exact h2.2.2⟩, fun t ht' => ?_⟩⟩
      unfold tdO at ht'
      obtain ⟨j, _, rfl⟩ := List.mem_map.1 ht'
      rw [List.length_map]
      exact Nat.le_trans (its_len hD.p.dev.good _) ht

/-! ### A call of the device -/
theorem StB.act (h : StB w0 W d r s s' f c tl) (hc : c ≤ 100000) (t : ActI) (hbs : BSlice W t.a t.l t.bb) (hnil : t.a = none → t.l = []) (hs : t.l.length ≤ 140737488351232) (hpg : t.page ≤ 9223372036854775807) (hb : t.l ≠ [] → t.bb < w0.heap.size) :
    Calls Tryz.prog 18 #[.pointer (some ⟨d, 0, none⟩), .pointer (some ⟨r, 0, none⟩), .agg #[.int .i64 t.op, .int .i64 t.page, .slice t.a t.l.length t.cap]] W fun e W' => e = .returned (.bool true) ∧ StB w0 W' d r s s' f (c + 1) tl := by
  obtain ⟨F, G, S, T, L, M, tv, vs, td, h1, h2, h3⟩ := h
  refine (h1.act h2 hc t hbs hnil hs hpg (fun hn hf => by have := h1.p.law.low _ hf; have := hb hn; omega) (fun hn hf => by have := h1.q.newG _ hf; have := hb hn; omega)).mono ?_
  rintro e W2 ⟨rfl, F', S', G', T', h4, h5⟩
  exact ⟨rfl, F', G', S', T', L, M, tv, vs, td, h4, h5, h3⟩

/-! ### Items -/
def MidI (w0 W : World) (d r s s' f : Nat) (c : Int) (tl : Nat) (v : Value) (er : Int) : Prop :=
  ∃ F G S T L M tv vs td base, AnsI S L f M.fs.length base v er W ∧ (∀ q ∈ G, q < base) ∧ Two w0 W d F S s L f M s' r G T tv vs td ∧ Cnt L S c ∧ ∀ t ∈ td, t.length ≤ tl
theorem AnsI.like {S S' : Dv} {L : Int} {first n base : Nat} {v : Value} {er : Int} (h : AnsI S L first n base v er W) (hl : Like S S') : AnsI S' L first n base v er W := by
  unfold AnsI at *
  rw [hl.losses, all_like hl]
  exact h
theorem StB.i1 (h : StB w0 W d r s s' f c tl) :
    Calls Tryz.prog 19 #[.pointer (some ⟨s, 0, none⟩)] W fun e W2 => ∃ v er, e = .returned (.tuple #[v, .int .i64 er]) ∧ MidI w0 W2 d r s s' f c tl v er := by
  obtain ⟨F, G, S, T, L, M, tv, vs, td, h1, h2, h3⟩ := h
  refine h1.items1.mono ?_
  rintro e W2 ⟨v, er, S', rfl, hA, h4, h5⟩
  exact ⟨v, er, rfl, F, G, S', T, L, M, tv, vs, td, _, hA.like h5, fun q hq => h1.q.lt q (ftG hq), h4, h2.like h5, h3⟩
theorem AnsI.rows_len {S : Dv} {L : Int} {first n b b' : Nat} {v u : Value} {er er' : Int} (h : AnsI S L first n b v er W) (h' : AnsI S L first n b' u er' W) (hg : S.good) : ∃ (xs : List It), Row W b v xs ∧ Row W b' u xs ∧ xs.length ≤ 12 * n ∧ ∀ x ∈ xs, x.fits ∧ x.good = true := by
  have hx : ∀ x ∈ S.all first n, x.fits ∧ x.good = true := fun x hx => by
    unfold Dv.all at hx
    obtain ⟨k, _, hk⟩ := List.mem_flatMap.1 hx
    exact (Dv.its_all hg _).2 x hk
  rcases h with ⟨h1, rfl, rfl⟩ | ⟨h1, rfl, h2⟩
  · rcases h' with ⟨_, rfl, rfl⟩ | ⟨h3, _, _⟩
    · exact ⟨[], Row.nil _ _, Row.nil _ _, Nat.zero_le _, fun x hx => by cases hx⟩
    · exact absurd h3 h1
  · rcases h' with ⟨h3, _, _⟩ | ⟨h3, rfl, h4⟩
    · exact absurd h1 h3
    · exact ⟨_, h2, h4, all_len12 hg _ _, hx⟩
theorem MidI.i2 {v : Value} {er : Int} (h : MidI w0 W d r s s' f c tl v er) :
    Calls Tryz.prog 20 #[.pointer (some ⟨s', 0, none⟩)] W fun e W2 => ∃ u, e = .returned (.tuple #[u, .int .i64 er]) ∧ StB w0 W2 d r s s' f c tl ∧
      Calls Tryz.prog 11 #[v, u] W2 fun e w' => e = .returned (.bool true) ∧ Below W2.heap.size W2 w' := by
  obtain ⟨F, G, S, T, L, M, tv, vs, td, base, hA, hb, h1, h2, h3⟩ := h
  refine h1.items2.mono ?_
  rintro e W2 ⟨u, er', T', rfl, hA2, h4, h5⟩
  have hA' := hA.still h5 hb
  obtain rfl := hA'.err hA2
  obtain ⟨xs, g1, g2, g3, g4⟩ := hA'.rows_len hA2 h1.good
  have := h1.n2
  exact ⟨u, rfl, ⟨F, G, S, T', L, M, tv, vs, td, h4, h2, h3⟩, rows_eq g1 g2 g4 (by omega)⟩

/-! ### The law's own boxes -/
/-- A block of the law's own. -/
def Own1 (W : World) (m : Nat) (cs : Array Value) (t : TypeId) : Prop := W.heap[m]? = some (.cells cs t)
theorem Own1.new (W : World) (cs : Array Value) (t : TypeId) : Own1 (W.alloc (.cells cs t)) W.heap.size cs t := by
  show (W.heap.push _)[W.heap.size]? = _
  simp
theorem Own1.cell {m : Nat} {cs : Array Value} {t : TypeId} (h : Own1 W m cs t) (i : Nat) (v : Value) (hv : cs[i]? = some v) : W.cell? ⟨m, i, none⟩ = some v := by
  unfold Own1 at h
  simp only [World.cell?, h]
  exact hv
theorem Own1.on {m : Nat} {cs : Array Value} {t : TypeId} (h : Own1 W m cs t) (k : W'.heap[m]? = W.heap[m]?) : Own1 W' m cs t := k.trans h
theorem Own1.lt {m : Nat} {cs : Array Value} {t : TypeId} (h : Own1 W m cs t) : m < W.heap.size := (Array.getElem?_eq_some_iff.1 h).1
theorem fV_agg (o : Option It) : ∃ x : It, fV o = .agg #[.string (txt x.key), .string (txt x.value), .int .u32 x.flags, .int .i64 x.exp, .int .u64 x.ver] := by
  cases o with
  | some x => exact ⟨x, rfl⟩
  | none => exact ⟨It.zero, rfl⟩
theorem Own1.alloc {m : Nat} {cs : Array Value} {t : TypeId} (h : Own1 W m cs t) (o : Obj) : Own1 (W.alloc o) m cs t :=
  h.on (((Below.refl W.heap.size W).alloc (Nat.le_refl _) o).block m h.lt)
theorem fV_neq (o : Option It) (W : World) : (binOp .neq 39 (fV o) (fV o)).run Tryz.prog W = .ok (.bool false) W := by
  have e : ∀ x : It, (binOp .neq 39 x.val x.val).run Tryz.prog W = .ok (.bool false) W := fun x => by
    simpa using run_neq_items x x W
  cases o with
  | some x => exact e x
  | none => exact e It.zero

/-! ### The end -/
theorem StB.fin (h : StB w0 W d r s s' f c tl) :
    Calls Tryz.prog 21 #[.pointer (some ⟨d, 0, none⟩), .pointer (some ⟨r, 0, none⟩)] W fun e w' => e = .returned (.bool true) ∧ Below w0.heap.size w0 w' := by
  obtain ⟨F, G, S, T, L, M, tv, vs, td, h1, h2, h3⟩ := h
  refine (alike_like d r F G S T h1.like W h1.devs.pair).mono ?_
  rintro e w6 ⟨rfl, _, hm⟩
  exact ⟨rfl, h1.p.law.bel.trans (hm.keep.below (fun k hk => by
    rcases List.mem_append.1 hk with h4 | h4
    · exact h1.p.law.low k h4
    · exact h1.q.newG k h4) h1.p.law.bel.size)⟩
end
end Go.Proofs.YtbccnfbombgdmaaGreat
