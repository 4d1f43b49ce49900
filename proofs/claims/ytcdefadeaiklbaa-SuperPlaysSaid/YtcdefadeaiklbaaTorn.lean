/- A row of blocks that grows; a page that is written with anything. -/
import Derived.Test.YtcdefadeaiklbaaApp
import Derived.Maps.AppendAt
set_option linter.unusedVariables false
set_option linter.unusedSimpArgs false
set_option maxRecDepth 8000
namespace Go.Proofs.Ytcdefadeaiklbaa
open Go.RowKit Go.Deep Go.ChangeShapes Go.WideShapes Math

theorem info29 : (Try.prog.info? 29).map (fun i => (i.zero, i.size, i.bytes)) = some (some (.agg #[.int .u64 0, .int .u64 0, .int .u64 0, .int .u64 0, .int .u64 0, .bool false, .int .i64 0]), 7, 56) := by kernel_rfl
def bksL (xs : List Bk) : List Value := xs.flatMap bkL
theorem bkL_one (x : Bk) : ∀ u ∈ bkL x, u.oneCell' = true := by
  intro u hu
  simp only [bkL, List.mem_cons, List.not_mem_nil, or_false] at hu
  rcases hu with rfl | rfl | rfl | rfl | rfl | rfl | rfl <;> rfl
theorem bksL_length (xs : List Bk) : (bksL xs).length = xs.length * 7 := flat_length bkL 7 (fun _ => rfl) xs
/-- A row of the law's own. -/
structure RowAt (w : World) (F : List Nat) (W : World) (v : Value) (n : Nat) (xs : List Bk) : Prop where
  own : W.ownsRow w.heap.size 29 7 v n (bksL xs)
  off : ∀ k, v.ownBlock = some k → k ∉ F
theorem owns_same {w0 : Nat} {W W' : World} {v : Value} {n : Nat} {L : List Value} (h : W.ownsRow w0 29 7 v n L) (e : ∀ k, v.ownBlock = some k → W'.heap[k]? = W.heap[k]?) : W'.ownsRow w0 29 7 v n L := by
  obtain ⟨h1, h2⟩ := h
  refine ⟨h1, ?_⟩
  rcases h2 with h2 | ⟨g, cap, cur, hv, hg, hh, r⟩
  · exact .inl h2
  · refine .inr ⟨g, cap, cur, hv, hg, ?_, r⟩
    rw [e g (by rw [hv]; rfl)]
    exact hh
theorem RowAt.move {w W W' : World} {F F' : List Nat} {v : Value} {n : Nat} {xs : List Bk} (h : RowAt w F W v n xs) (m : Moves F F' W W') : RowAt w F' W' v n xs := by
  refine ⟨owns_same h.own (fun k hk => m.keep.block k (h.own.lt k hk).2 (h.off k hk)), fun k hk hf => ?_⟩
  rcases m.foot k hf with h1 | h1
  · exact h.off k hk h1
  · have := (h.own.lt k hk).2; omega
theorem RowAt.below {w W W' : World} {F : List Nat} {v : Value} {n : Nat} {xs : List Bk} (h : RowAt w F W v n xs) (b : Below W.heap.size W W') : RowAt w F W' v n xs := h.move (Moves.of_keep (Keep.of_below b))
theorem RowAt.alloc {w W : World} {F : List Nat} {v : Value} {n : Nat} {xs : List Bk} (h : RowAt w F W v n xs) (o : Obj) : RowAt w F (W.alloc o) v n xs := h.below ((Below.refl _ _).alloc (Nat.le_refl _) _)
theorem RowAt.nil (w W : World) (F : List Nat) : RowAt w F W (.slice none 0 0) 0 [] := ⟨⟨rfl, .inl ⟨rfl, rfl⟩⟩, fun k hk => by cases hk⟩
/-- 'append(row, x)'. -/
theorem RowAt.append {w W : World} {d : Nat} {F : List Nat} {S : Dv} {v : Value} {n : Nat} {xs : List Bk} (h : RowAt w F W v n xs) (hl : Law w d F S W) (hn : n ≤ 1000) (x : Bk) (N : Nat) (hN : Blk W N (bkL x) 29) :
    ∃ v' W', (Builtin.append_ #[54, 54] 54 #[v, .slice (some ⟨N, 0, none⟩) 1 1]).run Try.prog W = .ok v' W' ∧ RowAt w F W' v' (n + 1) (xs ++ [x]) ∧ Law w d F S W' ∧ (∃ g c, v' = .slice (some ⟨g, 0, none⟩) (n + 1) c) ∧
      (∀ k L t, Held W F k L t → v.ownBlock ≠ some k → Held W' F k L t) := by
  obtain ⟨i0, hi0, hp0⟩ := Option.map_eq_some_iff.1 info29
  simp only [Prod.mk.injEq] at hp0
  obtain ⟨hz0, hz1, hz2⟩ := hp0
  have hB := hl.bel.size
  obtain ⟨v', W', hr, ho, hg, hnl, hat⟩ := run_append_own_at (P := Try.prog) W w.heap.size 54 54 29 i0 _ 7 56 Try.underlying54 hi0 hz0 hz1 hz2 rfl (by decide) v n (bksL xs) h.own ⟨N, 0, none⟩ 1 1 (bkL x) rfl
    (fun j u hj => by rw [Addr.add_lit, Nat.zero_add]; exact hN.cell hj) (bkL_one x) (by unfold maxLen; omega) (by omega) hB
  have e : bksL xs ++ bkL x = bksL (xs ++ [x]) := by simp [bksL]
  rw [e] at ho
  have same : ∀ k, k < W.heap.size → v.ownBlock ≠ some k → W'.heap[k]? = W.heap[k]? := fun k hk hne => hg.block k hk (fun e => hne e.symm)
  refine ⟨v', W', hr, ⟨ho, fun k hk hf => ?_⟩, ?_, ?_, fun k L t hh hne => ⟨hh.blk.same (same k hh.blk.lt hne), hh.off⟩⟩
  · have hlt := hl.dev.lt k hf
    rcases hat with h9 | h9
    · exact h.off k (h9 ▸ hk) hf
    · rw [hk] at h9
      simp only [Option.some.injEq] at h9
      omega
  · refine ⟨hl.dev.same (fun k hk => same k (hl.dev.lt k hk) (fun e => h.off k e hk)), hl.low, hl.bel.grown hg hB (fun q hq => (h.own.lt q hq).1)⟩
  · rcases ho.2 with ⟨h2, _⟩ | ⟨g, c, cur, hv', _⟩
    · exact absurd (hnl.1 h2).2 (by decide)
    · exact ⟨g, c, hv'⟩
/-- An element of it. -/
theorem RowAt.get {w W : World} {F : List Nat} {g n c : Nat} {xs : List Bk} (h : RowAt w F W (.slice (some ⟨g, 0, none⟩) n c) n xs) (i : Nat) (x : Bk) (hx : xs[i]? = some x) :
    OneBk W g (i * 7) x ∧ g < W.heap.size ∧ n ≤ c ∧ c ≤ 9223372036854775807 ∧ n = xs.length := by
  have hlen := h.own.1
  rw [bksL_length] at hlen
  rcases h.own.2 with ⟨h0, _⟩ | ⟨g', cap, cur, hv, hb, hc, h1, h2, h3, h4⟩
  · cases h0
  simp only [Value.slice.injEq, Option.some.injEq, Addr.mk.injEq, and_true, true_and] at hv
  obtain ⟨rfl, rfl⟩ := hv
  have hi : i < xs.length := (List.getElem?_eq_some_iff.1 hx).1
  have hB : Blk W g cur.toList 29 := by unfold Blk; rw [Array.toArray_toList]; exact hc
  obtain ⟨A, y, B, hxs, hA⟩ := part_at xs i hi
  have hy : y = x := by rw [hxs, ← hA] at hx; simpa using hx
  subst hy
  have key : ∀ j v, j < 7 → (bkL y)[j]? = some v → W.cell? ⟨g, i * 7 + j, none⟩ = some v := fun j v hj hv => by
    refine hB.cell ?_
    have e := flat_get bkL 7 (fun _ => rfl) A y B j hj
    rw [← hxs, hA, hv] at e
    have e2 : (bksL xs)[i * 7 + j]? = some v := e
    rw [← h4, List.getElem?_take_of_lt (by omega)] at e2
    exact e2
  exact ⟨⟨key 0 _ (by omega) rfl, key 1 _ (by omega) rfl, key 2 _ (by omega) rfl, key 3 _ (by omega) rfl, key 4 _ (by omega) rfl, key 5 _ (by omega) rfl, key 6 _ (by omega) rfl⟩, hB.lt, h1, by unfold maxLen at h2; omega, by omega⟩
theorem dec_take {L M : List UInt8} (hL : 64 ≤ L.length) (hM : 64 ≤ M.length) (h : L.take 64 = M.take 64) : dec L = dec M := by
  have hs : ∀ i j, j ≤ 64 → sl L i j = sl M i j := fun i j hj => by
    unfold sl
    have e : ∀ X : List UInt8, X.take j = (X.take 64).take j := fun X => by rw [List.take_take, Nat.min_eq_left hj]
    rw [e L, e M, h]
  have hg : L.getD 44 0 = M.getD 44 0 := by
    have e : ∀ X : List UInt8, X[44]? = (X.take 64)[44]? := fun X => (List.getElem?_take_of_lt (by omega)).symm
    rw [List.getD_eq_getElem?_getD, List.getD_eq_getElem?_getD, e L, e M, h]
  have hB : decB L = decB M := by
    unfold decB
    rw [hs 4 12 (by omega), hs 12 20 (by omega), hs 20 28 (by omega), hs 28 36 (by omega), hs 36 44 (by omega), hs 48 52 (by omega), hg]
  unfold dec
  rw [if_neg (show ¬ L.length < 64 by omega), if_neg (show ¬ M.length < 64 by omega), hB, h]
theorem dec_full (l : List UInt8) (hl : l.length ≤ 384) : dec (full (txt l)).data.toList = dec (l ++ List.replicate 384 0) := by
  rw [full_data]
  have e : (txt l).data.toList = l := rfl
  have e2 : (txt l).size = l.length := txt_size l
  rw [e, e2]
  refine dec_take (by simp; omega) (by simp) ?_
  rw [List.take_append, List.take_append, List.take_replicate, List.take_replicate]
  congr 2
  omega
theorem write_any_two {w0 W : World} {d : Nat} {F : List Nat} {S : Dv} {a b : Option Bk} (h : Law w0 d F S W) (t : Two S a b) (ha : S.armed = 0) (k : Nat) (hk : k < 2) {ad : Option Addr} {n cap : Nat} {l : List UInt8} (hb : BS w0 ad n cap l) (hnil : ad = none → l = []) (hn : n ≤ 384) :
    Calls Try.prog 30 #[.pointer (some ⟨d, 0, none⟩), .int .i64 (k : Nat), .slice ad n cap] W fun e W' => e = .returned (.int .i64 0) ∧
      ∃ F' S', Law w0 d F' S' W' ∧ Two S' (if k = 0 then dec (l ++ List.replicate 384 0) else a) (if k = 1 then dec (l ++ List.replicate 384 0) else b) ∧ S'.armed = 0 ∧ Moves F F' W W' := by
  have hb' := hb.later h.bel
  have hlen := t.len
  have hnl := hb.len
  have hs : (txt l).size = n := by rw [txt_size, hnl]
  have hh : S.has ((k : Nat) : Int) = true := has_nat (by omega)
  have hgn : S.gone = false := by unfold Dv.gone; rw [t.off, ha]; rfl
  have e1 : S.writeErr ((k : Nat) : Int) (txt l) = 0 := by
    unfold Dv.writeErr Dv.putErr
    rw [if_neg (by omega), if_neg (by rw [hh]; decide), if_neg (by rw [hgn]; decide)]
  have eu : S.used = S := by unfold Dv.used; rw [if_pos (.inr ha)]
  have e2 : S.writeDo ((k : Nat) : Int) (txt l) = { S with cs := putAt S.cs k (.whole (txt l)), wr := wrap64 (S.wr + 1) } := by
    unfold Dv.writeDo Dv.putDo
    rw [if_neg (by omega), if_neg (by rw [hh]; decide), if_neg (by rw [hgn]; decide), Int.toNat_natCast, eu]
  have hex : ∃ bb, BSlice W ad l bb ∧ (l ≠ [] → bb ∉ F) := by
    cases ad with
    | none => exact ⟨0, .inl (hnil rfl), fun hl => absurd (hnil rfl) hl⟩
    | some x =>
      by_cases hl : l = []
      · exact ⟨0, .inl hl, fun h => absurd hl h⟩
      · have hpos : 0 < l.length := List.length_pos_iff.2 hl
        obtain ⟨b', o', ha', hlt, hc⟩ := hb.cell 0 (by omega)
        cases ha'
        exact ⟨b', hb'.slice, fun _ hf => by have := h.low _ hf; omega⟩
  obtain ⟨bb, h1, h2⟩ := hex
  refine (write_at d F S (k : Nat) ad n cap bb l hnl W h1 hnil h2 h.dev).mono ?_
  rintro e W' ⟨rfl, F', hd, m⟩
  rw [show (⟨l.toArray⟩ : ByteArray) = txt l from rfl, e2] at hd
  refine ⟨by rw [show (⟨l.toArray⟩ : ByteArray) = txt l from rfl, e1], F', _, h.move hd m, ?_, ha, m⟩
  have hsl : ∀ j, j < 2 → ({ S with cs := putAt S.cs k (.whole (txt l)), wr := wrap64 (S.wr + 1) } : Dv).slotB j = if j = k then dec (l ++ List.replicate 384 0) else S.slotB j := fun j hj => by
    rw [slotB_pg]
    have : ({ S with cs := putAt S.cs k (.whole (txt l)), wr := wrap64 (S.wr + 1) } : Dv).pg j = if j = k ∧ j < S.cs.length then some (.whole (txt l)) else S.pg j := putAt_get _ _ _ _
    rw [this]
    by_cases hjk : j = k
    · rw [if_pos ⟨hjk, by omega⟩, if_pos hjk, Option.bind_some]
      exact dec_full l (by omega)
    · rw [if_neg (fun hh => hjk hh.1), if_neg hjk, slotB_pg]
  refine ⟨by show 2 ≤ (putAt _ _ _).length; rw [putAt_length]; exact hlen, t.off, ?_, ?_⟩
  · rw [hsl 0 (by omega), t.s0]
    by_cases h0 : k = 0
    · rw [if_pos h0.symm, if_pos h0]
    · rw [if_neg (fun e => h0 e.symm), if_neg h0]
  · rw [hsl 1 (by omega), t.s1]
    by_cases h0 : k = 1
    · rw [if_pos h0.symm, if_pos h0]
    · rw [if_neg (fun e => h0 e.symm), if_neg h0]
end Go.Proofs.Ytcdefadeaiklbaa
