/- Both tables side by side, as the law holds them. -/
import Derived.Test.YtkjfildnemgbiaaRfB
set_option linter.unusedVariables false
set_option linter.unusedSimpArgs false
set_option maxRecDepth 8000
namespace Go.Proofs.Ytkjfildnemgbiaa
open Go.RowKit Go.Deep Go.Shelf Math Tab Go.Sort

/-- The document's table that holds what t holds. -/
structure RL (w0 : World) (r : Nat) (t : Tb) (W : World) : Prop where
  ex : ∃ nx nw od ks vs, RZ w0.heap.size r nx nw od ks vs W ∧ Sim t nx nw od ks vs ∧ ∀ k ∈ ks, k.length ≤ maxLen
section
variable {w0 W W' : World} {f r : Nat} {t : Tb}
theorem TM.types {F : List Nat} (h : TM f t F W) : ∀ b ∈ F, ∃ (c : Array Value) (ty : TypeId), W.heap[b]? = some (.cells c ty (0, 0)) ∧ ty ≠ 43 ∧ ty ≠ 29 ∧ ty ≠ 9 ∧ ty ≠ 3 := by
  obtain ⟨nb, ob, mo, nw, od, h1, _, _, rfl⟩ := h.ex
  intro b hb
  unfold foot at hb
  rcases List.mem_cons.1 hb with rfl | hb
  · exact ⟨_, 52, h1.own, by decide, by decide, by decide, by decide⟩
  rcases List.mem_cons.1 hb with rfl | hb
  · exact ⟨_, 60, h1.rN, by decide, by decide, by decide, by decide⟩
  rcases List.mem_append.1 hb with hb | hb
  · split at hb
    · rename_i h0
      rw [List.mem_singleton.1 hb]
      exact ⟨_, 60, h1.rO h0, by decide, by decide, by decide, by decide⟩
    · cases hb
  · obtain ⟨e, he, rfl⟩ := List.mem_map.1 hb
    obtain ⟨c, hc, hec⟩ := List.mem_flatten.1 he
    obtain ⟨q, hq, _⟩ := (h1.ch c hc).at e hec
    exact ⟨_, 58, hq, by decide, by decide, by decide, by decide⟩
theorem TM.sameF {F : List Nat} (h : TM f t F W) (k : ∀ b ∈ F, W'.heap[b]? = W.heap[b]?) : TM f t F W' := by
  obtain ⟨nb, ob, mo, nw, od, h1, h2, h3, rfl⟩ := h.ex
  exact ⟨⟨nb, ob, mo, nw, od, h1.same k, h2, h3, rfl⟩, h.good⟩
theorem TL.offR (h : TL w0 f t W) (O : OffR w0.heap.size W W') : TL w0 f t W' := by
  obtain ⟨F, T, hF⟩ := h.tm
  refine ⟨⟨F, T.sameF (fun b hb => ?_), hF⟩, h.bel.trans ⟨O.os, O.tape, O.output, O.size, fun k hk => O.low k hk⟩⟩
  obtain ⟨c, ty, hc, h1, h2, h3, h4⟩ := T.types b hb
  exact O.typ b c ty hc h1 h2 h3 h4
theorem RL.moves {F F' : List Nat} {t' : Tb} (h : RL w0 r t' W) (T : TM f t F W) (M : Moves F F' W W') : RL w0 r t' W' := by
  obtain ⟨nx, nw, od, ks, vs, ⟨⟨nb, ob, vN, vO, kv, vv, h1⟩, h2⟩, h3, h4⟩ := h.ex
  refine ⟨nx, nw, od, ks, vs, ⟨⟨nb, ob, vN, vO, kv, vv, h1.same (fun q c ty hq ht => ?_)⟩, Nat.le_trans h2 M.keep.size⟩, h3, h4⟩
  refine M.keep.block q (Array.getElem?_eq_some_iff.1 hq).1 (fun hm => ?_)
  obtain ⟨c2, ty2, hc2, h5, h6, h7, h8⟩ := T.types q hm
  rw [hq] at hc2
  simp at hc2
  obtain ⟨_, rfl⟩ := hc2
  rcases ht with h | h | h | h <;> contradiction
theorem RL.on (h : RL w0 r t W) (b : Below W.heap.size W W') : RL w0 r t W' := by
  obtain ⟨nx, nw, od, ks, vs, ⟨⟨nb, ob, vN, vO, kv, vv, h1⟩, h2⟩, h3, h4⟩ := h.ex
  exact ⟨nx, nw, od, ks, vs, ⟨⟨nb, ob, vN, vO, kv, vv, h1.below b⟩, Nat.le_trans h2 b.size⟩, h3, h4⟩
theorem RL.drewN (h : RL w0 r t W) (q : Nat) : RL w0 r t (W.drewN q) := by
  obtain ⟨nx, nw, od, ks, vs, ⟨⟨nb, ob, vN, vO, kv, vv, h1⟩, h2⟩, h3, h4⟩ := h.ex
  exact ⟨nx, nw, od, ks, vs, ⟨⟨nb, ob, vN, vO, kv, vv, h1.drewN q⟩, h2⟩, h3, h4⟩
theorem rget_l (h : RL w0 r t W) (g : Tab.Good hsh t) (key : List UInt8) (hc : t.all.length ≤ 900) :
    Calls Try.prog 19 #[.pointer (some ⟨r, 0, none⟩), .string (txt key)] W fun e W' => e = .returned (.tuple #[.int .i64 ((fnd key t.all).getD 0), .bool (fnd key t.all).isSome]) ∧ W' = W := by
  obtain ⟨nx, nw, od, ks, vs, Z, S, hk⟩ := h.ex
  have hl := S.len
  have hv := S.l
  cases hf : fnd key t.all with
  | none => exact rget_none Z key (S.fnone g hf).2 (by omega)
  | some v =>
    obtain ⟨i, h1, h2, h3⟩ := S.fsome g hf
    exact rget_hit Z key i v h1 h3 (by omega) (by omega)
theorem rleft_l (h : RL w0 r t W) (g : Tab.Good hsh t) :
    Calls Try.prog 23 #[.pointer (some ⟨r, 0, none⟩)] W fun e W' => e = .returned (.int .i64 (t.od.length : Int)) ∧ ∃ q, W' = W.drewN q := by
  obtain ⟨nx, nw, od, ks, vs, ⟨⟨nb, ob, vN, vO, kv, vv, h1⟩, _⟩, S, hk⟩ := h.ex
  have hl : od.length = t.od.length := by rw [S.o]; simp
  have := rleft_any h1 (by have := S.x9; omega)
  rw [hl] at this
  exact this
theorem rdel_l (h : RL w0 r t W) (g : Tab.Good hsh t) (key : List UInt8) (hc : t.all.length ≤ 900) :
    Calls Try.prog 18 #[.pointer (some ⟨r, 0, none⟩), .string (txt key)] W fun e W' => e = .returned (.bool (fnd key t.all).isSome) ∧ RL w0 r (t.delT hsh key) W' ∧ OffR w0.heap.size W W' := by
  obtain ⟨nx, nw, od, ks, vs, Z, S, hk⟩ := h.ex
  have hl := S.len
  have hv := S.l
  have S1 := S.mv g
  have D := S.bd g (by omega) hk
  have D1 := S1.bd g.mv (by rw [g.len_mv]; omega) hk
  cases hf : fnd key t.all with
  | none =>
    refine (rdelete_none Z D key (S.fnone g hf).2 (by omega)).mono ?_
    rintro e W' ⟨rfl, Z', O⟩
    refine ⟨rfl, ⟨_, _, _, _, _, Z', ?_, hk⟩, O⟩
    have e : t.delT hsh key = t.mv hsh := by
      unfold Tb.delT
      rw [outV_same, put_same g.mv]
      intro hm
      obtain ⟨R, h1, _⟩ := g.mv.perm key
      have hn : key ∉ keysOf (t.mv hsh).all := fun h9 => (S1.fnone g.mv (by rw [fnd_perm g.mv_perm g.mv.nd]; exact hf)).1 (S1.keys.mem_iff.2 h9)
      exact hn ((keysOf_perm h1).mem_iff.2 (by unfold keysOf at hm ⊢; rw [List.map_append]; exact List.mem_append_left _ hm))
    rw [e]
    exact S1
  | some v =>
    obtain ⟨i, h1, h2, h3⟩ := S.fsome g hf
    refine (rdelete_hit Z D D1 key i h1 (List.getElem?_eq_some_iff.1 h2).1 hv (by omega)).mono ?_
    rintro e W' ⟨rfl, Z', O⟩
    refine ⟨rfl, ⟨_, _, _, _, _, Z', S1.del g.mv h2, fun k hkm => hk k ?_⟩, O⟩
    rcases List.mem_append.1 hkm with h | h
    · exact List.mem_of_mem_take h
    · exact List.mem_of_mem_drop h
theorem rset_l (h : RL w0 r t W) (g : Tab.Good hsh t) (key : List UInt8) (hkk : key.length ≤ maxLen) (v : Int) (hc : t.all.length ≤ 900) :
    Calls Try.prog 16 #[.pointer (some ⟨r, 0, none⟩), .string (txt key), .int .i64 v] W fun e W' => e = .returned (.bool (t.isNew hsh key)) ∧ RL w0 r (t.setT hsh key v) W' ∧ OffR w0.heap.size W W' := by
  obtain ⟨nx, nw, od, ks, vs, Z, S, hk⟩ := h.ex
  have hl := S.len
  have hv := S.l
  have S1 := S.mv g
  have g1 := g.mv
  have D := S.bd g (by omega) hk
  have D1 := S1.bd g.mv (by rw [g.len_mv]; omega) hk
  have hn := g.isNew_iff key
  cases hf : fnd key t.all with
  | some v0 =>
    rw [hf] at hn
    obtain ⟨i, h1, h2, h3⟩ := S.fsome g hf
    have hiv := (List.getElem?_eq_some_iff.1 h3).1
    refine (rset_hit Z D key hkk v i h1 hiv (by omega) (by omega)).mono ?_
    rintro e W' ⟨rfl, Z', O⟩
    refine ⟨by rw [hn]; rfl, ⟨_, _, _, _, _, Z', ?_, hk⟩, O⟩
    unfold Tb.setT
    rw [hn, if_neg (by simp)]
    exact S1.hit g1 h2 hiv v
  | none =>
    rw [hf] at hn
    have hn2 : t.isNew hsh key = true := by rw [hn]; rfl
    have hidx := (S.fnone g hf).2
    have hks : ∀ k ∈ ks ++ [key], k.length ≤ maxLen := fun k h => by
      rcases List.mem_append.1 h with h | h
      · exact hk k h
      · rw [List.mem_singleton.1 h]; exact hkk
    have hset : t.setT hsh key v = ((t.mv hsh).put hsh key ((key, v) :: (t.mv hsh).chn hsh key)).grow := by unfold Tb.setT; rw [if_pos hn2]
    obtain ⟨P, hP⟩ : ∃ P, P = (t.mv hsh).put hsh key ((key, v) :: (t.mv hsh).chn hsh key) := ⟨_, rfl⟩
    have pl := put_len (H := hsh) (t := t.mv hsh) key ((key, v) :: (t.mv hsh).chn hsh key)
    have ml := mv_len (H := hsh) (t := t)
    have pa : P.all.length = ks.length + 1 := by rw [hP, (g1.all_put_new v).length_eq, List.length_cons, g.len_mv, hl]
    have pn : P.nw.length = nw.length := by rw [hP, pl.1, ml.1, S.n]; simp
    have po : P.od.length = od.tail.length := by rw [hP, pl.2, S1.o]; simp
    have gP : Tab.Good hsh P := by
      rw [hP]
      exact g1.put_new v (fun h9 => (S.fnone g hf).1 (S.keys.mem_iff.2 ((keysOf_perm g.mv_perm).mem_iff.1 h9)))
    rw [hn2, hset]
    have nofull : (¬ (3 * nw.length < 2 * (ks.length + 1)) ∨ ¬ od.tail.length = 0) → P.grow = P := fun hh => by
      unfold Tb.grow Tb.full
      rw [pa, pn, po]
      rcases hh with hh | hh
      · rw [decide_eq_false hh]; simp
      · rw [decide_eq_false hh]; simp
    cases ho : (t.mv hsh).isOld hsh key with
    | false =>
      have hold := S1.old_no g1 ho
      have S2 := S1.new_n g1 ho v
      rw [← hP] at S2 ⊢
      by_cases hful : 3 * nw.length < 2 * (ks.length + 1)
      · by_cases hod : od.tail.length = 0
        · refine (rset_new_nC Z D D1 key hkk v hidx (by omega) (by omega) hold hful hod).mono ?_
          rintro e W' ⟨rfl, Z', O⟩
          refine ⟨rfl, ⟨_, _, _, _, _, Z', ?_, hks⟩, O⟩
          have hfull : P.full = true := by
            unfold Tb.full
            rw [pa, pn, po, decide_eq_true hful, decide_eq_true hod, decide_eq_true (show nw.length < 65536 by omega)]
            rfl
          have := S2.grow gP hfull
          rw [rpush_len, show (mvNw nw od).length = nw.length from rfold_len _ _] at this
          exact this
        · refine (rset_new_nB Z D D1 key hkk v hidx (by omega) (by omega) hold hful hod).mono ?_
          rintro e W' ⟨rfl, Z', O⟩
          refine ⟨rfl, ⟨_, _, _, _, _, Z', ?_, hks⟩, O⟩
          rw [nofull (.inr hod)]
          exact S2
      · refine (rset_new_nA Z D D1 key hkk v hidx (by omega) (by omega) hold hful).mono ?_
        rintro e W' ⟨rfl, Z', O⟩
        refine ⟨rfl, ⟨_, _, _, _, _, Z', ?_, hks⟩, O⟩
        rw [nofull (.inl hful)]
        exact S2
    | true =>
      obtain ⟨hj, hold⟩ := S1.old_yes g1 ho
      have S2 := S1.new_o g1 ho v
      rw [← hP] at S2 ⊢
      have hod : ¬ od.tail.length = 0 := by omega
      by_cases hful : 3 * nw.length < 2 * (ks.length + 1)
      · refine (rset_new_oB Z D D1 key hkk v hidx (by omega) (by omega) _ hj hold hful hod).mono ?_
        rintro e W' ⟨rfl, Z', O⟩
        refine ⟨rfl, ⟨_, _, _, _, _, Z', ?_, hks⟩, O⟩
        rw [nofull (.inr hod)]
        exact S2
      · refine (rset_new_oA Z D D1 key hkk v hidx (by omega) (by omega) _ hj hold hful).mono ?_
        rintro e W' ⟨rfl, Z', O⟩
        refine ⟨rfl, ⟨_, _, _, _, _, Z', ?_, hks⟩, O⟩
        rw [nofull (.inl hful)]
        exact S2
theorem rnew_l (n : Nat) (hn : n ≤ 1024) (b : Below w0.heap.size w0 W) :
    Calls Try.prog 14 #[.int .i64 (n : Int)] W fun e W' => e = .returned (.pointer (some ⟨W.heap.size + 1, 0, none⟩)) ∧ RL w0 (W.heap.size + 1) (Tb.mk0 n) W' ∧ Below W.heap.size W W' := by
  refine (rnew_any (B := w0.heap.size) n W hn b.size).mono ?_
  rintro e W' ⟨rfl, h, B⟩
  refine ⟨rfl, ⟨0, _, _, _, _, ⟨⟨_, _, _, _, _, _, h⟩, Nat.le_trans b.size B.size⟩, ⟨?_, rfl, fun h0 => absurd h0 (by simp [Tb.mk0]), by simp, rfl, ?_⟩, fun k hk => by cases hk⟩, B⟩
  · simp [Tb.mk0, keysOf]
  · rw [mk0_all]; exact List.Perm.refl _
end
end Go.Proofs.Ytkjfildnemgbiaa
