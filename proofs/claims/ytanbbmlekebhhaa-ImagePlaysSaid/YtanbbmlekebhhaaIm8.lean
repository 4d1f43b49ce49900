/- What Dump leaves on a device, and what Load tells of it; no memory is named here. -/
import Derived.Test.YtanbbmlekebhhaaIm7
set_option linter.unusedVariables false
set_option linter.unusedSimpArgs false
namespace Go.Proofs.Ytanbbmlekebhhaa
open Go.RowKit Go.Deep Math

theorem write_step (S : Dv) (ho : S.off = false) (k : Nat) (hk : k < S.cs.length) (b : ByteArray) (hb : b.size ≤ 384) :
    (S.writeErr (k : Int) b = 0 ∧ (S.writeDo (k : Int) b).cs = putAt S.cs k (.whole b) ∧ (S.writeDo (k : Int) b).off = false ∧ (S.armed = 0 → (S.writeDo (k : Int) b).armed = 0)) ∨ (S.writeErr (k : Int) b = 4 ∧ S.armed ≠ 0) := by
  have hh := has_nat hk
  have hb' : ¬ 384 < b.size := by omega
  by_cases h1 : S.armed = 1
  · right
    have hg : S.gone = true := by simp [Dv.gone, h1]
    exact ⟨by simp [Dv.writeErr, hb', Dv.putErr, hh, hg], by omega⟩
  · left
    have hg : S.gone = false := by simp [Dv.gone, h1, ho]
    have hu := used_off S h1
    refine ⟨by simp [Dv.writeErr, hb', Dv.putErr, hh, hg], by simp [Dv.writeDo, hb', Dv.putDo, hh, hg], by simp [Dv.writeDo, hb', Dv.putDo, hh, hg, hu, ho], fun h0 => ?_⟩
    have hu2 := used_armed S ho h1
    simp [Dv.writeDo, hb', Dv.putDo, hh, hg, hu2, h0]
theorem flush_step (S : Dv) (ho : S.off = false) :
    (S.flushErr = 0 ∧ S.flushDo.cs = S.cs.map Cl.flush ∧ S.flushDo.off = false ∧ (S.armed = 0 → S.flushDo.armed = 0)) ∨ (S.flushErr = 4 ∧ S.armed ≠ 0) := by
  by_cases h1 : S.armed = 1
  · right
    have hg : S.gone = true := by simp [Dv.gone, h1]
    exact ⟨by simp [Dv.flushErr, hg], by omega⟩
  · left
    have hg : S.gone = false := by simp [Dv.gone, h1, ho]
    have hu := used_off S h1
    refine ⟨by simp [Dv.flushErr, hg], by simp [Dv.flushDo, hg], by simp [Dv.flushDo, hg, hu, ho], fun h0 => ?_⟩
    have hu2 := used_armed S ho h1
    simp [Dv.flushDo, hg, hu2, h0]

/-- Part j of the bytes. -/
def partI (c : List UInt8) (j : Nat) : List UInt8 := (c.drop (376 * j)).take 376
theorem partI_le (c : List UInt8) (j : Nat) : (partI c j).length ≤ 376 := by unfold partI; rw [List.length_take]; omega
theorem partI_drop (c : List UInt8) (j : Nat) : partI (c.drop 376) j = partI c (j + 1) := by
  unfold partI; rw [List.drop_drop, show 376 + 376 * j = 376 * (j + 1) by omega]
theorem pgsN_drop (c : List UInt8) (h : c.length ≠ 0) : pgsN c.length = 1 + pgsN (c.drop 376).length := by
  rw [List.length_drop]; unfold pgsN; omega
theorem size_page (k : Nat) (p : List UInt8) (h : p.length ≤ 376) : (⟨(pageI k p).toArray⟩ : ByteArray).size ≤ 384 := by
  show (pageI k p).toArray.size ≤ _; rw [List.size_toArray, pageI_length]; omega

/-- What is left behind the writing. -/
structure Wrote (S S' : Dv) (at0 k : Nat) (c : List UInt8) : Prop where
  off : S'.off = false
  armed : S.armed = 0 → S'.armed = 0
  len : S'.cs.length = S.cs.length
  still : ∀ x ∈ S'.cs, x.last = none
  pgs : ∀ j, j < pgsN c.length → S'.pg (at0 + j) = some (.whole ⟨(pageI (k + j) (partI c j)).toArray⟩)
  oth : ∀ j, j < at0 ∨ at0 + pgsN c.length ≤ j → S'.pg j = S.pg j

theorem wrote_flush (S : Dv) (ho : S.off = false) (at0 k : Nat) (c : List UInt8) (h0 : c.length = 0) :
    (S.flushErr = 0 ∧ Wrote S S.flushDo at0 k c) ∨ (S.flushErr = 4 ∧ S.armed ≠ 0) := by
  rcases flush_step S ho with ⟨h1, h2, h3, h4⟩ | h
  · refine .inl ⟨h1, h3, h4, by rw [h2, List.length_map], ?_, ?_, ?_⟩
    · intro x hx
      rw [h2] at hx
      obtain ⟨y, _, rfl⟩ := List.mem_map.1 hx
      rfl
    · intro j hj
      rw [h0] at hj
      exact absurd hj (by unfold pgsN; omega)
    · intro j _
      unfold Dv.pg
      rw [h2, flush_get]
  · exact .inr h

theorem wr_any (first : Nat) : ∀ (fuel : Nat) (S : Dv) (k : Nat) (c : List UInt8), S.off = false → first + k + pgsN c.length ≤ S.cs.length → c.length ≤ fuel →
    ((wrI first fuel S k c).1 = 0 ∧ Wrote S (wrI first fuel S k c).2 (first + k) k c) ∨ ((wrI first fuel S k c).1 = 4 ∧ S.armed ≠ 0)
  | 0, S, k, c, ho, hl, hf => wrote_flush S ho (first + k) k c (by omega)
  | f + 1, S, k, c, ho, hl, hf => by
    by_cases h0 : c.length = 0
    · rw [wrI, if_pos h0]
      exact wrote_flush S ho (first + k) k c h0
    · have hp := pgsN_drop c h0
      rw [wrI, if_neg h0]
      have hb := size_page k (c.take 376) (by rw [List.length_take]; omega)
      rcases write_step S ho (first + k) (by omega) ⟨(pageI k (c.take 376)).toArray⟩ hb with ⟨h1, h2, h3, h4⟩ | ⟨h1, h2⟩
      · rw [if_pos h1]
        generalize S.writeDo ((first + k : Nat) : Int) ⟨(pageI k (c.take 376)).toArray⟩ = S1 at *
        have hl1 : S1.cs.length = S.cs.length := by rw [h2, putAt_length]
        rcases wr_any first f S1 (k + 1) (c.drop 376) h3 (by rw [hl1]; omega) (by rw [List.length_drop]; omega) with ⟨e1, W⟩ | ⟨e1, e2⟩
        · refine .inl ⟨e1, W.off, fun h => W.armed (h4 h), W.len.trans hl1, W.still, ?_, ?_⟩
          · intro j hj
            cases j with
            | zero =>
              rw [W.oth _ (.inl (by omega))]
              unfold Dv.pg
              rw [h2, putAt_get, if_pos ⟨rfl, by omega⟩]
              rfl
            | succ j =>
              have := W.pgs j (by omega)
              rw [partI_drop] at this
              rw [show first + k + (j + 1) = first + (k + 1) + j by omega, this, show k + 1 + j = k + (j + 1) by omega]
          · intro j hj
            rw [W.oth j (by omega)]
            unfold Dv.pg
            rw [h2, putAt_get, if_neg (by omega)]
        · exact .inr ⟨e1, fun h => e2 (h4 h)⟩
      · rw [if_neg (by rw [h1]; decide)]
        exact .inr ⟨h1, h2⟩

theorem Dv.pg_some {S : Dv} {k : Nat} {p : Pg} (h : S.pg k = some p) : ∃ c, S.cs[k]? = some c ∧ c.now = p := by
  unfold Dv.pg at h
  exact Option.map_eq_some_iff.1 h

/-- What is read of a page that was laid. -/
theorem text_page (k : Nat) (p : List UInt8) (hp : p.length ≤ 376) : (full ⟨(pageI k p).toArray⟩).data.toList = [73, 77] ++ (low p.length 2 ++ (low k 4 ++ (p ++ List.replicate (376 - p.length) 0))) := by
  rw [full_data]
  have : (⟨(pageI k p).toArray⟩ : ByteArray).size = 8 + p.length := by show (pageI k p).toArray.size = _; rw [List.size_toArray, pageI_length]
  rw [this, show 384 - (8 + p.length) = 376 - p.length by omega]
  simp [pageI, headI]
theorem imP_page (k : Nat) (p : List UInt8) (hp : p.length ≤ 376) (hk : k < 4294967296) : imP ([73, 77] ++ (low p.length 2 ++ (low k 4 ++ (p ++ List.replicate (376 - p.length) 0)))) k = some p := by
  obtain ⟨l, hl⟩ : ∃ l, l = [73, 77] ++ (low p.length 2 ++ (low k 4 ++ (p ++ List.replicate (376 - p.length) 0))) := ⟨_, rfl⟩
  rw [← hl]
  have L := low_length
  have s0 : sl l 0 2 = [73, 77] := by rw [hl]; exact sl_first _ _ _ rfl
  have s2 : sl l 2 4 = low p.length 2 := by rw [hl]; exact sl_mid [73, 77] _ _ _ _ rfl (by simp [L])
  have s4 : sl l 4 8 = low k 4 := by rw [hl, ← List.append_assoc]; exact sl_mid _ _ _ _ _ (by simp [L]) (by simp [L])
  have s8 : sl l 8 (8 + p.length) = p := by rw [hl, ← List.append_assoc, ← List.append_assoc]; exact sl_mid _ _ _ _ _ (by simp [L]) rfl
  have u2 : up (sl l 2 4) = p.length := by rw [s2]; exact up_low 2 _ (by omega)
  have u4 : up (sl l 4 8) = k := by rw [s4]; exact up_low 4 _ (by omega)
  unfold imP
  rw [if_pos ⟨s0, by rw [u2]; exact hp, u4⟩, u2, s8]
theorem part_read {S : Dv} {at0 k : Nat} {b : ByteArray} (ho : S.off = false) (h : S.pg at0 = some (.whole b)) : S.part (at0 : Int) k = imP (full b).data.toList k := by
  obtain ⟨c, h1, h2⟩ := Dv.pg_some h
  obtain ⟨r1, r2⟩ := read_facts h1 ho
  unfold Dv.part
  rw [r1, r2, h2]
  rfl
theorem part_page {S : Dv} {at0 k : Nat} {p : List UInt8} (ho : S.off = false) (hp : p.length ≤ 376) (hk : k < 4294967296) (h : S.pg at0 = some (.whole ⟨(pageI k p).toArray⟩)) : S.part (at0 : Int) k = some p := by
  rw [part_read ho h, text_page k p hp, imP_page k p hp hk]
theorem part_bare {S : Dv} {at0 k : Nat} {p : Pg} (ho : S.off = false) (h : S.pg at0 = some p) (he : p.err ≠ 0) : S.part (at0 : Int) k = none := by
  obtain ⟨c, h1, h2⟩ := Dv.pg_some h
  obtain ⟨r1, r2⟩ := read_facts h1 ho
  unfold Dv.part
  rw [r1, h2, if_neg he]

theorem joined_all {S : Dv} {first n : Nat} {c : List UInt8} (hn : n = pgsN c.length) (h : ∀ j, j < n → S.part ((first + j : Nat) : Int) j = some (partI c j)) : ∀ k, k ≤ n → S.joined first n k = some (c.take (376 * k))
  | 0, _ => by simp [Dv.joined]
  | k + 1, hk => by
    rw [Dv.joined, joined_all hn h k (by omega)]
    simp only
    rw [h k (by omega)]
    simp only
    rw [if_neg]
    · rw [show 376 * (k + 1) = 376 * k + 376 by omega, List.take_add]
      rfl
    · rintro ⟨h1, h2⟩
      have h3 : 376 * (k + 1) < c.length := by unfold pgsN at hn; omega
      unfold partI at h1
      rw [List.length_take, List.length_drop] at h1
      omega
theorem joined_bad {S : Dv} {first n j : Nat} (hj : j < n) (h : S.part ((first + j : Nat) : Int) j = none) : S.joined first n n = none := by
  have h1 : S.joined first n (j + 1) = none := by
    rw [Dv.joined]
    cases S.joined first n j with
    | none => rfl
    | some b => simp only; rw [h]
  have := joined_none S first n (j + 1) (n - (j + 1)) h1
  rwa [show j + 1 + (n - (j + 1)) = n by omega] at this

/-- An image stands on a device. -/
structure Stands (S : Dv) (first : Nat) (c : List UInt8) : Prop where
  off : S.off = false
  in_ : first + pgsN c.length ≤ S.cs.length
  few : S.cs.length ≤ 4096
  pgs : ∀ j, j < pgsN c.length → S.pg (first + j) = some (.whole ⟨(pageI j (partI c j)).toArray⟩)
theorem withinB_nat {n f k : Nat} (h : f + k ≤ n) : withinB n (f : Int) (k : Int) = true := by
  unfold withinB
  simp only [Bool.and_eq_true, decide_eq_true_eq]
  omega
theorem load_stands {S : Dv} {first : Nat} {c : List UInt8} {ys : List It} (h : Stands S first c) (hc : c = encs ys) (hy : ∀ x ∈ ys, x.fits ∧ x.good = true) :
    S.loadErr (first : Int) (pgsN c.length : Int) = 0 ∧ S.loadIts (first : Int) (pgsN c.length : Int) = ys := by
  have hj : S.joined first (pgsN c.length) (pgsN c.length) = some c := by
    have h4 := h.few
    have h5 := h.in_
    rw [joined_all rfl (fun j hj => part_page h.off (partI_le c j) (by omega) (h.pgs j hj)) _ (Nat.le_refl _), List.take_of_length_le (by unfold pgsN; omega)]
  have hl : lsi c = some ys := by rw [hc]; exact lsi_encs ys hy
  refine ⟨?_, ?_⟩
  · unfold Dv.loadErr
    rw [if_neg (by rw [withinB_nat h.in_]; simp), if_neg (by rw [h.off]; simp), Int.toNat_natCast, Int.toNat_natCast, hj]
    simp only
    rw [hl]
  · unfold Dv.loadIts
    rw [if_neg (by rw [withinB_nat h.in_]; simp), if_neg (by rw [h.off]; simp), Int.toNat_natCast, Int.toNat_natCast, hj]
    simp only
    rw [hl]
    rfl
theorem load_bad {S : Dv} {first n j : Nat} (hin : first + n ≤ S.cs.length) (ho : S.off = false) (hj : j < n) (h : S.part ((first + j : Nat) : Int) j = none) :
    S.loadErr (first : Int) (n : Int) = 3 ∧ S.loadIts (first : Int) (n : Int) = [] := by
  have hb := joined_bad hj h
  refine ⟨?_, ?_⟩
  · unfold Dv.loadErr
    rw [if_neg (by rw [withinB_nat hin]; simp), if_neg (by rw [ho]; simp), Int.toNat_natCast, Int.toNat_natCast, hb]
  · unfold Dv.loadIts
    rw [if_neg (by rw [withinB_nat hin]; simp), if_neg (by rw [ho]; simp), Int.toNat_natCast, Int.toNat_natCast, hb]

/-- What a Dump of good items leaves that finds its pages. -/
structure Dumped (S S' : Dv) (f N : Nat) (xs : List It) : Prop where
  err : S.dumpErr f N xs = 0
  same : S.dumpDo f N xs = S'
  p : S.dumpP f N xs = pgsN (dmpB N xs).length
  n : S.dumpN f N xs = dmpN N xs
  le : pgsN (dmpB N xs).length ≤ N
  nle : dmpN N xs ≤ xs.length
  w : Wrote S S' f 0 (dmpB N xs)
theorem dump_any (S : Dv) (f N : Nat) (xs : List It) (hg : xs.all It.good = true) (ho : S.off = false) (hin : f + N ≤ S.cs.length) :
    (∃ S', Dumped S S' f N xs) ∨ (S.dumpErr f N xs = 4 ∧ S.armed ≠ 0) := by
  have hok : S.dumpOk f N xs = true := by unfold Dv.dumpOk; rw [hg, withinB_nat hin]; rfl
  have hle : pgsN (dmpB N xs).length ≤ N := by
    unfold dmpB dmpN
    rw [encs_length, Int.toNat_natCast]
    have := fitN_total xs (376 * N)
    unfold pgsN; omega
  have e1 : S.dumpErr f N xs = (S.dmp f N xs).1 := by unfold Dv.dumpErr; rw [if_neg (by rw [hok]; simp)]
  have e2 : S.dumpDo f N xs = (S.dmp f N xs).2 := by unfold Dv.dumpDo; rw [if_neg (by rw [hok]; simp)]
  have e3 : S.dmp f N xs = wrI f (dmpB N xs).length S 0 (dmpB N xs) := by unfold Dv.dmp; rw [Int.toNat_natCast]
  rcases wr_any f (dmpB N xs).length S 0 (dmpB N xs) ho (by omega) (Nat.le_refl _) with ⟨h1, h2⟩ | ⟨h1, h2⟩
  · rw [← e3] at h1 h2
    refine .inl ⟨_, by rw [e1, h1], e2, ?_, ?_, hle, fitN_le _ _, h2⟩
    · unfold Dv.dumpP; rw [e1, h1, if_pos rfl]
    · unfold Dv.dumpN; rw [e1, h1, if_pos rfl]
  · rw [← e3] at h1
    exact .inr ⟨by rw [e1, h1], h2⟩
theorem dump_bad (S : Dv) (f N : Nat) (xs : List It) (hg : xs.all It.good = false) : S.dumpErr f N xs = 1 := by
  unfold Dv.dumpErr
  rw [if_pos (by unfold Dv.dumpOk; rw [hg, Bool.and_false])]
theorem Dumped.stands {S S' : Dv} {f N : Nat} {xs : List It} (h : Dumped S S' f N xs) (hin : f + N ≤ S.cs.length) (hm : S.cs.length ≤ 4096) : Stands S' f (dmpB N xs) :=
  ⟨h.w.off, by rw [h.w.len]; have := h.le; omega, by rw [h.w.len]; exact hm, fun j hj => by have := h.w.pgs j hj; rwa [Nat.zero_add] at this⟩
/-- What stands, stands behind a loss of power too. -/
theorem settle_still : ∀ (cs : List Cl) (ps : List UInt8), (∀ c ∈ cs, c.last = none) → settle cs ps = cs
  | [], _, _ => rfl
  | c :: r, ps, h => by
    have hc := h c (by simp)
    unfold settle
    rw [hc]
    simp only
    rw [settle_still r ps (fun x hx => h x (by simp [hx]))]
end Go.Proofs.Ytanbbmlekebhhaa
