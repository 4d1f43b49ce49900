/- Two slots, as a law sees them. -/
import Derived.Test.YtcdefadeaiklbaaStoreB
set_option linter.unusedVariables false
set_option linter.unusedSimpArgs false
set_option maxRecDepth 8000
namespace Go.Proofs.Ytcdefadeaiklbaa
open Go.RowKit Go.Deep Math

def Dv.pg (S : Dv) (k : Nat) : Option Pg := (S.cs[k]?).map (·.now)
theorem slotB_pg (S : Dv) (k : Nat) : S.slotB k = (S.pg k).bind pgBk := by
  unfold Dv.slotB Dv.pg
  cases S.cs[k]? <;> rfl
theorem putAt_get : ∀ (cs : List Cl) (i j : Nat) (p : Pg), ((putAt cs i p)[j]?).map (·.now) = if j = i ∧ j < cs.length then some p else (cs[j]?).map (·.now)
  | [], i, j, p => by simp [putAt]
  | c :: r, 0, 0, p => by simp [putAt, Cl.put]
  | c :: r, 0, j + 1, p => by simp [putAt]
  | c :: r, i + 1, 0, p => by simp [putAt]
  | c :: r, i + 1, j + 1, p => by
    have := putAt_get r i j p
    simp only [putAt, List.getElem?_cons_succ, this, List.length_cons]
    by_cases h : j = i ∧ j < r.length
    · rw [if_pos h, if_pos (by omega)]
    · rw [if_neg h, if_neg (by omega)]
theorem flush_get (cs : List Cl) (j : Nat) : (((cs.map Cl.flush)[j]?).map (·.now)) = (cs[j]?).map (·.now) := by
  rw [List.getElem?_map]
  cases cs[j]? <;> rfl
theorem pgBk_enc (n : Bk) (hf : n.fits) : pgBk (.whole (txt n.enc)) = some n.told := by
  show dec (full (txt n.enc)).data.toList = _
  rw [full_data]
  have e : (txt n.enc).data.toList = n.enc := rfl
  rw [e]
  exact dec_enc n hf _
theorem nextB_fits (S : Dv) (b : Bk) (hf : b.fits) (hl : S.lastSeq + 1 < 18446744073709551616) : (S.nextB b).fits := by
  have := toldN_le b.image
  exact ⟨hl, hf.epoch, hf.res, hf.hor, hf.gen, by show _ ≤ ((toldN b.image : Nat) : Int); omega, by show ((toldN b.image : Nat) : Int) ≤ _; omega⟩
theorem told_idem (i : Int) : toldN ((toldN i : Nat) : Int) = toldN i := by
  have := toldN_le i
  unfold toldN at *
  split <;> split <;> omega
theorem nextB_told (S : Dv) (b : Bk) : (S.nextB b).told = S.nextB b := by
  unfold Bk.told Dv.nextB
  simp only [told_idem]
theorem lastSeq_lt (S : Dv) : S.lastSeq < 18446744073709551616 := by
  unfold Dv.lastSeq
  cases h : S.loadB with
  | none => simp
  | some x => exact (loadB_fits h).seq

/-- What is known of a device with two slots. -/
structure Two (S : Dv) (a b : Option Bk) : Prop where
  len : 2 ≤ S.cs.length
  off : S.off = false
  s0 : S.slotB 0 = a
  s1 : S.slotB 1 = b
theorem Two.fresh (n : Nat) (h : 2 ≤ n) : Two (Dv.fresh n) none none := by
  have hg : ∀ k, k < 2 → (Dv.fresh n).slotB k = none := fun k hk => by
    unfold Dv.slotB Dv.fresh
    simp only [List.getElem?_replicate]
    rw [if_pos (by omega)]
    rfl
  exact ⟨by simpa [Dv.fresh] using h, rfl, hg 0 (by omega), hg 1 (by omega)⟩
theorem Two.read {S : Dv} {a b : Option Bk} (h : Two S a b) (k : Int) : Two (S.readDo k) a b :=
  ⟨by rw [readDo_cs]; exact h.len, by rw [readDo_off]; exact h.off, by rw [slotB_cs (readDo_cs S k)]; exact h.s0, by rw [slotB_cs (readDo_cs S k)]; exact h.s1⟩
theorem Two.loadDo {S : Dv} {a b : Option Bk} (h : Two S a b) : Two S.loadDo a b :=
  ⟨by rw [loadDo_cs]; exact h.len, by rw [loadDo_off]; exact h.off, by rw [slotB_cs (loadDo_cs S)]; exact h.s0, by rw [slotB_cs (loadDo_cs S)]; exact h.s1⟩
theorem Two.loadB {S : Dv} {a b : Option Bk} (h : Two S a b) : S.loadB = newer a b := by unfold Dv.loadB; rw [h.s0, h.s1]
theorem Two.loadV {S : Dv} {a b : Option Bk} (h : Two S a b) : S.loadV = slotV (newer a b) := by
  have := h.len
  unfold Dv.loadV
  rw [if_neg (by omega), if_neg (by rw [h.off]; decide), h.loadB]
def lastS (a b : Option Bk) : Nat := match newer a b with
  | some x => x.seq
  | none => 0
theorem Two.lastSeq {S : Dv} {a b : Option Bk} (h : Two S a b) : S.lastSeq = lastS a b := by unfold Dv.lastSeq lastS; rw [h.loadB]; cases newer a b <;> rfl
def nxt (a b : Option Bk) (x : Bk) : Bk := { x with seq := lastS a b + 1, image := (toldN x.image : Int) }
theorem Two.nextB {S : Dv} {a b : Option Bk} (h : Two S a b) (x : Bk) : S.nextB x = nxt a b x := by unfold Dv.nextB nxt; rw [h.lastSeq]
theorem slot_written (S T : Dv) (n : Bk) (hlen : 2 ≤ S.cs.length) (hT : ∀ j, T.pg j = if j = n.seq % 2 ∧ j < S.cs.length then some (.whole (txt n.enc)) else S.pg j) (hf : n.fits) (ht : n.told = n) (j : Nat) (hj : j < 2) :
    T.slotB j = if j = n.seq % 2 then some n else S.slotB j := by
  rw [slotB_pg, hT j]
  by_cases h : j = n.seq % 2
  · rw [if_pos ⟨h, by omega⟩, if_pos h, Option.bind_some, pgBk_enc n hf, ht]
  · rw [if_neg (fun hh => h hh.1), if_neg h, slotB_pg]
theorem pg_wrote (S : Dv) (n : Bk) (h2 : 2 ≤ S.cs.length) (ho : S.off = false) (ha : S.armed ≠ 1) (j : Nat) : (S.wrote n).pg j = if j = n.seq % 2 ∧ j < S.cs.length then some (.whole (txt n.enc)) else S.pg j := by
  rw [wrote_is S n h2 ho ha]
  show ((putAt S.cs (n.seq % 2) (.whole (txt n.enc)))[j]?).map (·.now) = _
  rw [putAt_get]
  rfl
theorem flushed_is (S : Dv) (n : Bk) (h2 : 2 ≤ S.cs.length) (ho : S.off = false) (ha : S.armed ≠ 1) (ha2 : S.armed ≠ 2) : (S.wrote n).flushDo = { (S.wrote n).used with cs := (S.wrote n).cs.map Cl.flush, fl := wrap64 ((S.wrote n).fl + 1) } := by
  have e := flush_err S n h2 ho ha
  rw [if_neg ha2] at e
  unfold Dv.flushErr at e
  unfold Dv.flushDo
  split
  · rename_i hg; rw [if_pos hg] at e; cases e
  · rfl
theorem wrote_off (S : Dv) (n : Bk) (h2 : 2 ≤ S.cs.length) (ho : S.off = false) (ha : S.armed ≠ 1) : (S.wrote n).off = false ∧ (S.wrote n).armed = S.armed - 1 ∧ (S.wrote n).cs.length = S.cs.length := by
  rw [wrote_is S n h2 ho ha]
  refine ⟨?_, ?_, ?_⟩
  · show S.loadDo.used.off = false
    rw [used_off _ (by rw [loadDo_armed]; exact ha), loadDo_off, ho]
  · show S.loadDo.used.armed = _
    rw [used_armed _ (by rw [loadDo_off]; exact ho) (by rw [loadDo_armed]; exact ha), loadDo_armed]
  · show (putAt _ _ _).length = _
    rw [putAt_length]
/-- A Store that is answered OK. -/
theorem Two.store {S : Dv} {a b : Option Bk} (h : Two S a b) (x : Bk) (hf : x.fits) (hl : lastS a b ≠ 18446744073709551615) (h1 : S.armed ≠ 1) (h2 : S.armed ≠ 2) :
    S.storeE = 0 ∧ S.storeB x = nxt a b x ∧ (nxt a b x).fits ∧ Two (S.storeDo x) (if (nxt a b x).seq % 2 = 0 then some (nxt a b x) else a) (if (nxt a b x).seq % 2 = 1 then some (nxt a b x) else b) ∧ (S.storeDo x).armed = S.armed - 2 := by
  have hlen := h.len
  have hno : ¬ S.off = true := by rw [h.off]; decide
  have hn2 : ¬ S.cs.length < 2 := by omega
  have hls : ¬ S.lastSeq = 18446744073709551615 := by rw [h.lastSeq]; exact hl
  have hlt := lastSeq_lt S
  have hfit : (S.nextB x).fits := nextB_fits S x hf (by omega)
  have eD : S.storeDo x = (S.wrote (S.nextB x)).flushDo := by unfold Dv.storeDo; rw [if_neg hn2, if_neg hno, if_neg hls, if_neg h1]
  obtain ⟨w1, w2, w3⟩ := wrote_off S (S.nextB x) hlen h.off h1
  have hpg : ∀ j, (S.storeDo x).pg j = if j = (S.nextB x).seq % 2 ∧ j < S.cs.length then some (.whole (txt (S.nextB x).enc)) else S.pg j := fun j => by
    rw [eD, flushed_is S _ hlen h.off h1 h2]
    show (((S.wrote (S.nextB x)).cs.map Cl.flush)[j]?).map (·.now) = _
    rw [flush_get]
    exact pg_wrote S _ hlen h.off h1 j
  have hs := slot_written S (S.storeDo x) (S.nextB x) hlen hpg hfit (nextB_told S x)
  have e := h.nextB x
  refine ⟨?_, ?_, by rw [← e]; exact hfit, ⟨?_, ?_, ?_, ?_⟩, ?_⟩
  · unfold Dv.storeE; rw [if_neg hn2, if_neg hno, if_neg hls, if_neg h1, if_neg h2]
  · unfold Dv.storeB; rw [if_neg hn2, if_neg hno, if_neg hls, if_neg h1, if_neg h2, e]
  · rw [eD, flushed_is S _ hlen h.off h1 h2]
    show 2 ≤ (List.map _ _).length
    rw [List.length_map, w3]; exact hlen
  · rw [eD, flushed_is S _ hlen h.off h1 h2]
    show (S.wrote (S.nextB x)).used.off = false
    rw [used_off _ (by rw [w2]; omega), w1]
  · rw [hs 0 (by omega), e, h.s0]
    simp only [eq_comm]
  · rw [hs 1 (by omega), e, h.s1]
    simp only [eq_comm]
  · rw [eD, flushed_is S _ hlen h.off h1 h2]
    show (S.wrote (S.nextB x)).used.armed = _
    rw [used_armed _ w1 (by rw [w2]; omega), w2]
    omega
theorem slotB_whole {S : Dv} {k : Nat} {x : Bk} (h : S.slotB k = some x) : ∃ c t, S.cs[k]? = some c ∧ c.now = .whole t ∧ dec (full t).data.toList = some x := by
  unfold Dv.slotB at h
  split at h
  · rename_i c hc
    unfold pgBk at h
    split at h
    · rename_i t ht
      exact ⟨c, t, hc, ht, h⟩
    · cases h
  · cases h
/-- A page that holds a block, read. -/
theorem read_law {w0 W : World} {d : Nat} {F : List Nat} {S : Dv} (h : Law w0 d F S W) (ho : S.off = false) {k : Nat} {x : Bk} (hx : S.slotB k = some x) :
    Calls Try.prog 29 #[.pointer (some ⟨d, 0, none⟩), .int .i64 (k : Nat)] W fun e W' => ∃ g L, e = .returned (.tuple #[.slice (some ⟨g, 0, none⟩) 384 384, .int .i64 0]) ∧ BS W' (some ⟨g, 0, none⟩) 384 384 L ∧ dec L = some x ∧ Law w0 d F (S.readDo (k : Nat)) W' ∧ Moves F F W W' := by
  obtain ⟨c, t, hc, ht, hd⟩ := slotB_whole hx
  refine (read_whole hc ho ht W h.dev).mono ?_
  rintro e W' ⟨g, rfl, hg, hb, hd', hk⟩
  exact ⟨g, _, rfl, hb, hd, h.move hd' (Moves.of_keep hk), Moves.of_keep hk⟩
end Go.Proofs.Ytcdefadeaiklbaa
