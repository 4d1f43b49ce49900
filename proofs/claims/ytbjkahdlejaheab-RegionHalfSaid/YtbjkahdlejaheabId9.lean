/- What stands on pages: a region that was written is read again. -/
import Derived.Test.YtbjkahdlejaheabPt9
set_option linter.unusedVariables false
set_option linter.unusedSimpArgs false
set_option maxRecDepth 8000
namespace Go.Proofs.Ytbjkahdlejaheab
open Go.RowKit Go.Deep Math

theorem fresh_get (n k : Nat) {c : Cl} (h : (Dv.fresh n).cs[k]? = some c) : c = ⟨.blank, none⟩ := by
  have := List.mem_of_getElem? h
  exact List.eq_of_mem_replicate this
theorem fresh_fm (n k : Nat) : fmAt (Dv.fresh n).cs k = none := by
  unfold fmAt
  cases h : (Dv.fresh n).cs[k]? with
  | none => rfl
  | some c => rw [fresh_get n k h]; rfl
theorem forms_none {cs : List Cl} {base : Nat} : ∀ k, (∀ j, j < k → fmAt cs (base + j) = none) → forms cs base k = []
  | 0, _ => rfl
  | k + 1, h => by rw [forms, forms_none k (fun j hj => h j (by omega)), h k (by omega)]; rfl
theorem cnt_none {cs : List Cl} {base : Nat} (h : forms cs base 4 = []) : cnt cs base = none := by unfold cnt; rw [h]; rfl
theorem fresh_cnts (n first : Nat) : ∀ k, cnts (Dv.fresh n).cs first k = [] ∧ numTo (Dv.fresh n).cs first k = 0
  | 0 => ⟨rfl, rfl⟩
  | k + 1 => by
    have hf := forms_none (cs := (Dv.fresh n).cs) (base := first + 4 * k) 4 (fun j _ => fresh_fm n _)
    have ih := fresh_cnts n first k
    refine ⟨?_, ?_⟩
    · rw [cnts, ih.1, cnt_none hf]; rfl
    · rw [numTo, ih.2, hf]; rfl
/-- A page that was written is read as it was laid. -/
theorem page_read (k n : Nat) (p : List UInt8) (hk : k < 4) (hn : n < 18446744073709551616) (hp : p.length ≤ 368) :
    ∃ l, fmPg (.whole ⟨(pageR k n p).toArray⟩) = some l ∧ fmPlace l = k ∧ fmNum l = n ∧ fmPart l = p := by
  have hd : (full ⟨(pageR k n p).toArray⟩).data.toList = pageR k n p ++ List.replicate (384 - (16 + p.length)) 0 := by
    rw [full_data]
    have : (⟨(pageR k n p).toArray⟩ : ByteArray).size = 16 + p.length := by show (pageR k n p).toArray.size = _; rw [List.size_toArray, pageR_length]
    rw [this]
  obtain ⟨l, hl⟩ : ∃ l, l = pageR k n p ++ List.replicate (384 - (16 + p.length)) 0 := ⟨_, rfl⟩
  rw [← hl] at hd
  have L := low_length
  have e0 : l = [82, 71] ++ ([UInt8.ofNat k, 0] ++ (low p.length 4 ++ (low n 8 ++ (p ++ List.replicate (384 - (16 + p.length)) 0)))) := by rw [hl]; simp [pageR, headR]
  have s0 : sl l 0 2 = [82, 71] := by rw [e0]; exact sl_first _ _ _ rfl
  have s23 : sl l 2 4 = [UInt8.ofNat k, 0] := by rw [e0]; exact sl_mid [82, 71] _ _ _ _ rfl rfl
  have s4 : sl l 4 8 = low p.length 4 := by rw [e0, ← List.append_assoc]; exact sl_mid _ _ _ _ _ rfl (by simp [L])
  have s8 : sl l 8 16 = low n 8 := by rw [e0, ← List.append_assoc, ← List.append_assoc]; exact sl_mid _ _ _ _ _ (by simp [L]) (by simp [L])
  have s16 : sl l 16 (16 + p.length) = p := by rw [e0, ← List.append_assoc, ← List.append_assoc, ← List.append_assoc]; exact sl_mid _ _ _ _ _ (by simp [L]) rfl
  have hll : l.length = 384 := by rw [hl, List.length_append, pageR_length, List.length_replicate]; omega
  have d2 : l.getD 2 0 = UInt8.ofNat k := by rw [e0]; rfl
  have d3 : l.getD 3 0 = 0 := by rw [e0]; rfl
  have f1 : fmLen l = p.length := by unfold fmLen; rw [s4]; exact up_low 4 _ (by omega)
  have f2 : fmNum l = n := by unfold fmNum; rw [s8]; exact up_low 8 _ hn
  have f3 : fmPlace l = k := by unfold fmPlace; rw [d2, UInt8.toNat_ofNat']; omega
  have f4 : isForm l = true := by
    have h1 : up (sl l 4 8) ≤ 368 := by have := f1; unfold fmLen at this; omega
    simp only [isForm, decide_eq_true s0, decide_eq_true d3, decide_eq_true h1, Bool.and_self]
  refine ⟨l, ?_, f3, f2, by unfold fmPart; rw [f1]; exact s16⟩
  show (pgText (.whole ⟨(pageR k n p).toArray⟩)).bind _ = _
  show (some (full ⟨(pageR k n p).toArray⟩).data.toList).bind _ = _
  rw [hd]
  simp [f4]
def part9 (c : List UInt8) (k : Nat) : List UInt8 := (c.drop (368 * k)).take 368
theorem part9_le (c : List UInt8) (k : Nat) : (part9 c k).length ≤ 368 := by unfold part9; rw [List.length_take]; omega
theorem parts_all (c : List UInt8) (h : c.length ≤ 1472) : part9 c 0 ++ (part9 c 1 ++ (part9 c 2 ++ part9 c 3)) = c := by
  unfold part9
  have e3 : (c.drop (368 * 3)).take 368 = c.drop (368 * 3) := List.take_of_length_le (by rw [List.length_drop]; omega)
  rw [e3]
  have step : ∀ k, (c.drop (368 * k)).take 368 ++ c.drop (368 * (k + 1)) = c.drop (368 * k) := fun k => by
    have := List.take_append_drop 368 (c.drop (368 * k))
    rw [List.drop_drop] at this
    rw [show 368 * (k + 1) = 368 * k + 368 by omega]
    exact this
  rw [step 2, step 1, step 0]
  rfl
/-- Four pages of one region, side by side. -/
theorem cnt_written {cs : List Cl} {base n : Nat} {c : List UInt8} {xs : List It} (hn0 : n ≠ 0) (hn : n < 18446744073709551616) (hc : c.length ≤ 1472) (hl : lst c = some xs)
    (h : ∀ k, k < 4 → ∃ la, cs[base + k]? = some ⟨.whole ⟨(pageR k n (part9 c k)).toArray⟩, la⟩) : cnt cs base = some (n, xs) ∧ ∀ m, maxNum m (forms cs base 4) = max m n := by
  have hf : ∀ k, k < 4 → ∃ l, fmAt cs (base + k) = some l ∧ fmPlace l = k ∧ fmNum l = n ∧ fmPart l = part9 c k := fun k hk => by
    obtain ⟨la, hla⟩ := h k hk
    obtain ⟨l, h1, h2⟩ := page_read k n (part9 c k) hk hn (part9_le c k)
    exact ⟨l, by unfold fmAt; rw [hla]; exact h1, h2⟩
  obtain ⟨l0, a0, p0, m0, c0⟩ := hf 0 (by omega)
  obtain ⟨l1, a1, p1, m1, c1⟩ := hf 1 (by omega)
  obtain ⟨l2, a2, p2, m2, c2⟩ := hf 2 (by omega)
  obtain ⟨l3, a3, p3, m3, c3⟩ := hf 3 (by omega)
  rw [Nat.add_zero] at a0
  have ef : forms cs base 4 = [l0, l1, l2, l3] := by simp [forms, a0, a1, a2, a3]
  have hw : isWhole (forms cs base 4) = true := by
    rw [ef]
    simp [isWhole, headNum, run9, m0, m1, m2, m3, p0, p1, p2, p3, hn0]
  have hcon : content (forms cs base 4) = c := by
    rw [ef]
    have : content [l0, l1, l2, l3] = part9 c 0 ++ (part9 c 1 ++ (part9 c 2 ++ part9 c 3)) := by simp [content, c0, c1, c2, c3]
    rw [this, parts_all c hc]
  refine ⟨?_, fun m => ?_⟩
  · unfold cnt
    rw [hw, hcon, hl, if_pos rfl, ef]
    simp [headNum, m0]
  · rw [ef]
    simp [maxNum, m0, m1, m2, m3]
/-- The device of a law that is awake: on, not armed; nothing waits. -/
structure Calm (S : Dv) : Prop where
  armed : S.armed = 0
  off : S.off = false
theorem write_calm {S : Dv} (h : Calm S) (k : Nat) (hk : k < S.cs.length) (b : ByteArray) (hb : b.size ≤ 384) : S.writeErr (k : Int) b = 0 ∧ (S.writeDo (k : Int) b).cs = putAt S.cs k (.whole b) ∧ Calm (S.writeDo (k : Int) b) ∧ (S.writeDo (k : Int) b).losses = S.losses := by
  have hh := has_nat hk
  have hg : S.gone = false := by simp [Dv.gone, h.armed, h.off]
  have hu : S.used = S := by unfold Dv.used; rw [if_pos (.inr h.armed)]
  have hb' : ¬ 384 < b.size := by omega
  refine ⟨by simp [Dv.writeErr, hb', Dv.putErr, hh, hg], ?_, ?_, ?_⟩
  · simp [Dv.writeDo, hb', Dv.putDo, hh, hg]
  · simp [Dv.writeDo, hb', Dv.putDo, hh, hg, hu]; exact ⟨h.armed, h.off⟩
  · simp [Dv.writeDo, hb', Dv.putDo, hh, hg, hu]
theorem flush_calm {S : Dv} (h : Calm S) : S.flushErr = 0 ∧ S.flushDo.cs = S.cs.map Cl.flush ∧ Calm S.flushDo ∧ S.flushDo.losses = S.losses := by
  have hg : S.gone = false := by simp [Dv.gone, h.armed, h.off]
  have hu : S.used = S := by unfold Dv.used; rw [if_pos (.inr h.armed)]
  refine ⟨by simp [Dv.flushErr, hg], by simp [Dv.flushDo, hg], ?_, by simp [Dv.flushDo, hg, hu]⟩
  simp [Dv.flushDo, hg, hu]; exact ⟨h.armed, h.off⟩
def put4 (cs : List Cl) (base n : Nat) (c : List UInt8) : List Cl :=
  (putAt (putAt (putAt (putAt cs base (.whole ⟨(pageR 0 n (part9 c 0)).toArray⟩)) (base + 1) (.whole ⟨(pageR 1 n (part9 c 1)).toArray⟩)) (base + 2) (.whole ⟨(pageR 2 n (part9 c 2)).toArray⟩)) (base + 3) (.whole ⟨(pageR 3 n (part9 c 3)).toArray⟩)).map Cl.flush
theorem wr_calm {S : Dv} (h : Calm S) (base n : Nat) (hb : base + 4 ≤ S.cs.length) (c : List UInt8) :
    (wrR base n 4 S c).1 = 0 ∧ (wrR base n 4 S c).2.cs = put4 S.cs base n c ∧ Calm (wrR base n 4 S c).2 ∧ (wrR base n 4 S c).2.losses = S.losses := by
  have sz : ∀ k p, p.length ≤ 368 → (⟨(pageR k n p).toArray⟩ : ByteArray).size ≤ 384 := fun k p hp => by show (pageR k n p).toArray.size ≤ _; rw [List.size_toArray, pageR_length]; omega
  have st : ∀ (r : Nat) (S : Dv) (c : List UInt8) (k : Nat), k = 3 - r → Calm S → base + k < S.cs.length → wrR base n (r + 1) S c = wrR base n r (S.writeDo ((base + k : Nat) : Int) ⟨(pageR k n (c.take 368)).toArray⟩) (c.drop 368) := fun r S c k hk hS hl => by
    subst hk
    rw [wrR, if_pos]
    exact (write_calm hS _ hl _ (sz _ _ (by rw [List.length_take]; omega))).1
  have q0 := write_calm h (base + 0) (by omega) ⟨(pageR 0 n (c.take 368)).toArray⟩ (sz _ _ (by rw [List.length_take]; omega))
  obtain ⟨S1, hS1⟩ : ∃ S1, S1 = S.writeDo ((base + 0 : Nat) : Int) ⟨(pageR 0 n (c.take 368)).toArray⟩ := ⟨_, rfl⟩
  rw [← hS1] at q0
  have l1 : S1.cs.length = S.cs.length := by rw [q0.2.1, putAt_length]
  have q1 := write_calm q0.2.2.1 (base + 1) (by omega) ⟨(pageR 1 n ((c.drop 368).take 368)).toArray⟩ (sz _ _ (by rw [List.length_take]; omega))
  obtain ⟨S2, hS2⟩ : ∃ S2, S2 = S1.writeDo ((base + 1 : Nat) : Int) ⟨(pageR 1 n ((c.drop 368).take 368)).toArray⟩ := ⟨_, rfl⟩
  rw [← hS2] at q1
  have l2 : S2.cs.length = S.cs.length := by rw [q1.2.1, putAt_length, l1]
  have q2 := write_calm q1.2.2.1 (base + 2) (by omega) ⟨(pageR 2 n (((c.drop 368).drop 368).take 368)).toArray⟩ (sz _ _ (by rw [List.length_take]; omega))
  obtain ⟨S3, hS3⟩ : ∃ S3, S3 = S2.writeDo ((base + 2 : Nat) : Int) ⟨(pageR 2 n (((c.drop 368).drop 368).take 368)).toArray⟩ := ⟨_, rfl⟩
  rw [← hS3] at q2
  have l3 : S3.cs.length = S.cs.length := by rw [q2.2.1, putAt_length, l2]
  have q3 := write_calm q2.2.2.1 (base + 3) (by omega) ⟨(pageR 3 n ((((c.drop 368).drop 368).drop 368).take 368)).toArray⟩ (sz _ _ (by rw [List.length_take]; omega))
  obtain ⟨S4, hS4⟩ : ∃ S4, S4 = S3.writeDo ((base + 3 : Nat) : Int) ⟨(pageR 3 n ((((c.drop 368).drop 368).drop 368).take 368)).toArray⟩ := ⟨_, rfl⟩
  rw [← hS4] at q3
  have q4 := flush_calm q3.2.2.1
  have e : wrR base n 4 S c = (S4.flushErr, S4.flushDo) := by
    rw [st 3 S c 0 rfl h (by omega), ← hS1, st 2 S1 _ 1 rfl q0.2.2.1 (by omega), ← hS2, st 1 S2 _ 2 rfl q1.2.2.1 (by omega), ← hS3, st 0 S3 _ 3 rfl q2.2.2.1 (by omega), ← hS4]
    rfl
  rw [e]
  refine ⟨q4.1, ?_, q4.2.2.1, by rw [q4.2.2.2, q3.2.2.2, q2.2.2.2, q1.2.2.2, q0.2.2.2]⟩
  show S4.flushDo.cs = _
  rw [q4.2.1, q3.2.1, q2.2.1, q1.2.1, q0.2.1]
  unfold put4 part9
  simp only [List.drop_drop]
  rfl

theorem flush_now (l : List Cl) (j : Nat) : (l.map Cl.flush)[j]? = ((l[j]?).map (·.now)).map fun p => ⟨p, none⟩ := by
  rw [List.getElem?_map]
  cases l[j]? <;> rfl
theorem put4_length (cs : List Cl) (base n : Nat) (c : List UInt8) : (put4 cs base n c).length = cs.length := by
  unfold put4
  rw [List.length_map, putAt_length, putAt_length, putAt_length, putAt_length]
theorem put4_in (cs : List Cl) (base n : Nat) (c : List UInt8) (hb : base + 4 ≤ cs.length) (k : Nat) (hk : k < 4) : (put4 cs base n c)[base + k]? = some ⟨.whole ⟨(pageR k n (part9 c k)).toArray⟩, none⟩ := by
  unfold put4
  rw [flush_now, putAt_get, putAt_length, putAt_length, putAt_length, putAt_get, putAt_length, putAt_length, putAt_get, putAt_length, putAt_get]
  match k, hk with
  | 0, _ => rw [if_neg (by omega), if_neg (by omega), if_neg (by omega), if_pos (by omega)]; rfl
  | 1, _ => rw [if_neg (by omega), if_neg (by omega), if_pos (by omega)]; rfl
  | 2, _ => rw [if_neg (by omega), if_pos (by omega)]; rfl
  | 3, _ => rw [if_pos (by omega)]; rfl
theorem put4_out (cs : List Cl) (base n : Nat) (c : List UInt8) (j : Nat) (hj : j < base ∨ base + 4 ≤ j) : (put4 cs base n c)[j]? = ((cs[j]?).map (·.now)).map fun p => ⟨p, none⟩ := by
  unfold put4
  rw [flush_now, putAt_get, if_neg (by omega), putAt_get, if_neg (by omega), putAt_get, if_neg (by omega), putAt_get, if_neg (by omega)]
theorem put4_last (cs : List Cl) (base n : Nat) (c : List UInt8) : ∀ x ∈ put4 cs base n c, x.last = none := by
  intro x hx
  obtain ⟨y, _, rfl⟩ := List.mem_map.1 hx
  rfl
theorem settle_still : ∀ (cs : List Cl) (ps : List UInt8), (∀ c ∈ cs, c.last = none) → settle cs ps = cs
  | [], _, _ => rfl
  | c :: r, ps, h => by
    have h1 := h c (by simp)
    unfold settle
    rw [h1]
    simp only
    rw [settle_still r ps (fun x hx => h x (by simp [hx]))]
theorem fm_out {cs : List Cl} {base n : Nat} {c : List UInt8} {j : Nat} (hj : j < base ∨ base + 4 ≤ j) : fmAt (put4 cs base n c) j = fmAt cs j := by
  unfold fmAt
  rw [put4_out _ _ _ _ _ hj]
  cases cs[j]? <;> rfl
theorem forms_congr {cs cs' : List Cl} {base : Nat} : ∀ k, (∀ j, j < k → fmAt cs (base + j) = fmAt cs' (base + j)) → forms cs base k = forms cs' base k
  | 0, _ => rfl
  | k + 1, h => by rw [forms, forms, forms_congr k (fun j hj => h j (by omega)), h k (by omega)]
theorem cnt_congr {cs cs' : List Cl} {base : Nat} (h : forms cs base 4 = forms cs' base 4) : cnt cs base = cnt cs' base := by unfold cnt; rw [h]
theorem lst_one (xs : List It) (h : ∀ x ∈ xs, x.fits ∧ x.good = true) : lst (encs xs) = some xs := by
  have := lst_encs xs [] h (by simp [take, ended])
  rw [List.append_nil] at this
  exact this
end Go.Proofs.Ytbjkahdlejaheab
