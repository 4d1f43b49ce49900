/- A log goes round: one item a region. -/
import Derived.Test.YtbjkahdlejaheaaKn9
import Derived.Test.YtbjkahdlejaheaaLos9
set_option linter.unusedVariables false
set_option linter.unusedSimpArgs false
set_option maxRecDepth 8000
namespace Go.Proofs.Ytbjkahdlejaheaa
open Go.RowKit Go.Deep Math

def kk (k : Nat) : List UInt8 := [UInt8.ofNat (97 + k)]
def itR (R k : Nat) : Nat × Nat × List It := (k % R, k, [it9 (kk k) k])
theorem kk_ne {a b : Nat} (ha : a ≤ 20) (hb : b ≤ 20) (h : a ≠ b) : kk a ≠ kk b := by
  intro e
  simp only [kk, List.cons.injEq, and_true] at e
  have := congrArg UInt8.toNat e
  simp at this
  omega
structure Rnd (R j : Nat) (T : Lg) : Prop where
  num : T.num = j
  opn : T.opn = []
  first' : T.first = 0
  regions' : T.regions = R
  cap : T.cap ≤ j
  three : T.regs.map Rg.three = (List.range' (j - R + 1) (j - (j - R))).map (itR R)
  cur : ∀ t ∈ T.all, T.cur t = true
theorem Rnd.mem {R j : Nat} {T : Lg} (h : Rnd R j T) {r : Rg} (hr : r ∈ T.regs) : ∃ k, j - R + 1 ≤ k ∧ k ≤ j ∧ r.place = k % R ∧ r.num = k ∧ r.ths.map Th.it = [it9 (kk k) k] := by
  have h1 : r.three ∈ T.regs.map Rg.three := List.mem_map.2 ⟨r, hr, rfl⟩
  rw [h.three] at h1
  obtain ⟨k, hk, e⟩ := List.mem_map.1 h1
  rw [List.mem_range'_1] at hk
  simp only [itR, Rg.three, Prod.mk.injEq] at e
  exact ⟨k, hk.1, by omega, e.1.symm, e.2.1.symm, e.2.2.symm⟩
theorem one_th {r : Rg} {x : It} (h : r.ths.map Th.it = [x]) : ∃ t, r.ths = [t] ∧ t.it = x := by
  have : r.ths.length = 1 := by have := congrArg List.length h; simpa using this
  obtain ⟨t, ht⟩ := List.length_eq_one_iff.1 this
  rw [ht] at h
  simp at h
  exact ⟨t, ht, h⟩
theorem Rnd.key {R j : Nat} {T : Lg} (h : Rnd R j T) {t : Th} (ht : t ∈ T.all) : ∃ k, j - R + 1 ≤ k ∧ k ≤ j ∧ t.it = it9 (kk k) k := by
  unfold Lg.all at ht
  rw [h.opn, List.append_nil] at ht
  obtain ⟨r, hr, ht⟩ := List.mem_flatMap.1 ht
  obtain ⟨k, h1, h2, _, _, h5⟩ := h.mem hr
  obtain ⟨t', h6, h7⟩ := one_th h5
  rw [h6] at ht
  simp only [List.mem_singleton] at ht
  exact ⟨k, h1, h2, by rw [ht, h7]⟩
theorem flat_ones : ∀ (l : List Rg), (∀ r ∈ l, r.ths.length = 1) → (l.flatMap Rg.ths).length = l.length
  | [], _ => rfl
  | a :: b, h => by
    rw [List.flatMap_cons, List.length_append, h a (by simp), flat_ones b (fun r hr => h r (by simp [hr]))]
    simp; omega
theorem Rnd.len {R j : Nat} {T : Lg} (h : Rnd R j T) : T.regs.length = j - (j - R) ∧ T.all.length = j - (j - R) ∧ T.items.length = j - (j - R) := by
  have h1 : T.regs.length = j - (j - R) := by have := congrArg List.length h.three; simpa using this
  have h2 : T.all.length = j - (j - R) := by
    unfold Lg.all
    rw [h.opn, List.append_nil, flat_ones T.regs (fun r hr => by obtain ⟨k, _, _, _, _, h5⟩ := h.mem hr; obtain ⟨t, h6, _⟩ := one_th h5; rw [h6]; rfl), h1]
  refine ⟨h1, h2, ?_⟩
  unfold Lg.items Lg.hadOf
  rw [List.length_map, List.filter_eq_self.2 (fun t ht => h.cur t ht), h2]
/-- What is lost in a round. -/
def lostR (R j : Nat) : List It := if R ≤ j then [it9 (kk (j + 1 - R)) (j + 1 - R)] else []
theorem Rnd.step {R j : Nat} {T : Lg} (h : Rnd R j T) (hR1 : 1 ≤ R) (hR4 : R ≤ 4) (hj : j < 20) (th : Th) (hth : th.it = it9 (kk (j + 1)) (j + 1)) (v6 : Value) :
    (T.put th).lost ((j + 1) % R) = lostR R j ∧ Rnd R (j + 1) (((T.put th).lose ((j + 1) % R)).sealed v6 ((j + 1) % R) (j + 1)) := by
  have hkey : th.it.key = kk (j + 1) := by rw [hth]; rfl
  have hcur1 : ∀ t ∈ T.all, (T.put th).cur t = true := fun t ht => by
    obtain ⟨k, h1, h2, h3⟩ := h.key ht
    have hc := h.cur t ht
    unfold Lg.cur at hc ⊢
    have : (T.put th).has t.it.key = T.has t.it.key := updK_other _ _ _ _ (by rw [hkey, h3]; exact kk_ne (by omega) (by omega) (by omega))
    rw [this]; exact hc
  have hcurt : (T.put th).cur th = true := by
    unfold Lg.cur
    have : (T.put th).has th.it.key = some th.pos := updK_same _ _ _
    rw [this]; simp
  have ho1 : (T.put th).opn = [th] := by show T.opn ++ [th] = _; rw [h.opn]; rfl
  have e4 : R = 1 ∨ R = 2 ∨ R = 3 ∨ R = 4 := by omega
  by_cases hjR : R ≤ j
  · have hlen := h.len.1
    obtain ⟨r0, rs, hrs⟩ : ∃ r0 rs, T.regs = r0 :: rs := by
      cases hr : T.regs with
      | nil => rw [hr] at hlen; simp at hlen; omega
      | cons a b => exact ⟨a, b, rfl⟩
    have h3 := h.three
    obtain ⟨R', rfl⟩ : ∃ R', R = R' + 1 := ⟨R - 1, by omega⟩
    rw [hrs, show j - (j - (R' + 1)) = R' + 1 by omega, List.range'_succ, List.map_cons, List.map_cons, List.cons.injEq] at h3
    obtain ⟨h30, h31⟩ := h3
    simp only [itR, Rg.three, Prod.mk.injEq] at h30
    obtain ⟨hp0, hn0, hi0⟩ := h30
    have hpl : r0.place = (j + 1) % (R' + 1) := by
      rw [hp0]
      rcases e4 with e | e | e | e <;> (rw [e]; omega)
    have hidx : idxP ((j + 1) % (R' + 1)) (T.put th).regs = some 0 := by
      show idxP _ T.regs = some 0
      unfold idxP
      rw [hrs, List.findIdx?_cons]
      simp [hpl]
    obtain ⟨t0, ht0, hti0⟩ := one_th hi0
    have hmem0 : t0 ∈ T.all := mem_all_regs (r := r0) (by rw [hrs]; simp) (by rw [ht0]; simp)
    have hlost : (T.put th).lost ((j + 1) % (R' + 1)) = [it9 (kk (j - (R' + 1) + 1)) (j - (R' + 1) + 1)] := by
      unfold Lg.lost
      rw [hidx]
      have hg0 : (T.put th).regs[0]? = some r0 := by show T.regs[0]? = some r0; rw [hrs]; rfl
      simp only [hg0, Option.map_some, Option.getD_some, ht0]
      unfold Lg.hadOf
      simp [hcur1 t0 hmem0, hti0]
    have hnum : j + 1 - (R' + 1) = j - (R' + 1) + 1 := by omega
    have hlose : (T.put th).lose ((j + 1) % (R' + 1)) = { T.put th with regs := rs, has := updK (T.put th).has (kk (j - (R' + 1) + 1)) none } := by
      unfold Lg.lose
      rw [hidx]
      simp only [hlost]
      have : (T.put th).regs.eraseIdx 0 = rs := by show T.regs.eraseIdx 0 = rs; rw [hrs]; rfl
      rw [this]
      rfl
    refine ⟨by unfold lostR; rw [if_pos hjR, hlost, hnum], ?_⟩
    rw [hlose]
    refine ⟨rfl, rfl, h.first', h.regions', ?_, ?_, fun t ht => ?_⟩
    · show T.cap + 1 ≤ j + 1
      have := h.cap; omega
    · show (rs ++ [(⟨(j + 1) % (R' + 1), j + 1, v6, (T.put th).opn⟩ : Rg)]).map Rg.three = _
      rw [List.map_append, h31, ho1, show j + 1 - (j + 1 - (R' + 1)) = R' + 1 by omega, show j + 1 - (R' + 1) + 1 = j - (R' + 1) + 1 + 1 by omega, List.range'_1_concat, List.map_append]
      have : j - (R' + 1) + 1 + 1 + R' = j + 1 := by omega
      simp [Rg.three, itR, hth, this]
    · have hm : t ∈ rs.flatMap Rg.ths ∨ t = th := by
        unfold Lg.all at ht
        have ht2 : t ∈ (rs ++ [(⟨(j + 1) % (R' + 1), j + 1, v6, (T.put th).opn⟩ : Rg)]).flatMap Rg.ths ++ [] := ht
        rw [List.append_nil, List.flatMap_append, List.mem_append] at ht2
        rcases ht2 with h1 | h1
        · exact .inl h1
        · simp [ho1] at h1; exact .inr h1
      have hk : t.it.key ≠ kk (j - (R' + 1) + 1) ∧ (T.put th).cur t = true := by
        rcases hm with h1 | h1
        · obtain ⟨r, hr, htr⟩ := List.mem_flatMap.1 h1
          have h2 : r.three ∈ rs.map Rg.three := List.mem_map.2 ⟨r, hr, rfl⟩
          rw [h31] at h2
          obtain ⟨k, hk, e⟩ := List.mem_map.1 h2
          rw [List.mem_range'_1] at hk
          simp only [itR, Rg.three, Prod.mk.injEq] at e
          obtain ⟨t', h6, h7⟩ := one_th e.2.2.symm
          rw [h6] at htr
          simp only [List.mem_singleton] at htr
          refine ⟨by rw [htr, h7]; exact kk_ne (by omega) (by omega) (by omega), hcur1 t (mem_all_regs (r := r) (by rw [hrs]; simp [hr]) (by rw [h6, htr]; simp))⟩
        · rw [h1]
          exact ⟨by rw [hkey]; exact kk_ne (by omega) (by omega) (by omega), hcurt⟩
      have hc := hk.2
      unfold Lg.cur at hc ⊢
      show decide (updK (T.put th).has (kk (j - (R' + 1) + 1)) none t.it.key = some t.pos) = true
      rw [updK_other _ _ _ _ hk.1]
      exact hc
  · have hidx : idxP ((j + 1) % R) (T.put th).regs = none := by
      show idxP _ T.regs = none
      unfold idxP
      rw [List.findIdx?_eq_none_iff]
      intro r hr
      obtain ⟨k, h1, h2, h3, _, _⟩ := h.mem hr
      refine decide_eq_false ?_
      rw [h3]
      clear hcur1 hcurt
      rcases e4 with rfl | rfl | rfl | rfl <;> omega
    have hlost : (T.put th).lost ((j + 1) % R) = [] := by unfold Lg.lost; rw [hidx]
    have hlose : (T.put th).lose ((j + 1) % R) = T.put th := by unfold Lg.lose; rw [hidx]
    refine ⟨by unfold lostR; rw [if_neg hjR, hlost], ?_⟩
    rw [hlose]
    refine ⟨rfl, rfl, h.first', h.regions', ?_, ?_, fun t ht => ?_⟩
    · show T.cap + 1 ≤ j + 1
      have := h.cap; omega
    · show (T.regs ++ [(⟨(j + 1) % R, j + 1, v6, (T.put th).opn⟩ : Rg)]).map Rg.three = _
      rw [List.map_append, h.three, ho1, show j - R + 1 = 1 by omega, show j - (j - R) = j by omega, show j + 1 - R + 1 = 1 by omega, show j + 1 - (j + 1 - R) = j + 1 by omega, List.range'_1_concat, List.map_append]
      have : 1 + j = j + 1 := by omega
      simp [Rg.three, itR, hth, this]
    · have hm : t ∈ T.regs.flatMap Rg.ths ∨ t = th := by
        unfold Lg.all at ht
        have ht2 : t ∈ (T.regs ++ [(⟨(j + 1) % R, j + 1, v6, (T.put th).opn⟩ : Rg)]).flatMap Rg.ths ++ [] := ht
        rw [List.append_nil, List.flatMap_append, List.mem_append] at ht2
        rcases ht2 with h1 | h1
        · exact .inl h1
        · simp [ho1] at h1; exact .inr h1
      rcases hm with h1 | h1
      · exact hcur1 t (List.mem_append.2 (.inl h1))
      · rw [h1]; exact hcurt
theorem Rnd.new {n R : Nat} {S : Dv} {T : Lg} (h : New9 n 0 R S T) : Rnd R 0 T := by
  refine ⟨h.num, h.opn, h.first', h.regions', by rw [h.cap]; exact Nat.le_refl _, by rw [h.regs]; simp, fun t ht => ?_⟩
  unfold Lg.all at ht
  rw [h.regs, h.opn] at ht
  simp at ht
theorem round_seal {w0 W : World} {d : Nat} {F : List Nat} {S : Dv} {l m : Nat} {v5 v6 v7 : Value} {T : Lg} {R j : Nat} {th : Th} (G : LG w0 W d F S l m v5 v6 v7 (T.put th)) (hN : Rnd R j T) (hS : Calm S ∧ S.losses = T.losses ∧ S.cs.length = 16) (hR1 : 1 ≤ R) (hR4 : R ≤ 4) (hj : j < 20) (hth : th.it = it9 (kk (j + 1)) (j + 1)) :
    Calls Try.prog 12 #[.pointer (some ⟨l, 0, none⟩)] W fun e W' => ∃ va vn vc v5' F' S' T', e = .returned (.tuple #[.slice va vn vc, .int .i64 0]) ∧ vn = (lostR R j).length ∧ Row W' W.heap.size (.slice va vn vc) (lostR R j) ∧ LG w0 W' d F' S' l m v5' (.slice none 0 0) (.slice none 0 0) T' ∧ Rnd R (j + 1) T' ∧ (Calm S' ∧ S'.losses = T'.losses ∧ S'.cs.length = 16) := by
  have ho1 : (T.put th).opn = [th] := by show T.opn ++ [th] = _; rw [hN.opn]; rfl
  have hc1 : (T.put th).cont = th.it.enc := by unfold Lg.cont; rw [ho1]; simp [encs]
  have hcl1 : (T.put th).cont.length = 34 := by rw [hc1, It.enc_length, hth]; rfl
  have hl := hN.len
  have hpl : (j + 1) % R < R := Nat.mod_lt _ hR1
  have hall : (T.put th).all.length ≤ 40000 := by
    unfold Lg.all
    have h1 : (T.put th).regs = T.regs := rfl
    rw [ho1, h1, List.length_append]
    have h2 := hl.2.1
    unfold Lg.all at h2
    rw [hN.opn, List.append_nil] at h2
    rw [List.length_singleton]; omega
  refine (seal_log G.lg G.dev (by rw [ho1]; simp) hS.2.1 (by show T.num < _; rw [hN.num]; omega) (by show 1 ≤ T.regions; rw [hN.regions']; exact hR1) (by show T.regions ≤ 64; rw [hN.regions']; omega) (by show T.first ≤ 4096; rw [hN.first']; decide) (by omega) (by intro h; rw [h] at hcl1; simp at hcl1) (by show T.regs.length ≤ 100; omega) ((j + 1) % R) (j + 1) (by show j + 1 = T.num + 1; rw [hN.num]) (by show (j + 1) % R = (j + 1) % T.regions; rw [hN.regions'])
    (lose_any G.lg _ (by show T.regs.length ≤ 100; omega) hall)).mono ?_
  rintro e w5 ⟨va1, vn1, vc1, v55, F5, hvn1, hrow1, hD5, hK5, hF5, h55, rfl, hend⟩
  have hbase : (T.put th).first + 4 * ((j + 1) % R) = 4 * ((j + 1) % R) := by show T.first + _ = _; rw [hN.first', Nat.zero_add]
  have hwr := wr_calm hS.1 (4 * ((j + 1) % R)) (j + 1) (by rw [hS.2.2]; omega) (T.put th).cont
  obtain ⟨hst1, hst2⟩ := hN.step hR1 hR4 hj th hth v6
  rw [hbase] at hD5 hend ⊢
  rw [hwr.1] at hend ⊢
  rcases hend with ⟨h0, _⟩ | ⟨_, hL5⟩
  · exact absurd rfl h0
  have G5 := G.seal hL5 hD5 hK5 hF5 h55 (fun q hq => by simp [own, Value.ownBlock] at hq) (fun q hq => by simp [own, Value.ownBlock] at hq)
  rw [hst1] at hvn1 hrow1
  exact ⟨va1, vn1, vc1, v55, F5, _, _, rfl, hvn1, hrow1, G5, hst2, hwr.2.2.1, by rw [hwr.2.2.2, hS.2.1]; exact (lose_same (T.put th) _).2.2.2.1.symm, by rw [hwr.2.1, put4_length, hS.2.2]⟩
def RS (w : World) (d l m R j : Nat) (W : World) : Prop := ∃ F S v5 T, LG w W d F S l m v5 (.slice none 0 0) (.slice none 0 0) T ∧ Rnd R j T ∧ (Calm S ∧ S.losses = T.losses ∧ S.cs.length = 16)
end Go.Proofs.Ytbjkahdlejaheaa
