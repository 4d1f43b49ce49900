/- What follows for hot, warm and cold: shares, orders, who is spared. No program is named here. -/
import Derived.Test.YtgjgdhjnkbbceaaMath
set_option linter.unusedVariables false
set_option linter.unusedSimpArgs false
namespace Go.Proofs.Ytgjgdhjnkbbceaa.Sgm

theorem stp1_h (s : St) : (stp 1 s).h = s.h := by
  by_cases hl : 0 < (s.row 1).length
  · obtain ⟨A, x, e⟩ := snoc_of hl
    obtain ⟨sh, sw, sc⟩ := s
    simp only [St.row] at e; subst e
    rw [stp_w]
    split <;> rfl
  · have : stp 1 s = s := by
      unfold stp
      rw [List.getLast?_eq_none_iff.2 (List.eq_nil_of_length_eq_zero (by omega))]
    rw [this]
theorem snk1_h (most : Nat) (s : St) : (snk 1 most s).h = s.h :=
  (snk_ind (by decide) (fun t => t.h = s.h) (fun t ht _ => (stp1_h t).trans ht) rfl).1
theorem bal_len (n : Nat) (s : St) : (balS n s).h.length ≤ (n + 4) / 5 ∧ (balS n s).w.length ≤ 2 * n / 5 := by
  unfold balS
  have h1 := (snk_ind (k := 0) (most := (n + 4) / 5) (by decide) (fun _ => True) (fun _ _ _ => trivial) (s := s) trivial).2
  have h2 := (snk_ind (k := 1) (most := 2 * n / 5) (by decide) (fun _ => True) (fun _ _ _ => trivial) (s := snk 0 ((n + 4) / 5) s) trivial).2
  rw [snk1_h]
  simp only [St.row] at h1 h2
  omega
theorem add_shares {i : Int} {s : St} (h : s.has i = false) : (addS i s).h.length ≤ ((addS i s).all.length + 4) / 5 ∧ (addS i s).w.length ≤ 2 * (addS i s).all.length / 5 := by
  rw [add_len h]
  unfold addS
  rw [h]
  exact bal_len _ _
theorem add_le (i : Int) (s : St) : (addS i s).all.length ≤ s.all.length + 1 := by
  cases h : s.has i with
  | true => unfold addS; rw [h]; simp
  | false => rw [add_len h]; exact Nat.le_refl _
theorem tch_len (i : Int) (s : St) : (tchS i s).all.length = s.all.length := by
  have := congrArg List.length (tch_ids i s)
  simpa [ids] using this
theorem rmv_le (i : Int) (s : St) : (rmvS i s).all.length ≤ s.all.length := by
  rw [rmv_all]; exact List.length_filter_le _ _
theorem eviS_le (s : St) : (eviS s).all.length ≤ s.all.length := by
  unfold eviS
  split
  · exact Nat.le_trans (rmv_le _ _) (Nat.le_of_eq (spr_len s))
  · exact Nat.le_of_eq (spr_len s)
/-- One call. -/
def stepS (op i : Int) (s : St) : St := if op = 0 then addS i s else if op = 1 then tchS i s else if op = 2 then rmvS i s else eviS s
theorem step_le (op i : Int) (s : St) : (stepS op i s).all.length ≤ s.all.length + 1 := by
  unfold stepS
  split
  · exact add_le i s
  · split
    · rw [tch_len]; omega
    · split
      · have := rmv_le i s; omega
      · have := eviS_le s; omega

/-! ### None used: first in, first out -/
/-- None is used, warm is empty; the others in order. -/
structure Cool (s : St) (l : List Int) : Prop where
  w : s.w = []
  u : ∀ x ∈ s.all, x.2 = false
  o : ids (s.h ++ s.c) = l
theorem Cool.all {s : St} {l : List Int} (h : Cool s l) : ids s.all = l := by
  have := h.o
  unfold St.all
  rw [h.w, List.append_nil]; exact this
theorem cool_stp {s : St} {l : List Int} (h : Cool s l) : Cool (stp 0 s) l := by
  by_cases hl : 0 < (s.row 0).length
  · obtain ⟨A, x, e⟩ := snoc_of hl
    obtain ⟨sh, sw, sc⟩ := s
    simp only [St.row] at e; subst e
    have hx : x.2 = false := h.u x (by simp [St.all])
    rw [stp_h, hx]
    simp only [Bool.false_eq_true, if_false]
    refine ⟨h.w, fun y hy => ?_, ?_⟩
    · have hw := h.w
      simp only at hw
      subst hw
      simp only [St.all, List.append_nil, List.mem_append, List.mem_cons] at hy
      rcases hy with hy | rfl | hy
      · exact h.u y (by simp [St.all, hy])
      · rfl
      · exact h.u y (by simp [St.all, hy])
    · have := h.o
      simp only [ids, List.map_append, List.map_cons, List.map_nil, List.append_assoc, List.cons_append, List.nil_append] at this ⊢
      exact this
  · have : stp 0 s = s := by
      unfold stp
      rw [List.getLast?_eq_none_iff.2 (List.eq_nil_of_length_eq_zero (by omega))]
    rw [this]; exact h
theorem cool_bal {n : Nat} {s : St} {l : List Int} (h : Cool s l) : Cool (balS n s) l := by
  have h1 : Cool (snk 0 ((n + 4) / 5) s) l := (snk_ind (by decide) (fun t => Cool t l) (fun t ht _ => cool_stp ht) h).1
  unfold balS
  rw [snk_stop (by simp only [St.row]; rw [h1.w]; simp)]
  exact h1
theorem cool_add {i : Int} {s : St} {l : List Int} (h : Cool s l) (hn : i ∉ l) : Cool (addS i s) (i :: l) ∧ s.has i = false := by
  have hh : s.has i = false := by
    unfold St.has
    rw [h.all]
    simpa using hn
  refine ⟨?_, hh⟩
  unfold addS
  rw [hh]
  refine cool_bal ⟨h.w, fun x hx => ?_, ?_⟩
  · simp only [St.all, List.cons_append, List.mem_cons] at hx
    rcases hx with rfl | hx
    · rfl
    · exact h.u x hx
  · have := h.o
    simp only [ids, List.cons_append, List.map_cons] at this ⊢
    rw [this]
theorem cool_evi {i : Int} {s : St} {l : List Int} (h : Cool s (l ++ [i])) (hn : s.Nd) : evi s = some i ∧ Cool (eviS s) l := by
  have hsp : spr s = s := spr_stop (by
    cases hl : lastU s.c with
    | false => rfl
    | true =>
      obtain ⟨A, x, e⟩ := snoc_of (lastU_len hl)
      rw [e, lastU_snoc] at hl
      have := h.u x (by simp [St.all, e])
      rw [this] at hl; cases hl)
  have hev : evi s = some i := by
    unfold evi nxtG
    rw [hsp, h.w]
    have ho := h.o
    rcases List.eq_nil_or_concat s.c with hc | ⟨A, x, hc⟩
    · rcases List.eq_nil_or_concat s.h with hh | ⟨A, x, hh⟩
      · rw [hc, hh] at ho; simp [ids] at ho
      · rw [hc, hh] at ho
        rw [hc, hh]
        simp only [ids, List.concat_eq_append, List.append_nil, List.map_append, List.map_cons, List.map_nil] at ho
        have := List.append_inj_right' ho rfl
        simp at this
        simp [this]
    · rw [hc] at ho
      rw [hc]
      simp only [ids, List.concat_eq_append, List.map_append, List.map_cons, List.map_nil] at ho
      rw [← List.append_assoc] at ho
      have := List.append_inj_right' ho rfl
      simp at this
      simp [this]
  refine ⟨hev, ?_⟩
  have hnd : (l ++ [i]).Nodup := by rw [← h.all]; exact hn
  have hni : i ∉ l := fun hm => by
    rw [List.nodup_append] at hnd
    exact hnd.2.2 i hm i (by simp) rfl
  unfold eviS
  rw [hev]
  simp only
  rw [hsp]
  refine ⟨by simp [rmvS, h.w, outI], fun x hx => ?_, ?_⟩
  · rw [rmv_all] at hx
    exact h.u x (List.mem_filter.1 hx).1
  · have e1 : (rmvS i s).h ++ (rmvS i s).c = outI i (s.h ++ s.c) := by simp [rmvS, outI]
    rw [e1, outI_ids, h.o, List.filter_append]
    rw [List.filter_eq_self.2 (fun x hx => by
      have : x ≠ i := fun e => hni (e ▸ hx)
      simpa using this)]
    simp
theorem cool_0 : Cool St0 [] := ⟨rfl, fun x hx => by simp [St0, St.all] at hx, rfl⟩
/-- Numbers in turn, the newest ahead. -/
def downK (m : Int) : Nat → List Int
  | 0 => []
  | n + 1 => (m * (n : Int)) :: downK m n
theorem downK_lt {m : Int} (hm : 0 < m) : ∀ (n : Nat) (x : Int), x ∈ downK m n → x < m * (n : Int)
  | 0, x, h => by cases h
  | n + 1, x, h => by
    have e : m * ((n + 1 : Nat) : Int) = m * (n : Int) + m := by
      rw [Int.natCast_add, Int.mul_add]; simp
    rcases List.mem_cons.1 h with rfl | h
    · omega
    · have := downK_lt hm n x h
      omega
theorem downK_new {m : Int} (hm : 0 < m) (n : Nat) : m * (n : Int) ∉ downK m n := fun h => by
  have := downK_lt hm n _ h
  omega
theorem downK_len (m : Int) : ∀ n, (downK m n).length = n
  | 0 => rfl
  | n + 1 => by simp [downK, downK_len m n]
/-- Those that are left when the first k are gone. -/
def midK (m : Int) (k : Nat) : Nat → List Int
  | 0 => []
  | n + 1 => if k ≤ n then (m * (n : Int)) :: midK m k n else []
theorem midK_zero (m : Int) : ∀ n, midK m 0 n = downK m n
  | 0 => rfl
  | n + 1 => by simp [midK, downK, midK_zero m n]
theorem midK_step (m : Int) (k : Nat) : ∀ n, k < n → midK m k n = midK m (k + 1) n ++ [m * (k : Int)]
  | 0, h => by omega
  | n + 1, h => by
    by_cases e : k < n
    · have ih := midK_step m k n e
      simp only [midK]
      rw [if_pos (by omega), if_pos (by omega), ih]; rfl
    · have e2 : k = n := by omega
      subst e2
      simp only [midK]
      rw [if_pos (Nat.le_refl _), if_neg (by omega)]
      have : midK m k k = [] := by
        cases k with
        | zero => rfl
        | succ k => simp [midK]
      rw [this]; rfl
theorem midK_len (m : Int) (k : Nat) : ∀ n, k ≤ n → (midK m k n).length = n - k
  | 0, h => by simp [midK]
  | n + 1, h => by
    by_cases e : k ≤ n
    · simp only [midK]
      rw [if_pos e, List.length_cons, midK_len m k n e]; omega
    · have : k = n + 1 := by omega
      subst this
      simp [midK]

/-! ### One used: it is not the next to go -/
theorem tch_used {i : Int} {s : St} (hu : ∀ x ∈ s.all, x.2 = false) : ∀ x ∈ (tchS i s).all, x.2 = true → x.1 = i := by
  intro x hx h2
  have e : (tchS i s).all = setU i s.all := by simp [tchS, St.all, setU]
  rw [e] at hx
  obtain ⟨y, hy, rfl⟩ := List.mem_map.1 hx
  by_cases h : y.1 = i
  · simp [h]
  · rw [if_neg h] at h2
    rw [hu y hy] at h2; cases h2
theorem tch_used2 {i : Int} {s : St} : ∀ x ∈ (tchS i s).all, x.1 = i → x.2 = true := by
  intro x hx h2
  have e : (tchS i s).all = setU i s.all := by simp [tchS, St.all, setU]
  rw [e] at hx
  obtain ⟨y, hy, rfl⟩ := List.mem_map.1 hx
  by_cases h : y.1 = i
  · simp [h]
  · rw [if_neg h] at h2
    exact absurd h2 h
theorem spare_one {i : Int} {s : St} (hn : s.Nd) (hu : ∀ x ∈ s.all, x.2 = true → x.1 = i) (hu2 : ∀ x ∈ s.all, x.1 = i → x.2 = true) (hc : 2 ≤ s.c.length) : ∃ j, evi s = some j ∧ j ≠ i := by
  obtain ⟨A, x, e⟩ := snoc_of (l := s.c) (by omega)
  obtain ⟨B, y, e2⟩ := snoc_of (l := A) (by rw [e] at hc; simp at hc; omega)
  subst e2
  obtain ⟨sh, sw, sc⟩ := s
  simp only at e; subst e
  have hnd : (ids (B ++ [y] ++ [x])).Nodup := by
    have := hn
    unfold St.Nd St.all at this
    simp only [ids, List.map_append] at this ⊢
    rw [List.nodup_append] at this
    exact this.2.1
  have hxy : y.1 ≠ x.1 := by
    simp only [ids, List.map_append, List.map_cons, List.map_nil] at hnd
    rw [List.nodup_append] at hnd
    exact hnd.2.2 y.1 (by simp) x.1 (by simp)
  have key : ∀ (t : St) (C : List Nd) (z : Nd), t.c = C ++ [z] → z.2 = false → z.1 ≠ i → ∃ j, evi t = some j ∧ j ≠ i := fun t C z ht hz hzi => by
    refine ⟨z.1, ?_, hzi⟩
    unfold evi
    rw [spr_stop (by rw [ht, lastU_snoc]; exact hz)]
    unfold nxtG
    rw [ht]
    simp
  by_cases hx : x.2 = true
  · have hxi : x.1 = i := hu x (by simp [St.all]) hx
    have hyi : y.1 ≠ i := fun h => hxy (h.trans hxi.symm)
    have hy : y.2 = false := by
      cases h : y.2 with
      | false => rfl
      | true => exact absurd (hu y (by simp [St.all]) h) hyi
    have e3 : evi ⟨sh, sw, B ++ [y] ++ [x]⟩ = evi ⟨sh, (x.1, false) :: sw, B ++ [y]⟩ := by
      unfold evi
      rw [spr_step (by rw [lastU_snoc]; exact hx), stp_c]
    rw [e3]
    exact key _ B y rfl hy hyi
  · have hx2 : x.2 = false := by simpa using hx
    by_cases hxi : x.1 = i
    · have := hu2 x (by simp [St.all]) hxi
      rw [hx2] at this; cases this
    · exact key _ (B ++ [y]) x rfl hx2 hxi
end Go.Proofs.Ytgjgdhjnkbbceaa.Sgm
