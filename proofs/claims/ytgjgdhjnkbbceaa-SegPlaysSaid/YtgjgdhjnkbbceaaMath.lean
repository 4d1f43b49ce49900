/- Hot, warm, cold, told without memory. No program is named here. -/
set_option linter.unusedVariables false
set_option linter.unusedSimpArgs false
namespace Go.Proofs.Ytgjgdhjnkbbceaa.Sgm

/-- A number, used or not. -/
abbrev Nd := Int × Bool
structure St where
  h : List Nd
  w : List Nd
  c : List Nd
def St.all (s : St) : List Nd := s.h ++ s.w ++ s.c
def ids (l : List Nd) : List Int := l.map Prod.fst
def St.row (s : St) : Nat → List Nd
  | 0 => s.h
  | 1 => s.w
  | _ => s.c
def St0 : St := ⟨[], [], []⟩
/-- A list's last one goes to the head of warm, if it is used, else to the head of cold. -/
def stp (k : Nat) (s : St) : St := match (s.row k).getLast? with
  | none => s
  | some x => match k with
    | 0 => if x.2 then ⟨s.h.dropLast, (x.1, false) :: s.w, s.c⟩ else ⟨s.h.dropLast, s.w, (x.1, false) :: s.c⟩
    | 1 => if x.2 then ⟨s.h, (x.1, false) :: s.w.dropLast, s.c⟩ else ⟨s.h, s.w.dropLast, (x.1, false) :: s.c⟩
    | _ => ⟨s.h, (x.1, false) :: s.w, s.c.dropLast⟩
theorem stp_h (A : List Nd) (x : Nd) (w c : List Nd) : stp 0 ⟨A ++ [x], w, c⟩ = if x.2 then ⟨A, (x.1, false) :: w, c⟩ else ⟨A, w, (x.1, false) :: c⟩ := by
  simp [stp, St.row]
theorem stp_w (A : List Nd) (x : Nd) (h c : List Nd) : stp 1 ⟨h, A ++ [x], c⟩ = if x.2 then ⟨h, (x.1, false) :: A, c⟩ else ⟨h, A, (x.1, false) :: c⟩ := by
  simp [stp, St.row]
theorem stp_c (A : List Nd) (x : Nd) (h w : List Nd) : stp 2 ⟨h, w, A ++ [x]⟩ = ⟨h, (x.1, false) :: w, A⟩ := by
  simp [stp, St.row]
/-- How often a list can be turned. -/
def mu (l : List Nd) : Nat := l.length + (l.filter Prod.snd).length
theorem mu_app (A B : List Nd) : mu (A ++ B) = mu A + mu B := by simp [mu]; omega
theorem mu_cons (x : Nd) (A : List Nd) : mu (x :: A) = (if x.2 then 2 else 1) + mu A := by
  unfold mu
  cases h : x.2 <;> simp [h] <;> omega
theorem snoc_of {l : List Nd} (h : 0 < l.length) : ∃ A x, l = A ++ [x] := by
  rcases List.eq_nil_or_concat l with rfl | ⟨A, x, e⟩
  · cases h
  · exact ⟨A, x, by rw [e]; simp⟩
theorem mu_nil {l : List Nd} (h : mu l = 0) : l.length = 0 := by unfold mu at h; omega
theorem mu_stp {k : Nat} (hk : k < 3) {s : St} (h : 0 < (s.row k).length) : mu ((stp k s).row k) + 1 ≤ mu (s.row k) := by
  obtain ⟨A, x, e⟩ := snoc_of h
  obtain ⟨sh, sw, sc⟩ := s
  match k, hk with
  | 0, _ =>
    simp only [St.row] at e; subst e
    rw [stp_h]
    cases hx : x.2 <;> simp [St.row, mu_app, mu_cons, hx, mu] <;> omega
  | 1, _ =>
    simp only [St.row] at e; subst e
    rw [stp_w]
    cases hx : x.2 <;> simp [St.row, mu_app, mu_cons, hx, mu] <;> omega
  | 2, _ =>
    simp only [St.row] at e; subst e
    rw [stp_c]
    cases hx : x.2 <;> simp [St.row, mu_app, mu_cons, hx, mu] <;> omega

/-! ### Down to a share -/
def snkF (k most : Nat) : Nat → St → St
  | 0, s => s
  | n + 1, s => if most < (s.row k).length then snkF k most n (stp k s) else s
theorem snkF_stop {k most : Nat} {s : St} (h : ¬ most < (s.row k).length) (n : Nat) : snkF k most n s = s := by
  cases n with
  | zero => rfl
  | succ n => simp [snkF, h]
theorem snkF_any {k most : Nat} (hk : k < 3) : ∀ (n n' : Nat) (s : St), mu (s.row k) ≤ n → mu (s.row k) ≤ n' → snkF k most n s = snkF k most n' s
  | 0, n', s, h, _ => by
    have := mu_nil (Nat.le_zero.1 h)
    rw [snkF_stop (by omega), snkF_stop (by omega)]
  | n + 1, 0, s, _, h => by
    have := mu_nil (Nat.le_zero.1 h)
    rw [snkF_stop (by omega), snkF_stop (by omega)]
  | n + 1, n' + 1, s, h, h' => by
    simp only [snkF]
    split
    · rename_i hl
      have := mu_stp hk (s := s) (by omega)
      exact snkF_any hk n n' _ (by omega) (by omega)
    · rfl
def snk (k most : Nat) (s : St) : St := snkF k most (mu (s.row k)) s
theorem snk_stop {k most : Nat} {s : St} (h : ¬ most < (s.row k).length) : snk k most s = s := snkF_stop h _
theorem snk_step {k most : Nat} (hk : k < 3) {s : St} (h : most < (s.row k).length) : snk k most s = snk k most (stp k s) := by
  have h1 := mu_stp hk (s := s) (by omega)
  unfold snk
  obtain ⟨n, hn⟩ : ∃ n, mu (s.row k) = n + 1 := ⟨mu (s.row k) - 1, by omega⟩
  rw [hn]
  simp only [snkF]
  rw [if_pos h]
  exact snkF_any hk _ _ _ (by omega) (Nat.le_refl _)
/-- A property that each turn keeps. -/
theorem snk_ind {k most : Nat} (hk : k < 3) (R : St → Prop) (hstp : ∀ s, R s → most < (s.row k).length → R (stp k s)) {s : St} (h : R s) : R (snk k most s) ∧ ¬ most < ((snk k most s).row k).length := by
  have key : ∀ n s, mu (s.row k) ≤ n → R s → R (snk k most s) ∧ ¬ most < ((snk k most s).row k).length := by
    intro n
    induction n with
    | zero =>
      intro s hn hs
      have := mu_nil (Nat.le_zero.1 hn)
      rw [snk_stop (by omega)]
      exact ⟨hs, by omega⟩
    | succ n ih =>
      intro s hn hs
      by_cases hl : most < (s.row k).length
      · rw [snk_step hk hl]
        have := mu_stp hk (s := s) (by omega)
        exact ih _ (by omega) (hstp s hs hl)
      · rw [snk_stop hl]
        exact ⟨hs, hl⟩
  exact key _ s (Nat.le_refl _) h

/-! ### What is used is spared -/
def lastU (l : List Nd) : Bool := match l.getLast? with
  | none => false
  | some x => x.2
theorem lastU_snoc (A : List Nd) (x : Nd) : lastU (A ++ [x]) = x.2 := by simp [lastU]
theorem lastU_len {l : List Nd} (h : lastU l = true) : 0 < l.length := by
  cases l with
  | nil => cases h
  | cons a l => simp
def sprF : Nat → St → St
  | 0, s => s
  | n + 1, s => if lastU s.c then sprF n (stp 2 s) else s
def spr (s : St) : St := sprF s.c.length s
theorem stp2_len {s : St} (h : lastU s.c = true) : (stp 2 s).c.length + 1 = s.c.length := by
  obtain ⟨A, x, e⟩ := snoc_of (lastU_len h)
  obtain ⟨sh, sw, sc⟩ := s
  simp only at e; subst e
  rw [stp_c]; simp
theorem spr_stop {s : St} (h : lastU s.c = false) : spr s = s := by
  unfold spr
  cases s.c.length with
  | zero => rfl
  | succ n => simp [sprF, h]
theorem spr_step {s : St} (h : lastU s.c = true) : spr s = spr (stp 2 s) := by
  have := stp2_len h
  unfold spr
  rw [← this]
  simp [sprF, h]
theorem spr_ind (R : St → Prop) (hstp : ∀ s, R s → lastU s.c = true → R (stp 2 s)) {s : St} (h : R s) : R (spr s) ∧ lastU (spr s).c = false := by
  have key : ∀ n s, s.c.length ≤ n → R s → R (spr s) ∧ lastU (spr s).c = false := by
    intro n
    induction n with
    | zero =>
      intro s hn hs
      have : lastU s.c = false := by
        cases hl : lastU s.c with
        | false => rfl
        | true => have := lastU_len hl; omega
      rw [spr_stop this]
      exact ⟨hs, this⟩
    | succ n ih =>
      intro s hn hs
      cases hl : lastU s.c with
      | true =>
        rw [spr_step hl]
        have := stp2_len hl
        exact ih _ (by omega) (hstp s hs hl)
      | false =>
        rw [spr_stop hl]
        exact ⟨hs, hl⟩
  exact key _ s (Nat.le_refl _) h

/-! ### The calls -/
def St.has (s : St) (i : Int) : Bool := decide (i ∈ ids s.all)
def setU (i : Int) (l : List Nd) : List Nd := l.map fun x => if x.1 = i then (i, true) else x
def outI (i : Int) (l : List Nd) : List Nd := l.filter fun x => decide (x.1 ≠ i)
def balS (n : Nat) (s : St) : St := snk 1 (2 * n / 5) (snk 0 ((n + 4) / 5) s)
def addS (i : Int) (s : St) : St := if s.has i then s else balS (s.all.length + 1) ⟨(i, false) :: s.h, s.w, s.c⟩
def tchS (i : Int) (s : St) : St := ⟨setU i s.h, setU i s.w, setU i s.c⟩
def rmvS (i : Int) (s : St) : St := ⟨outI i s.h, outI i s.w, outI i s.c⟩
/-- Who goes next. -/
def nxtG (s : St) : Option Int := match s.c.getLast? with
  | some x => some x.1
  | none => match s.w.getLast? with
    | some x => some x.1
    | none => match s.h.getLast? with
      | some x => some x.1
      | none => none
def evi (s : St) : Option Int := nxtG (spr s)
def eviS (s : St) : St := match evi s with
  | some i => rmvS i (spr s)
  | none => spr s
def St.Nd (s : St) : Prop := (ids s.all).Nodup

theorem stp_perm {k : Nat} (hk : k < 3) (s : St) : (ids (stp k s).all).Perm (ids s.all) := by
  by_cases h : 0 < (s.row k).length
  · obtain ⟨A, x, e⟩ := snoc_of h
    obtain ⟨sh, sw, sc⟩ := s
    match k, hk with
    | 0, _ =>
      simp only [St.row] at e; subst e
      rw [stp_h]
      cases hx : x.2
      · simp only [Bool.false_eq_true, if_false, St.all, ids, List.map_append, List.map_cons, List.map_nil]
        simp only [List.append_assoc]
        refine List.Perm.append_left _ ?_
        exact List.perm_middle
      · simp only [if_true, St.all, ids, List.map_append, List.map_cons, List.map_nil]
        simp
    | 1, _ =>
      simp only [St.row] at e; subst e
      rw [stp_w]
      cases hx : x.2
      · simp only [Bool.false_eq_true, if_false, St.all, ids, List.map_append, List.map_cons, List.map_nil]
        simp
      · simp only [if_true, St.all, ids, List.map_append, List.map_cons, List.map_nil]
        simp only [List.append_assoc, List.cons_append, List.nil_append]
        refine List.Perm.append_left _ ?_
        exact (List.perm_middle (l₁ := A.map Prod.fst) (l₂ := sc.map Prod.fst)).symm
    | 2, _ =>
      simp only [St.row] at e; subst e
      rw [stp_c]
      simp only [St.all, ids, List.map_append, List.map_cons, List.map_nil]
      simp only [List.append_assoc, List.cons_append, List.nil_append]
      refine List.Perm.append_left _ ?_
      have := (List.perm_middle (a := x.1) (l₁ := sw.map Prod.fst ++ A.map Prod.fst) (l₂ := [])).symm
      simpa using this
  · have : stp k s = s := by
      unfold stp
      rw [List.getLast?_eq_none_iff.2 (List.eq_nil_of_length_eq_zero (by omega))]
    rw [this]
theorem snk_perm {k most : Nat} (hk : k < 3) (s : St) : (ids (snk k most s).all).Perm (ids s.all) :=
  (snk_ind hk (fun t => (ids t.all).Perm (ids s.all)) (fun t ht _ => (stp_perm hk t).trans ht) (List.Perm.refl _)).1
theorem spr_perm (s : St) : (ids (spr s).all).Perm (ids s.all) :=
  (spr_ind (fun t => (ids t.all).Perm (ids s.all)) (fun t ht _ => (stp_perm (by decide) t).trans ht) (List.Perm.refl _)).1
theorem bal_perm (n : Nat) (s : St) : (ids (balS n s).all).Perm (ids s.all) := (snk_perm (by decide) _).trans (snk_perm (by decide) s)
theorem add_perm {i : Int} {s : St} (h : s.has i = false) : (ids (addS i s).all).Perm (i :: ids s.all) := by
  unfold addS
  rw [h]
  exact (bal_perm _ _).trans (by simp [St.all, ids])
theorem add_nd {i : Int} {s : St} (h : s.Nd) : (addS i s).Nd := by
  cases hh : s.has i with
  | true => unfold addS; rw [hh]; exact h
  | false =>
    have := add_perm hh
    unfold St.Nd
    rw [this.nodup_iff, List.nodup_cons]
    exact ⟨by simpa [St.has] using hh, h⟩
theorem setU_ids (i : Int) (l : List Nd) : ids (setU i l) = ids l := by
  unfold ids setU
  rw [List.map_map]
  apply List.map_congr_left
  intro x _
  simp only [Function.comp]
  by_cases h : x.1 = i <;> simp [h]
theorem tch_ids (i : Int) (s : St) : ids (tchS i s).all = ids s.all := by
  have := setU_ids i
  simp only [ids] at this
  simp [tchS, St.all, ids, this]
theorem tch_nd {i : Int} {s : St} (h : s.Nd) : (tchS i s).Nd := by unfold St.Nd; rw [tch_ids]; exact h
theorem outI_ids (i : Int) (l : List Nd) : ids (outI i l) = (ids l).filter fun x => decide (x ≠ i) := by
  unfold ids outI
  rw [List.filter_map]
  rfl
theorem rmv_all (i : Int) (s : St) : (rmvS i s).all = outI i s.all := by simp [rmvS, St.all, outI]
theorem rmv_ids (i : Int) (s : St) : ids (rmvS i s).all = (ids s.all).filter fun x => decide (x ≠ i) := by rw [rmv_all, outI_ids]
theorem rmv_nd {i : Int} {s : St} (h : s.Nd) : (rmvS i s).Nd := by unfold St.Nd; rw [rmv_ids]; exact h.filter _
theorem filter_ne_perm {i : Int} : ∀ {l : List Int}, l.Nodup → i ∈ l → l.Perm (i :: l.filter fun x => decide (x ≠ i))
  | [], _, h => by cases h
  | a :: l, hn, h => by
    rw [List.nodup_cons] at hn
    by_cases e : a = i
    · subst e
      have : (a :: l).filter (fun x => decide (x ≠ a)) = l := by
        rw [List.filter_cons_of_neg (by simp)]
        rw [List.filter_eq_self]
        intro x hx
        have : x ≠ a := fun e => hn.1 (e ▸ hx)
        simpa using this
      rw [this]
    · have h1 : i ∈ l := (List.mem_cons.1 h).resolve_left (fun e' => e e'.symm)
      rw [List.filter_cons_of_pos (by simpa using e)]
      exact ((filter_ne_perm hn.2 h1).cons a).trans (List.Perm.swap ..)
theorem rmv_perm {i : Int} {s : St} (h : s.Nd) (hi : i ∈ ids s.all) : (ids s.all).Perm (i :: ids (rmvS i s).all) := by
  rw [rmv_ids]; exact filter_ne_perm h hi
theorem rmv_len {i : Int} {s : St} (h : s.Nd) (hi : i ∈ ids s.all) : (rmvS i s).all.length + 1 = s.all.length := by
  have := (rmv_perm h hi).length_eq
  simp only [ids, List.length_map, List.length_cons] at this
  omega
theorem add_len {i : Int} {s : St} (h : s.has i = false) : (addS i s).all.length = s.all.length + 1 := by
  have := (add_perm h).length_eq
  simpa [ids] using this
theorem spr_nd {s : St} (h : s.Nd) : (spr s).Nd := by unfold St.Nd; rw [(spr_perm s).nodup_iff]; exact h
theorem spr_len (s : St) : (spr s).all.length = s.all.length := by
  have := (spr_perm s).length_eq
  simpa [ids] using this
theorem nxtG_mem {s : St} {i : Int} (h : nxtG s = some i) : i ∈ ids s.all := by
  unfold nxtG at h
  have key : ∀ {l : List Nd} {x : Nd}, l.getLast? = some x → x.1 ∈ ids l := fun {l x} hx => List.mem_map.2 ⟨x, List.mem_of_getLast? hx, rfl⟩
  have sub : ∀ l : List Nd, l = s.h ∨ l = s.w ∨ l = s.c → ∀ j ∈ ids l, j ∈ ids s.all := by
    rintro l (rfl | rfl | rfl) j hj <;> simp only [St.all, ids, List.map_append, List.mem_append] at hj ⊢ <;> simp [hj]
  split at h
  · rename_i x hx; obtain rfl := Option.some.inj h; exact sub _ (.inr (.inr rfl)) _ (key hx)
  · split at h
    · rename_i x hx; obtain rfl := Option.some.inj h; exact sub _ (.inr (.inl rfl)) _ (key hx)
    · split at h
      · rename_i x hx; obtain rfl := Option.some.inj h; exact sub _ (.inl rfl) _ (key hx)
      · cases h
theorem nxtG_none {s : St} : nxtG s = none ↔ s.all.length = 0 := by
  obtain ⟨sh, sw, sc⟩ := s
  unfold nxtG St.all
  simp only [List.length_append]
  rcases List.eq_nil_or_concat sc with rfl | ⟨C, x, rfl⟩
  · rcases List.eq_nil_or_concat sw with rfl | ⟨C, x, rfl⟩
    · rcases List.eq_nil_or_concat sh with rfl | ⟨C, x, rfl⟩
      · simp
      · simp
    · simp
  · simp
theorem evi_mem {s : St} {i : Int} (h : evi s = some i) : i ∈ ids s.all := (spr_perm s).mem_iff.1 (nxtG_mem h)
theorem evi_none {s : St} : evi s = none ↔ s.all.length = 0 := by unfold evi; rw [nxtG_none, spr_len]
theorem eviS_nd {s : St} (h : s.Nd) : (eviS s).Nd := by
  unfold eviS
  split
  · exact rmv_nd (spr_nd h)
  · exact spr_nd h
theorem eviS_perm {s : St} {i : Int} (h : s.Nd) (hi : evi s = some i) : (ids s.all).Perm (i :: ids (eviS s).all) := by
  unfold eviS
  rw [hi]
  exact (spr_perm s).symm.trans (rmv_perm (spr_nd h) (nxtG_mem hi))
theorem eviS_len {s : St} {i : Int} (h : s.Nd) (hi : evi s = some i) : (eviS s).all.length + 1 = s.all.length := by
  have := (eviS_perm h hi).length_eq
  simp only [ids, List.length_map, List.length_cons] at this
  omega
theorem eviS_none {s : St} (hi : evi s = none) : (eviS s).all.length = 0 := by
  unfold eviS
  rw [hi]
  rw [spr_len]
  exact evi_none.1 hi
end Go.Proofs.Ytgjgdhjnkbbceaa.Sgm
