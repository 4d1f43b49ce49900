/- Joined texts: SMath, SMa2. -/
/- Hot, warm, cold, told without memory. No program is named here. -/
set_option linter.unusedVariables false
set_option linter.unusedSimpArgs false
namespace Go.Proofs.YtdkiegkgnimapabDoor.Sgm

/-- A number, used or not. -/
abbrev Nd := Int × Bool
structure St where
  h : List Nd
  w : List Nd
  c : List Nd
def St.all (s : St) : List Nd := s.h ++ s.w ++ s.c
def ids (l : List Nd) : List Int := l.map Prod.fst
def St.row (s : St) : Nat → List Nd
  | 0 => s.h
  | 1 => s.w
  | _ => s.c
def St0 : St := ⟨[], [], []⟩
/-- A list's last one goes to the head of warm, if it is used, else to the head of cold. -/
def stp (k : Nat) (s : St) : St := match (s.row k).getLast? with
  | none => s
  | some x => match k with
    | 0 => if x.2 then ⟨s.h.dropLast, (x.1, false) :: s.w, s.c⟩ else ⟨s.h.dropLast, s.w, (x.1, false) :: s.c⟩
    | 1 => if x.2 then ⟨s.h, (x.1, false) :: s.w.dropLast, s.c⟩ else ⟨s.h, s.w.dropLast, (x.1, false) :: s.c⟩
    | _ => ⟨s.h, (x.1, false) :: s.w, s.c.dropLast⟩
theorem stp_h (A : List Nd) (x : Nd) (w c : List Nd) : stp 0 ⟨A ++ [x], w, c⟩ = if x.2 then ⟨A, (x.1, false) :: w, c⟩ else ⟨A, w, (x.1, false) :: c⟩ := by
  simp [stp, St.row]
theorem stp_w (A : List Nd) (x : Nd) (h c : List Nd) : stp 1 ⟨h, A ++ [x], c⟩ = if x.2 then ⟨h, (x.1, false) :: A, c⟩ else ⟨h, A, (x.1, false) :: c⟩ := by
  simp [stp, St.row]
theorem stp_c (A : List Nd) (x : Nd) (h w : List Nd) : stp 2 ⟨h, w, A ++ [x]⟩ = ⟨h, (x.1, false) :: w, A⟩ := by
  simp [stp, St.row]
/-- How often a list can be turned. -/
def mu (l : List Nd) : Nat := l.length + (l.filter Prod.snd).length
theorem mu_app (A B : List Nd) : mu (A ++ B) = mu A + mu B := by simp [mu]; omega
theorem mu_cons (x : Nd) (A : List Nd) : mu (x :: A) = (if x.2 then 2 else 1) + mu A := by
  unfold mu
  cases h : x.2 <;> simp [h] <;> omega
theorem snoc_of {l : List Nd} (h : 0 < l.length) : ∃ A x, l = A ++ [x] := by
  rcases List.eq_nil_or_concat l with rfl | ⟨A, x, e⟩
  · cases h
  · exact ⟨A, x, by rw [e]; simp⟩
theorem mu_nil {l : List Nd} (h : mu l = 0) : l.length = 0 := by unfold mu at h; omega
theorem mu_stp {k : Nat} (hk : k < 3) {s : St} (h : 0 < (s.row k).length) : mu ((stp k s).row k) + 1 ≤ mu (s.row k) := by
  obtain ⟨A, x, e⟩ := snoc_of h
  obtain ⟨sh, sw, sc⟩ := s
  match k, hk with
  | 0, _ =>
    simp only [St.row] at e; subst e
    rw [stp_h]
    cases hx : x.2 <;> simp [St.row, mu_app, mu_cons, hx, mu] <;> omega
  | 1, _ =>
    simp only [St.row] at e; subst e
    rw [stp_w]
    cases hx : x.2 <;> simp [St.row, mu_app, mu_cons, hx, mu] <;> omega
  | 2, _ =>
    simp only [St.row] at e; subst e
    rw [stp_c]
    cases hx : x.2 <;> simp [St.row, mu_app, mu_cons, hx, mu] <;> omega

/-! ### Down to a share -/
def snkF (k most : Nat) : Nat → St → St
  | 0, s => s
  | n + 1, s => if most < (s.row k).length then snkF k most n (stp k s) else s
theorem snkF_stop {k most : Nat} {s : St} (h : ¬ most < (s.row k).length) (n : Nat) : snkF k most n s = s := by
  cases n with
  | zero => rfl
  | succ n => simp [snkF, h]
theorem snkF_any {k most : Nat} (hk : k < 3) : ∀ (n n' : Nat) (s : St), mu (s.row k) ≤ n → mu (s.row k) ≤ n' → snkF k most n s = snkF k most n' s
  | 0, n', s, h, _ => by
    have := mu_nil (Nat.le_zero.1 h)
    rw [snkF_stop (by omega), snkF_stop (by omega)]
  | n + 1, 0, s, _, h => by
    have := mu_nil (Nat.le_zero.1 h)
    rw [snkF_stop (by omega), snkF_stop (by omega)]
  | n + 1, n' + 1, s, h, h' => by
    simp only [snkF]
    split
    · rename_i hl
      have := mu_stp hk (s := s) (by omega)
      exact snkF_any hk n n' _ (by omega) (by omega)
    · rfl
def snk (k most : Nat) (s : St) : St := snkF k most (mu (s.row k)) s
theorem snk_stop {k most : Nat} {s : St} (h : ¬ most < (s.row k).length) : snk k most s = s := snkF_stop h _
theorem snk_step {k most : Nat} (hk : k < 3) {s : St} (h : most < (s.row k).length) : snk k most s = snk k most (stp k s) := by
  have h1 := mu_stp hk (s := s) (by omega)
  unfold snk
  obtain ⟨n, hn⟩ : ∃ n, mu (s.row k) = n + 1 := ⟨mu (s.row k) - 1, by omega⟩
  rw [hn]
  simp only [snkF]
  rw [if_pos h]
  exact snkF_any hk _ _ _ (by omega) (Nat.le_refl _)
/-- A property that each turn keeps. -/
theorem snk_ind {k most : Nat} (hk : k < 3) (R : St → Prop) (hstp : ∀ s, R s → most < (s.row k).length → R (stp k s)) {s : St} (h : R s) : R (snk k most s) ∧ ¬ most < ((snk k most s).row k).length := by
  have key : ∀ n s, mu (s.row k) ≤ n → R s → R (snk k most s) ∧ ¬ most < ((snk k most s).row k).length := by
    intro n
    induction n with
    | zero =>
      intro s hn hs
      have := mu_nil (Nat.le_zero.1 hn)
      rw [snk_stop (by omega)]
      exact ⟨hs, by omega⟩
    | succ n ih =>
      intro s hn hs
      by_cases hl : most < (s.row k).length
      · rw [snk_step hk hl]
        have := mu_stp hk (s := s) (by omega)
        exact ih _ (by omega) (hstp s hs hl)
      · rw [snk_stop hl]
        exact ⟨hs, hl⟩
  exact key _ s (Nat.le_refl _) h

/-! ### What is used is spared -/
def lastU (l : List Nd) : Bool := match l.getLast? with
  | none => false
  | some x => x.2
theorem lastU_snoc (A : List Nd) (x : Nd) : lastU (A ++ [x]) = x.2 := by simp [lastU]
theorem lastU_len {l : List Nd} (h : lastU l = true) : 0 < l.length := by
  cases l with
  | nil => cases h
  | cons a l => simp
def sprF : Nat → St → St
  | 0, s => s
  | n + 1, s => if lastU s.c then sprF n (stp 2 s) else s
def spr (s : St) : St := sprF s.c.length s
theorem stp2_len {s : St} (h : lastU s.c = true) : (stp 2 s).c.length + 1 = s.c.length := by
  obtain ⟨A, x, e⟩ := snoc_of (lastU_len h)
  obtain ⟨sh, sw, sc⟩ := s
  simp only at e; subst e
  rw [stp_c]; simp
theorem spr_stop {s : St} (h : lastU s.c = false) : spr s = s := by
  unfold spr
  cases s.c.length with
  | zero => rfl
  | succ n => simp [sprF, h]
theorem spr_step {s : St} (h : lastU s.c = true) : spr s = spr (stp 2 s) := by
  have := stp2_len h
  unfold spr
  rw [← this]
  simp [sprF, h]
theorem spr_ind (R : St → Prop) (hstp : ∀ s, R s → lastU s.c = true → R (stp 2 s)) {s : St} (h : R s) : R (spr s) ∧ lastU (spr s).c = false := by
  have key : ∀ n s, s.c.length ≤ n → R s → R (spr s) ∧ lastU (spr s).c = false := by
    intro n
    induction n with
    | zero =>
      intro s hn hs
      have : lastU s.c = false := by
        cases hl : lastU s.c with
        | false => rfl
        | true => have := lastU_len hl; omega
      rw [spr_stop this]
      exact ⟨hs, this⟩
    | succ n ih =>
      intro s hn hs
      cases hl : lastU s.c with
      | true =>
        rw [spr_step hl]
        have := stp2_len hl
        exact ih _ (by omega) (hstp s hs hl)
      | false =>
        rw [spr_stop hl]
        exact ⟨hs, hl⟩
  exact key _ s (Nat.le_refl _) h

/-! ### The calls -/
def St.has (s : St) (i : Int) : Bool := decide (i ∈ ids s.all)
def setU (i : Int) (l : List Nd) : List Nd := l.map fun x => if x.1 = i then (i, true) else x
def outI (i : Int) (l : List Nd) : List Nd := l.filter fun x => decide (x.1 ≠ i)
def balS (n : Nat) (s : St) : St := snk 1 (2 * n / 5) (snk 0 ((n + 4) / 5) s)
def addS (i : Int) (s : St) : St := if s.has i then s else balS (s.all.length + 1) ⟨(i, false) :: s.h, s.w, s.c⟩
def tchS (i : Int) (s : St) : St := ⟨setU i s.h, setU i s.w, setU i s.c⟩
def rmvS (i : Int) (s : St) : St := ⟨outI i s.h, outI i s.w, outI i s.c⟩
/-- Who goes next. -/
def nxtG (s : St) : Option Int := match s.c.getLast? with
  | some x => some x.1
  | none => match s.w.getLast? with
    | some x => some x.1
    | none => match s.h.getLast? with
      | some x => some x.1
      | none => none
def evi (s : St) : Option Int := nxtG (spr s)
def eviS (s : St) : St := match evi s with
  | some i => rmvS i (spr s)
  | none => spr s
def St.Nd (s : St) : Prop := (ids s.all).Nodup

theorem stp_perm {k : Nat} (hk : k < 3) (s : St) : (ids (stp k s).all).Perm (ids s.all) := by
  by_cases h : 0 < (s.row k).length
  · obtain ⟨A, x, e⟩ := snoc_of h
    obtain ⟨sh, sw, sc⟩ := s
    match k, hk with
    | 0, _ =>
      simp only [St.row] at e; subst e
      rw [stp_h]
      cases hx : x.2
      · simp only [Bool.false_eq_true, if_false, St.all, ids, List.map_append, List.map_cons, List.map_nil]
        simp only [List.append_assoc]
        refine List.Perm.append_left _ ?_
        exact List.perm_middle
      · simp only [if_true, St.all, ids, List.map_append, List.map_cons, List.map_nil]
        simp
    | 1, _ =>
      simp only [St.row] at e; subst e
      rw [stp_w]
      cases hx : x.2
      · simp only [Bool.false_eq_true, if_false, St.all, ids, List.map_append, List.map_cons, List.map_nil]
        simp
      · simp only [if_true, St.all, ids, List.map_append, List.map_cons, List.map_nil]
        simp only [List.append_assoc, List.cons_append, List.nil_append]
        refine List.Perm.append_left _ ?_
        exact (List.perm_middle (l₁ := A.map Prod.fst) (l₂ := sc.map Prod.fst)).symm
    | 2, _ =>
      simp only [St.row] at e; subst e
      rw [stp_c]
      simp only [St.all, ids, List.map_append, List.map_cons, List.map_nil]
      simp only [List.append_assoc, List.cons_append, List.nil_append]
      refine List.Perm.append_left _ ?_
      have := (List.perm_middle (a := x.1) (l₁ := sw.map Prod.fst ++ A.map Prod.fst) (l₂ := [])).symm
      simpa using this
  · have : stp k s = s := by
      unfold stp
      rw [List.getLast?_eq_none_iff.2 (List.eq_nil_of_length_eq_zero (by omega))]
    rw [this]
theorem snk_perm {k most : Nat} (hk : k < 3) (s : St) : (ids (snk k most s).all).Perm (ids s.all) :=
  (snk_ind hk (fun t => (ids t.all).Perm (ids s.all)) (fun t ht _ => (stp_perm hk t).trans ht) (List.Perm.refl _)).1
theorem spr_perm (s : St) : (ids (spr s).all).Perm (ids s.all) :=
  (spr_ind (fun t => (ids t.all).Perm (ids s.all)) (fun t ht _ => (stp_perm (by decide) t).trans ht) (List.Perm.refl _)).1
theorem bal_perm (n : Nat) (s : St) : (ids (balS n s).all).Perm (ids s.all) := (snk_perm (by decide) _).trans (snk_perm (by decide) s)
theorem add_perm {i : Int} {s : St} (h : s.has i = false) : (ids (addS i s).all).Perm (i :: ids s.all) := by
  unfold addS
  rw [h]
  exact (bal_perm _ _).trans (by simp [St.all, ids])
theorem add_nd {i : Int} {s : St} (h : s.Nd) : (addS i s).Nd := by
  cases hh : s.has i with
  | true => unfold addS; rw [hh]; exact h
  | false =>
    have := add_perm hh
    unfold St.Nd
    rw [this.nodup_iff, List.nodup_cons]
    exact ⟨by simpa [St.has] using hh, h⟩
theorem setU_ids (i : Int) (l : List Nd) : ids (setU i l) = ids l := by
  unfold ids setU
  rw [List.map_map]
  apply List.map_congr_left
  intro x _
  simp only [Function.comp]
  by_cases h : x.1 = i <;> simp [h]
theorem tch_ids (i : Int) (s : St) : ids (tchS i s).all = ids s.all := by
  have := setU_ids i
  simp only [ids] at this
  simp [tchS, St.all, ids, this]
theorem tch_nd {i : Int} {s : St} (h : s.Nd) : (tchS i s).Nd := by unfold St.Nd; rw [tch_ids]; exact h
theorem outI_ids (i : Int) (l : List Nd) : ids (outI i l) = (ids l).filter fun x => decide (x ≠ i) := by
  unfold ids outI
  rw [List.filter_map]
  rfl
theorem rmv_all (i : Int) (s : St) : (rmvS i s).all = outI i s.all := by simp [rmvS, St.all, outI]
theorem rmv_ids (i : Int) (s : St) : ids (rmvS i s).all = (ids s.all).filter fun x => decide (x ≠ i) := by rw [rmv_all, outI_ids]
theorem rmv_nd {i : Int} {s : St} (h : s.Nd) : (rmvS i s).Nd := by unfold St.Nd; rw [rmv_ids]; exact h.filter _
theorem filter_ne_perm {i : Int} : ∀ {l : List Int}, l.Nodup → i ∈ l → l.Perm (i :: l.filter fun x => decide (x ≠ i))
  | [], _, h => by cases h
  | a :: l, hn, h => by
    rw [List.nodup_cons] at hn
    by_cases e : a = i
    · subst e
      have : (a :: l).filter (fun x => decide (x ≠ a)) = l := by
        rw [List.filter_cons_of_neg (by simp)]
        rw [List.filter_eq_self]
        intro x hx
        have : x ≠ a := fun e => hn.1 (e ▸ hx)
        simpa using this
      rw [this]
    · have h1 : i ∈ l := (List.mem_cons.1 h).resolve_left (fun e' => e e'.symm)
      rw [List.filter_cons_of_pos (by simpa using e)]
      exact ((filter_ne_perm hn.2 h1).cons a).trans (List.Perm.swap ..)
theorem rmv_perm {i : Int} {s : St} (h : s.Nd) (hi : i ∈ ids s.all) : (ids s.all).Perm (i :: ids (rmvS i s).all) := by
  rw [rmv_ids]; exact filter_ne_perm h hi
theorem rmv_len {i : Int} {s : St} (h : s.Nd) (hi : i ∈ ids s.all) : (rmvS i s).all.length + 1 = s.all.length := by
  have := (rmv_perm h hi).length_eq
  simp only [ids, List.length_map, List.length_cons] at this
  omega
theorem add_len {i : Int} {s : St} (h : s.has i = false) : (addS i s).all.length = s.all.length + 1 := by
  have := (add_perm h).length_eq
  simpa [ids] using this
theorem spr_nd {s : St} (h : s.Nd) : (spr s).Nd := by unfold St.Nd; rw [(spr_perm s).nodup_iff]; exact h
theorem spr_len (s : St) : (spr s).all.length = s.all.length := by
  have := (spr_perm s).length_eq
  simpa [ids] using this
theorem nxtG_mem {s : St} {i : Int} (h : nxtG s = some i) : i ∈ ids s.all := by
  unfold nxtG at h
  have key : ∀ {l : List Nd} {x : Nd}, l.getLast? = some x → x.1 ∈ ids l := fun {l x} hx => List.mem_map.2 ⟨x, List.mem_of_getLast? hx, rfl⟩
  have sub : ∀ l : List Nd, l = s.h ∨ l = s.w ∨ l = s.c → ∀ j ∈ ids l, j ∈ ids s.all := by
    rintro l (rfl | rfl | rfl) j hj <;> simp only [St.all, ids, List.map_append, List.mem_append] at hj ⊢ <;> simp [hj]
  split at h
  · rename_i x hx; obtain rfl := Option.some.inj h; exact sub _ (.inr (.inr rfl)) _ (key hx)
  · split at h
    · rename_i x hx; obtain rfl := Option.some.inj h; exact sub _ (.inr (.inl rfl)) _ (key hx)
    · split at h
      · rename_i x hx; obtain rfl := Option.some.inj h; exact sub _ (.inl rfl) _ (key hx)
      · cases h
theorem nxtG_none {s : St} : nxtG s = none ↔ s.all.length = 0 := by
  obtain ⟨sh, sw, sc⟩ := s
  unfold nxtG St.all
  simp only [List.length_append]
  rcases List.eq_nil_or_concat sc with rfl | ⟨C, x, rfl⟩
  · rcases List.eq_nil_or_concat sw with rfl | ⟨C, x, rfl⟩
    · rcases List.eq_nil_or_concat sh with rfl | ⟨C, x, rfl⟩
      · simp
      · simp
    · simp
  · simp
theorem evi_mem {s : St} {i : Int} (h : evi s = some i) : i ∈ ids s.all := (spr_perm s).mem_iff.1 (nxtG_mem h)
theorem evi_none {s : St} : evi s = none ↔ s.all.length = 0 := by unfold evi; rw [nxtG_none, spr_len]
theorem eviS_nd {s : St} (h : s.Nd) : (eviS s).Nd := by
  unfold eviS
  split
  · exact rmv_nd (spr_nd h)
  · exact spr_nd h
theorem eviS_perm {s : St} {i : Int} (h : s.Nd) (hi : evi s = some i) : (ids s.all).Perm (i :: ids (eviS s).all) := by
  unfold eviS
  rw [hi]
  exact (spr_perm s).symm.trans (rmv_perm (spr_nd h) (nxtG_mem hi))
theorem eviS_len {s : St} {i : Int} (h : s.Nd) (hi : evi s = some i) : (eviS s).all.length + 1 = s.all.length := by
  have := (eviS_perm h hi).length_eq
  simp only [ids, List.length_map, List.length_cons] at this
  omega
theorem eviS_none {s : St} (hi : evi s = none) : (eviS s).all.length = 0 := by
  unfold eviS
  rw [hi]
  rw [spr_len]
  exact evi_none.1 hi
end Go.Proofs.YtdkiegkgnimapabDoor.Sgm

/- What follows for hot, warm and cold: shares, orders, who is spared. No program is named here. -/
set_option linter.unusedVariables false
set_option linter.unusedSimpArgs false
namespace Go.Proofs.YtdkiegkgnimapabDoor.Sgm

theorem stp1_h (s : St) : (stp 1 s).h = s.h := by
  by_cases hl : 0 < (s.row 1).length
  · obtain ⟨A, x, e⟩ := snoc_of hl
    obtain ⟨sh, sw, sc⟩ := s
    simp only [St.row] at e; subst e
    rw [stp_w]
    split <;> rfl
  · have : stp 1 s = s := by
      unfold stp
      rw [List.getLast?_eq_none_iff.2 (List.eq_nil_of_length_eq_zero (by omega))]
    rw [this]
theorem snk1_h (most : Nat) (s : St) : (snk 1 most s).h = s.h :=
  (snk_ind (by decide) (fun t => t.h = s.h) (fun t ht _ => (stp1_h t).trans ht) rfl).1
theorem bal_len (n : Nat) (s : St) : (balS n s).h.length ≤ (n + 4) / 5 ∧ (balS n s).w.length ≤ 2 * n / 5 := by
  unfold balS
  have h1 := (snk_ind (k := 0) (most := (n + 4) / 5) (by decide) (fun _ => True) (fun _ _ _ => trivial) (s := s) trivial).2
  have h2 := (snk_ind (k := 1) (most := 2 * n / 5) (by decide) (fun _ => True) (fun _ _ _ => trivial) (s := snk 0 ((n + 4) / 5) s) trivial).2
  rw [snk1_h]
  simp only [St.row] at h1 h2
  omega
theorem add_shares {i : Int} {s : St} (h : s.has i = false) : (addS i s).h.length ≤ ((addS i s).all.length + 4) / 5 ∧ (addS i s).w.length ≤ 2 * (addS i s).all.length / 5 := by
  rw [add_len h]
  unfold addS
  rw [h]
  exact bal_len _ _
theorem add_le (i : Int) (s : St) : (addS i s).all.length ≤ s.all.length + 1 := by
  cases h : s.has i with
  | true => unfold addS; rw [h]; simp
  | false => rw [add_len h]; exact Nat.le_refl _
theorem tch_len (i : Int) (s : St) : (tchS i s).all.length = s.all.length := by
  have := congrArg List.length (tch_ids i s)
  simpa [ids] using this
theorem rmv_le (i : Int) (s : St) : (rmvS i s).all.length ≤ s.all.length := by
  rw [rmv_all]; exact List.length_filter_le _ _
theorem eviS_le (s : St) : (eviS s).all.length ≤ s.all.length := by
  unfold eviS
  split
  · exact Nat.le_trans (rmv_le _ _) (Nat.le_of_eq (spr_len s))
  · exact Nat.le_of_eq (spr_len s)
/-- One call. -/
def stepS (op i : Int) (s : St) : St := if op = 0 then addS i s else if op = 1 then tchS i s else if op = 2 then rmvS i s else eviS s
theorem step_le (op i : Int) (s : St) : (stepS op i s).all.length ≤ s.all.length + 1 := by
  unfold stepS
  split
  · exact add_le i s
  · split
    · rw [tch_len]; omega
    · split
      · have := rmv_le i s; omega
      · have := eviS_le s; omega

/-! ### None used: first in, first out -/
/-- None is used, warm is empty; the others in order. -/
structure Cool (s : St) (l : List Int) : Prop where
  w : s.w = []
  u : ∀ x ∈ s.all, x.2 = false
  o : ids (s.h ++ s.c) = l
theorem Cool.all {s : St} {l : List Int} (h : Cool s l) : ids s.all = l := by
  have := h.o
  unfold St.all
  rw [h.w, List.append_nil]; exact this
theorem cool_stp {s : St} {l : List Int} (h : Cool s l) : Cool (stp 0 s) l := by
  by_cases hl : 0 < (s.row 0).length
  · obtain ⟨A, x, e⟩ := snoc_of hl
    obtain ⟨sh, sw, sc⟩ := s
    simp only [St.row] at e; subst e
    have hx : x.2 = false := h.u x (by simp [St.all])
    rw [stp_h, hx]
    simp only [Bool.false_eq_true, if_false]
    refine ⟨h.w, fun y hy => ?_, ?_⟩
    · have hw := h.w
      simp only at hw
      subst hw
      simp only [St.all, List.append_nil, List.mem_append, List.mem_cons] at hy
      rcases hy with hy | rfl | hy
      · exact h.u y (by simp [St.all, hy])
      · rfl
      · exact h.u y (by simp [St.all, hy])
    · have := h.o
      simp only [ids, List.map_append, List.map_cons, List.map_nil, List.append_assoc, List.cons_append, List.nil_append] at this ⊢
      exact this
  · have : stp 0 s = s := by
      unfold stp
      rw [List.getLast?_eq_none_iff.2 (List.eq_nil_of_length_eq_zero (by omega))]
    rw [this]; exact h
theorem cool_bal {n : Nat} {s : St} {l : List Int} (h : Cool s l) : Cool (balS n s) l := by
  have h1 : Cool (snk 0 ((n + 4) / 5) s) l := (snk_ind (by decide) (fun t => Cool t l) (fun t ht _ => cool_stp ht) h).1
  unfold balS
  rw [snk_stop (by simp only [St.row]; rw [h1.w]; simp)]
  exact h1
theorem cool_add {i : Int} {s : St} {l : List Int} (h : Cool s l) (hn : i ∉ l) : Cool (addS i s) (i :: l) ∧ s.has i = false := by
  have hh : s.has i = false := by
    unfold St.has
    rw [h.all]
    simpa using hn
  refine ⟨?_, hh⟩
  unfold addS
  rw [hh]
  refine cool_bal ⟨h.w, fun x hx => ?_, ?_⟩
  · simp only [St.all, List.cons_append, List.mem_cons] at hx
    rcases hx with rfl | hx
    · rfl
    · exact h.u x hx
  · have := h.o
    simp only [ids, List.cons_append, List.map_cons] at this ⊢
    rw [this]
theorem cool_evi {i : Int} {s : St} {l : List Int} (h : Cool s (l ++ [i])) (hn : s.Nd) : evi s = some i ∧ Cool (eviS s) l := by
  have hsp : spr s = s := spr_stop (by
    cases hl : lastU s.c with
    | false => rfl
    | true =>
      obtain ⟨A, x, e⟩ := snoc_of (lastU_len hl)
      rw [e, lastU_snoc] at hl
      have := h.u x (by simp [St.all, e])
      rw [this] at hl; cases hl)
  have hev : evi s = some i := by
    unfold evi nxtG
    rw [hsp, h.w]
    have ho := h.o
    rcases List.eq_nil_or_concat s.c with hc | ⟨A, x, hc⟩
    · rcases List.eq_nil_or_concat s.h with hh | ⟨A, x, hh⟩
      · rw [hc, hh] at ho; simp [ids] at ho
      · rw [hc, hh] at ho
        rw [hc, hh]
        simp only [ids, List.concat_eq_append, List.append_nil, List.map_append, List.map_cons, List.map_nil] at ho
        have := List.append_inj_right' ho rfl
        simp at this
        simp [this]
    · rw [hc] at ho
      rw [hc]
      simp only [ids, List.concat_eq_append, List.map_append, List.map_cons, List.map_nil] at ho
      rw [← List.append_assoc] at ho
      have := List.append_inj_right' ho rfl
      simp at this
      simp [this]
  refine ⟨hev, ?_⟩
  have hnd : (l ++ [i]).Nodup := by rw [← h.all]; exact hn
  have hni : i ∉ l := fun hm => by
    rw [List.nodup_append] at hnd
    exact hnd.2.2 i hm i (by simp) rfl
  unfold eviS
  rw [hev]
  simp only
  rw [hsp]
  refine ⟨by simp [rmvS, h.w, outI], fun x hx => ?_, ?_⟩
  · rw [rmv_all] at hx
    exact h.u x (List.mem_filter.1 hx).1
  · have e1 : (rmvS i s).h ++ (rmvS i s).c = outI i (s.h ++ s.c) := by simp [rmvS, outI]
    rw [e1, outI_ids, h.o, List.filter_append]
    rw [List.filter_eq_self.2 (fun x hx => by
      have : x ≠ i := fun e => hni (e ▸ hx)
      simpa using this)]
    simp
theorem cool_0 : Cool St0 [] := ⟨rfl, fun x hx => by simp [St0, St.all] at hx, rfl⟩
/-- Numbers in turn, the newest ahead. -/
def downK (m : Int) : Nat → List Int
  | 0 => []
  | n + 1 => (m * (n : Int)) :: downK m n
theorem downK_lt {m : Int} (hm : 0 < m) : ∀ (n : Nat) (x : Int), x ∈ downK m n → x < m * (n : Int)
  | 0, x, h => by cases h
  | n + 1, x, h => by
    have e : m * ((n + 1 : Nat) : Int) = m * (n : Int) + m := by
      rw [Int.natCast_add, Int.mul_add]; simp
    rcases List.mem_cons.1 h with rfl | h
    · omega
    · have := downK_lt hm n x h
      omega
theorem downK_new {m : Int} (hm : 0 < m) (n : Nat) : m * (n : Int) ∉ downK m n := fun h => by
  have := downK_lt hm n _ h
  omega
theorem downK_len (m : Int) : ∀ n, (downK m n).length = n
  | 0 => rfl
  | n + 1 => by simp [downK, downK_len m n]
/-- Those that are left when the first k are gone. -/
def midK (m : Int) (k : Nat) : Nat → List Int
  | 0 => []
  | n + 1 => if k ≤ n then (m * (n : Int)) :: midK m k n else []
theorem midK_zero (m : Int) : ∀ n, midK m 0 n = downK m n
  | 0 => rfl
  | n + 1 => by simp [midK, downK, midK_zero m n]
theorem midK_step (m : Int) (k : Nat) : ∀ n, k < n → midK m k n = midK m (k + 1) n ++ [m * (k : Int)]
  | 0, h => by omega
  | n + 1, h => by
    by_cases e : k < n
    · have ih := midK_step m k n e
      simp only [midK]
      rw [if_pos (by omega), if_pos (by omega), ih]; rfl
    · have e2 : k = n := by omega
      subst e2
      simp only [midK]
      rw [if_pos (Nat.le_refl _), if_neg (by omega)]
      have : midK m k k = [] := by
        cases k with
        | zero => rfl
        | succ k => simp [midK]
      rw [this]; rfl
theorem midK_len (m : Int) (k : Nat) : ∀ n, k ≤ n → (midK m k n).length = n - k
  | 0, h => by simp [midK]
  | n + 1, h => by
    by_cases e : k ≤ n
    · simp only [midK]
      rw [if_pos e, List.length_cons, midK_len m k n e]; omega
    · have : k = n + 1 := by omega
      subst this
      simp [midK]

/-! ### One used: it is not the next to go -/
theorem tch_used {i : Int} {s : St} (hu : ∀ x ∈ s.all, x.2 = false) : ∀ x ∈ (tchS i s).all, x.2 = true → x.1 = i := by
  intro x hx h2
  have e : (tchS i s).all = setU i s.all := by simp [tchS, St.all, setU]
  rw [e] at hx
  obtain ⟨y, hy, rfl⟩ := List.mem_map.1 hx
  by_cases h : y.1 = i
  · simp [h]
  · rw [if_neg h] at h2
    rw [hu y hy] at h2; cases h2
theorem tch_used2 {i : Int} {s : St} : ∀ x ∈ (tchS i s).all, x.1 = i → x.2 = true := by
  intro x hx h2
  have e : (tchS i s).all = setU i s.all := by simp [tchS, St.all, setU]
  rw [e] at hx
  obtain ⟨y, hy, rfl⟩ := List.mem_map.1 hx
  by_cases h : y.1 = i
  · simp [h]
  · rw [if_neg h] at h2
    exact absurd h2 h
theorem spare_one {i : Int} {s : St} (hn : s.Nd) (hu : ∀ x ∈ s.all, x.2 = true → x.1 = i) (hu2 : ∀ x ∈ s.all, x.1 = i → x.2 = true) (hc : 2 ≤ s.c.length) : ∃ j, evi s = some j ∧ j ≠ i := by
  obtain ⟨A, x, e⟩ := snoc_of (l := s.c) (by omega)
  obtain ⟨B, y, e2⟩ := snoc_of (l := A) (by rw [e] at hc; simp at hc; omega)
  subst e2
  obtain ⟨sh, sw, sc⟩ := s
  simp only at e; subst e
  have hnd : (ids (B ++ [y] ++ [x])).Nodup := by
    have := hn
    unfold St.Nd St.all at this
    simp only [ids, List.map_append] at this ⊢
    rw [List.nodup_append] at this
    exact this.2.1
  have hxy : y.1 ≠ x.1 := by
    simp only [ids, List.map_append, List.map_cons, List.map_nil] at hnd
    rw [List.nodup_append] at hnd
    exact hnd.2.2 y.1 (by simp) x.1 (by simp)
  have key : ∀ (t : St) (C : List Nd) (z : Nd), t.c = C ++ [z] → z.2 = false → z.1 ≠ i → ∃ j, evi t = some j ∧ j ≠ i := fun t C z ht hz hzi => by
    refine ⟨z.1, ?_, hzi⟩
    unfold evi
    rw [spr_stop (by rw [ht, lastU_snoc]; exact hz)]
    unfold nxtG
    rw [ht]
    simp
  by_cases hx : x.2 = true
  · have hxi : x.1 = i := hu x (by simp [St.all]) hx
    have hyi : y.1 ≠ i := fun h => hxy (h.trans hxi.symm)
    have hy : y.2 = false := by
      cases h : y.2 with
      | false => rfl
      | true => exact absurd (hu y (by simp [St.all]) h) hyi
    have e3 : evi ⟨sh, sw, B ++ [y] ++ [x]⟩ = evi ⟨sh, (x.1, false) :: sw, B ++ [y]⟩ := by
      unfold evi
      rw [spr_step (by rw [lastU_snoc]; exact hx), stp_c]
    rw [e3]
    exact key _ B y rfl hy hyi
  · have hx2 : x.2 = false := by simpa using hx
    by_cases hxi : x.1 = i
    · have := hu2 x (by simp [St.all]) hxi
      rw [hx2] at this; cases this
    · exact key _ (B ++ [y]) x rfl hx2 hxi
end Go.Proofs.YtdkiegkgnimapabDoor.Sgm

