/-
  The parser without memory: what chapter 18 says of bytes that are fed, and that it is the same however they are cut.
-/
import Derived.Test.YtmfjaehajdephabJA
namespace Go.Proofs.Ytmfjaehajdephab
set_option linter.unusedVariables false
set_option linter.unusedSimpArgs false

/-- Where the first byte 10 is; the length, if there is none. -/
def endP (l : List UInt8) : Nat := l.findIdx (fun x => x == 10)
theorem endP_le (l : List UInt8) : endP l ≤ l.length := List.findIdx_le_length
theorem endP_app (l e : List UInt8) (h : endP l < l.length) : endP (l ++ e) = endP l := by
  unfold endP at *
  rw [List.findIdx_append, if_pos h]
theorem endP_app2 (l e : List UInt8) (h : endP l = l.length) : endP (l ++ e) = l.length + endP e := by
  unfold endP at *
  rw [List.findIdx_append, if_neg (by omega)]
  omega

/-- A parser: the bytes that wait; whether they are passed over up to the next byte 10; the command that is told behind its data, and how many bytes these are. -/
structure St where
  b : List UInt8
  skip : Bool
  hold : Option (Cm × Nat)
def storeT : List UInt8 := [115, 116, 111, 114, 101]
def withData (c : Cm) (d : List UInt8) : Cm := if (c.what.toList == storeT) = true then { c with data := ⟨d.toArray⟩ } else c
def badC (t : List UInt8) : Cm := ⟨⟨#[98, 97, 100]⟩, ⟨t.toArray⟩, [], ⟨#[]⟩, 0, 0, 0, 0, false, false, false, false⟩
def chunkT : List UInt8 := [67, 76, 73, 69, 78, 84, 95, 69, 82, 82, 79, 82, 32, 98, 97, 100, 32, 100, 97, 116, 97, 32, 99, 104, 117, 110, 107]
def longT : List UInt8 := [67, 76, 73, 69, 78, 84, 95, 69, 82, 82, 79, 82, 32, 108, 105, 110, 101, 32, 116, 111, 111, 32, 108, 111, 110, 103]

/-- The end of data: how many bytes; none: not seen yet; some 0: no end. -/
def endsP (e : List UInt8) : Option Nat :=
  match e with
  | [] => none
  | x :: t => if x = 10 then some 1 else if x = 13 then (match t with | [] => none | y :: _ => if y = 10 then some 2 else some 0) else some 0
def dataP (b : List UInt8) (c : Cm) (n : Nat) : Option Cm × St :=
  if b.length < n then (none, ⟨b, false, some (c, n)⟩) else
  match endsP (b.drop n) with
  | none => (none, ⟨b, false, some (c, n)⟩)
  | some 0 => (some (badC chunkT), ⟨b.drop n, true, none⟩)
  | some k => (some (withData c (b.take n)), ⟨b.drop (n + k), false, none⟩)
/-- A line without the byte 13 at its end. -/
def cutP (l : List UInt8) : List UInt8 := if l.getLast? = some 13 then l.dropLast else l
variable (one : List UInt8 → Cm × Option Nat)
def lineP (b : List UInt8) : Option Cm × St :=
  let k := endP b
  if 2048 < (cutP (b.take k)).length then (some (badC longT), if k < b.length then ⟨b.drop (k + 1), false, none⟩ else ⟨[], true, none⟩)
  else if k = b.length then (none, ⟨b, false, none⟩)
  else match one (cutP (b.take k)) with
    | (c, none) => (some c, ⟨b.drop (k + 1), false, none⟩)
    | (c, some n) => dataP (b.drop (k + 1)) c n
/-- What is passed over. -/
def norm (s : St) : St :=
  if s.skip then (if endP s.b < s.b.length then ⟨s.b.drop (endP s.b + 1), false, s.hold⟩ else ⟨[], true, s.hold⟩) else s
def goP (s : St) : Option Cm × St :=
  if s.skip then (none, s) else match s.hold with
    | some (c, n) => dataP s.b c n
    | none => lineP one s.b
def nextP (s : St) : Option Cm × St := goP one (norm s)
def St.app (s : St) (e : List UInt8) : St := { s with b := s.b ++ e }

theorem norm_true (b : List UInt8) (o : Option (Cm × Nat)) : norm ⟨b, true, o⟩ = if endP b < b.length then ⟨b.drop (endP b + 1), false, o⟩ else ⟨[], true, o⟩ := rfl
theorem norm_false (b : List UInt8) (o : Option (Cm × Nat)) : norm ⟨b, false, o⟩ = ⟨b, false, o⟩ := rfl
theorem app_mk (b e : List UInt8) (k : Bool) (o : Option (Cm × Nat)) : St.app ⟨b, k, o⟩ e = ⟨b ++ e, k, o⟩ := rfl
theorem drop_past (b e : List UInt8) (k : Nat) : (b ++ e).drop (b.length + k) = e.drop k := by
  rw [← List.drop_drop, List.drop_left]
theorem norm_app (s : St) (e : List UInt8) : norm ((norm s).app e) = norm (s.app e) := by
  obtain ⟨b, k, h⟩ := s
  cases k with
  | false => rfl
  | true =>
    show norm (St.app (norm ⟨b, true, h⟩) e) = norm ⟨b ++ e, true, h⟩
    rw [norm_true b h, norm_true (b ++ e) h]
    by_cases hb : endP b < b.length
    · have h1 := endP_app b e hb
      rw [if_pos hb, app_mk, norm_false, h1, if_pos (by rw [List.length_append]; omega), List.drop_append_of_le_length (by omega)]
    · have he := endP_le b
      have h1 := endP_app2 b e (by omega)
      rw [if_neg hb, app_mk, norm_true ([] ++ e) h, h1, List.nil_append]
      by_cases h2 : endP e < e.length
      · rw [if_pos h2, if_pos (by rw [List.length_append]; omega), Nat.add_assoc, drop_past]
      · rw [if_neg h2, if_neg (by rw [List.length_append]; omega)]
theorem norm_idem (s : St) : norm (norm s) = norm s := by
  have := norm_app s []
  simpa [St.app] using this
theorem endsP_app (b e : List UInt8) (k : Nat) (h : endsP b = some k) : endsP (b ++ e) = some k := by
  match b, h with
  | x :: t, h =>
    simp only [endsP, List.cons_append] at *
    split
    · simp_all
    · split
      · match t, h with
        | [], h => simp_all
        | y :: r, h => simp_all
      · simp_all
theorem endsP_le (b : List UInt8) (k : Nat) (h : endsP b = some k) : k ≤ b.length := by
  match b, h with
  | [x], h =>
    simp only [endsP] at h
    show k ≤ 1
    repeat' split at h
    all_goals first | (injection h with h; omega) | injection h
  | x :: y :: t, h =>
    simp only [endsP] at h
    show k ≤ t.length + 1 + 1
    repeat' split at h
    all_goals first | (injection h with h; omega) | injection h
theorem dataP_some (b e : List UInt8) (c c' : Cm) (n : Nat) (s : St) (h : dataP b c n = (some c', s)) : dataP (b ++ e) c n = (some c', s.app e) := by
  unfold dataP at *
  split at h
  · simp at h
  · rename_i hl
    rw [if_neg (by rw [List.length_append]; omega)]
    rw [List.drop_append_of_le_length (by omega)]
    cases hk : endsP (b.drop n) with
    | none => rw [hk] at h; simp at h
    | some k =>
      have hle := endsP_le _ _ hk
      rw [List.length_drop] at hle
      rw [endsP_app _ _ _ hk]
      rw [hk] at h
      cases k with
      | zero => simp only [Prod.mk.injEq] at *; obtain ⟨h1, rfl⟩ := h; exact ⟨h1, rfl⟩
      | succ k =>
        simp only [Prod.mk.injEq] at *
        obtain ⟨h1, rfl⟩ := h
        rw [List.take_append_of_le_length (by omega)]
        refine ⟨h1, ?_⟩
        rw [List.drop_append_of_le_length (by omega)]
        rfl
theorem dataP_none (b : List UInt8) (c : Cm) (n : Nat) (s : St) (h : dataP b c n = (none, s)) : s = ⟨b, false, some (c, n)⟩ := by
  unfold dataP at h
  split at h
  · simp at h; exact h.symm
  · split at h <;> simp at h
    exact h.symm
theorem cutP_len (l : List UInt8) : (cutP l).length = l.length ∨ (cutP l).length + 1 = l.length := by
  unfold cutP
  split
  · rename_i h
    cases l with
    | nil => simp at h
    | cons x t => right; simp
  · left; rfl
theorem last_take (b : List UInt8) (h : b ≠ []) : b.take 2049 = b ∨ 2049 < b.length := by
  by_cases h2 : 2049 < b.length
  · exact .inr h2
  · left; exact List.take_of_length_le (by omega)
/-- A line that is too long is so whatever comes. -/
theorem long_app (b e : List UInt8) (h : 2048 < (cutP b).length) : 2048 < (cutP (b ++ e)).length := by
  by_cases he : e = []
  · subst he; rwa [List.append_nil]
  · have h1 := cutP_len b
    have h2 := cutP_len (b ++ e)
    have h3 : 0 < e.length := List.length_pos_iff.2 he
    rw [List.length_append] at h2
    omega
/-- A Next that tells something tells the same with more behind it. -/
theorem goP_some (s t : St) (e : List UInt8) (c : Cm) (h : goP one s = (some c, t)) : ∃ u, nextP one (s.app e) = (some c, u) ∧ norm u = norm (t.app e) := by
  obtain ⟨b, k, o⟩ := s
  cases k with
  | true => simp [goP] at h
  | false =>
    have hn : nextP one (St.app ⟨b, false, o⟩ e) = goP one ⟨b ++ e, false, o⟩ := rfl
    rw [hn]
    simp only [goP, if_false, Bool.false_eq_true] at h ⊢
    cases o with
    | some p =>
      obtain ⟨c0, n⟩ := p
      simp only at h ⊢
      exact ⟨_, dataP_some _ e _ _ _ _ h, rfl⟩
    | none =>
      simp only [lineP] at h ⊢
      have hle := endP_le b
      by_cases hk : endP b < b.length
      · rw [endP_app b e hk, List.take_append_of_le_length (by omega), List.drop_append_of_le_length (by omega)]
        split at h
        · rename_i hl
          rw [if_pos hl, if_pos (by rw [List.length_append]; omega)]
          try rw [if_pos hk] at h
          simp only [Prod.mk.injEq] at h
          obtain ⟨h1, rfl⟩ := h
          exact ⟨_, by rw [h1]; rfl, rfl⟩
        · rename_i hl
          rw [if_neg hl, if_neg (by rw [List.length_append]; omega)]
          rw [if_neg (by omega)] at h
          cases ho : one (cutP (b.take (endP b))) with
          | mk c1 n1 =>
            rw [ho] at h
            cases n1 with
            | none =>
              simp only [Prod.mk.injEq] at h ⊢
              obtain ⟨h1, rfl⟩ := h
              exact ⟨_, ⟨h1, rfl⟩, rfl⟩
            | some n =>
              simp only at h ⊢
              exact ⟨_, dataP_some _ e _ _ _ _ h, rfl⟩
      · have hk2 : endP b = b.length := by omega
        rw [hk2, List.take_length] at h
        split at h
        · rename_i hl
          rw [if_neg (by omega)] at h
          simp only [Prod.mk.injEq] at h
          obtain ⟨h1, rfl⟩ := h
          have hb2 := endP_app2 b e hk2
          have hle2 := endP_le (b ++ e)
          have htk : List.take (endP (b ++ e)) (b ++ e) = b ++ e.take (endP e) := by
            rw [hb2, List.take_append]
            rw [List.take_of_length_le (by omega), Nat.add_sub_cancel_left]
          rw [htk, if_pos (long_app _ _ hl)]
          rw [List.length_append] at hle2 ⊢
          rw [hb2] at hle2 ⊢
          by_cases h2 : endP e < e.length
          · rw [if_pos (by omega)]
            refine ⟨_, by rw [h1], ?_⟩
            rw [app_mk, norm_true, List.nil_append, if_pos h2, norm_false, Nat.add_assoc, drop_past]
          · rw [if_neg (by omega)]
            refine ⟨_, by rw [h1], ?_⟩
            rw [app_mk, norm_true ([] ++ e) none, List.nil_append, if_neg h2]
            rfl
        · simp at h
theorem nextP_some (s t : St) (e : List UInt8) (c : Cm) (h : nextP one s = (some c, t)) : ∃ u, nextP one (s.app e) = (some c, u) ∧ norm u = norm (t.app e) := by
  obtain ⟨u, h1, h2⟩ := goP_some one (norm s) t e c h
  refine ⟨u, ?_, h2⟩
  rw [← h1]
  unfold nextP
  rw [norm_app]
/-- A Next that tells nothing may as well not have been asked. -/
theorem nextP_none (s t : St) (e : List UInt8) (h : nextP one s = (none, t)) : nextP one (s.app e) = nextP one (t.app e) := by
  have key : ∀ s t : St, goP one s = (none, t) → nextP one (s.app e) = nextP one (t.app e) := by
    intro s t h
    obtain ⟨b, k, o⟩ := s
    cases k with
    | true => simp [goP] at h; rw [h]
    | false =>
      simp only [goP, if_false, Bool.false_eq_true] at h
      cases o with
      | some p =>
        obtain ⟨c0, n⟩ := p
        simp only at h
        rw [dataP_none _ _ _ _ h]
      | none =>
        simp only [lineP] at h
        split at h
        · simp at h
        · split at h
          · simp at h; rw [h]
          · rename_i hl hk
            have hle := endP_le b
            have hk' : endP b < b.length := by omega
            cases ho : one (cutP (b.take (endP b))) with
            | mk c1 n1 =>
              rw [ho] at h
              cases n1 with
              | none => simp at h
              | some n =>
                simp only at h
                rw [dataP_none _ _ _ _ h]
                show goP one ⟨b ++ e, false, none⟩ = goP one ⟨b.drop (endP b + 1) ++ e, false, some (c1, n)⟩
                simp only [goP, if_false, Bool.false_eq_true, lineP]
                rw [endP_app b e hk', List.take_append_of_le_length (by omega), List.drop_append_of_le_length (by omega), if_neg hl, if_neg (by rw [List.length_append]; omega), ho]
  have := key (norm s) t h
  rw [← this]
  unfold nextP
  rw [norm_app]
theorem nextP_norm (s t : St) (h : norm s = norm t) : nextP one s = nextP one t := by unfold nextP; rw [h]

/-- What is yet to come, at most. -/
def St.size (s : St) : Nat := s.b.length + (if s.hold.isSome then 1 else 0)
theorem norm_size (s : St) : (norm s).size ≤ s.size := by
  obtain ⟨b, k, o⟩ := s
  unfold norm St.size
  split
  · split
    · simp only [List.length_drop]; omega
    · simp only [List.length_nil]; omega
  · exact Nat.le_refl _
theorem dataP_size (b : List UInt8) (c : Cm) (n : Nat) : (dataP b c n).2.size + (if (dataP b c n).1.isSome then 1 else 0) ≤ b.length + 1 := by
  unfold dataP
  split
  · simp [St.size]
  · cases hk : endsP (b.drop n) with
    | none => simp [St.size]
    | some k =>
      cases k with
      | zero => simp only [St.size, List.length_drop]; simp
      | succ k => simp only [St.size, List.length_drop]; simp
theorem nextP_size (s : St) : (nextP one s).2.size + (if (nextP one s).1.isSome then 1 else 0) ≤ s.size := by
  have h0 := norm_size s
  refine Nat.le_trans ?_ h0
  unfold nextP
  generalize norm s = s
  obtain ⟨b, k, o⟩ := s
  cases k with
  | true => simp [goP]
  | false =>
    simp only [goP, if_false, Bool.false_eq_true]
    cases o with
    | some p =>
      have := dataP_size b p.1 p.2
      simpa [St.size] using this
    | none =>
      simp only [lineP]
      have hle := endP_le b
      split
      · rename_i hl
        have h1 := cutP_len (b.take (endP b))
        rw [List.length_take] at h1
        split
        · simp only [St.size, List.length_drop]; simp; omega
        · simp only [St.size]; simp; omega
      · split
        · simp [St.size]
        · rename_i hk
          cases ho : one (cutP (b.take (endP b))) with
          | mk c1 n1 =>
            cases n1 with
            | none => simp only [St.size, List.length_drop]; simp; omega
            | some n =>
              have := dataP_size (b.drop (endP b + 1)) c1 n
              rw [List.length_drop] at this
              simp only [St.size] at this ⊢
              simp at this ⊢
              omega
/-- What is told until nothing is told: of at most f Nexts. -/
def runP : Nat → St → List Cm × St
  | 0, s => ([], s)
  | f + 1, s => match nextP one s with
    | (some c, t) => (c :: (runP f t).1, (runP f t).2)
    | (none, t) => ([], t)
theorem app_size (s : St) (e : List UInt8) : (s.app e).size = s.size + e.length := by
  show (s.b ++ e).length + (if s.hold.isSome then 1 else 0) = s.b.length + (if s.hold.isSome then 1 else 0) + e.length
  rw [List.length_append]
  generalize (if s.hold.isSome = true then 1 else 0) = z
  omega
theorem run_some {s t : St} {c : Cm} (f : Nat) (h : nextP one s = (some c, t)) : runP one (f + 1) s = (c :: (runP one f t).1, (runP one f t).2) := by
  rw [runP, h]
theorem run_none {s t : St} (f : Nat) (h : nextP one s = (none, t)) : runP one (f + 1) s = ([], t) := by
  rw [runP, h]
theorem run_norm {s t : St} (f : Nat) (h : norm s = norm t) : (runP one f s).1 = (runP one f t).1 := by
  cases f with
  | zero => rfl
  | succ f => rw [runP, runP, nextP_norm one s t h]
theorem run_fuel (f : Nat) : ∀ (g : Nat) (s : St), s.size < f → s.size < g → runP one f s = runP one g s := by
  induction f with
  | zero => intro g s h; omega
  | succ f ih =>
    intro g s hf hg
    obtain ⟨g, rfl⟩ : ∃ g', g = g' + 1 := ⟨g - 1, by omega⟩
    have hz := nextP_size one s
    cases h : nextP one s with
    | mk o t =>
      rw [h] at hz
      cases o with
      | none => rw [run_none one f h, run_none one g h]
      | some c =>
        simp at hz
        rw [run_some one f h, run_some one g h, ih g t (by omega) (by omega)]
/-- However the bytes are cut, the commands are the same. -/
theorem runP_app (f : Nat) : ∀ (s : St) (e : List UInt8) (g : Nat), s.size + e.length < f → s.size + e.length < g → (runP one f (s.app e)).1 = (runP one f s).1 ++ (runP one g ((runP one f s).2.app e)).1 := by
  induction f with
  | zero => intro s e g h; omega
  | succ f ih =>
    intro s e g hf hg
    have hz := nextP_size one s
    cases h : nextP one s with
    | mk o t =>
      rw [h] at hz
      cases o with
      | none =>
        simp at hz
        rw [run_none one f h, List.nil_append]
        show (runP one (f + 1) (s.app e)).1 = (runP one g (t.app e)).1
        have h1 := nextP_none one s t e h
        rw [run_fuel one g (f + 1) (t.app e) (by rw [app_size]; omega) (by rw [app_size]; omega)]
        rw [runP, runP, h1]
      | some c =>
        simp at hz
        obtain ⟨u, h1, h2⟩ := nextP_some one s t e c h
        rw [run_some one f h, run_some one f h1]
        show c :: (runP one f u).1 = (c :: (runP one f t).1) ++ _
        rw [run_norm one f h2, ih t e g (by omega) (by omega)]
        rfl
/-- How many are told. -/
theorem run_len (f : Nat) : ∀ s : St, (runP one f s).1.length + (runP one f s).2.size ≤ s.size ∧ (s.size < f → (nextP one (runP one f s).2).1 = none → True) := by
  induction f with
  | zero => intro s; exact ⟨by simp [runP], fun _ _ => trivial⟩
  | succ f ih =>
    intro s
    refine ⟨?_, fun _ _ => trivial⟩
    have hz := nextP_size one s
    cases h : nextP one s with
    | mk o t =>
      rw [h] at hz
      cases o with
      | none => rw [run_none one f h]; simpa using hz
      | some c =>
        have := (ih t).1
        rw [run_some one f h]
        simp at hz ⊢
        omega
end Go.Proofs.Ytmfjaehajdephab
