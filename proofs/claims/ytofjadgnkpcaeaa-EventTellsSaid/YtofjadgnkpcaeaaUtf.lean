/-
  Plain arithmetic on lists of bytes: the rune that a text begins with; the pieces of a text, rune by rune; where two texts are put together.
-/
import Derived.WalkKit
import Derived.Lib.RuneBytes
namespace Go.Proofs.Ytofjadgnkpcaeaa
set_option linter.unusedVariables false
set_option linter.unusedSimpArgs false

/-- k bytes that go on a rune, six bits each, behind v. -/
def scan : Nat → List UInt8 → Nat → Option Nat
  | 0, _, v => some v
  | _ + 1, [], _ => none
  | k + 1, b :: t, v => if b.toNat / 64 = 2 then scan k t (v * 64 + b.toNat % 64) else none

/-- A rune of n + 1 bytes whose first one gives v: it, its width; -1 and 1: none. -/
def fin8 (n lo v : Nat) (t : List UInt8) : Int × Nat :=
  match scan n t v with
  | none => (-1, 1)
  | some x => if x < lo ∨ 1114111 < x ∨ (55296 ≤ x ∧ x < 57344) then (-1, 1) else (x, n + 1)

/-- The rune that a text begins with (document, chapter 2): it, its bytes; -1 and 1: it is none that is well formed. -/
def dec : List UInt8 → Int × Nat
  | [] => (-1, 1)
  | a :: t =>
    if a.toNat < 128 then (a.toNat, 1)
    else if 194 ≤ a.toNat ∧ a.toNat < 224 then fin8 1 128 (a.toNat % 32) t
    else if 224 ≤ a.toNat ∧ a.toNat < 240 then fin8 2 2048 (a.toNat % 16) t
    else if 240 ≤ a.toNat ∧ a.toNat < 245 then fin8 3 65536 (a.toNat % 8) t
    else (-1, 1)

theorem get8 (s : ByteArray) (i k : Nat) (l : List UInt8) (h : s.data.toList.drop i = l) : s.get! (i + k) = l[k]?.getD 0 := by
  subst h
  rw [List.getElem?_drop]
  have : s.get! (i + k) = s.data[i + k]! := rfl
  rw [this]
  by_cases h : i + k < s.data.size
  · rw [getElem!_pos s.data (i + k) h, Array.getElem?_toList, Array.getElem?_eq_getElem h]; rfl
  · rw [getElem!_neg s.data (i + k) h, Array.getElem?_toList, Array.getElem?_eq_none (by omega)]; rfl

theorem size8 (s : ByteArray) : s.data.toList.length = s.size := rfl

set_option maxHeartbeats 4000000 in
theorem decode_dec (s : ByteArray) (i : Nat) (h : i < s.size) :
    Utf8.decode s i = (if (dec (s.data.toList.drop i)).1 < 0 then 65533 else (dec (s.data.toList.drop i)).1.toNat, (dec (s.data.toList.drop i)).2) := by
  have hl : (s.data.toList.drop i).length = s.size - i := by rw [List.length_drop, size8]
  have hg := fun k => get8 s i k _ rfl
  generalize s.data.toList.drop i = l at hl hg
  have hc : ∀ k, decide (i + k < s.size) = decide (k < l.length) := by
    intro k
    by_cases hk : k < l.length
    · have h2 : i + k < s.size := by omega
      simp only [hk, h2]
    · have h2 : ¬ i + k < s.size := by omega
      simp only [hk, h2]
  simp only [Utf8.decode, hc, hg, Utf8.runeError, Utf8.valid]
  clear hc hg
  match l, hl with
  | [], hl => simp at hl; omega
  | [a], _ =>
    have ha := a.toNat_lt
    generalize hx : a.toNat = x at ha
    simp only [dec, fin8, scan, hx, List.length_cons, List.length_nil, List.getElem?_cons_zero, Option.getD_some]
    by_cases h1 : x < 128
    · simp [h1]; omega
    · simp [h1]
      repeat' split
      all_goals first | rfl | omega
  | [a, b], _ =>
    have ha := a.toNat_lt
    have hb := b.toNat_lt
    generalize hx : a.toNat = x at ha
    generalize hy : b.toNat = y at hb
    simp only [dec, fin8, scan, hx, hy, List.length_cons, List.length_nil, List.getElem?_cons_zero, List.getElem?_cons_succ, Option.getD_some]
    by_cases h1 : x < 128
    · simp [h1]; omega
    · by_cases c1 : y / 64 = 2
      · simp [h1, c1]
        repeat' split
        all_goals first | rfl | omega | (simp; omega) | (simp at *; omega)
      · simp [h1, c1]
        repeat' split
        all_goals first | rfl | omega
  | [a, b, c], _ =>
    have ha := a.toNat_lt
    have hb := b.toNat_lt
    have hc := c.toNat_lt
    generalize hx : a.toNat = x at ha
    generalize hy : b.toNat = y at hb
    generalize hz : c.toNat = z at hc
    simp only [dec, fin8, scan, hx, hy, hz, List.length_cons, List.length_nil, List.getElem?_cons_zero, List.getElem?_cons_succ, Option.getD_some]
    by_cases h1 : x < 128
    · simp [h1]; omega
    · by_cases c1 : y / 64 = 2
      · by_cases c2 : z / 64 = 2
        · simp [h1, c1, c2]
          repeat' split
          all_goals first | rfl | omega | (simp; omega) | (simp at *; omega)
        · simp [h1, c1, c2]
          repeat' split
          all_goals first | rfl | omega | (simp; omega) | (simp at *; omega)
      · simp [h1, c1]
        repeat' split
        all_goals first | rfl | omega
  | a :: b :: c :: d :: t, _ =>
    have ha := a.toNat_lt
    have hb := b.toNat_lt
    have hc := c.toNat_lt
    have hd := d.toNat_lt
    generalize hx : a.toNat = x at ha
    generalize hy : b.toNat = y at hb
    generalize hz : c.toNat = z at hc
    generalize hu : d.toNat = u at hd
    simp only [dec, fin8, scan, hx, hy, hz, hu, List.length_cons, List.length_nil, List.getElem?_cons_zero, List.getElem?_cons_succ, Option.getD_some]
    by_cases h1 : x < 128
    · simp [h1]; omega
    · by_cases c1 : y / 64 = 2
      · by_cases c2 : z / 64 = 2
        · by_cases c3 : u / 64 = 2
          · simp [h1, c1, c2, c3]
            repeat' split
            all_goals first | rfl | omega | (simp; omega) | (simp at *; omega)
          · simp [h1, c1, c2, c3]
            repeat' split
            all_goals first | rfl | omega | (simp; omega) | (simp at *; omega)
        · simp [h1, c1, c2]
          repeat' split
          all_goals first | rfl | omega | (simp; omega) | (simp at *; omega)
      · simp [h1, c1]
        repeat' split
        all_goals first | rfl | omega

theorem scan_succ {k : Nat} {t : List UInt8} {v x : Nat} (h : scan (k + 1) t v = some x) : ∃ b t', t = b :: t' ∧ b.toNat / 64 = 2 ∧ scan k t' (v * 64 + b.toNat % 64) = some x := by
  cases t with
  | nil => simp [scan] at h
  | cons b t' =>
    simp only [scan] at h
    split at h
    · exact ⟨b, t', rfl, by assumption, h⟩
    · simp at h

theorem scan_append {n : Nat} : ∀ {t : List UInt8} {v x : Nat} (m : List UInt8), scan n t v = some x → scan n (t ++ m) v = some x := by
  induction n with
  | zero => intro t v x m h; exact h
  | succ n ih =>
    intro t v x m h
    obtain ⟨b, t', rfl, hb, h'⟩ := scan_succ h
    simp only [List.cons_append, scan, hb, if_true]
    exact ih m h'

theorem scan_len {n : Nat} : ∀ {t : List UInt8} {v x : Nat}, scan n t v = some x → n ≤ t.length := by
  induction n with
  | zero => intro t v x h; exact Nat.zero_le _
  | succ n ih =>
    intro t v x h
    obtain ⟨b, t', rfl, hb, h'⟩ := scan_succ h
    have := ih h'
    simp; omega

/-- The bytes that go on a rune are 128 and above. -/
theorem scan_high {n : Nat} : ∀ {t : List UInt8} {v x : Nat}, scan n t v = some x → ∀ b ∈ t.take n, 128 ≤ b.toNat := by
  induction n with
  | zero => intro t v x h b hb; simp at hb
  | succ n ih =>
    intro t v x h b hb
    obtain ⟨c, t', rfl, hc, h'⟩ := scan_succ h
    simp at hb
    rcases hb with rfl | hb
    · omega
    · exact ih h' b hb

theorem fin8_cases (n lo v : Nat) (t : List UInt8) : fin8 n lo v t = (-1, 1) ∨ ∃ x, scan n t v = some x ∧ ¬ (x < lo ∨ 1114111 < x ∨ (55296 ≤ x ∧ x < 57344)) ∧ fin8 n lo v t = ((x : Int), n + 1) := by
  unfold fin8
  split
  · exact .inl rfl
  · rename_i x hx
    split
    · exact .inl rfl
    · exact .inr ⟨x, hx, by assumption, rfl⟩

theorem fin8_append {n lo v : Nat} {t : List UInt8} (m : List UInt8) (h : 0 ≤ (fin8 n lo v t).1) : fin8 n lo v (t ++ m) = fin8 n lo v t := by
  rcases fin8_cases n lo v t with h1 | ⟨x, hx, hr, h1⟩
  · rw [h1] at h; simp at h
  · rw [h1]
    unfold fin8
    rw [scan_append m hx]
    simp [hr]

/-- A text's head: one byte below 128; a rune of n + 1 bytes that is well formed; or none. -/
theorem dec_cases (a : UInt8) (t : List UInt8) :
    (a.toNat < 128 ∧ dec (a :: t) = ((a.toNat : Int), 1)) ∨ (128 ≤ a.toNat ∧ dec (a :: t) = (-1, 1)) ∨
    (∃ n lo v x, 194 ≤ a.toNat ∧ ((n = 1 ∧ lo = 128 ∧ v = a.toNat % 32 ∧ a.toNat < 224) ∨ (n = 2 ∧ lo = 2048 ∧ v = a.toNat % 16 ∧ 224 ≤ a.toNat ∧ a.toNat < 240) ∨ (n = 3 ∧ lo = 65536 ∧ v = a.toNat % 8 ∧ 240 ≤ a.toNat ∧ a.toNat < 245)) ∧ scan n t v = some x ∧ ¬ (x < lo ∨ 1114111 < x ∨ (55296 ≤ x ∧ x < 57344)) ∧ dec (a :: t) = ((x : Int), n + 1)) := by
  by_cases h0 : a.toNat < 128
  · exact .inl ⟨h0, by simp [dec, h0]⟩
  · by_cases h1 : 194 ≤ a.toNat ∧ a.toNat < 224
    · have e : dec (a :: t) = fin8 1 128 (a.toNat % 32) t := by simp [dec, h0, h1]
      rcases fin8_cases 1 128 (a.toNat % 32) t with h | ⟨x, hx, hr, h⟩
      · exact .inr (.inl ⟨by omega, e.trans h⟩)
      · exact .inr (.inr ⟨1, 128, _, x, by omega, .inl ⟨rfl, rfl, rfl, h1.2⟩, hx, hr, e.trans h⟩)
    · by_cases h2 : 224 ≤ a.toNat ∧ a.toNat < 240
      · have e : dec (a :: t) = fin8 2 2048 (a.toNat % 16) t := by simp only [dec, if_neg h0, if_neg h1, if_pos h2]
        rcases fin8_cases 2 2048 (a.toNat % 16) t with h | ⟨x, hx, hr, h⟩
        · exact .inr (.inl ⟨by omega, e.trans h⟩)
        · exact .inr (.inr ⟨2, 2048, _, x, by omega, .inr (.inl ⟨rfl, rfl, rfl, h2.1, h2.2⟩), hx, hr, e.trans h⟩)
      · by_cases h3 : 240 ≤ a.toNat ∧ a.toNat < 245
        · have e : dec (a :: t) = fin8 3 65536 (a.toNat % 8) t := by simp only [dec, if_neg h0, if_neg h1, if_neg h2, if_pos h3]
          rcases fin8_cases 3 65536 (a.toNat % 8) t with h | ⟨x, hx, hr, h⟩
          · exact .inr (.inl ⟨by omega, e.trans h⟩)
          · exact .inr (.inr ⟨3, 65536, _, x, by omega, .inr (.inr ⟨rfl, rfl, rfl, h3.1, h3.2⟩), hx, hr, e.trans h⟩)
        · exact .inr (.inl ⟨by omega, by simp only [dec, if_neg h0, if_neg h1, if_neg h2, if_neg h3]⟩)

theorem dec_width (l : List UInt8) (h : l ≠ []) : 1 ≤ (dec l).2 ∧ (dec l).2 ≤ l.length := by
  cases l with
  | nil => exact absurd rfl h
  | cons a t =>
    rcases dec_cases a t with ⟨_, e⟩ | ⟨_, e⟩ | ⟨n, lo, v, x, _, _, hx, _, e⟩
    · rw [e]; simp
    · rw [e]; simp
    · rw [e]
      have := scan_len hx
      simp; omega

theorem dec_bad (l : List UInt8) (h : (dec l).1 < 0) : dec l = (-1, 1) := by
  cases l with
  | nil => rfl
  | cons a t =>
    rcases dec_cases a t with ⟨_, e⟩ | ⟨_, e⟩ | ⟨n, lo, v, x, _, _, hx, _, e⟩
    · rw [e] at h; simp at h; omega
    · exact e
    · rw [e] at h; simp at h; omega

theorem dec_le (l : List UInt8) : (dec l).1 ≤ 1114111 := by
  cases l with
  | nil => decide
  | cons a t =>
    rcases dec_cases a t with ⟨h0, e⟩ | ⟨_, e⟩ | ⟨n, lo, v, x, _, _, hx, hr, e⟩
    · rw [e]; simp; omega
    · rw [e]; decide
    · rw [e]; simp; omega

theorem dec_append (l m : List UInt8) (h : 0 ≤ (dec l).1) : dec (l ++ m) = dec l := by
  cases l with
  | nil => simp [dec] at h
  | cons a t =>
    simp only [List.cons_append]
    by_cases h0 : a.toNat < 128
    · simp [dec, h0]
    · simp only [dec, if_neg h0] at h ⊢
      split
      · rename_i h1
        rw [if_pos h1] at h
        exact fin8_append m h
      · rename_i h1
        rw [if_neg h1] at h
        split
        · rename_i h2
          rw [if_pos h2] at h
          exact fin8_append m h
        · rename_i h2
          rw [if_neg h2] at h
          split
          · rename_i h3
            rw [if_pos h3] at h
            exact fin8_append m h
          · rename_i h3
            rw [if_neg h3] at h

theorem byte_eq (b : UInt8) (z : Int) (h : z = b.toNat) : z.toNat.toUInt8 = b := by
  subst h
  simp

/-- The bytes of a rune that is well formed are the rune's own form. -/
theorem dec_encode (l : List UInt8) (h : 0 ≤ (dec l).1) : l.take (dec l).2 = Lib.encodeRune (dec l).1 := by
  cases l with
  | nil => simp [dec] at h
  | cons a t =>
    rcases dec_cases a t with ⟨h0, e⟩ | ⟨_, e⟩ | ⟨n, lo, v, x, h194, hk, hx, hr, e⟩
    · rw [e]
      simp only [Lib.encodeRune, List.take_succ_cons, List.take_zero]
      rw [Lib.encodeRuneZ_one (by omega) (by omega)]
      simp
    · rw [e] at h; simp at h
    · rw [e]
      simp only [Lib.encodeRune]
      have ha := a.toNat_lt
      rcases hk with ⟨rfl, rfl, rfl, h1⟩ | ⟨rfl, rfl, rfl, h1, h2⟩ | ⟨rfl, rfl, rfl, h1, h2⟩
      · obtain ⟨b, t', rfl, hb, hx⟩ := scan_succ hx
        simp only [scan, Option.some.injEq] at hx
        have hbl := b.toNat_lt
        rw [Lib.encodeRuneZ_two (by omega) (by omega)]
        simp only [List.take_succ_cons, List.take_zero, List.map_cons, List.map_nil]
        rw [byte_eq a _ (by omega), byte_eq b _ (by omega)]
      · obtain ⟨b, t', rfl, hb, hx⟩ := scan_succ hx
        obtain ⟨c, t'', rfl, hc, hx⟩ := scan_succ hx
        simp only [scan, Option.some.injEq] at hx
        have hbl := b.toNat_lt
        have hcl := c.toNat_lt
        rw [Lib.encodeRuneZ_three (by omega)]
        simp only [List.take_succ_cons, List.take_zero, List.map_cons, List.map_nil]
        rw [byte_eq a _ (by omega), byte_eq b _ (by omega), byte_eq c _ (by omega)]
      · obtain ⟨b, t', rfl, hb, hx⟩ := scan_succ hx
        obtain ⟨c, t'', rfl, hc, hx⟩ := scan_succ hx
        obtain ⟨d, t3, rfl, hd, hx⟩ := scan_succ hx
        simp only [scan, Option.some.injEq] at hx
        have hbl := b.toNat_lt
        have hcl := c.toNat_lt
        have hdl := d.toNat_lt
        rw [Lib.encodeRuneZ_four (by omega) (by omega)]
        simp only [List.take_succ_cons, List.take_zero, List.map_cons, List.map_nil]
        rw [byte_eq a _ (by omega), byte_eq b _ (by omega), byte_eq c _ (by omega), byte_eq d _ (by omega)]

/-- A head of 128 and above: its rune is none or 128 and above, all its bytes are 128 and above. -/
theorem dec_high (a : UInt8) (t : List UInt8) (h : 128 ≤ a.toNat) : ((dec (a :: t)).1 = -1 ∨ 128 ≤ (dec (a :: t)).1) ∧ ∀ b ∈ (a :: t).take (dec (a :: t)).2, 128 ≤ b.toNat := by
  rcases dec_cases a t with ⟨h0, e⟩ | ⟨_, e⟩ | ⟨n, lo, v, x, h194, hk, hx, hr, e⟩
  · omega
  · rw [e]
    refine ⟨.inl rfl, fun b hb => ?_⟩
    simp at hb
    subst hb
    exact h
  · rw [e]
    refine ⟨.inr ?_, fun b hb => ?_⟩
    · rcases hk with ⟨rfl, rfl, rfl, h1⟩ | ⟨rfl, rfl, rfl, h1, h2⟩ | ⟨rfl, rfl, rfl, h1, h2⟩ <;> simp <;> omega
    · simp only [List.take_succ_cons, List.mem_cons] at hb
      rcases hb with rfl | hb
      · exact h
      · exact scan_high hx b hb

theorem dec_low (a : UInt8) (t : List UInt8) (h : a.toNat < 128) : dec (a :: t) = ((a.toNat : Int), 1) := by simp [dec, h]

theorem dec_fffd (t : List UInt8) : dec (239 :: 191 :: 189 :: t) = (65533, 3) := rfl

/-- The pieces of a text: each rune (-1: none) with its bytes. -/
def ps : Nat → List UInt8 → List (Int × List UInt8)
  | 0, _ => []
  | _ + 1, [] => []
  | f + 1, a :: t => ((dec (a :: t)).1, (a :: t).take (dec (a :: t)).2) :: ps f ((a :: t).drop (dec (a :: t)).2)
def pieces (l : List UInt8) : List (Int × List UInt8) := ps l.length l

theorem ps_fuel (f : Nat) : ∀ (g : Nat) (l : List UInt8), l.length ≤ f → l.length ≤ g → ps f l = ps g l := by
  induction f with
  | zero =>
    intro g l h1 h2
    obtain rfl : l = [] := by cases l <;> simp_all
    cases g <;> rfl
  | succ f ih =>
    intro g l h1 h2
    cases l with
    | nil => cases g <;> rfl
    | cons a t =>
      cases g with
      | zero => simp at h2
      | succ g =>
        have hw := dec_width (a :: t) (by simp)
        simp only [ps]
        rw [ih g _ (by simp at h1 ⊢; omega) (by simp at h2 ⊢; omega)]

theorem pieces_nil : pieces [] = [] := rfl
theorem pieces_cons (l : List UInt8) (h : l ≠ []) : pieces l = ((dec l).1, l.take (dec l).2) :: pieces (l.drop (dec l).2) := by
  cases l with
  | nil => exact absurd rfl h
  | cons a t =>
    have hw := dec_width (a :: t) (by simp)
    unfold pieces
    simp only [List.length_cons, ps]
    rw [ps_fuel t.length _ _ (by simp; omega) (Nat.le_refl _)]

/-- Two texts put together, the first of them well formed. -/
theorem pieces_append (n : Nat) : ∀ (a b : List UInt8), a.length ≤ n → (∀ p ∈ pieces a, 0 ≤ p.1) → pieces (a ++ b) = pieces a ++ pieces b := by
  induction n with
  | zero =>
    intro a b h _
    obtain rfl : a = [] := by cases a <;> simp_all
    rfl
  | succ n ih =>
    intro a b h hall
    by_cases ha : a = []
    · subst ha; rfl
    · have hw := dec_width a ha
      have hp := pieces_cons a ha
      have h0 : 0 ≤ (dec a).1 := hall ((dec a).1, a.take (dec a).2) (by rw [hp]; simp)
      rw [pieces_cons (a ++ b) (by simp [ha]), dec_append a b h0, hp, List.take_append_of_le_length hw.2, List.drop_append_of_le_length hw.2]
      rw [ih (a.drop (dec a).2) b (by simp; omega) (fun p hp' => hall p (by rw [hp]; exact List.mem_cons_of_mem _ hp'))]
      rfl

/-- The pieces' bytes are the text's. -/
theorem pieces_bytes (n : Nat) : ∀ (l : List UInt8), l.length ≤ n → (pieces l).flatMap (·.2) = l := by
  induction n with
  | zero => intro l h; obtain rfl : l = [] := by cases l <;> simp_all
            rfl
  | succ n ih =>
    intro l h
    by_cases hl : l = []
    · subst hl; rfl
    · have hw := dec_width l hl
      rw [pieces_cons l hl, List.flatMap_cons, ih _ (by simp; omega)]
      exact List.take_append_drop _ _
end Go.Proofs.Ytofjadgnkpcaeaa
