/- Texts joined. -/
import Derived.WalkKit
import Derived.Lib.RuneBytes
import Derived.Test.YtmfjaehajdephabSh
import Derived.BigCall
import Derived.Lib.AppendIntMem
import Derived.Lib.Walk
import Derived.BigGuard
/-
  Plain arithmetic on lists of bytes: the rune that a text begins with; the pieces of a text, rune by rune; where two texts are put together.
-/
namespace Go.Proofs.Ytmfjaehajdephab
set_option linter.unusedVariables false
set_option linter.unusedSimpArgs false

/-- k bytes that go on a rune, six bits each, behind v. -/
def scan : Nat → List UInt8 → Nat → Option Nat
  | 0, _, v => some v
  | _ + 1, [], _ => none
  | k + 1, b :: t, v => if b.toNat / 64 = 2 then scan k t (v * 64 + b.toNat % 64) else none

/-- A rune of n + 1 bytes whose first one gives v: it, its width; -1 and 1: none. -/
def fin8 (n lo v : Nat) (t : List UInt8) : Int × Nat :=
  match scan n t v with
  | none => (-1, 1)
  | some x => if x < lo ∨ 1114111 < x ∨ (55296 ≤ x ∧ x < 57344) then (-1, 1) else (x, n + 1)

/-- The rune that a text begins with (document, chapter 2): it, its bytes; -1 and 1: it is none that is well formed. -/
def dec : List UInt8 → Int × Nat
  | [] => (-1, 1)
  | a :: t =>
    if a.toNat < 128 then (a.toNat, 1)
    else if 194 ≤ a.toNat ∧ a.toNat < 224 then fin8 1 128 (a.toNat % 32) t
    else if 224 ≤ a.toNat ∧ a.toNat < 240 then fin8 2 2048 (a.toNat % 16) t
    else if 240 ≤ a.toNat ∧ a.toNat < 245 then fin8 3 65536 (a.toNat % 8) t
    else (-1, 1)

theorem get8 (s : ByteArray) (i k : Nat) (l : List UInt8) (h : s.data.toList.drop i = l) : s.get! (i + k) = l[k]?.getD 0 := by
  subst h
  rw [List.getElem?_drop]
  have : s.get! (i + k) = s.data[i + k]! := rfl
  rw [this]
  by_cases h : i + k < s.data.size
  · rw [getElem!_pos s.data (i + k) h, Array.getElem?_toList, Array.getElem?_eq_getElem h]; rfl
  · rw [getElem!_neg s.data (i + k) h, Array.getElem?_toList, Array.getElem?_eq_none (by omega)]; rfl

theorem size8 (s : ByteArray) : s.data.toList.length = s.size := rfl

set_option maxHeartbeats 4000000 in
theorem decode_dec (s : ByteArray) (i : Nat) (h : i < s.size) :
    Utf8.decode s i = (if (dec (s.data.toList.drop i)).1 < 0 then 65533 else (dec (s.data.toList.drop i)).1.toNat, (dec (s.data.toList.drop i)).2) := by
  have hl : (s.data.toList.drop i).length = s.size - i := by rw [List.length_drop, size8]
  have hg := fun k => get8 s i k _ rfl
  generalize s.data.toList.drop i = l at hl hg
  have hc : ∀ k, decide (i + k < s.size) = decide (k < l.length) := by
    intro k
    by_cases hk : k < l.length
    · have h2 : i + k < s.size := by omega
      simp only [hk, h2]
    · have h2 : ¬ i + k < s.size := by omega
      simp only [hk, h2]
  simp only [Utf8.decode, hc, hg, Utf8.runeError, Utf8.valid]
  clear hc hg
  match l, hl with
  | [], hl => simp at hl; omega
  | [a], _ =>
    have ha := a.toNat_lt
    generalize hx : a.toNat = x at ha
    simp only [dec, fin8, scan, hx, List.length_cons, List.length_nil, List.getElem?_cons_zero, Option.getD_some]
    by_cases h1 : x < 128
    · simp [h1]; omega
    · simp [h1]
      repeat' split
      all_goals first | rfl | omega
  | [a, b], _ =>
    have ha := a.toNat_lt
    have hb := b.toNat_lt
    generalize hx : a.toNat = x at ha
    generalize hy : b.toNat = y at hb
    simp only [dec, fin8, scan, hx, hy, List.length_cons, List.length_nil, List.getElem?_cons_zero, List.getElem?_cons_succ, Option.getD_some]
    by_cases h1 : x < 128
    · simp [h1]; omega
    · by_cases c1 : y / 64 = 2
      · simp [h1, c1]
        repeat' split
        all_goals first | rfl | omega | (simp; omega) | (simp at *; omega)
      · simp [h1, c1]
        repeat' split
        all_goals first | rfl | omega
  | [a, b, c], _ =>
    have ha := a.toNat_lt
    have hb := b.toNat_lt
    have hc := c.toNat_lt
    generalize hx : a.toNat = x at ha
    generalize hy : b.toNat = y at hb
    generalize hz : c.toNat = z at hc
    simp only [dec, fin8, scan, hx, hy, hz, List.length_cons, List.length_nil, List.getElem?_cons_zero, List.getElem?_cons_succ, Option.getD_some]
    by_cases h1 : x < 128
    · simp [h1]; omega
    · by_cases c1 : y / 64 = 2
      · by_cases c2 : z / 64 = 2
        · simp [h1, c1, c2]
          repeat' split
          all_goals first | rfl | omega | (simp; omega) | (simp at *; omega)
        · simp [h1, c1, c2]
          repeat' split
          all_goals first | rfl | omega | (simp; omega) | (simp at *; omega)
      · simp [h1, c1]
        repeat' split
        all_goals first | rfl | omega
  | a :: b :: c :: d :: t, _ =>
    have ha := a.toNat_lt
    have hb := b.toNat_lt
    have hc := c.toNat_lt
    have hd := d.toNat_lt
    generalize hx : a.toNat = x at ha
    generalize hy : b.toNat = y at hb
    generalize hz : c.toNat = z at hc
    generalize hu : d.toNat = u at hd
    simp only [dec, fin8, scan, hx, hy, hz, hu, List.length_cons, List.length_nil, List.getElem?_cons_zero, List.getElem?_cons_succ, Option.getD_some]
    by_cases h1 : x < 128
    · simp [h1]; omega
    · by_cases c1 : y / 64 = 2
      · by_cases c2 : z / 64 = 2
        · by_cases c3 : u / 64 = 2
          · simp [h1, c1, c2, c3]
            repeat' split
            all_goals first | rfl | omega | (simp; omega) | (simp at *; omega)
          · simp [h1, c1, c2, c3]
            repeat' split
            all_goals first | rfl | omega | (simp; omega) | (simp at *; omega)
        · simp [h1, c1, c2]
          repeat' split
          all_goals first | rfl | omega | (simp; omega) | (simp at *; omega)
      · simp [h1, c1]
        repeat' split
        all_goals first | rfl | omega

theorem scan_succ {k : Nat} {t : List UInt8} {v x : Nat} (h : scan (k + 1) t v = some x) : ∃ b t', t = b :: t' ∧ b.toNat / 64 = 2 ∧ scan k t' (v * 64 + b.toNat % 64) = some x := by
  cases t with
  | nil => simp [scan] at h
  | cons b t' =>
    simp only [scan] at h
    split at h
    · exact ⟨b, t', rfl, by assumption, h⟩
    · simp at h

theorem scan_append {n : Nat} : ∀ {t : List UInt8} {v x : Nat} (m : List UInt8), scan n t v = some x → scan n (t ++ m) v = some x := by
  induction n with
  | zero => intro t v x m h; exact h
  | succ n ih =>
    intro t v x m h
    obtain ⟨b, t', rfl, hb, h'⟩ := scan_succ h
    simp only [List.cons_append, scan, hb, if_true]
    exact ih m h'

theorem scan_len {n : Nat} : ∀ {t : List UInt8} {v x : Nat}, scan n t v = some x → n ≤ t.length := by
  induction n with
  | zero => intro t v x h; exact Nat.zero_le _
  | succ n ih =>
    intro t v x h
    obtain ⟨b, t', rfl, hb, h'⟩ := scan_succ h
    have := ih h'
    simp; omega

/-- The bytes that go on a rune are 128 and above. -/
theorem scan_high {n : Nat} : ∀ {t : List UInt8} {v x : Nat}, scan n t v = some x → ∀ b ∈ t.take n, 128 ≤ b.toNat := by
  induction n with
  | zero => intro t v x h b hb; simp at hb
  | succ n ih =>
    intro t v x h b hb
    obtain ⟨c, t', rfl, hc, h'⟩ := scan_succ h
    simp at hb
    rcases hb with rfl | hb
    · omega
    · exact ih h' b hb

theorem fin8_cases (n lo v : Nat) (t : List UInt8) : fin8 n lo v t = (-1, 1) ∨ ∃ x, scan n t v = some x ∧ ¬ (x < lo ∨ 1114111 < x ∨ (55296 ≤ x ∧ x < 57344)) ∧ fin8 n lo v t = ((x : Int), n + 1) := by
  unfold fin8
  split
  · exact .inl rfl
  · rename_i x hx
    split
    · exact .inl rfl
    · exact .inr ⟨x, hx, by assumption, rfl⟩

theorem fin8_append {n lo v : Nat} {t : List UInt8} (m : List UInt8) (h : 0 ≤ (fin8 n lo v t).1) : fin8 n lo v (t ++ m) = fin8 n lo v t := by
  rcases fin8_cases n lo v t with h1 | ⟨x, hx, hr, h1⟩
  · rw [h1] at h; simp at h
  · rw [h1]
    unfold fin8
    rw [scan_append m hx]
    simp [hr]

/-- A text's head: one byte below 128; a rune of n + 1 bytes that is well formed; or none. -/
theorem dec_cases (a : UInt8) (t : List UInt8) :
    (a.toNat < 128 ∧ dec (a :: t) = ((a.toNat : Int), 1)) ∨ (128 ≤ a.toNat ∧ dec (a :: t) = (-1, 1)) ∨
    (∃ n lo v x, 194 ≤ a.toNat ∧ ((n = 1 ∧ lo = 128 ∧ v = a.toNat % 32 ∧ a.toNat < 224) ∨ (n = 2 ∧ lo = 2048 ∧ v = a.toNat % 16 ∧ 224 ≤ a.toNat ∧ a.toNat < 240) ∨ (n = 3 ∧ lo = 65536 ∧ v = a.toNat % 8 ∧ 240 ≤ a.toNat ∧ a.toNat < 245)) ∧ scan n t v = some x ∧ ¬ (x < lo ∨ 1114111 < x ∨ (55296 ≤ x ∧ x < 57344)) ∧ dec (a :: t) = ((x : Int), n + 1)) := by
  by_cases h0 : a.toNat < 128
  · exact .inl ⟨h0, by simp [dec, h0]⟩
  · by_cases h1 : 194 ≤ a.toNat ∧ a.toNat < 224
    · have e : dec (a :: t) = fin8 1 128 (a.toNat % 32) t := by simp [dec, h0, h1]
      rcases fin8_cases 1 128 (a.toNat % 32) t with h | ⟨x, hx, hr, h⟩
      · exact .inr (.inl ⟨by omega, e.trans h⟩)
      · exact .inr (.inr ⟨1, 128, _, x, by omega, .inl ⟨rfl, rfl, rfl, h1.2⟩, hx, hr, e.trans h⟩)
    · by_cases h2 : 224 ≤ a.toNat ∧ a.toNat < 240
      · have e : dec (a :: t) = fin8 2 2048 (a.toNat % 16) t := by simp only [dec, if_neg h0, if_neg h1, if_pos h2]
        rcases fin8_cases 2 2048 (a.toNat % 16) t with h | ⟨x, hx, hr, h⟩
        · exact .inr (.inl ⟨by omega, e.trans h⟩)
        · exact .inr (.inr ⟨2, 2048, _, x, by omega, .inr (.inl ⟨rfl, rfl, rfl, h2.1, h2.2⟩), hx, hr, e.trans h⟩)
      · by_cases h3 : 240 ≤ a.toNat ∧ a.toNat < 245
        · have e : dec (a :: t) = fin8 3 65536 (a.toNat % 8) t := by simp only [dec, if_neg h0, if_neg h1, if_neg h2, if_pos h3]
          rcases fin8_cases 3 65536 (a.toNat % 8) t with h | ⟨x, hx, hr, h⟩
          · exact .inr (.inl ⟨by omega, e.trans h⟩)
          · exact .inr (.inr ⟨3, 65536, _, x, by omega, .inr (.inr ⟨rfl, rfl, rfl, h3.1, h3.2⟩), hx, hr, e.trans h⟩)
        · exact .inr (.inl ⟨by omega, by simp only [dec, if_neg h0, if_neg h1, if_neg h2, if_neg h3]⟩)

theorem dec_width (l : List UInt8) (h : l ≠ []) : 1 ≤ (dec l).2 ∧ (dec l).2 ≤ l.length := by
  cases l with
  | nil => exact absurd rfl h
  | cons a t =>
    rcases dec_cases a t with ⟨_, e⟩ | ⟨_, e⟩ | ⟨n, lo, v, x, _, _, hx, _, e⟩
    · rw [e]; simp
    · rw [e]; simp
    · rw [e]
      have := scan_len hx
      simp; omega

theorem dec_bad (l : List UInt8) (h : (dec l).1 < 0) : dec l = (-1, 1) := by
  cases l with
  | nil => rfl
  | cons a t =>
    rcases dec_cases a t with ⟨_, e⟩ | ⟨_, e⟩ | ⟨n, lo, v, x, _, _, hx, _, e⟩
    · rw [e] at h; simp at h; omega
    · exact e
    · rw [e] at h; simp at h; omega

theorem dec_le (l : List UInt8) : (dec l).1 ≤ 1114111 := by
  cases l with
  | nil => decide
  | cons a t =>
    rcases dec_cases a t with ⟨h0, e⟩ | ⟨_, e⟩ | ⟨n, lo, v, x, _, _, hx, hr, e⟩
    · rw [e]; simp; omega
    · rw [e]; decide
    · rw [e]; simp; omega

theorem dec_append (l m : List UInt8) (h : 0 ≤ (dec l).1) : dec (l ++ m) = dec l := by
  cases l with
  | nil => simp [dec] at h
  | cons a t =>
    simp only [List.cons_append]
    by_cases h0 : a.toNat < 128
    · simp [dec, h0]
    · simp only [dec, if_neg h0] at h ⊢
      split
      · rename_i h1
        rw [if_pos h1] at h
        exact fin8_append m h
      · rename_i h1
        rw [if_neg h1] at h
        split
        · rename_i h2
          rw [if_pos h2] at h
          exact fin8_append m h
        · rename_i h2
          rw [if_neg h2] at h
          split
          · rename_i h3
            rw [if_pos h3] at h
            exact fin8_append m h
          · rename_i h3
            rw [if_neg h3] at h

theorem byte_eq (b : UInt8) (z : Int) (h : z = b.toNat) : z.toNat.toUInt8 = b := by
  subst h
  simp

/-- The bytes of a rune that is well formed are the rune's own form. -/
theorem dec_encode (l : List UInt8) (h : 0 ≤ (dec l).1) : l.take (dec l).2 = Lib.encodeRune (dec l).1 := by
  cases l with
  | nil => simp [dec] at h
  | cons a t =>
    rcases dec_cases a t with ⟨h0, e⟩ | ⟨_, e⟩ | ⟨n, lo, v, x, h194, hk, hx, hr, e⟩
    · rw [e]
      simp only [Lib.encodeRune, List.take_succ_cons, List.take_zero]
      rw [Lib.encodeRuneZ_one (by omega) (by omega)]
      simp
    · rw [e] at h; simp at h
    · rw [e]
      simp only [Lib.encodeRune]
      have ha := a.toNat_lt
      rcases hk with ⟨rfl, rfl, rfl, h1⟩ | ⟨rfl, rfl, rfl, h1, h2⟩ | ⟨rfl, rfl, rfl, h1, h2⟩
      · obtain ⟨b, t', rfl, hb, hx⟩ := scan_succ hx
        simp only [scan, Option.some.injEq] at hx
        have hbl := b.toNat_lt
        rw [Lib.encodeRuneZ_two (by omega) (by omega)]
        simp only [List.take_succ_cons, List.take_zero, List.map_cons, List.map_nil]
        rw [byte_eq a _ (by omega), byte_eq b _ (by omega)]
      · obtain ⟨b, t', rfl, hb, hx⟩ := scan_succ hx
        obtain ⟨c, t'', rfl, hc, hx⟩ := scan_succ hx
        simp only [scan, Option.some.injEq] at hx
        have hbl := b.toNat_lt
        have hcl := c.toNat_lt
        rw [Lib.encodeRuneZ_three (by omega)]
        simp only [List.take_succ_cons, List.take_zero, List.map_cons, List.map_nil]
        rw [byte_eq a _ (by omega), byte_eq b _ (by omega), byte_eq c _ (by omega)]
      · obtain ⟨b, t', rfl, hb, hx⟩ := scan_succ hx
        obtain ⟨c, t'', rfl, hc, hx⟩ := scan_succ hx
        obtain ⟨d, t3, rfl, hd, hx⟩ := scan_succ hx
        simp only [scan, Option.some.injEq] at hx
        have hbl := b.toNat_lt
        have hcl := c.toNat_lt
        have hdl := d.toNat_lt
        rw [Lib.encodeRuneZ_four (by omega) (by omega)]
        simp only [List.take_succ_cons, List.take_zero, List.map_cons, List.map_nil]
        rw [byte_eq a _ (by omega), byte_eq b _ (by omega), byte_eq c _ (by omega), byte_eq d _ (by omega)]

/-- A head of 128 and above: its rune is none or 128 and above, all its bytes are 128 and above. -/
theorem dec_high (a : UInt8) (t : List UInt8) (h : 128 ≤ a.toNat) : ((dec (a :: t)).1 = -1 ∨ 128 ≤ (dec (a :: t)).1) ∧ ∀ b ∈ (a :: t).take (dec (a :: t)).2, 128 ≤ b.toNat := by
  rcases dec_cases a t with ⟨h0, e⟩ | ⟨_, e⟩ | ⟨n, lo, v, x, h194, hk, hx, hr, e⟩
  · omega
  · rw [e]
    refine ⟨.inl rfl, fun b hb => ?_⟩
    simp at hb
    subst hb
    exact h
  · rw [e]
    refine ⟨.inr ?_, fun b hb => ?_⟩
    · rcases hk with ⟨rfl, rfl, rfl, h1⟩ | ⟨rfl, rfl, rfl, h1, h2⟩ | ⟨rfl, rfl, rfl, h1, h2⟩ <;> simp <;> omega
    · simp only [List.take_succ_cons, List.mem_cons] at hb
      rcases hb with rfl | hb
      · exact h
      · exact scan_high hx b hb

theorem dec_low (a : UInt8) (t : List UInt8) (h : a.toNat < 128) : dec (a :: t) = ((a.toNat : Int), 1) := by simp [dec, h]

theorem dec_fffd (t : List UInt8) : dec (239 :: 191 :: 189 :: t) = (65533, 3) := rfl

/-- The pieces of a text: each rune (-1: none) with its bytes. -/
def ps : Nat → List UInt8 → List (Int × List UInt8)
  | 0, _ => []
  | _ + 1, [] => []
  | f + 1, a :: t => ((dec (a :: t)).1, (a :: t).take (dec (a :: t)).2) :: ps f ((a :: t).drop (dec (a :: t)).2)
def pieces (l : List UInt8) : List (Int × List UInt8) := ps l.length l

theorem ps_fuel (f : Nat) : ∀ (g : Nat) (l : List UInt8), l.length ≤ f → l.length ≤ g → ps f l = ps g l := by
  induction f with
  | zero =>
    intro g l h1 h2
    obtain rfl : l = [] := by cases l <;> simp_all
    cases g <;> rfl
  | succ f ih =>
    intro g l h1 h2
    cases l with
    | nil => cases g <;> rfl
    | cons a t =>
      cases g with
      | zero => simp at h2
      | succ g =>
        have hw := dec_width (a :: t) (by simp)
        simp only [ps]
        rw [ih g _ (by simp at h1 ⊢; omega) (by simp at h2 ⊢; omega)]

theorem pieces_nil : pieces [] = [] := rfl
theorem pieces_cons (l : List UInt8) (h : l ≠ []) : pieces l = ((dec l).1, l.take (dec l).2) :: pieces (l.drop (dec l).2) := by
  cases l with
  | nil => exact absurd rfl h
  | cons a t =>
    have hw := dec_width (a :: t) (by simp)
    unfold pieces
    simp only [List.length_cons, ps]
    rw [ps_fuel t.length _ _ (by simp; omega) (Nat.le_refl _)]

/-- Two texts put together, the first of them well formed. -/
theorem pieces_append (n : Nat) : ∀ (a b : List UInt8), a.length ≤ n → (∀ p ∈ pieces a, 0 ≤ p.1) → pieces (a ++ b) = pieces a ++ pieces b := by
  induction n with
  | zero =>
    intro a b h _
    obtain rfl : a = [] := by cases a <;> simp_all
    rfl
  | succ n ih =>
    intro a b h hall
    by_cases ha : a = []
    · subst ha; rfl
    · have hw := dec_width a ha
      have hp := pieces_cons a ha
      have h0 : 0 ≤ (dec a).1 := hall ((dec a).1, a.take (dec a).2) (by rw [hp]; simp)
      rw [pieces_cons (a ++ b) (by simp [ha]), dec_append a b h0, hp, List.take_append_of_le_length hw.2, List.drop_append_of_le_length hw.2]
      rw [ih (a.drop (dec a).2) b (by simp; omega) (fun p hp' => hall p (by rw [hp]; exact List.mem_cons_of_mem _ hp'))]
      rfl

/-- The pieces' bytes are the text's. -/
theorem pieces_bytes (n : Nat) : ∀ (l : List UInt8), l.length ≤ n → (pieces l).flatMap (·.2) = l := by
  induction n with
  | zero => intro l h; obtain rfl : l = [] := by cases l <;> simp_all
            rfl
  | succ n ih =>
    intro l h
    by_cases hl : l = []
    · subst hl; rfl
    · have hw := dec_width l hl
      rw [pieces_cons l hl, List.flatMap_cons, ih _ (by simp; omega)]
      exact List.take_append_drop _ _
end Go.Proofs.Ytmfjaehajdephab

/-
  What words.formed, Runes and Key answer, for every text: by the text's pieces, rune by rune.
-/
namespace Go.Proofs.Ytmfjaehajdephab
open Go.Shelf Go.RowKit
set_option linter.unusedVariables false

def good (l : List UInt8) : Bool := decide (0 ≤ (dec l).1)
/-- The rune that range tells. -/
def rn (l : List UInt8) : Int := if (dec l).1 < 0 then 65533 else (dec l).1
def wd (l : List UInt8) : Nat := (dec l).2

theorem ext_data (s : ByteArray) (i : Nat) : (s.extract i s.size).data.toList = s.data.toList.drop i := by
  rw [Lib.extract_data, List.take_of_length_le]
  rw [List.length_drop, size8]
  exact Nat.le_refl _

theorem decode_rn (s : ByteArray) (i : Nat) (h : i < s.size) : (((Utf8.decode s i).1 : Nat) : Int) = rn (s.data.toList.drop i) ∧ (Utf8.decode s i).2 = wd (s.data.toList.drop i) := by
  rw [decode_dec s i h]
  unfold rn wd
  refine ⟨?_, rfl⟩
  simp only
  split
  · rfl
  · omega

theorem drop_ne (s : ByteArray) (i : Nat) (h : i < s.size) : s.data.toList.drop i ≠ [] := by
  intro e
  have := congrArg List.length e
  rw [List.length_drop, size8] at this
  simp at this; omega

theorem rn_le (l : List UInt8) : 0 ≤ rn l ∧ rn l ≤ 1114111 := by
  have := dec_le l
  unfold rn
  split <;> omega

theorem good_fffd (l : List UInt8) (h : rn l = 65533) : Lib.hasPrefix l [239, 191, 189] = good l := by
  unfold rn at h
  unfold good
  by_cases h0 : (dec l).1 < 0
  · rw [decide_eq_false (by omega)]
    cases hp : Lib.hasPrefix l [239, 191, 189] with
    | false => rfl
    | true =>
      obtain ⟨t, rfl⟩ := List.isPrefixOf_iff_prefix.1 hp
      rw [show ([239, 191, 189] ++ t : List UInt8) = 239 :: 191 :: 189 :: t from rfl, dec_fffd] at h0
      simp at h0
  · rw [if_neg h0] at h
    rw [decide_eq_true (by omega)]
    have he := dec_encode l (by omega)
    rw [h] at he
    have e3 : Lib.encodeRune 65533 = [239, 191, 189] := by decide
    rw [e3] at he
    unfold Lib.hasPrefix
    rw [List.isPrefixOf_iff_prefix, ← he]
    exact List.take_prefix _ _

theorem good_other (l : List UInt8) (h : rn l ≠ 65533) : good l = true := by
  unfold rn at h
  unfold good
  by_cases h0 : (dec l).1 < 0
  · simp [h0] at h
  · exact decide_eq_true (by omega)

theorem formed_at (s : ByteArray) (i : Nat) (r : Int) (w : World) (h : i < s.size) (hm : s.size ≤ maxLen) (hr : r = rn (s.data.toList.drop i)) :
    Calls Try.prog 86 #[.string s, .int .i64 i, .int .i32 r] w fun e w' => e = .returned (.bool (good (s.data.toList.drop i))) ∧ w' = w := by
  by_cases h5 : r = 65533
  · have hg := good_fffd _ (hr.symm.trans h5)
    subst h5
    clear hr
    go_enter Try.func86, Try.ntmps86
    go_wp2_with fail
    refine (Try.strings_HasPrefix _ _ _).mono ?_
    rintro e w' ⟨rfl, rfl⟩
    rw [ext_data, hg]
    go_wp2
    go_ret
    exact ⟨rfl, rfl⟩
  · have hg := good_other _ (by rw [← hr]; exact h5)
    rw [hg]
    clear hr hg
    go_enter Try.func86, Try.ntmps86
    go_wp2
    go_ret
    exact ⟨rfl, rfl⟩

def allGood (l : List UInt8) : Bool := (pieces l).all fun p => decide (0 ≤ p.1)
def count (l : List UInt8) : Nat := (pieces l).length
theorem allGood_nil : allGood [] = true := rfl
theorem count_nil : count [] = 0 := rfl
theorem allGood_cons (l : List UInt8) (h : l ≠ []) : allGood l = (good l && allGood (l.drop (wd l))) := by
  unfold allGood good wd
  rw [pieces_cons l h]
  rfl
theorem count_cons (l : List UInt8) (h : l ≠ []) : count l = count (l.drop (wd l)) + 1 := by
  unfold count wd
  rw [pieces_cons l h]
  rfl
theorem wd_pos (l : List UInt8) (h : l ≠ []) : 1 ≤ wd l ∧ wd l ≤ l.length := dec_width l h
theorem drop_end (s : ByteArray) (i : Nat) (h : ¬ i < s.size) : s.data.toList.drop i = [] := by
  rw [List.drop_eq_nil_iff, size8]; omega
theorem drop_len (s : ByteArray) (i : Nat) : (s.data.toList.drop i).length = s.size - i := by rw [List.length_drop, size8]

/-- The runes that a key may not have; none (-1) among them. -/
def bar (r : Int) : Bool := decide (r ≤ 32 ∨ (127 ≤ r ∧ r ≤ 160) ∨ r = 8232 ∨ r = 8233)
theorem barred_at (r : Int) (w : World) : Calls Try.prog 87 #[.int .i32 r] w fun e w' => e = .returned (.bool (bar r)) ∧ w' = w := by
  by_cases h1 : r ≤ 32
  · rw [show bar r = true from decide_eq_true (.inl h1)]
    go_enter Try.func87, Try.ntmps87
    go_wp2
    go_ret
    exact ⟨rfl, rfl⟩
  · by_cases h2 : 127 ≤ r
    · by_cases h3 : r ≤ 160
      · rw [show bar r = true from decide_eq_true (.inr (.inl ⟨h2, h3⟩))]
        go_enter Try.func87, Try.ntmps87
        go_wp2
        go_ret
        exact ⟨rfl, rfl⟩
      · by_cases h4 : r = 8232
        · subst h4
          go_enter Try.func87, Try.ntmps87
          go_wp2
          go_ret
          exact ⟨rfl, rfl⟩
        · by_cases h5 : r = 8233
          · subst h5
            go_enter Try.func87, Try.ntmps87
            go_wp2
            go_ret
            exact ⟨rfl, rfl⟩
          · rw [show bar r = false from decide_eq_false (by omega)]
            go_enter Try.func87, Try.ntmps87
            go_wp2
            go_ret
            exact ⟨by simp [h4, h5], rfl⟩
    · have h4 : r ≠ 8232 := by omega
      have h5 : r ≠ 8233 := by omega
      rw [show bar r = false from decide_eq_false (by omega)]
      go_enter Try.func87, Try.ntmps87
      go_wp2
      go_ret
      exact ⟨by simp [h4, h5], rfl⟩

def clean (l : List UInt8) : Bool := (pieces l).all fun p => !bar p.1
theorem clean_nil : clean [] = true := rfl
theorem clean_cons (l : List UInt8) (h : l ≠ []) : clean l = (!bar (dec l).1 && clean (l.drop (wd l))) := by
  unfold clean wd
  rw [pieces_cons l h]
  rfl
def isKey (l : List UInt8) : Bool := decide (1 ≤ l.length) && decide (l.length ≤ 250) && clean l

theorem bar_bad (l : List UInt8) (h : good l = false) : bar (dec l).1 = true := by
  unfold good at h
  unfold bar
  simp at h
  exact decide_eq_true (.inl (by omega))
theorem bar_good (l : List UInt8) (h : good l = true) : bar (rn l) = bar (dec l).1 := by
  unfold good at h
  unfold rn
  simp at h
  rw [if_neg (by omega)]

set_option maxHeartbeats 4000000 in
set_option maxRecDepth 1000000 in
theorem key_any (s : ByteArray) (w : World) (hm : s.size ≤ maxLen) :
    Calls Try.prog 85 #[.string s] w fun e w' => e = .returned (.bool (isKey s.data.toList)) ∧ Below w.heap.size w w' := by
  by_cases h1 : s.size < 1
  · rw [show isKey s.data.toList = false by unfold isKey; rw [size8, decide_eq_false (by omega)]; rfl]
    go_enter Try.func85, Try.ntmps85
    go_wp2
    go_ret
    exact ⟨rfl, Below.refl _ _⟩
  by_cases h2 : 250 < s.size
  · rw [show isKey s.data.toList = false by unfold isKey; rw [size8, decide_eq_false (p := s.size ≤ 250) (by omega)]; simp]
    go_enter Try.func85, Try.ntmps85
    go_wp2
    go_ret
    exact ⟨rfl, Below.refl _ _⟩
  rw [show isKey s.data.toList = clean s.data.toList by unfold isKey; rw [size8, decide_eq_true (p := s.size ≤ 250) (by omega), decide_eq_true (p := 1 ≤ s.size) (by omega)]; simp]
  go_enter Try.func85, Try.ntmps85
  go_wp2
  go_loopw [] (fun wr => ∃ (pos : Nat), wr = w.iter s pos ∧ pos ≤ s.size ∧ Hid (clean (s.data.toList.drop pos) = clean s.data.toList)) (fun wr => s.size - wr.iterPos w.heap.size)
  case atStart => exact ⟨0, rfl, by omega, by simp [Hid]⟩
  case round =>
    obtain ⟨pos, rfl, hpos, H1⟩ := hrel
    by_cases hp : pos < s.size
    · have hnx : ∀ ty, (Instr.next (.pointer (some ⟨w.heap.size, 0, none⟩)) true ty).run Try.prog (w.iter s pos) = _ := fun ty => run_next_any w s pos ty hp
      obtain ⟨d1, d2⟩ := decode_rn s pos hp
      rw [d1, d2] at hnx
      have hne := drop_ne s pos hp
      have hw := wd_pos _ hne
      rw [drop_len] at hw
      have hc := clean_cons _ hne
      rw [List.drop_drop] at hc
      clear d1 d2
      go_wp2_with fail
      refine (formed_at s pos _ _ hp hm rfl).mono ?_
      rintro e w' ⟨rfl, rfl⟩
      cases hg : good (s.data.toList.drop pos) with
      | false =>
        rw [bar_bad _ hg] at hc
        go_wp2
        go_ret
        exact ⟨by rw [← H1.out, hc]; rfl, (Below.refl _ w).alloc (Nat.le_refl _) _⟩
      | true =>
        rw [← bar_good _ hg] at hc
        go_wp2_with fail
        refine (barred_at _ _).mono ?_
        rintro e w' ⟨rfl, rfl⟩
        cases hb : bar (rn (s.data.toList.drop pos)) with
        | true =>
          rw [hb] at hc
          go_wp2
          go_ret
          exact ⟨by rw [← H1.out, hc]; rfl, (Below.refl _ w).alloc (Nat.le_refl _) _⟩
        | false =>
          rw [hb] at hc
          go_wp2
          go_roundw
          case rel => exact ⟨pos + wd (s.data.toList.drop pos), rfl, by omega, by have := H1.out; simp only [Hid]; rw [hc] at this; simpa using this⟩
          case measure => simp; omega
    · have hnx : ∀ ty, (Instr.next (.pointer (some ⟨w.heap.size, 0, none⟩)) true ty).run Try.prog (w.iter s pos) = _ := fun ty => run_next_end w s pos ty hp
      go_wp2
      go_ret
      have e1 := H1.out
      rw [drop_end s pos hp, clean_nil] at e1
      exact ⟨by rw [← e1]; rfl, (Below.refl _ w).alloc (Nat.le_refl _) _⟩
end Go.Proofs.Ytmfjaehajdephab

/-
  What words.Number, Signed and Text answer: decimal digits there and back.
  Conditions: Text asks that the library's table of powers of ten is laid.
-/
namespace Go.Proofs.Ytmfjaehajdephab
open Go.Shelf Go.RowKit Go.Sort Go.Lib
set_option linter.unusedVariables false

/-- Digits behind k, up to 2^64 - 1. -/
def num : List UInt8 → Nat → Option Nat
  | [], k => some k
  | b :: t, k => if 48 ≤ b.toNat ∧ b.toNat ≤ 57 ∧ 10 * k + (b.toNat - 48) ≤ 18446744073709551615 then num t (10 * k + (b.toNat - 48)) else none
def number (l : List UInt8) : Option Nat := if 1 ≤ l.length ∧ l.length ≤ 20 then num l 0 else none
def numV (l : List UInt8) : Nat := (number l).getD 0
def numOk (l : List UInt8) : Bool := (number l).isSome

theorem num_le (l : List UInt8) : ∀ k x, k ≤ 18446744073709551615 → num l k = some x → x ≤ 18446744073709551615 := by
  induction l with
  | nil => intro k x hk h; simp only [num, Option.some.injEq] at h; omega
  | cons b t ih =>
    intro k x hk h
    simp only [num] at h
    split at h
    · rename_i hc; exact ih _ _ hc.2.2 h
    · simp at h

theorem numV_le (l : List UInt8) : numV l ≤ 18446744073709551615 := by
  unfold numV number
  split
  · cases h : num l 0 with
    | none => simp
    | some x => simpa using num_le l 0 x (by omega) h
  · simp

theorem num_none (l : List UInt8) (h : number l = none) : numV l = 0 ∧ numOk l = false := by simp [numV, numOk, h]
theorem num_some (l : List UInt8) (x : Nat) (h : number l = some x) : numV l = x ∧ numOk l = true := by simp [numV, numOk, h]

theorem rn_low (a : UInt8) (t : List UInt8) (h : a.toNat < 128) : rn (a :: t) = (a.toNat : Int) ∧ wd (a :: t) = 1 := by
  unfold rn wd
  rw [dec_low a t h]
  refine ⟨?_, rfl⟩
  rw [if_neg (by simp)]
theorem rn_high (a : UInt8) (t : List UInt8) (h : 128 ≤ a.toNat) : 128 ≤ rn (a :: t) := by
  have := (dec_high a t h).1
  unfold rn
  split <;> omega

set_option maxHeartbeats 4000000 in
set_option maxRecDepth 1000000 in
theorem number_any (s : ByteArray) (w : World) :
    Calls Try.prog 51 #[.string s] w fun e w' => e = .returned (.tuple #[.int .u64 (numV s.data.toList), .bool (numOk s.data.toList)]) ∧ Below w.heap.size w w' := by
  by_cases h1 : s.size < 1
  · obtain ⟨e1, e2⟩ := num_none s.data.toList (by unfold number; rw [if_neg (by rw [size8]; omega)])
    rw [e1, e2]
    clear e1 e2
    go_enter Try.func51, Try.ntmps51
    go_wp2
    go_ret2
    exact ⟨rfl, Below.refl _ _⟩
  by_cases h2 : 20 < s.size
  · obtain ⟨e1, e2⟩ := num_none s.data.toList (by unfold number; rw [if_neg (by rw [size8]; omega)])
    rw [e1, e2]
    clear e1 e2
    go_enter Try.func51, Try.ntmps51
    go_wp2
    go_ret2
    exact ⟨rfl, Below.refl _ _⟩
  have hN : Hid (number s.data.toList = num s.data.toList 0) := by unfold number; simp only [Hid]; rw [if_pos (by rw [size8]; omega)]
  go_enter Try.func51, Try.ntmps51
  go_wp2
  go_loopw [4] (fun n wr => ∃ (pos k : Nat), n = .int .u64 k ∧ wr = w.iter s pos ∧ pos ≤ s.size ∧ k ≤ 18446744073709551615 ∧ Hid (num (s.data.toList.drop pos) k = number s.data.toList)) (fun _ wr => s.size - wr.iterPos w.heap.size)
  case atStart => exact ⟨0, 0, rfl, rfl, by omega, by omega, by simpa [Hid] using hN.out.symm⟩
  case round =>
    obtain ⟨pos, k, rfl, rfl, hpos, hk, H1⟩ := hrel
    by_cases hp : pos < s.size
    · have hnx : ∀ ty, (Instr.next (.pointer (some ⟨w.heap.size, 0, none⟩)) true ty).run Try.prog (w.iter s pos) = _ := fun ty => run_next_any w s pos ty hp
      obtain ⟨d1, d2⟩ := decode_rn s pos hp
      rw [d1, d2] at hnx
      clear d1 d2
      have hdh : s.data.toList.drop pos = s[pos] :: s.data.toList.drop (pos + 1) := by
        rw [List.drop_eq_getElem_cons (by rw [size8]; exact hp)]; rfl
      have H2 := H1.out
      rw [hdh] at H2 hnx
      generalize s[pos] = a at H2 hnx hdh
      have hal := a.toNat_lt
      by_cases hd : 48 ≤ a.toNat ∧ a.toNat ≤ 57
      · obtain ⟨r1, r2⟩ := rn_low a (s.data.toList.drop (pos + 1)) (by omega)
        rw [r1, r2] at hnx
        obtain ⟨d, hd'⟩ : ∃ d : Nat, a.toNat = 48 + d := ⟨a.toNat - 48, by omega⟩
        rw [hd'] at hnx
        have hd9 : d ≤ 9 := by omega
        have HA : Hid (num (a :: s.data.toList.drop (pos + 1)) k = if 10 * k + d ≤ 18446744073709551615 then num (s.data.toList.drop (pos + 1)) (10 * k + d) else none) := by
          simp only [Hid, num]
          rw [show a.toNat - 48 = d by omega]
          by_cases hq : 10 * k + d ≤ 18446744073709551615
          · rw [if_pos ⟨by omega, by omega, hq⟩, if_pos hq]
          · rw [if_neg (by omega), if_neg hq]
        have H3 : Hid (num (a :: s.data.toList.drop (pos + 1)) k = number s.data.toList) := H2
        clear H2 H1 hd' r1 r2 hdh hd hal
        by_cases hov : 10 * k + d ≤ 18446744073709551615
        · have hle : ¬ ((18446744073709551615 - (d : Int)) / 10 < (k : Int)) := by omega
          go_wp2
          go_roundw
          case rel => exact ⟨pos + 1, 10 * k + d, by go_num, rfl, by omega, hov, by have := H3.out; rw [HA.out, if_pos hov] at this; exact this⟩
          case measure => simp; omega
        · have hle : ((18446744073709551615 - (d : Int)) / 10 < (k : Int)) := by omega
          go_wp2
          go_ret2
          have e1 := H3.out
          rw [HA.out, if_neg hov] at e1
          obtain ⟨e2, e3⟩ := num_none _ e1.symm
          rw [e2, e3]
          exact ⟨rfl, (Below.refl _ w).alloc (Nat.le_refl _) _⟩
      · have HN : Hid (number s.data.toList = none) := by
          simp only [Hid]
          rw [← H2]
          simp only [num]
          rw [if_neg (by omega)]
        have hr : rn (a :: s.data.toList.drop (pos + 1)) < 48 ∨ 57 < rn (a :: s.data.toList.drop (pos + 1)) := by
          by_cases ha : a.toNat < 128
          · obtain ⟨r1, r2⟩ := rn_low a (s.data.toList.drop (pos + 1)) ha
            rw [r1]; omega
          · have := rn_high a (s.data.toList.drop (pos + 1)) (by omega)
            omega
        clear H2 H1 hdh hd hal
        generalize rn (a :: s.data.toList.drop (pos + 1)) = r at hr hnx
        rcases hr with hr | hr
        · go_wp2
          go_ret2
          obtain ⟨e2, e3⟩ := num_none _ HN.out
          rw [e2, e3]
          exact ⟨rfl, (Below.refl _ w).alloc (Nat.le_refl _) _⟩
        · have hr2 : ¬ r < 48 := by omega
          go_wp2
          go_ret2
          obtain ⟨e2, e3⟩ := num_none _ HN.out
          rw [e2, e3]
          exact ⟨rfl, (Below.refl _ w).alloc (Nat.le_refl _) _⟩
    · have hnx : ∀ ty, (Instr.next (.pointer (some ⟨w.heap.size, 0, none⟩)) true ty).run Try.prog (w.iter s pos) = _ := fun ty => run_next_end w s pos ty hp
      go_wp2
      go_ret2
      have e1 := H1.out
      rw [drop_end s pos hp] at e1
      obtain ⟨e2, e3⟩ := num_some _ k e1.symm
      rw [e2, e3]
      exact ⟨rfl, (Below.refl _ w).alloc (Nat.le_refl _) _⟩

/-- A number with a sign. -/
def signed (l : List UInt8) : Option Int :=
  if Lib.hasPrefix l [45] then
    match number (Lib.trimPrefix l [45]) with
    | some n => if n ≤ 9223372036854775808 then some (-(n : Int)) else none
    | none => none
  else
    match number l with
    | some n => if n < 9223372036854775808 then some (n : Int) else none
    | none => none
def sgnV (l : List UInt8) : Int := (signed l).getD 0
def sgnOk (l : List UInt8) : Bool := (signed l).isSome
theorem sgn_none (l : List UInt8) (h : signed l = none) : sgnV l = 0 ∧ sgnOk l = false := by simp [sgnV, sgnOk, h]
theorem sgn_some (l : List UInt8) (x : Int) (h : signed l = some x) : sgnV l = x ∧ sgnOk l = true := by simp [sgnV, sgnOk, h]

theorem trim_not (l p : List UInt8) (h : Lib.hasPrefix l p = false) : Lib.trimPrefix l p = l := by
  unfold Lib.trimPrefix
  rw [if_neg (by rw [h]; simp)]

set_option maxHeartbeats 4000000 in
set_option maxRecDepth 1000000 in
theorem signed_any (s : ByteArray) (w : World) :
    Calls Try.prog 50 #[.string s] w fun e w' => e = .returned (.tuple #[.int .i64 (sgnV s.data.toList), .bool (sgnOk s.data.toList)]) ∧ Below w.heap.size w w' := by
  generalize hl : s.data.toList = l
  cases hb : Lib.hasPrefix l [45] with
  | true =>
    cases hn : number (Lib.trimPrefix l [45]) with
    | none =>
      obtain ⟨e2, e3⟩ := sgn_none l (by unfold signed; rw [hb, hn]; rfl)
      obtain ⟨e4, e5⟩ := num_none _ hn
      rw [e2, e3]
      clear e2 e3
      go_enter Try.func50, Try.ntmps50
      go_wp2_with fail
      refine (Try.strings_CutPrefix _ _ _).mono ?_
      rintro e w' ⟨rfl, rfl⟩
      rw [hl, hb]
      go_wp2_with fail
      refine (number_any _ _).mono ?_
      rintro e w1 ⟨rfl, b1⟩
      rw [e4, e5]
      go_wp2
      go_ret2
      exact ⟨rfl, b1⟩
    | some n =>
      obtain ⟨e4, e5⟩ := num_some _ _ hn
      have hn64 := numV_le (Lib.trimPrefix l [45])
      rw [e4] at hn64
      by_cases hc : n ≤ 9223372036854775808
      · obtain ⟨e2, e3⟩ := sgn_some l (-(n : Int)) (by unfold signed; rw [hb, hn]; simp [hc])
        rw [e2, e3]
        clear e2 e3
        have hci : (n : Int) ≤ 9223372036854775808 := by omega
        have hwr : IntKind.i64.wrap (IntKind.u64.wrap (-(n : Int))) = -(n : Int) := by rw [IntKind.wrap_i64, IntKind.wrap_u64]; omega
        go_enter Try.func50, Try.ntmps50
        go_wp2_with fail
        refine (Try.strings_CutPrefix _ _ _).mono ?_
        rintro e w' ⟨rfl, rfl⟩
        rw [hl, hb]
        go_wp2_with fail
        refine (number_any _ _).mono ?_
        rintro e w1 ⟨rfl, b1⟩
        rw [e4, e5]
        go_wp2
        go_ret2
        exact ⟨rfl, b1⟩
      · obtain ⟨e2, e3⟩ := sgn_none l (by unfold signed; rw [hb, hn]; simp [hc])
        rw [e2, e3]
        clear e2 e3
        have hci : ¬ (n : Int) ≤ 9223372036854775808 := by omega
        go_enter Try.func50, Try.ntmps50
        go_wp2_with fail
        refine (Try.strings_CutPrefix _ _ _).mono ?_
        rintro e w' ⟨rfl, rfl⟩
        rw [hl, hb]
        go_wp2_with fail
        refine (number_any _ _).mono ?_
        rintro e w1 ⟨rfl, b1⟩
        rw [e4, e5]
        go_wp2
        go_ret2
        exact ⟨rfl, b1⟩
  | false =>
    have ht := trim_not l [45] hb
    cases hn : number l with
    | none =>
      obtain ⟨e2, e3⟩ := sgn_none l (by unfold signed; rw [hb, hn]; rfl)
      obtain ⟨e4, e5⟩ := num_none _ hn
      rw [e2, e3]
      clear e2 e3
      go_enter Try.func50, Try.ntmps50
      go_wp2_with fail
      refine (Try.strings_CutPrefix _ _ _).mono ?_
      rintro e w' ⟨rfl, rfl⟩
      rw [hl, hb, ht]
      go_wp2_with fail
      refine (number_any _ _).mono ?_
      rintro e w1 ⟨rfl, b1⟩
      rw [e4, e5]
      go_wp2
      go_ret2
      exact ⟨rfl, b1⟩
    | some n =>
      obtain ⟨e4, e5⟩ := num_some _ _ hn
      have hn64 := numV_le l
      rw [e4] at hn64
      by_cases hc : n < 9223372036854775808
      · obtain ⟨e2, e3⟩ := sgn_some l (n : Int) (by unfold signed; rw [hb, hn]; simp [hc])
        rw [e2, e3]
        clear e2 e3
        have hci : (n : Int) < 9223372036854775808 := by omega
        have hwr : IntKind.i64.wrap (n : Int) = (n : Int) := by rw [IntKind.wrap_i64]; omega
        go_enter Try.func50, Try.ntmps50
        go_wp2_with fail
        refine (Try.strings_CutPrefix _ _ _).mono ?_
        rintro e w' ⟨rfl, rfl⟩
        rw [hl, hb, ht]
        go_wp2_with fail
        refine (number_any _ _).mono ?_
        rintro e w1 ⟨rfl, b1⟩
        rw [e4, e5]
        go_wp2
        go_ret2
        exact ⟨rfl, b1⟩
      · obtain ⟨e2, e3⟩ := sgn_none l (by unfold signed; rw [hb, hn]; simp [hc])
        rw [e2, e3]
        clear e2 e3
        have hci : ((n : Int) < 9223372036854775808) = False := by simp; omega
        clear hc hn64
        go_enter Try.func50, Try.ntmps50
        go_wp2_with fail
        refine (Try.strings_CutPrefix _ _ _).mono ?_
        rintro e w' ⟨rfl, rfl⟩
        rw [hl, hb, ht]
        go_wp2_with fail
        refine (number_any _ _).mono ?_
        rintro e w1 ⟨rfl, b1⟩
        rw [e4, e5]
        go_wp2
        go_ret2
        exact ⟨rfl, b1⟩

end Go.Proofs.Ytmfjaehajdephab
