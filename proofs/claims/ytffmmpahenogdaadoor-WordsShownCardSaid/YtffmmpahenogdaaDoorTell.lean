/-
  Plain reasoning on what is shown: it has no blank, no quote, no control byte; and it tells its text.
-/
import Derived.Test.YtffmmpahenogdaaDoorAwake
namespace Go.Proofs.YtffmmpahenogdaaDoor
set_option linter.unusedVariables false

theorem oct_byte (d : Nat) (h : d < 8) : (UInt8.ofNat (48 + d)).toNat = 48 + d := by simp; omega

/-- The bytes of a piece that is shown as it is. -/
theorem plain_bytes (l : List UInt8) (hl : l ≠ []) (hp : plainB (dec l).1 = true) : ∀ x ∈ l.take (wd l), 32 < x.toNat ∧ x.toNat ≠ 34 ∧ x.toNat ≠ 127 ∧ x.toNat ≠ 92 := by
  cases l with
  | nil => exact absurd rfl hl
  | cons a t =>
    intro x hx
    by_cases ha : a.toNat < 128
    · have hw : wd (a :: t) = 1 := by unfold wd; rw [dec_low a t ha]
      rw [hw] at hx
      rw [dec_low a t ha] at hp
      simp at hx
      subst hx
      unfold plainB at hp
      simp only [decide_eq_true_eq] at hp
      omega
    · have := (dec_high a t (by omega)).2 x hx
      omega

theorem oct_bytes (b : UInt8) : ∀ x ∈ oct b, 32 < x.toNat ∧ x.toNat ≠ 34 ∧ x.toNat ≠ 127 := by
  intro x hx
  have hb := b.toNat_lt
  have e1 := oct_byte (b.toNat / 64) (by omega)
  have e2 := oct_byte (b.toNat / 8 % 8) (by omega)
  have e3 := oct_byte (b.toNat % 8) (by omega)
  unfold oct at hx
  simp only [List.mem_cons, List.not_mem_nil, or_false] at hx
  rcases hx with rfl | rfl | rfl | rfl
  · decide
  · omega
  · omega
  · omega

theorem shown_bytes (n : Nat) : ∀ l : List UInt8, l.length ≤ n → ∀ x ∈ shown l, 32 < x.toNat ∧ x.toNat ≠ 34 ∧ x.toNat ≠ 127 := by
  induction n with
  | zero =>
    intro l h x hx
    obtain rfl : l = [] := by cases l <;> simp_all
    simp [shown_nil] at hx
  | succ n ih =>
    intro l h x hx
    by_cases hl : l = []
    · subst hl; simp [shown_nil] at hx
    · have hw := wd_pos l hl
      rw [shown_cons l hl, List.mem_append] at hx
      rcases hx with hx | hx
      · unfold shw at hx
        split at hx
        · rename_i hp
          have := plain_bytes l hl hp x hx
          omega
        · rw [List.mem_flatMap] at hx
          obtain ⟨b, _, hb⟩ := hx
          exact oct_bytes b x hb
      · exact ih _ (by simp; omega) x hx

/-- What is shown, read back; k bytes of it are passed by. -/
def unS : Nat → List UInt8 → List UInt8
  | _, [] => []
  | k + 1, _ :: t => unS k t
  | 0, x :: t => if x = 92 then UInt8.ofNat (((t[0]?.getD 0).toNat - 48) * 64 + ((t[1]?.getD 0).toNat - 48) * 8 + ((t[2]?.getD 0).toNat - 48)) :: unS 3 t else x :: unS 0 t

theorem un_oct (b : UInt8) (t : List UInt8) : unS 0 (oct b ++ t) = b :: unS 0 t := by
  have hb := b.toNat_lt
  have e1 := oct_byte (b.toNat / 64) (by omega)
  have e2 := oct_byte (b.toNat / 8 % 8) (by omega)
  have e3 := oct_byte (b.toNat % 8) (by omega)
  unfold oct
  simp only [List.cons_append, List.nil_append, unS, if_true, List.getElem?_cons_zero, List.getElem?_cons_succ, Option.getD_some, e1, e2, e3]
  congr 1
  rw [show (48 + b.toNat / 64 - 48) * 64 + (48 + b.toNat / 8 % 8 - 48) * 8 + (48 + b.toNat % 8 - 48) = b.toNat by omega]
  simp

theorem un_plain (p : List UInt8) : ∀ t, (∀ x ∈ p, x.toNat ≠ 92) → unS 0 (p ++ t) = p ++ unS 0 t := by
  induction p with
  | nil => intro t _; rfl
  | cons x p ih =>
    intro t h
    have hx : x ≠ 92 := fun e => h x (by simp) (by rw [e]; rfl)
    simp only [List.cons_append, unS, if_neg hx]
    rw [ih t (fun y hy => h y (by simp [hy]))]

theorem un_shown (n : Nat) : ∀ l : List UInt8, l.length ≤ n → unS 0 (shown l) = l := by
  induction n with
  | zero =>
    intro l h
    obtain rfl : l = [] := by cases l <;> simp_all
    rfl
  | succ n ih =>
    intro l h
    by_cases hl : l = []
    · subst hl; rfl
    · have hw := wd_pos l hl
      have ihd := ih (l.drop (wd l)) (by simp; omega)
      rw [shown_cons l hl]
      cases hp : plainB (dec l).1 with
      | true =>
        have e : shw ((dec l).1, l.take (wd l)) = l.take (wd l) := by unfold shw; rw [if_pos hp]
        rw [e, un_plain _ _ (fun x hx => (plain_bytes l hl hp x hx).2.2.2), ihd]
        exact List.take_append_drop _ _
      | false =>
        cases l with
        | nil => exact absurd rfl hl
        | cons a t =>
          rw [shw_oct a t hp, un_oct, ihd, one_byte a t hp]
          rfl

theorem shown_inj (a b : List UInt8) (h : shown a = shown b) : a = b := by
  rw [← un_shown a.length a (Nat.le_refl _), ← un_shown b.length b (Nat.le_refl _), h]

theorem shown_at (s a : ByteArray) (h : s.data.toList = shown a.data.toList) (i : Nat) (hi : i < s.size) : 32 < s[i].toNat ∧ s[i].toNat ≠ 34 ∧ s[i].toNat ≠ 127 := by
  refine shown_bytes a.data.toList.length _ (Nat.le_refl _) s[i] ?_
  rw [← h]
  have hd := drop_head s i hi
  exact List.mem_of_mem_drop (i := i) (by rw [hd]; simp)
theorem shown_len (n : Nat) : ∀ l : List UInt8, l.length ≤ n → (shown l).length ≤ 4 * l.length := by
  induction n with
  | zero =>
    intro l h
    obtain rfl : l = [] := by cases l <;> simp_all
    simp [shown_nil]
  | succ n ih =>
    intro l h
    by_cases hl : l = []
    · subst hl; simp [shown_nil]
    · have hw := wd_pos l hl
      have ihd := ih (l.drop (wd l)) (by simp; omega)
      rw [shown_cons l hl, List.length_append]
      simp only [List.length_drop] at ihd
      have hs : (shw ((dec l).1, l.take (wd l))).length ≤ 4 * wd l := by
        cases hp : plainB (dec l).1 with
        | true =>
          have e : shw ((dec l).1, l.take (wd l)) = l.take (wd l) := by unfold shw; rw [if_pos hp]
          rw [e, List.length_take]; omega
        | false =>
          cases l with
          | nil => exact absurd rfl hl
          | cons a t =>
            rw [shw_oct a t hp]
            simp [oct]; omega
      omega
end Go.Proofs.YtffmmpahenogdaaDoor
