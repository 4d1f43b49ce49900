/- Numbers as rows of bits: how many are set, which is the least that is not; nothing here speaks of a program. -/
import Derived.Lib.TrailingZeros
set_option linter.unusedVariables false
set_option linter.unusedSimpArgs false
namespace Go.Proofs.YtdkiegkgnimapabDoor.Math

/-- How many of the first n bits of x are set. -/
def pop : Nat → Nat → Nat
  | 0, _ => 0
  | n + 1, x => x % 2 + pop n (x / 2)
theorem pop_zero : ∀ n, pop n 0 = 0
  | 0 => rfl
  | n + 1 => by show 0 % 2 + pop n (0 / 2) = 0; rw [Nat.zero_div, pop_zero n]
theorem pop_le : ∀ n x, pop n x ≤ n
  | 0, _ => Nat.le_refl _
  | n + 1, x => by have := pop_le n (x / 2); show x % 2 + pop n (x / 2) ≤ n + 1; omega
theorem pop_split : ∀ m n x, pop (m + n) x = pop m x + pop n (x / 2 ^ m)
  | 0, n, x => by simp [pop]
  | m + 1, n, x => by
    rw [show m + 1 + n = (m + n) + 1 by omega]
    show x % 2 + pop (m + n) (x / 2) = x % 2 + pop m (x / 2) + pop n (x / 2 ^ (m + 1))
    rw [pop_split m n, Nat.div_div_eq_div_mul, show 2 * 2 ^ m = 2 ^ (m + 1) by rw [Nat.pow_succ, Nat.mul_comm]]
    omega
theorem pop_mod : ∀ n y, pop n (y % 2 ^ n) = pop n y
  | 0, _ => rfl
  | n + 1, y => by
    show y % 2 ^ (n + 1) % 2 + pop n (y % 2 ^ (n + 1) / 2) = y % 2 + pop n (y / 2)
    have e1 : y % 2 ^ (n + 1) % 2 = y % 2 := Nat.mod_mod_of_dvd _ ⟨2 ^ n, by rw [Nat.pow_succ, Nat.mul_comm]⟩
    have e2 : y % 2 ^ (n + 1) / 2 = y / 2 % 2 ^ n := by rw [Nat.pow_succ, Nat.mul_comm, Nat.mod_mul_right_div_self]
    rw [e1, e2, pop_mod n]
theorem pop_short {m n x : Nat} (h : x < 2 ^ m) (hm : m ≤ n) : pop n x = pop m x := by
  obtain ⟨d, rfl⟩ := Nat.exists_eq_add_of_le hm
  rw [pop_split, Nat.div_eq_of_lt h, pop_zero, Nat.add_zero]
theorem pop_bound {m n x : Nat} (h : x < 2 ^ m) (hm : m ≤ n) : pop n x ≤ m := by rw [pop_short h hm]; exact pop_le _ _
theorem pop_pos : ∀ {n x}, x < 2 ^ n → x ≠ 0 → 1 ≤ pop n x
  | 0, x, h, h0 => by simp at h; omega
  | n + 1, x, h, h0 => by
    show 1 ≤ x % 2 + pop n (x / 2)
    by_cases h1 : x / 2 = 0
    · omega
    · have := pop_pos (n := n) (x := x / 2) (by rw [Nat.pow_succ] at h; omega) h1
      omega
theorem pop_set : ∀ {n i x : Nat}, i < n → x.testBit i = false → pop n (x + 2 ^ i) = pop n x + 1
  | n + 1, 0, x, hi, h => by
    have h2 : x % 2 = 0 := by simp [Nat.testBit_zero] at h; omega
    show (x + 1) % 2 + pop n ((x + 1) / 2) = x % 2 + pop n (x / 2) + 1
    rw [show (x + 1) / 2 = x / 2 by omega]; omega
  | n + 1, i + 1, x, hi, h => by
    rw [Nat.testBit_succ] at h
    have ih := pop_set (n := n) (i := i) (x := x / 2) (by omega) h
    show (x + 2 ^ (i + 1)) % 2 + pop n ((x + 2 ^ (i + 1)) / 2) = x % 2 + pop n (x / 2) + 1
    have e : (x + 2 ^ (i + 1)) / 2 = x / 2 + 2 ^ i := by rw [Nat.pow_succ]; omega
    have e2 : (x + 2 ^ (i + 1)) % 2 = x % 2 := by rw [Nat.pow_succ]; omega
    rw [e, e2, ih]; omega

/-- A bit that is not set is set by adding. -/
theorem or_add {x i : Nat} (h : x.testBit i = false) : x ||| 2 ^ i = x + 2 ^ i := by
  have : x &&& 2 ^ i = 0 := by
    apply Nat.eq_of_testBit_eq
    intro j
    rw [Nat.testBit_and, Nat.testBit_two_pow, Nat.zero_testBit]
    by_cases hj : i = j
    · subst hj; simp [h]
    · simp [hj]
  have hx : x / 2 ^ i % 2 = 0 := by
    have := h
    rw [Nat.testBit_eq_decide_div_mod_eq] at this
    simp at this
    omega
  clear this
  apply Nat.eq_of_testBit_eq
  intro j
  rw [Nat.testBit_or, Nat.testBit_two_pow]
  rcases Nat.lt_trichotomy j i with hj | hj | hj
  · rw [Nat.add_comm, Nat.testBit_two_pow_add_gt hj]
    simp; omega
  · subst hj
    rw [Nat.add_comm, Nat.testBit_two_pow_add_eq, h]
    simp
  · obtain ⟨d, rfl⟩ := Nat.exists_eq_add_of_lt hj
    have e1 : (x + 2 ^ i).testBit (i + d + 1) = ((x + 2 ^ i) / 2 ^ i / 2).testBit d := by
      rw [show i + d + 1 = d + 1 + i by omega, ← Nat.testBit_div_two_pow, Nat.testBit_succ]
    have e2 : x.testBit (i + d + 1) = (x / 2 ^ i / 2).testBit d := by
      rw [show i + d + 1 = d + 1 + i by omega, ← Nat.testBit_div_two_pow, Nat.testBit_succ]
    rw [e1, e2, Nat.add_div_right _ (Nat.two_pow_pos i), show (x / 2 ^ i).succ / 2 = x / 2 ^ i / 2 by omega]
    simp; omega
theorem testBit_add {x i j : Nat} (h : x.testBit i = false) : (x + 2 ^ i).testBit j = (x.testBit j || decide (i = j)) := by
  rw [← or_add h, Nat.testBit_or, Nat.testBit_two_pow]
theorem le_of_bit {x i : Nat} (h : x.testBit i = true) : 2 ^ i ≤ x := Nat.ge_two_pow_of_testBit h
theorem testBit_sub {x i j : Nat} (h : x.testBit i = true) : (x - 2 ^ i).testBit j = (x.testBit j && decide (i ≠ j)) := by
  have hz : (x ^^^ 2 ^ i).testBit i = false := by rw [Nat.testBit_xor, Nat.testBit_two_pow, h]; simp
  have e : (x ^^^ 2 ^ i) + 2 ^ i = x := by
    rw [← or_add hz]
    apply Nat.eq_of_testBit_eq
    intro k
    rw [Nat.testBit_or, Nat.testBit_xor, Nat.testBit_two_pow]
    by_cases hk : i = k
    · subst hk; simp [h]
    · simp [hk]
  have e2 : x - 2 ^ i = x ^^^ 2 ^ i := by omega
  rw [e2, Nat.testBit_xor, Nat.testBit_two_pow]
  by_cases hk : i = j
  · subst hk; simp [h]
  · simp [hk]
theorem sub_add {x i : Nat} (h : x.testBit i = true) : (x - 2 ^ i).testBit i = false ∧ x - 2 ^ i + 2 ^ i = x := by
  refine ⟨by rw [testBit_sub h]; simp, ?_⟩
  have := le_of_bit h
  omega
theorem pop_clear {n i x : Nat} (hi : i < n) (h : x.testBit i = true) : pop n (x - 2 ^ i) + 1 = pop n x := by
  obtain ⟨h1, h2⟩ := sub_add h
  have := pop_set hi h1
  rw [h2] at this
  exact this.symm
theorem bit_lt {x i m : Nat} (h : x < 2 ^ m) (hb : x.testBit i = true) : i < m := by
  apply Nat.lt_of_not_le
  intro hle
  have := le_of_bit hb
  have h2 : 2 ^ m ≤ 2 ^ i := Nat.pow_le_pow_right (by decide) hle
  omega
theorem add_lt {x i m : Nat} (h : x < 2 ^ m) (hi : i < m) (hb : x.testBit i = false) : x + 2 ^ i < 2 ^ m := by
  rw [← or_add hb]
  exact Nat.or_lt_two_pow h (Nat.pow_lt_pow_right (by decide) hi)

/-- The least of the first n bits that is not set; n, if there is none. -/
def lz : Nat → Nat → Nat
  | 0, _ => 0
  | n + 1, t => if t % 2 = 1 then lz n (t / 2) + 1 else 0
theorem lz_le : ∀ n t, lz n t ≤ n
  | 0, _ => Nat.le_refl _
  | n + 1, t => by have := lz_le n (t / 2); unfold lz; split <;> omega
theorem lz_bit : ∀ {n t : Nat}, lz n t < n → t.testBit (lz n t) = false
  | 0, t, h => by simp [lz] at h
  | n + 1, t, h => by
    unfold lz at h ⊢
    split at h
    · rename_i h1
      rw [if_pos h1, Nat.testBit_succ]
      exact lz_bit (by omega)
    · rename_i h1
      rw [if_neg h1, Nat.testBit_zero]; simp; omega
theorem lz_below : ∀ {n t i : Nat}, i < lz n t → t.testBit i = true
  | 0, t, i, h => by simp [lz] at h
  | n + 1, t, i, h => by
    unfold lz at h
    split at h
    · rename_i h1
      cases i with
      | zero => rw [Nat.testBit_zero]; simp [h1]
      | succ i => rw [Nat.testBit_succ]; exact lz_below (n := n) (by omega)
    · omega
theorem lz_zero (n : Nat) (hn : 0 < n) : lz n 0 = 0 := by cases n with | zero => omega | succ n => rfl
theorem lz_unique {n t k : Nat} (hk : k < n) (h0 : t.testBit k = false) (h1 : ∀ i, i < k → t.testBit i = true) : lz n t = k := by
  rcases Nat.lt_trichotomy (lz n t) k with h | h | h
  · have := h1 _ h
    rw [lz_bit (by omega)] at this
    cases this
  · exact h
  · have := lz_below h
    rw [h0] at this
    cases this
theorem ctz_lz : ∀ (n t : Nat), t < 2 ^ n → Lib.ctz n (2 ^ n - 1 - t) = lz n t := by
  have key : ∀ (n t : Nat), t < 2 ^ n → t ≠ 2 ^ n - 1 → Lib.ctzFrom n (2 ^ n - 1 - t) = lz n t := by
    intro n
    induction n with
    | zero => intro t h h2; simp at h; subst h; rfl
    | succ n ih =>
      intro t h h2
      rw [Nat.pow_succ] at h h2 ⊢
      have hp : 0 < 2 ^ n := Nat.two_pow_pos n
      unfold Lib.ctzFrom lz
      by_cases h3 : t % 2 = 1
      · rw [if_neg (by omega), if_pos h3]
        have e : (2 ^ n * 2 - 1 - t) / 2 = 2 ^ n - 1 - t / 2 := by omega
        rw [e, ih (t / 2) (by omega) (by omega)]
        omega
      · rw [if_pos (by omega), if_neg h3]
  have full : ∀ n, lz n (2 ^ n - 1) = n := by
    intro n
    induction n with
    | zero => rfl
    | succ n ih =>
      unfold lz
      have hp : 0 < 2 ^ n := Nat.two_pow_pos n
      rw [Nat.pow_succ, if_pos (by omega), show (2 ^ n * 2 - 1) / 2 = 2 ^ n - 1 by omega, ih]
  intro n t h
  unfold Lib.ctz
  split
  · rename_i h1
    have : t = 2 ^ n - 1 := by omega
    rw [this, full]
  · exact key n t h (by omega)
theorem lz_lt {n m t : Nat} (h : t < 2 ^ m) (hm : m < n) : lz n t ≤ m := by
  apply Nat.le_of_not_lt
  intro hlt
  have := lz_below hlt
  have h2 := le_of_bit this
  omega

/-! ### The count in one word -/
/-- n bytes c. -/
def rep (c : Nat) : Nat → Nat
  | 0 => 0
  | n + 1 => 256 * rep c n + c
theorem rep85 : rep 85 8 = 6148914691236517205 := by decide
theorem rep51 : rep 51 8 = 3689348814741910323 := by decide
theorem rep15 : rep 15 8 = 1085102592571150095 := by decide
theorem rep_succ (c n : Nat) : rep c (n + 1) = 256 * rep c n + c := rfl
theorem and_byte (a b c d : Nat) (hb : b < 256) (hd : d < 256) : (256 * a + b) &&& (256 * c + d) = 256 * (a &&& c) + (b &&& d) := by
  have hl : b &&& d < 256 := Nat.and_lt_two_pow (n := 8) b hd
  have h1 : ((256 * a + b) &&& (256 * c + d)) / 256 = a &&& c := by
    have := Nat.and_div_two_pow (n := 8) (a := 256 * a + b) (b := 256 * c + d)
    simp only [Nat.reducePow] at this
    rw [this, show (256 * a + b) / 256 = a by omega, show (256 * c + d) / 256 = c by omega]
  have h2 : ((256 * a + b) &&& (256 * c + d)) % 256 = b &&& d := by
    have := Nat.and_mod_two_pow (n := 8) (a := 256 * a + b) (b := 256 * c + d)
    simp only [Nat.reducePow] at this
    rw [this, show (256 * a + b) % 256 = b by omega, show (256 * c + d) % 256 = d by omega]
  omega
/-- One step: x >> k & m + x & m, byte by byte. -/
def st (c k : Nat) (n x : Nat) : Nat := (x / k &&& rep c n) + (x &&& rep c n)
def s1 (r : Nat) : Nat := (r / 2 &&& 85) + (r &&& 85)
def s2 (r : Nat) : Nat := (r / 4 &&& 51) + (r &&& 51)
theorem st1 (n q r : Nat) (hr : r < 256) : st 85 2 (n + 1) (256 * q + r) = 256 * st 85 2 n q + s1 r := by
  unfold st s1
  rw [rep_succ]
  have e : (256 * q + r) / 2 = 256 * (q / 2) + (r / 2 + 128 * (q % 2)) := by omega
  have k : ∀ r : Fin 256, ∀ b : Fin 2, (r.val / 2 + 128 * b.val) &&& 85 = r.val / 2 &&& 85 := by decide +kernel
  rw [e, and_byte _ _ _ _ (by omega) (by omega), and_byte _ _ _ _ hr (by omega), k ⟨r, hr⟩ ⟨q % 2, by omega⟩]
  show 256 * _ + (r / 2 &&& 85) + _ = _
  omega
theorem st2 (n q r : Nat) (hr : r < 256) : st 51 4 (n + 1) (256 * q + r) = 256 * st 51 4 n q + s2 r := by
  unfold st s2
  rw [rep_succ]
  have e : (256 * q + r) / 4 = 256 * (q / 4) + (r / 4 + 64 * (q % 4)) := by omega
  have k : ∀ r : Fin 256, ∀ b : Fin 4, (r.val / 4 + 64 * b.val) &&& 51 = r.val / 4 &&& 51 := by decide +kernel
  rw [e, and_byte _ _ _ _ (by omega) (by omega), and_byte _ _ _ _ hr (by omega), k ⟨r, hr⟩ ⟨q % 4, by omega⟩]
  show 256 * _ + (r / 4 &&& 51) + _ = _
  omega
theorem s1_lt : ∀ r : Fin 256, s1 r.val < 256 := by decide +kernel
theorem s2_lt : ∀ r : Fin 256, s2 (s1 r.val) < 256 ∧ s2 (s1 r.val) % 16 ≤ 4 ∧ s2 (s1 r.val) / 16 ≤ 4 := by decide +kernel
theorem s3_pop : ∀ r : Fin 256, s2 (s1 r.val) % 16 + s2 (s1 r.val) / 16 = pop 8 r.val := by decide +kernel
/-- x's n bytes, each turned. -/
def by_ (f : Nat → Nat) : Nat → Nat → Nat
  | 0, _ => 0
  | n + 1, x => 256 * by_ f n (x / 256) + f (x % 256)
theorem st1_by : ∀ n x, x < 256 ^ n → st 85 2 n x = by_ s1 n x
  | 0, x, h => by simp at h; subst h; rfl
  | n + 1, x, h => by
    have e : x = 256 * (x / 256) + x % 256 := by omega
    have hl : x / 256 < 256 ^ n := by rw [Nat.pow_succ] at h; omega
    rw [e, st1 n _ _ (Nat.mod_lt _ (by decide)), st1_by n _ hl, ← e]
    rfl
theorem by_lt {f : Nat → Nat} (hf : ∀ r, r < 256 → f r < 256) : ∀ n x, by_ f n x < 256 ^ n
  | 0, _ => by simp [by_]
  | n + 1, x => by
    have h1 := by_lt hf n (x / 256)
    have h2 := hf (x % 256) (Nat.mod_lt _ (by decide))
    rw [Nat.pow_succ]; show 256 * by_ f n (x / 256) + f (x % 256) < _; omega
theorem st2_by : ∀ n x, x < 256 ^ n → st 51 4 n (by_ s1 n x) = by_ (fun r => s2 (s1 r)) n x
  | 0, x, h => by simp at h; subst h; rfl
  | n + 1, x, h => by
    have hl : x / 256 < 256 ^ n := by rw [Nat.pow_succ] at h; omega
    show st 51 4 (n + 1) (256 * by_ s1 n (x / 256) + s1 (x % 256)) = _
    rw [st2 n _ _ (s1_lt ⟨x % 256, Nat.mod_lt _ (by decide)⟩), st2_by n _ hl]
    rfl
theorem and15 (m : Nat) : m &&& 15 = m % 16 := Nat.and_two_pow_sub_one_eq_mod m 4
theorem st3_by : ∀ n x, x < 256 ^ n → (by_ (fun r => s2 (s1 r)) n x / 16 + by_ (fun r => s2 (s1 r)) n x) &&& rep 15 n = by_ (pop 8) n x
  | 0, x, h => by simp at h; subst h; rfl
  | n + 1, x, h => by
    have hl : x / 256 < 256 ^ n := by rw [Nat.pow_succ] at h; omega
    have ih := st3_by n (x / 256) hl
    have h2 := s2_lt ⟨x % 256, Nat.mod_lt _ (by decide)⟩
    have h3 := s3_pop ⟨x % 256, Nat.mod_lt _ (by decide)⟩
    have hy : by_ (fun r => s2 (s1 r)) n (x / 256) % 16 ≤ 4 := by
      cases n with
      | zero => simp [by_]
      | succ n =>
        have := s2_lt ⟨x / 256 % 256, Nat.mod_lt _ (by decide)⟩
        show (256 * _ + s2 (s1 (x / 256 % 256))) % 16 ≤ 4
        simp only at this
        omega
    show ((256 * by_ (fun r => s2 (s1 r)) n (x / 256) + s2 (s1 (x % 256))) / 16 + (256 * by_ (fun r => s2 (s1 r)) n (x / 256) + s2 (s1 (x % 256)))) &&& (256 * rep 15 n + 15) = 256 * by_ (pop 8) n (x / 256) + pop 8 (x % 256)
    simp only at h2 h3
    generalize by_ (fun r => s2 (s1 r)) n (x / 256) = Y at *
    generalize s2 (s1 (x % 256)) = y at *
    have e : (256 * Y + y) / 16 + (256 * Y + y) = 256 * (Y / 16 + Y) + (y / 16 + 16 * (Y % 16) + y) := by omega
    rw [e, and_byte _ _ _ _ (by omega) (by omega), ih, and15]
    omega
/-- The last three steps add the bytes up. -/
theorem up1 (a b c d e f g h : Nat) (ha : a ≤ 8) : (256 * (256 * (256 * (256 * (256 * (256 * (256 * h + g) + f) + e) + d) + c) + b) + a) + (256 * (256 * (256 * (256 * (256 * (256 * (256 * h + g) + f) + e) + d) + c) + b) + a) / 256 = 65536 * (256 * (256 * (256 * (256 * (256 * h + (g + h)) + (f + g)) + (e + f)) + (d + e)) + (c + d)) + (256 * (b + c) + (a + b)) := by
  have e1 : (256 * (256 * (256 * (256 * (256 * (256 * (256 * h + g) + f) + e) + d) + c) + b) + a) / 256 = 256 * (256 * (256 * (256 * (256 * (256 * h + g) + f) + e) + d) + c) + b := by
    generalize 256 * (256 * (256 * (256 * (256 * (256 * h + g) + f) + e) + d) + c) + b = q
    omega
  rw [e1]; simp only [Nat.mul_add, ← Nat.mul_assoc, Nat.reduceMul]; ac_rfl
theorem up2 (a b c d e f g h : Nat) (ha : a ≤ 8) (hb : b ≤ 8) (hc : c ≤ 8) (hd : d ≤ 8) (he : e ≤ 8) (hf : f ≤ 8) (hg : g ≤ 8) (hh : h ≤ 8) : (65536 * (256 * (256 * (256 * (256 * (256 * h + (g + h)) + (f + g)) + (e + f)) + (d + e)) + (c + d)) + (256 * (b + c) + (a + b))) + (65536 * (256 * (256 * (256 * (256 * (256 * h + (g + h)) + (f + g)) + (e + f)) + (d + e)) + (c + d)) + (256 * (b + c) + (a + b))) / 65536 = 4294967296 * (256 * (256 * (256 * h + (g + h)) + (f + g + h)) + (e + f + g + h)) + (256 * (256 * (256 * (d + e + f + g) + (c + d + e + f)) + (b + c + d + e)) + (a + b + c + d)) := by
  have e1 : (65536 * (256 * (256 * (256 * (256 * (256 * h + (g + h)) + (f + g)) + (e + f)) + (d + e)) + (c + d)) + (256 * (b + c) + (a + b))) / 65536 = 256 * (256 * (256 * (256 * (256 * h + (g + h)) + (f + g)) + (e + f)) + (d + e)) + (c + d) := by
    generalize 256 * (256 * (256 * (256 * (256 * h + (g + h)) + (f + g)) + (e + f)) + (d + e)) + (c + d) = q
    omega
  rw [e1]; simp only [Nat.mul_add, ← Nat.mul_assoc, Nat.reduceMul]; ac_rfl
theorem up3 (a b c d e f g h : Nat) (ha : a ≤ 8) (hb : b ≤ 8) (hc : c ≤ 8) (hd : d ≤ 8) (he : e ≤ 8) (hf : f ≤ 8) (hg : g ≤ 8) (hh : h ≤ 8) : (4294967296 * (256 * (256 * (256 * h + (g + h)) + (f + g + h)) + (e + f + g + h)) + (256 * (256 * (256 * (d + e + f + g) + (c + d + e + f)) + (b + c + d + e)) + (a + b + c + d))) + (4294967296 * (256 * (256 * (256 * h + (g + h)) + (f + g + h)) + (e + f + g + h)) + (256 * (256 * (256 * (d + e + f + g) + (c + d + e + f)) + (b + c + d + e)) + (a + b + c + d))) / 4294967296 = 128 * (33554432 * (256 * (256 * (256 * h + (g + h)) + (f + g + h)) + (e + f + g + h)) + 2 * (256 * (256 * (d + e + f + g) + (c + d + e + f)) + (b + c + d + e)) + 2 * (256 * (256 * h + (g + h)) + (f + g + h))) + (a + b + c + d + e + f + g + h) := by
  have e1 : (4294967296 * (256 * (256 * (256 * h + (g + h)) + (f + g + h)) + (e + f + g + h)) + (256 * (256 * (256 * (d + e + f + g) + (c + d + e + f)) + (b + c + d + e)) + (a + b + c + d))) / 4294967296 = 256 * (256 * (256 * h + (g + h)) + (f + g + h)) + (e + f + g + h) := by
    have hl : 256 * (256 * (256 * (d + e + f + g) + (c + d + e + f)) + (b + c + d + e)) + (a + b + c + d) < 4294967296 := by omega
    generalize 256 * (256 * (256 * h + (g + h)) + (f + g + h)) + (e + f + g + h) = q
    generalize 256 * (256 * (256 * (d + e + f + g) + (c + d + e + f)) + (b + c + d + e)) + (a + b + c + d) = r at *
    omega
  rw [e1]; simp only [Nat.mul_add, ← Nat.mul_assoc, Nat.reduceMul]; ac_rfl
theorem up4 (a b c d e f g h : Nat) (ha : a ≤ 8) (hb : b ≤ 8) (hc : c ≤ 8) (hd : d ≤ 8) (he : e ≤ 8) (hf : f ≤ 8) (hg : g ≤ 8) (hh : h ≤ 8) : 65536 * (256 * (256 * (256 * (256 * (256 * h + (g + h)) + (f + g)) + (e + f)) + (d + e)) + (c + d)) + (256 * (b + c) + (a + b)) < 18446744073709551616 := by omega
theorem up5 (a b c d e f g h : Nat) (ha : a ≤ 8) (hb : b ≤ 8) (hc : c ≤ 8) (hd : d ≤ 8) (he : e ≤ 8) (hf : f ≤ 8) (hg : g ≤ 8) (hh : h ≤ 8) : 4294967296 * (256 * (256 * (256 * h + (g + h)) + (f + g + h)) + (e + f + g + h)) + (256 * (256 * (256 * (d + e + f + g) + (c + d + e + f)) + (b + c + d + e)) + (a + b + c + d)) < 18446744073709551616 := by omega
theorem up6 (a b c d e f g h : Nat) (ha : a ≤ 8) (hb : b ≤ 8) (hc : c ≤ 8) (hd : d ≤ 8) (he : e ≤ 8) (hf : f ≤ 8) (hg : g ≤ 8) (hh : h ≤ 8) : 128 * (33554432 * (256 * (256 * (256 * h + (g + h)) + (f + g + h)) + (e + f + g + h)) + 2 * (256 * (256 * (d + e + f + g) + (c + d + e + f)) + (b + c + d + e)) + 2 * (256 * (256 * h + (g + h)) + (f + g + h))) + (a + b + c + d + e + f + g + h) < 9223372036854775808 := by omega
theorem up7 (a b c d e f g h : Nat) (ha : a ≤ 8) (hb : b ≤ 8) (hc : c ≤ 8) (hd : d ≤ 8) (he : e ≤ 8) (hf : f ≤ 8) (hg : g ≤ 8) (hh : h ≤ 8) : (128 * (33554432 * (256 * (256 * (256 * h + (g + h)) + (f + g + h)) + (e + f + g + h)) + 2 * (256 * (256 * (d + e + f + g) + (c + d + e + f)) + (b + c + d + e)) + 2 * (256 * (256 * h + (g + h)) + (f + g + h))) + (a + b + c + d + e + f + g + h)) % 128 = a + b + c + d + e + f + g + h := by
  generalize 33554432 * (256 * (256 * (256 * h + (g + h)) + (f + g + h)) + (e + f + g + h)) + 2 * (256 * (256 * (d + e + f + g) + (c + d + e + f)) + (b + c + d + e)) + 2 * (256 * (256 * h + (g + h)) + (f + g + h)) = q
  omega
theorem sum_up (a b c d e f g h : Nat) (ha : a ≤ 8) (hb : b ≤ 8) (hc : c ≤ 8) (hd : d ≤ 8) (he : e ≤ 8) (hf : f ≤ 8) (hg : g ≤ 8) (hh : h ≤ 8) (x y z u : Nat)
    (hx : x = 256 * (256 * (256 * (256 * (256 * (256 * (256 * (256 * 0 + h) + g) + f) + e) + d) + c) + b) + a)
    (hy : y = x + x / 256) (hz : z = y + y / 65536) (hu : u = z + z / 4294967296) : u < 9223372036854775808 ∧ z < 18446744073709551616 ∧ y < 18446744073709551616 ∧ u % 128 = a + b + c + d + e + f + g + h := by
  rw [Nat.mul_zero, Nat.zero_add] at hx
  rw [hx, up1 _ _ _ _ _ _ _ _ ha] at hy
  rw [hy, up2 _ _ _ _ _ _ _ _ ha hb hc hd he hf hg hh] at hz
  rw [hz, up3 _ _ _ _ _ _ _ _ ha hb hc hd he hf hg hh] at hu
  rw [hu, hz, hy]
  exact ⟨up6 _ _ _ _ _ _ _ _ ha hb hc hd he hf hg hh, up5 _ _ _ _ _ _ _ _ ha hb hc hd he hf hg hh, up4 _ _ _ _ _ _ _ _ ha hb hc hd he hf hg hh, up7 _ _ _ _ _ _ _ _ ha hb hc hd he hf hg hh⟩
/-- What the word's steps make of x. -/
def word (x : Nat) : Nat :=
  let x1 := st 85 2 8 x
  let x2 := st 51 4 8 x1
  let x3 := (x2 / 16 + x2) &&& rep 15 8
  let y := x3 + x3 / 256
  let z := y + y / 65536
  (z + z / 4294967296) % 128
theorem word_pop (x : Nat) (h : x < 18446744073709551616) : word x = pop 64 x := by
  unfold word
  have h' : x < 256 ^ 8 := by simpa using h
  simp only
  rw [st1_by 8 x h', st2_by 8 x h', st3_by 8 x h']
  have key := sum_up (pop 8 (x % 256)) (pop 8 (x / 256 % 256)) (pop 8 (x / 256 / 256 % 256)) (pop 8 (x / 256 / 256 / 256 % 256)) (pop 8 (x / 256 / 256 / 256 / 256 % 256)) (pop 8 (x / 256 / 256 / 256 / 256 / 256 % 256)) (pop 8 (x / 256 / 256 / 256 / 256 / 256 / 256 % 256)) (pop 8 (x / 256 / 256 / 256 / 256 / 256 / 256 / 256 % 256))
    (pop_le _ _) (pop_le _ _) (pop_le _ _) (pop_le _ _) (pop_le _ _) (pop_le _ _) (pop_le _ _) (pop_le _ _) (by_ (pop 8) 8 x) _ _ _ rfl rfl rfl rfl
  rw [key.2.2.2]
  have low : ∀ y, pop 8 (y % 256) = pop 8 y := fun y => pop_mod 8 y
  have s : ∀ n y, pop (8 + n) y = pop 8 (y % 256) + pop n (y / 256) := fun n y => by rw [low, pop_split 8 n y]
  have z : ∀ y, pop 0 y = 0 := fun _ => rfl
  rw [show 64 = 8 + (8 + (8 + (8 + (8 + (8 + (8 + (8 + 0))))))) from rfl, s, s, s, s, s, s, s, s, z]
  generalize pop 8 (x % 256) = p0
  generalize pop 8 (x / 256 % 256) = p1
  generalize pop 8 (x / 256 / 256 % 256) = p2
  generalize pop 8 (x / 256 / 256 / 256 % 256) = p3
  generalize pop 8 (x / 256 / 256 / 256 / 256 % 256) = p4
  generalize pop 8 (x / 256 / 256 / 256 / 256 / 256 % 256) = p5
  generalize pop 8 (x / 256 / 256 / 256 / 256 / 256 / 256 % 256) = p6
  generalize pop 8 (x / 256 / 256 / 256 / 256 / 256 / 256 / 256 % 256) = p7
  omega
theorem word_is (x x1 x2 x3 y z u : Nat) (hx : x < 18446744073709551616) (e1 : x1 = st 85 2 8 x) (e2 : x2 = st 51 4 8 x1) (e3 : x3 = (x2 / 16 + x2) &&& rep 15 8) (e4 : y = x3 + x3 / 256) (e5 : z = y + y / 65536) (e6 : u = z + z / 4294967296) : u % 128 = pop 64 x := by
  rw [← word_pop x hx]
  unfold word
  dsimp only
  rw [← e1, ← e2, ← e3, ← e4, ← e5, ← e6]
theorem sums (x : Nat) (h' : x < 256 ^ 8) (x3 y z u : Nat) (h3 : x3 = (by_ (fun r => s2 (s1 r)) 8 x / 16 + by_ (fun r => s2 (s1 r)) 8 x) &&& rep 15 8)
    (hy : y = x3 + x3 / 256) (hz : z = y + y / 65536) (hu : u = z + z / 4294967296) : u < 9223372036854775808 ∧ z < 18446744073709551616 ∧ y < 18446744073709551616 := by
  have e : x3 = by_ (pop 8) 8 x := h3.trans (st3_by 8 x h')
  have key := sum_up (pop 8 (x % 256)) (pop 8 (x / 256 % 256)) (pop 8 (x / 256 / 256 % 256)) (pop 8 (x / 256 / 256 / 256 % 256)) (pop 8 (x / 256 / 256 / 256 / 256 % 256)) (pop 8 (x / 256 / 256 / 256 / 256 / 256 % 256)) (pop 8 (x / 256 / 256 / 256 / 256 / 256 / 256 % 256)) (pop 8 (x / 256 / 256 / 256 / 256 / 256 / 256 / 256 % 256))
    (pop_le _ _) (pop_le _ _) (pop_le _ _) (pop_le _ _) (pop_le _ _) (pop_le _ _) (pop_le _ _) (pop_le _ _) x3 y z u e hy hz hu
  exact ⟨key.1, key.2.1, key.2.2.1⟩
/-- The top byte is small, so the sum of a word and its sixteenth fits. -/
theorem by_small : ∀ n x, 255 * by_ (fun r => s2 (s1 r)) n x + 68 ≤ 68 * 256 ^ n
  | 0, _ => by simp [by_]
  | n + 1, x => by
    have h1 := by_small n (x / 256)
    have h2 := s2_lt ⟨x % 256, Nat.mod_lt _ (by decide)⟩
    simp only at h2
    show 255 * (256 * by_ (fun r => s2 (s1 r)) n (x / 256) + s2 (s1 (x % 256))) + 68 ≤ 68 * 256 ^ (n + 1)
    rw [Nat.pow_succ]
    generalize by_ (fun r => s2 (s1 r)) n (x / 256) = Y at *
    generalize s2 (s1 (x % 256)) = y at *
    generalize 256 ^ n = P at *
    omega
/-- The first n bits turned round. -/
theorem xor_all (n t : Nat) (h : t < 2 ^ n) : (2 ^ n - 1) ^^^ t = 2 ^ n - 1 - t := by
  apply Nat.eq_of_testBit_eq
  intro i
  rw [Nat.testBit_xor, Nat.testBit_two_pow_sub_one, show 2 ^ n - 1 - t = 2 ^ n - (t + 1) by omega, Nat.testBit_two_pow_sub_succ h]
  by_cases hi : i < n
  · cases t.testBit i <;> simp [hi]
  · have : t.testBit i = false := Nat.testBit_lt_two_pow (Nat.lt_of_lt_of_le h (Nat.pow_le_pow_right (by decide) (by omega)))
    simp [hi, this]
theorem and_not (n i t : Nat) (hi : i < n) (ht : t < 2 ^ n) (hb : t.testBit i = true) : t &&& (2 ^ n - 1 - 2 ^ i) = t - 2 ^ i := by
  have hp : 2 ^ i < 2 ^ n := Nat.pow_lt_pow_right (by decide) hi
  apply Nat.eq_of_testBit_eq
  intro j
  rw [Nat.testBit_and, show 2 ^ n - 1 - 2 ^ i = 2 ^ n - (2 ^ i + 1) by omega, Nat.testBit_two_pow_sub_succ hp, testBit_sub hb, Nat.testBit_two_pow]
  by_cases hj : j < n
  · simp [hj]
  · have : t.testBit j = false := Nat.testBit_lt_two_pow (Nat.lt_of_lt_of_le ht (Nat.pow_le_pow_right (by decide) (by omega)))
    simp [this]
end Go.Proofs.YtdkiegkgnimapabDoor.Math
