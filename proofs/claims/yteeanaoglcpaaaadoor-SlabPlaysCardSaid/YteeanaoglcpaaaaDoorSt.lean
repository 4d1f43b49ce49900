/- A slab of which one class alone takes: what its pages are; nothing here speaks of memory. -/
import Derived.Test.YteeanaoglcpaaaaDoorLaw
set_option linter.unusedVariables false
set_option linter.unusedSimpArgs false
namespace Go.Proofs.YteeanaoglcpaaaaDoor
open Math

theorem ones_bit (k i : Nat) : (2 ^ k - 1).testBit i = decide (i < k) := Nat.testBit_two_pow_sub_one k i
theorem lz_ones (n k : Nat) (h : k ≤ n) : lz n (2 ^ k - 1) = k := by
  rcases Nat.lt_or_ge k n with h1 | h1
  · exact lz_unique h1 (by rw [ones_bit]; simp) (fun i hi => by rw [ones_bit]; simpa using hi)
  · obtain rfl : k = n := by omega
    rcases Nat.lt_or_ge (lz k (2 ^ k - 1)) k with h2 | h2
    · have := lz_bit h2
      rw [ones_bit] at this
      simp at this
      omega
    · have := lz_le k (2 ^ k - 1)
      omega
theorem lz_hole (n k j : Nat) (hj : j < k) (hk : k ≤ n) : lz n (2 ^ k - 1 - 2 ^ j) = j := by
  have hb : (2 ^ k - 1).testBit j = true := by rw [ones_bit]; simpa using hj
  exact lz_unique (by omega) (by rw [testBit_sub hb]; simp) (fun i hi => by rw [testBit_sub hb, ones_bit]; simp; omega)
/-- Page q when m chunks were taken, one after the other; z: a page that was not reached. -/
def pgm (z : Pg) (c m q : Nat) : Pg := if m ≤ q * many c then z else ⟨(c : Int), 2 ^ min (many c) (m - q * many c) - 1⟩
def St (z : Pg) (c n m : Nat) : List Pg := (List.range n).map (pgm z c m)
/-- What a page that was not reached may be. -/
def Zok (z : Pg) (c : Nat) : Prop := z.t = 0 ∧ z.c ≠ (c : Int) ∧ -1 ≤ z.c
theorem St_len (z : Pg) (c n m : Nat) : (St z c n m).length = n := by simp [St]
theorem St_get {z : Pg} {c n m q : Nat} (h : q < n) : (St z c n m)[q]? = some (pgm z c m q) := by simp [St, h]
theorem St_get' {z : Pg} {c n m q : Nat} (h : q < (St z c n m).length) : (St z c n m)[q] = pgm z c m q := by simp [St]
theorem pgm_full {z : Pg} {c m q : Nat} (h : (q + 1) * many c ≤ m) (hc : 0 < many c) : pgm z c m q = ⟨(c : Int), 2 ^ many c - 1⟩ := by
  rw [Nat.succ_mul] at h
  unfold pgm
  rw [if_neg (by omega), Nat.min_eq_left (by omega)]
theorem pgm_z {z : Pg} {c m q : Nat} (h : m ≤ q * many c) : pgm z c m q = z := by unfold pgm; rw [if_pos h]
theorem pgm_part {z : Pg} {c m q r : Nat} (h : m = q * many c + r) (h0 : 0 < r) (hr : r ≤ many c) : pgm z c m q = ⟨(c : Int), 2 ^ r - 1⟩ := by
  unfold pgm
  rw [if_neg (by omega), show m - q * many c = r by omega, Nat.min_eq_right hr]
theorem owns_ones {c k : Nat} (hk : k ≤ many c) : owns c ⟨(c : Int), 2 ^ k - 1⟩ = decide (k < many c) := by
  unfold owns
  rw [lz_ones 64 k (Nat.le_trans hk (many_le c))]
  simp
theorem owns_z {z : Pg} {c : Nat} (h : Zok z c) : owns c z = false := by unfold owns; rw [decide_eq_false h.2.1]; rfl
theorem free_ones {c k : Nat} (hk : 0 < k) : free ⟨(c : Int), 2 ^ k - 1⟩ = false := by
  unfold free
  have : 2 ^ 1 ≤ 2 ^ k := Nat.pow_le_pow_right (by decide) hk
  simp only [decide_eq_false_iff_not]
  omega
theorem bare_cls {c t : Nat} : bare ⟨(c : Int), t⟩ = false := by unfold bare; simp only [decide_eq_false_iff_not]; omega
theorem find_at {l : List Pg} {g : Pg → Bool} {a : Nat} (ha : a < l.length) (h : g l[a] = true) (hb : ∀ j (hj : j < l.length), j < a → g l[j] = false) : l.findIdx? g = some a := by
  rw [List.findIdx?_eq_some_iff_getElem]
  exact ⟨ha, h, fun j hj => by rw [hb j (by omega) hj]; simp⟩
theorem find_no {l : List Pg} {g : Pg → Bool} (h : ∀ j (hj : j < l.length), g l[j] = false) : l.findIdx? g = none := by
  rw [List.findIdx?_eq_none_iff]
  intro x hx
  obtain ⟨j, hj, rfl⟩ := List.getElem_of_mem hx
  exact h j hj
/-- The next page, and what it holds. -/
theorem St_pfor {z : Pg} {c n m : Nat} (hz : Zok z c) (hc : c < 6) (hm : m < n * many c) : pfor c (St z c n m) = some (m / many c) ∧ ∃ p, (St z c n m)[m / many c]? = some p ∧ p.t = 2 ^ (m % many c) - 1 := by
  have hM := many_pos c hc
  obtain ⟨a, ha⟩ : ∃ a, a = m / many c := ⟨_, rfl⟩
  obtain ⟨r, hr⟩ : ∃ r, r = m % many c := ⟨_, rfl⟩
  have e : m = a * many c + r := by rw [ha, hr]; exact (Nat.div_add_mod' m (many c)).symm
  have hrM : r < many c := by rw [hr]; exact Nat.mod_lt _ (by omega)
  have han : a < n := by
    apply Nat.lt_of_not_le
    intro h
    have := Nat.mul_le_mul_right (many c) h
    omega
  rw [← ha, ← hr]
  have hfull : ∀ j, j < a → pgm z c m j = ⟨(c : Int), 2 ^ many c - 1⟩ := fun j hj => pgm_full (by have := Nat.mul_le_mul_right (many c) (show j + 1 ≤ a by omega); omega) (by omega)
  have hz' : ∀ j, a < j → pgm z c m j = z := fun j hj => pgm_z (by have := Nat.mul_le_mul_right (many c) (show a + 1 ≤ j by omega); rw [Nat.succ_mul] at this; omega)
  have hal : a < (St z c n m).length := by rw [St_len]; exact han
  unfold pfor
  by_cases h0 : 0 < r
  · have hp : pgm z c m a = ⟨(c : Int), 2 ^ r - 1⟩ := pgm_part e h0 (by omega)
    refine ⟨?_, _, St_get han, by rw [hp]⟩
    rw [find_at (g := owns c) hal (by rw [St_get', hp, owns_ones (by omega)]; simpa using hrM) (fun j hj hja => by rw [St_get', hfull j hja, owns_ones (Nat.le_refl _)]; simp)]
    rfl
  · have hr0 : r = 0 := by omega
    have hp : pgm z c m a = z := pgm_z (by omega)
    refine ⟨?_, _, St_get han, by rw [hp, hr0, hz.1]⟩
    have hown : (St z c n m).findIdx? (owns c) = none := find_no (fun j hj => by
      rw [St_get']
      rcases Nat.lt_trichotomy j a with h1 | h1 | h1
      · rw [hfull j h1, owns_ones (Nat.le_refl _)]; simp
      · rw [h1, hp, owns_z hz]
      · rw [hz' j h1, owns_z hz])
    rw [hown, Option.none_or]
    by_cases hb : z.c = -1
    · rw [find_at (g := bare) hal (by rw [St_get', hp]; unfold bare; simpa using hb) (fun j hj hja => by rw [St_get', hfull j hja, bare_cls])]
      rfl
    · have hbn : bare z = false := by unfold bare; simpa using hb
      rw [find_no (g := bare) (fun j hj => by
        rw [St_get']
        rcases Nat.lt_trichotomy j a with h1 | h1 | h1
        · rw [hfull j h1, bare_cls]
        · rw [h1, hp, hbn]
        · rw [hz' j h1, hbn]), Option.none_or]
      exact find_at (g := free) hal (by rw [St_get', hp]; unfold free; simpa using hz.1) (fun j hj hja => by rw [St_get', hfull j hja, free_ones (by omega)])
/-- The number of the i-th chunk. -/
def num (c i : Nat) : Nat := 64 * (i / many c) + i % many c
theorem St_take {z : Pg} {c n m : Nat} (hz : Zok z c) (hc : c < 6) (hm : m < n * many c) : tkC c (St z c n m) = num c m ∧ tkE c (St z c n m) = 0 ∧ tkL c (St z c n m) = St z c n (m + 1) := by
  have hM := many_pos c hc
  have hM6 := many_le c
  obtain ⟨hp, p, hpa, hpt⟩ := St_pfor hz hc hm
  obtain ⟨e1, e2, e3⟩ := tk_some hp hpa
  have hrM : m % many c < many c := Nat.mod_lt _ (by omega)
  rw [e1, e2, e3]
  unfold tkn
  rw [hpt, lz_ones 64 _ (by omega)]
  refine ⟨rfl, rfl, ?_⟩
  have e := (Nat.div_add_mod' m (many c)).symm
  obtain ⟨a, ha⟩ : ∃ a, a = m / many c := ⟨_, rfl⟩
  obtain ⟨r, hr⟩ : ∃ r, r = m % many c := ⟨_, rfl⟩
  rw [← ha, ← hr] at e
  rw [← hr] at hrM
  rw [← ha, ← hr]
  have han : a < n := by have := (List.getElem?_eq_some_iff.1 hpa).1; rw [St_len, ← ha] at this; exact this
  apply List.ext_getElem?
  intro q
  by_cases hq : q < n
  · rw [St_get hq]
    by_cases hqa : q = a
    · subst hqa
      rw [List.getElem?_set_self (by rw [St_len]; exact hq), pgm_part (r := r + 1) (by omega) (by omega) (by omega)]
      have h2 : 0 < 2 ^ r := Nat.two_pow_pos r
      congr 2
      rw [Nat.pow_succ]; omega
    · rw [List.getElem?_set_ne (fun h => hqa h.symm), St_get hq]
      rcases Nat.lt_or_ge q a with h1 | h1
      · have := Nat.mul_le_mul_right (many c) (show q + 1 ≤ a by omega)
        rw [pgm_full (by omega) (by omega), pgm_full (by omega) (by omega)]
      · have := Nat.mul_le_mul_right (many c) (show a + 1 ≤ q by omega)
        rw [Nat.succ_mul] at this
        rw [pgm_z (by omega), pgm_z (by omega)]
  · rw [List.getElem?_eq_none (by rw [List.length_set, St_len]; omega), List.getElem?_eq_none (by rw [St_len]; omega)]
theorem St_end {z : Pg} {c n : Nat} (hc : c < 6) {q : Nat} (hq : q < n) : pgm z c (n * many c) q = ⟨(c : Int), 2 ^ many c - 1⟩ :=
  pgm_full (Nat.mul_le_mul_right (many c) (by omega)) (by have := many_pos c hc; omega)
/-- All is taken: none is left for any class. -/
theorem St_full {z : Pg} {c n : Nat} (hc : c < 6) {b : Nat} (hb : b < 6) : tkC b (St z c n (n * many c)) = 0 ∧ tkE b (St z c n (n * many c)) = 7 ∧ tkL b (St z c n (n * many c)) = St z c n (n * many c) := by
  have hM := many_pos c hc
  apply tk_none
  have hp : ∀ j (hj : j < (St z c n (n * many c)).length), (St z c n (n * many c))[j] = ⟨(c : Int), 2 ^ many c - 1⟩ := fun j hj => by
    rw [St_get', St_end hc (by rw [St_len] at hj; exact hj)]
  unfold pfor
  rw [find_no (g := owns b) (fun j hj => by
    rw [hp]
    by_cases h : c = b
    · subst h; rw [owns_ones (Nat.le_refl _)]; simp
    · unfold owns; rw [decide_eq_false (show ¬ ((c : Int) = (b : Int)) by omega)]; rfl), Option.none_or,
    find_no (g := bare) (fun j hj => by rw [hp, bare_cls]), Option.none_or, find_no (g := free) (fun j hj => by rw [hp, free_ones (by omega)])]
theorem St_zero (z : Pg) (c n : Nat) : St z c n 0 = List.replicate n z := by
  apply List.ext_getElem?
  intro q
  by_cases hq : q < n
  · rw [St_get hq, pgm_z (Nat.zero_le _), List.getElem?_replicate, if_pos hq]
  · rw [List.getElem?_eq_none (by rw [St_len]; omega), List.getElem?_eq_none (by simp; omega)]
theorem blank_ok (c : Nat) : Zok blank c := ⟨rfl, by show (-1 : Int) ≠ _; omega, by show (-1 : Int) ≤ -1; omega⟩
theorem num_div {c i : Nat} (hc : c < 6) : num c i / 64 = i / many c ∧ num c i % 64 = i % many c := by
  have := many_le c
  have hM := many_pos c hc
  have : i % many c < many c := Nat.mod_lt _ (by omega)
  unfold num
  omega
/-- A chunk that was taken is given back; it is the next. -/
theorem St_hole {z : Pg} {c n m i : Nat} (hz : Zok z c) (hc : c < 6) (hm : m ≤ n * many c) (hi : i < m) :
    takI (St z c n m) (num c i : Int) = true ∧ takI (clr (St z c n m) (num c i)) (num c i : Int) = false ∧ tkC c (clr (St z c n m) (num c i)) = num c i ∧ tkE c (clr (St z c n m) (num c i)) = 0 := by
  have hM := many_pos c hc
  have hM6 := many_le c
  obtain ⟨d1, d2⟩ := num_div (i := i) hc
  obtain ⟨a, ha⟩ : ∃ a, a = i / many c := ⟨_, rfl⟩
  obtain ⟨r, hr⟩ : ∃ r, r = i % many c := ⟨_, rfl⟩
  have e : i = a * many c + r := by rw [ha, hr]; exact (Nat.div_add_mod' i (many c)).symm
  have hrM : r < many c := by rw [hr]; exact Nat.mod_lt _ (by omega)
  have hnum : num c i = 64 * a + r := by unfold num; rw [← ha, ← hr]
  rw [← ha] at d1
  rw [← hr] at d2
  have han : a < n := by
    apply Nat.lt_of_not_le
    intro h
    have := Nat.mul_le_mul_right (many c) h
    omega
  obtain ⟨k, hk, hp⟩ : ∃ k, r < k ∧ k ≤ many c ∧ pgm z c m a = ⟨(c : Int), 2 ^ k - 1⟩ := by
    refine ⟨min (many c) (m - a * many c), by omega, Nat.min_le_left _ _, ?_⟩
    unfold pgm
    rw [if_neg (by omega)]
  have hpa : (St z c n m)[num c i / 64]? = some ⟨(c : Int), 2 ^ k - 1⟩ := by rw [d1, St_get han, hp.2]
  obtain ⟨b1, b2, b3⟩ := bitAt_some hpa
  have hb : (2 ^ k - 1).testBit r = true := by rw [ones_bit]; simpa using hk
  have hlen : a < (St z c n m).length := by rw [St_len]; exact han
  have hget : (clr (St z c n m) (num c i))[a]? = some ⟨(c : Int), 2 ^ k - 1 - 2 ^ r⟩ := by rw [b3, d1, d2, List.getElem?_set_self hlen]
  have hlen2 : a < (clr (St z c n m) (num c i)).length := by rw [clr_len]; exact hlen
  have hown : (clr (St z c n m) (num c i)).findIdx? (owns c) = some a := by
    refine find_at hlen2 ?_ ?_
    · rw [(List.getElem?_eq_some_iff.1 hget).2]
      unfold owns
      rw [lz_hole 64 k r hk (by omega)]
      simpa using hrM
    · intro j hj hja
      have h1 : (clr (St z c n m) (num c i))[j]? = some (pgm z c m j) := by rw [b3, d1, List.getElem?_set_ne (by omega), St_get (by omega)]
      rw [(List.getElem?_eq_some_iff.1 h1).2, pgm_full (by have := Nat.mul_le_mul_right (many c) (show j + 1 ≤ a by omega); omega) (by omega), owns_ones (Nat.le_refl _)]
      simp
  have hpf : pfor c (clr (St z c n m) (num c i)) = some a := by unfold pfor; rw [hown]; rfl
  obtain ⟨t1, t2, _⟩ := tk_some hpf hget
  refine ⟨?_, ?_, ?_, t2⟩
  · unfold takI
    rw [Int.toNat_natCast, b1, d2, hb]
    simp
  · unfold takI
    have := (bitAt_some (n := num c i) (l := clr (St z c n m) (num c i)) (by rw [d1]; exact hget)).1
    rw [Int.toNat_natCast, this, d2, testBit_sub hb]
    simp
  · rw [t1, lz_hole 64 k r hk (by omega), hnum]

/-! ### All is given back, one by one -/
/-- Page q when the first i chunks were given back. -/
def Fs (c n i : Nat) : List Pg := (List.range n).map fun q => ⟨(c : Int), 2 ^ many c - 2 ^ min (many c) (i - q * many c)⟩
theorem Fs_get {c n i q : Nat} (h : q < n) : (Fs c n i)[q]? = some ⟨(c : Int), 2 ^ many c - 2 ^ min (many c) (i - q * many c)⟩ := by simp [Fs, h]
theorem Fs_len (c n i : Nat) : (Fs c n i).length = n := by simp [Fs]
theorem Fs_start {z : Pg} {c n : Nat} (hc : c < 6) : St z c n (n * many c) = Fs c n 0 := by
  apply List.ext_getElem?
  intro q
  by_cases hq : q < n
  · rw [St_get hq, St_end hc hq, Fs_get hq, Nat.zero_sub, Nat.min_zero]
  · rw [List.getElem?_eq_none (by rw [St_len]; omega), List.getElem?_eq_none (by rw [Fs_len]; omega)]
theorem Fs_end (c n : Nat) : Fs c n (n * many c) = List.replicate n ⟨(c : Int), 0⟩ := by
  apply List.ext_getElem?
  intro q
  by_cases hq : q < n
  · have := Nat.mul_le_mul_right (many c) (show q + 1 ≤ n by omega)
    rw [Nat.succ_mul] at this
    rw [Fs_get hq, List.getElem?_replicate, if_pos hq, Nat.min_eq_left (by omega), Nat.sub_self]
  · rw [List.getElem?_eq_none (by rw [Fs_len]; omega), List.getElem?_eq_none (by simp; omega)]
theorem top_bit {M r : Nat} (h : r < M) : (2 ^ M - 2 ^ r).testBit r = true := by
  have e : 2 ^ M - 2 ^ r = 2 ^ r * (2 ^ (M - r) - 1) := by rw [Nat.mul_sub, ← Nat.pow_add, show r + (M - r) = M by omega, Nat.mul_one]
  rw [e, Nat.testBit_two_pow_mul, ones_bit]
  simp
  omega
theorem Fs_step {c n i : Nat} (hc : c < 6) (hi : i < n * many c) : takI (Fs c n i) (num c i : Int) = true ∧ clr (Fs c n i) (num c i) = Fs c n (i + 1) := by
  have hM := many_pos c hc
  have hM6 := many_le c
  obtain ⟨d1, d2⟩ := num_div (i := i) hc
  obtain ⟨a, ha⟩ : ∃ a, a = i / many c := ⟨_, rfl⟩
  obtain ⟨r, hr⟩ : ∃ r, r = i % many c := ⟨_, rfl⟩
  have e : i = a * many c + r := by rw [ha, hr]; exact (Nat.div_add_mod' i (many c)).symm
  have hrM : r < many c := by rw [hr]; exact Nat.mod_lt _ (by omega)
  rw [← ha] at d1
  rw [← hr] at d2
  have han : a < n := by
    apply Nat.lt_of_not_le
    intro h
    have := Nat.mul_le_mul_right (many c) h
    omega
  have hpa : (Fs c n i)[num c i / 64]? = some ⟨(c : Int), 2 ^ many c - 2 ^ r⟩ := by rw [d1, Fs_get han, show i - a * many c = r by omega, Nat.min_eq_right (by omega)]
  obtain ⟨b1, b2, b3⟩ := bitAt_some hpa
  refine ⟨by unfold takI; rw [Int.toNat_natCast, b1, d2, top_bit hrM]; simp, ?_⟩
  rw [b3, d1, d2]
  apply List.ext_getElem?
  intro q
  by_cases hq : q < n
  · rw [Fs_get hq]
    by_cases hqa : q = a
    · subst hqa
      rw [List.getElem?_set_self (by rw [Fs_len]; exact hq), show i + 1 - q * many c = r + 1 by omega, Nat.min_eq_right (by omega)]
      show some (Pg.mk (c : Int) (2 ^ many c - 2 ^ r - 2 ^ r)) = some (Pg.mk (c : Int) (2 ^ many c - 2 ^ (r + 1)))
      rw [Nat.pow_succ, show 2 ^ many c - 2 ^ r - 2 ^ r = 2 ^ many c - 2 ^ r * 2 by omega]
    · rw [List.getElem?_set_ne (fun h => hqa h.symm), Fs_get hq]
      congr 3
      rcases Nat.lt_or_ge q a with h1 | h1
      · have := Nat.mul_le_mul_right (many c) (show q + 1 ≤ a by omega)
        rw [Nat.succ_mul] at this
        congr 1
        omega
      · have := Nat.mul_le_mul_right (many c) (show a + 1 ≤ q by omega)
        rw [Nat.succ_mul] at this
        congr 1
        omega
  · rw [List.getElem?_eq_none (by rw [List.length_set, Fs_len]; omega), List.getElem?_eq_none (by rw [Fs_len]; omega)]
theorem ownd_St {z : Pg} {c n : Nat} (hc : c < 6) : ownd c (St z c n (n * many c)) = n ∧ ∀ b : Int, b ≠ c → ownd b (St z c n (n * many c)) = 0 := by
  have e : St z c n (n * many c) = List.replicate n ⟨(c : Int), 2 ^ many c - 1⟩ := by
    apply List.ext_getElem?
    intro q
    by_cases hq : q < n
    · rw [St_get hq, St_end hc hq, List.getElem?_replicate, if_pos hq]
    · rw [List.getElem?_eq_none (by rw [St_len]; omega), List.getElem?_eq_none (by simp; omega)]
  rw [e]
  clear e
  refine ⟨?_, fun b hb => ?_⟩
  · induction n with
    | zero => rfl
    | succ n ih => rw [List.replicate_succ]; simp only [ownd, ih]; simp; omega
  · induction n with
    | zero => rfl
    | succ n ih => rw [List.replicate_succ]; simp only [ownd, ih]; rw [if_neg (fun h => hb h.symm)]
end Go.Proofs.YteeanaoglcpaaaaDoor
