/-
  Plain reasoning on lists of bytes: two texts put together, well formed ones and keys; a byte that no key may have, put between.
-/
import Derived.Test.YtffmmpahenogdabDoorAwake
namespace Go.Proofs.YtffmmpahenogdabDoor
set_option linter.unusedVariables false

theorem cat_sizes (a b : ByteArray) : (a ++ b).size = a.size + b.size := by
  rw [← size8, ← size8, ← size8, ByteArray.data_append]; simp
theorem cat_data (a b : ByteArray) : (a ++ b).data.toList = a.data.toList ++ b.data.toList := by
  rw [ByteArray.data_append]; simp

theorem all_of_good {a : List UInt8} (h : allGood a = true) : ∀ p ∈ pieces a, 0 ≤ p.1 := by
  unfold allGood at h
  intro p hp
  simpa using List.all_eq_true.1 h p hp
theorem good_cat (a b : List UInt8) (ha : allGood a = true) (hb : allGood b = true) : allGood (a ++ b) = true ∧ count (a ++ b) = count a + count b := by
  have hp := pieces_append a.length a b (Nat.le_refl _) (all_of_good ha)
  unfold allGood count at *
  rw [hp]
  constructor
  · rw [List.all_append, ha, hb]; rfl
  · simp

theorem all_of_clean {a : List UInt8} (h : clean a = true) : ∀ p ∈ pieces a, 0 ≤ p.1 := by
  unfold clean at h
  intro p hp
  have := List.all_eq_true.1 h p hp
  unfold bar at this
  simp only [Bool.not_eq_true', decide_eq_false_iff_not] at this
  omega
theorem clean_cat (a b : List UInt8) (ha : clean a = true) : clean (a ++ b) = clean b := by
  have hp := pieces_append a.length a b (Nat.le_refl _) (all_of_clean ha)
  unfold clean at *
  rw [hp, List.all_append, ha]; rfl

theorem key_parts {a : List UInt8} (h : isKey a = true) : 1 ≤ a.length ∧ a.length ≤ 250 ∧ clean a = true := by
  unfold isKey at h
  simp only [Bool.and_eq_true, decide_eq_true_eq] at h
  exact ⟨h.1.1, h.1.2, h.2⟩
theorem key_cat {a b : List UInt8} (ha : isKey a = true) (hb : isKey b = true) (hl : a.length + b.length ≤ 250) : isKey (a ++ b) = true := by
  obtain ⟨a1, a2, a3⟩ := key_parts ha
  obtain ⟨b1, b2, b3⟩ := key_parts hb
  unfold isKey
  rw [clean_cat a b a3, b3]
  simp
  omega
theorem key_long {a : List UInt8} (hl : 250 < a.length) : isKey a = false := by
  unfold isKey
  rw [decide_eq_false (p := a.length ≤ 250) (by omega)]
  simp

/-- A key's first byte begins a rune. -/
theorem clean_head (x : UInt8) (t : List UInt8) (h : clean (x :: t) = true) : x.toNat < 128 ∨ 194 ≤ x.toNat := by
  rw [clean_cons _ (by simp)] at h
  rcases dec_cases x t with ⟨h0, e⟩ | ⟨h0, e⟩ | ⟨n, lo, v, y, h194, _⟩
  · exact .inl h0
  · rw [e] at h
    simp [bar] at h
  · exact .inr h194
/-- A byte of 128 and above ahead of a byte that begins a rune is none. -/
theorem lone (y : UInt8) (x : UInt8) (t : List UInt8) (hy : 128 ≤ y.toNat) (hx : x.toNat < 128 ∨ 194 ≤ x.toNat) : dec (y :: x :: t) = (-1, 1) := by
  rcases dec_cases y (x :: t) with ⟨h0, e⟩ | ⟨h0, e⟩ | ⟨n, lo, v, z, h194, hk, hs, _⟩
  · omega
  · exact e
  · exfalso
    have hn : ∃ m, n = m + 1 := by rcases hk with ⟨rfl, _⟩ | ⟨rfl, _⟩ | ⟨rfl, _⟩ <;> exact ⟨_, rfl⟩
    obtain ⟨m, rfl⟩ := hn
    obtain ⟨b, t', e, hb, _⟩ := scan_succ hs
    cases e
    have := x.toNat_lt
    omega
theorem key_spoilt {a b : List UInt8} (y : UInt8) (ha : isKey a = true) (hb : isKey b = true) (hy : y.toNat ≤ 32 ∨ y.toNat = 127 ∨ 128 ≤ y.toNat) : isKey (a ++ [y] ++ b) = false := by
  obtain ⟨a1, a2, a3⟩ := key_parts ha
  obtain ⟨b1, b2, b3⟩ := key_parts hb
  have hc : clean (a ++ [y] ++ b) = false := by
    rw [List.append_assoc, clean_cat _ _ a3]
    cases b with
    | nil => simp at b1
    | cons x t =>
      have hh := clean_head x t b3
      show clean (y :: x :: t) = false
      rw [clean_cons _ (by simp)]
      have hbar : bar (dec (y :: x :: t)).1 = true := by
        by_cases h : y.toNat < 128
        · rw [dec_low y _ h]
          exact decide_eq_true (by simp; omega)
        · rw [lone y x t (by omega) hh]
          decide
      rw [hbar]
      rfl
  unfold isKey
  rw [hc]
  simp
end Go.Proofs.YtffmmpahenogdabDoor
