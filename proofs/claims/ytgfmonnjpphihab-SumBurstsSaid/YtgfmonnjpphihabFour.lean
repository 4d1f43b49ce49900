/-
  Four bytes one behind the other, changed one by one.
-/
import Derived.Test.YtgfmonnjpphihabCopy
namespace Go.Proofs.Ytgfmonnjpphihab
open Go.RowKit Math

/-- The list with the first k of 'zs' laid over it from place p on. -/
def upd (l zs : List Int) (p k : Nat) : List Int := (l.take p ++ zs.take k) ++ l.drop (p + k)

theorem upd_zero (l zs : List Int) (p : Nat) : upd l zs p 0 = l := by unfold upd; simp
theorem upd_head (l zs : List Int) (p k : Nat) (hp : p + k < l.length) (hz : k ≤ zs.length) : (l.take p ++ zs.take k).length = p + k := by
  rw [List.length_append, List.length_take, List.length_take]; omega
theorem upd_tail (l : List Int) (n : Nat) (h : n < l.length) : l.drop n = l.getD n 0 :: l.drop (n + 1) := by
  rw [List.drop_eq_getElem_cons h, List.getD_eq_getElem?_getD, List.getElem?_eq_getElem h]; rfl
theorem upd_get (l zs : List Int) (p k : Nat) (hp : p + k < l.length) (hz : k ≤ zs.length) : (upd l zs p k).getD (p + k) 0 = l.getD (p + k) 0 := by
  unfold upd
  rw [upd_tail l (p + k) hp, List.getD_eq_getElem?_getD, List.getElem?_append_right (by rw [upd_head l zs p k hp hz]; omega), upd_head l zs p k hp hz]
  simp
theorem upd_set (l zs : List Int) (p k : Nat) (hp : p + k < l.length) (hz : k < zs.length) : (upd l zs p k).set (p + k) (zs.getD k 0) = upd l zs p (k + 1) := by
  unfold upd
  rw [upd_tail l (p + k) hp, List.set_append_right _ _ (by rw [upd_head l zs p k hp (by omega)]; omega), upd_head l zs p k hp (by omega), Nat.sub_self, List.set_cons_zero, take_succ_getD zs k hz]
  simp only [List.append_assoc, List.cons_append, List.nil_append, Nat.add_assoc]
theorem upd_length (l zs : List Int) (p k : Nat) (hp : p + k ≤ l.length) (hz : k ≤ zs.length) : (upd l zs p k).length = l.length := by
  unfold upd
  rw [List.length_append, List.length_append, List.length_take, List.length_take, List.length_drop]; omega

/-- The four bytes of the change, laid on. -/
def four (l : List Int) (p : Nat) (y0 y1 y2 y3 : Int) : List Int :=
  [bits .xor .u8 (l.getD p 0) y0, bits .xor .u8 (l.getD (p + 1) 0) y1, bits .xor .u8 (l.getD (p + 2) 0) y2, bits .xor .u8 (l.getD (p + 3) 0) y3]

theorem four_get (l : List Int) (p : Nat) (y0 y1 y2 y3 : Int) (k : Nat) (hk : k < 4) : (four l p y0 y1 y2 y3).getD k 0 = bits .xor .u8 (l.getD (p + k) 0) ([y0, y1, y2, y3].getD k 0) := by
  have : k = 0 ∨ k = 1 ∨ k = 2 ∨ k = 3 := by omega
  rcases this with rfl | rfl | rfl | rfl <;> rfl

theorem split_four (l : List Int) (p : Nat) (hp : p + 4 ≤ l.length) : l = l.take p ++ [l.getD p 0, l.getD (p + 1) 0, l.getD (p + 2) 0, l.getD (p + 3) 0] ++ l.drop (p + 4) := by
  have h := (List.take_append_drop p l).symm
  rw [upd_tail l p (by omega), upd_tail l (p + 1) (by omega), upd_tail l (p + 1 + 1) (by omega), upd_tail l (p + 1 + 1 + 1) (by omega)] at h
  simpa using h

theorem upd_range (l zs : List Int) (p k : Nat) (hl : ∀ i, 0 ≤ l.getD i 0 ∧ l.getD i 0 ≤ 255) (hz : ∀ n ∈ zs, 0 ≤ n ∧ n ≤ 255) : ∀ i, 0 ≤ (upd l zs p k).getD i 0 ∧ (upd l zs p k).getD i 0 ≤ 255 := by
  have hm : ∀ n ∈ l, 0 ≤ n ∧ n ≤ 255 := by
    intro n hn
    obtain ⟨i, hi, rfl⟩ := List.mem_iff_getElem.1 hn
    have := hl i
    rwa [List.getD_eq_getElem?_getD, List.getElem?_eq_getElem hi] at this
  have hu : ∀ n ∈ upd l zs p k, 0 ≤ n ∧ n ≤ 255 := by
    intro n hn
    unfold upd at hn
    rcases List.mem_append.1 hn with h | h
    · rcases List.mem_append.1 h with h | h
      · exact hm n (List.mem_of_mem_take h)
      · exact hz n (List.mem_of_mem_take h)
    · exact hm n (List.mem_of_mem_drop h)
  intro i
  rw [List.getD_eq_getElem?_getD]
  cases hi : (upd l zs p k)[i]? with
  | none => simp
  | some n => exact hu n (List.mem_of_getElem? hi)

theorem four_range (l : List Int) (p : Nat) (y0 y1 y2 y3 : Int) (hl : ∀ i, 0 ≤ l.getD i 0 ∧ l.getD i 0 ≤ 255)
    (h0 : 0 ≤ y0 ∧ y0 ≤ 255) (h1 : 0 ≤ y1 ∧ y1 ≤ 255) (h2 : 0 ≤ y2 ∧ y2 ≤ 255) (h3 : 0 ≤ y3 ∧ y3 ≤ 255) : ∀ n ∈ four l p y0 y1 y2 y3, 0 ≤ n ∧ n ≤ 255 := by
  intro n hn
  simp only [four, List.mem_cons, List.not_mem_nil, or_false] at hn
  rcases hn with rfl | rfl | rfl | rfl
  · exact (xor_byte _ _ (hl _).1 (hl _).2 h0.1 h0.2).2
  · exact (xor_byte _ _ (hl _).1 (hl _).2 h1.1 h1.2).2
  · exact (xor_byte _ _ (hl _).1 (hl _).2 h2.1 h2.2).2
  · exact (xor_byte _ _ (hl _).1 (hl _).2 h3.1 h3.2).2

/-- A change within four bytes is seen. -/
theorem more_four_ne (l : List Int) (p : Nat) (hp : p + 4 ≤ l.length) (hl : ∀ i, 0 ≤ l.getD i 0 ∧ l.getD i 0 ≤ 255) (y0 y1 y2 y3 : Int)
    (h0 : 0 ≤ y0 ∧ y0 ≤ 255) (h1 : 0 ≤ y1 ∧ y1 ≤ 255) (h2 : 0 ≤ y2 ∧ y2 ≤ 255) (h3 : 0 ≤ y3 ∧ y3 ≤ 255) (hne : ¬ (y0 = 0 ∧ y1 = 0 ∧ y2 = 0 ∧ y3 = 0)) :
    (U (more 0#32 (upd l (four l p y0 y1 y2 y3) p 4)) != U (more 0#32 l)) = true := by
  rw [bne_iff_ne]
  intro e
  have e2 := more_inj_crc (U_inj e)
  have hu : upd l (four l p y0 y1 y2 y3) p 4 = l.take p ++ four l p y0 y1 y2 y3 ++ l.drop (p + 4) := by
    have t4 : (four l p y0 y1 y2 y3).take 4 = four l p y0 y1 y2 y3 := rfl
    unfold upd; rw [t4]
  rw [hu] at e2
  conv at e2 => rhs; rw [split_four l p hp]
  have r := crc_four _ (l.take p) (l.drop (p + 4)) _ _ _ _ _ _ _ _ (B y0) (B y1) (B y2) (B y3)
    (xor_byte _ _ (hl p).1 (hl p).2 h0.1 h0.2).1 (xor_byte _ _ (hl (p + 1)).1 (hl (p + 1)).2 h1.1 h1.2).1 (xor_byte _ _ (hl (p + 2)).1 (hl (p + 2)).2 h2.1 h2.2).1 (xor_byte _ _ (hl (p + 3)).1 (hl (p + 3)).2 h3.1 h3.2).1
    (B_byte_lt _ h0.1 h0.2) (B_byte_lt _ h1.1 h1.2) (B_byte_lt _ h2.1 h2.2) (B_byte_lt _ h3.1 h3.2) e2.symm
  exact hne ⟨B_byte_zero _ h0.1 h0.2 r.1, B_byte_zero _ h1.1 h1.2 r.2.1, B_byte_zero _ h2.1 h2.2 r.2.2.1, B_byte_zero _ h3.1 h3.2 r.2.2.2⟩

end Go.Proofs.Ytgfmonnjpphihab
