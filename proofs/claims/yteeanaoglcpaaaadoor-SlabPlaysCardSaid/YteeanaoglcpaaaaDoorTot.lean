/- How many chunks are taken in all; which they are behind Take and Free; nothing here speaks of memory. -/
import Derived.Test.YteeanaoglcpaaaaDoorSt
set_option linter.unusedVariables false
set_option linter.unusedSimpArgs false
namespace Go.Proofs.YteeanaoglcpaaaaDoor
open Math

def tot : List Pg → Nat
  | [] => 0
  | p :: l => pop 64 p.t + tot l
theorem tot_set {l : List Pg} {a : Nat} {p : Pg} (h : l[a]? = some p) (p' : Pg) : tot (l.set a p') + pop 64 p.t = tot l + pop 64 p'.t := by
  induction l generalizing a with
  | nil => simp at h
  | cons q l ih =>
    cases a with
    | zero => simp at h; subst h; simp only [List.set_cons_zero, tot]; omega
    | succ a =>
      have := ih (a := a) (by simpa using h)
      simp only [List.set_cons_succ, tot]
      omega
theorem tot_rep (n : Nat) : tot (List.replicate n blank) = 0 := by
  induction n with
  | zero => rfl
  | succ n ih => rw [List.replicate_succ]; simp only [tot, ih]; rfl
theorem tot_all {l : List Pg} (hf : Fit l) (h : ∀ p ∈ l, p.t ≠ 0) : l.length ≤ tot l := by
  induction l with
  | nil => exact Nat.le_refl _
  | cons p l ih =>
    have h1 := ih (fun q hq => hf q (List.mem_cons_of_mem _ hq)) (fun q hq => h q (List.mem_cons_of_mem _ hq))
    have h2 := pop_pos (n := 64) (hf p (by simp)) (h p (by simp))
    simp only [tot, List.length_cons]
    omega
theorem full_tot {cl : Nat} {l : List Pg} (hf : Fit l) (h : pfor cl l = none) : l.length ≤ tot l := by
  refine tot_all hf (fun p hp h0 => ?_)
  unfold pfor at h
  have h3 : l.findIdx? free = none := by
    cases h1 : l.findIdx? (owns cl) with
    | some i => rw [h1] at h; simp at h
    | none =>
      rw [h1, Option.none_or] at h
      cases h2 : l.findIdx? bare with
      | some i => rw [h2] at h; simp at h
      | none => rw [h2, Option.none_or] at h; exact h
  rw [List.findIdx?_eq_none_iff] at h3
  have := h3 p hp
  unfold free at this
  simp [h0] at this
/-- The pages with one bit of page a set or cleared. -/
theorem bitAt_set {l : List Pg} {a : Nat} {p : Pg} (h : l[a]? = some p) (p' : Pg) (n : Nat) : bitAt (l.set a p') n = if n / 64 = a then p'.t.testBit (n % 64) else bitAt l n := by
  have ha := (List.getElem?_eq_some_iff.1 h).1
  unfold bitAt
  by_cases hn : n / 64 = a
  · rw [if_pos hn, hn, List.getElem?_set_self ha]
  · rw [if_neg hn, List.getElem?_set_ne (fun e => hn e.symm)]
theorem take_bits {cl : Nat} (hcl : cl < 6) {l : List Pg} (hg : Good l) (h : tkE cl l = 0) :
    bitAt l (tkC cl l) = false ∧ (∀ n, bitAt (tkL cl l) n = (bitAt l n || decide (n = tkC cl l))) ∧ tot (tkL cl l) = tot l + 1 ∧ tkC cl l < 64 * l.length := by
  cases hp : pfor cl l with
  | none => rw [(tk_none hp).2.1] at h; omega
  | some a =>
    obtain ⟨p, hpa, h64, _, _, _, _⟩ := pfor_ok hcl hg hp
    obtain ⟨e1, _, e3⟩ := tk_some hp hpa
    have hb := lz_bit h64
    have ha := (List.getElem?_eq_some_iff.1 hpa).1
    obtain ⟨j, hj⟩ : ∃ j, j = lz 64 p.t := ⟨_, rfl⟩
    rw [← hj] at h64 hb e1
    unfold tkn at e3
    rw [← hj] at e3
    have d1 : (64 * a + j) / 64 = a := by omega
    have d2 : (64 * a + j) % 64 = j := by omega
    refine ⟨?_, fun n => ?_, ?_, by rw [e1]; omega⟩
    · rw [e1]
      unfold bitAt
      rw [d1, hpa, d2]
      exact hb
    · rw [e1, e3, bitAt_set hpa]
      by_cases hn : n / 64 = a
      · rw [if_pos hn]
        show (p.t + 2 ^ j).testBit (n % 64) = _
        rw [testBit_add hb]
        unfold bitAt
        rw [hn, hpa]
        have : decide (j = n % 64) = decide (n = 64 * a + j) := by rw [decide_eq_decide]; omega
        rw [this]
      · rw [if_neg hn, decide_eq_false (by omega), Bool.or_false]
    · have := tot_set hpa ⟨(cl : Int), p.t + 2 ^ j⟩
      rw [← e3] at this
      have h2 : pop 64 (p.t + 2 ^ j) = pop 64 p.t + 1 := pop_set h64 hb
      simp only [h2] at this
      omega
theorem clr_bits {l : List Pg} {k : Nat} (h : bitAt l k = true) : (∀ n, bitAt (clr l k) n = (bitAt l n && decide (n ≠ k))) ∧ tot (clr l k) + 1 = tot l := by
  cases hp : l[k / 64]? with
  | none => unfold bitAt at h; rw [hp] at h; cases h
  | some p =>
    obtain ⟨b1, _, b3⟩ := bitAt_some hp
    rw [b1] at h
    refine ⟨fun n => ?_, ?_⟩
    · rw [b3, bitAt_set hp]
      by_cases hn : n / 64 = k / 64
      · rw [if_pos hn]
        show (p.t - 2 ^ (k % 64)).testBit (n % 64) = _
        rw [testBit_sub h]
        unfold bitAt
        rw [hn, hp]
        have : decide (k % 64 ≠ n % 64) = decide (n ≠ k) := by rw [decide_eq_decide]; omega
        rw [this]
      · rw [if_neg hn, decide_eq_true (show n ≠ k by omega), Bool.and_true]
    · have := tot_set hp ⟨p.c, p.t - 2 ^ (k % 64)⟩
      rw [← b3] at this
      have h2 : pop 64 (p.t - 2 ^ (k % 64)) + 1 = pop 64 p.t := pop_clear (Nat.mod_lt _ (by decide)) h
      have h3 : pop 64 (Pg.mk p.c (p.t - 2 ^ (k % 64))).t = pop 64 (p.t - 2 ^ (k % 64)) := rfl
      rw [h3] at this
      omega
/-- The chunks of the first k classes. -/
def sumU (l : List Pg) : Nat → Nat
  | 0 => 0
  | k + 1 => sumU l k + usd (k : Int) l
theorem sumU_le (l : List Pg) : ∀ k, sumU l k ≤ 64 * l.length * k
  | 0 => Nat.zero_le _
  | k + 1 => by
    have := sumU_le l k
    have h2 := usd_le (k : Int) l
    show sumU l k + _ ≤ _
    rw [Nat.mul_succ]
    omega
theorem sumU_six {l : List Pg} (hg : Good l) : sumU l 6 = tot l := by
  induction l with
  | nil => rfl
  | cons p l ih =>
    have h := ih (fun q hq => hg q (List.mem_cons_of_mem _ hq))
    have hp := hg p (by simp)
    simp only [sumU, usd, tot] at h ⊢
    rcases hp with ⟨hc, ht⟩ | ⟨c, hc6, hc, _⟩
    · rw [hc, ht, pop_zero]
      simp
      simp at h
      omega
    · rw [hc]
      generalize pop 64 p.t = y
      rcases (show c = 0 ∨ c = 1 ∨ c = 2 ∨ c = 3 ∨ c = 4 ∨ c = 5 by omega) with rfl | rfl | rfl | rfl | rfl | rfl <;> (simp; simp at h; omega)
/-- The numbers in a law's row are the chunks that are taken, each once. -/
structure Inv (l : List Pg) (xs : List Int) : Prop where
  nd : xs.Nodup
  tk : ∀ x ∈ xs, takI l x = true
  len : xs.length = tot l
theorem Inv.start (n : Nat) : Inv (List.replicate n blank) [] := ⟨List.nodup_nil, fun x hx => by simp at hx, (tot_rep n).symm⟩
theorem takI_nat (l : List Pg) (n : Nat) : takI l (n : Int) = bitAt l n := by unfold takI; simp
theorem takI_pos {l : List Pg} {x : Int} (h : takI l x = true) : ∃ n : Nat, x = (n : Int) ∧ bitAt l n = true := by
  unfold takI at h
  simp only [Bool.and_eq_true, decide_eq_true_eq] at h
  exact ⟨x.toNat, by omega, h.2⟩
theorem Inv.notin {l : List Pg} {xs : List Int} (h : Inv l xs) {cl : Nat} (hcl : cl < 6) (hg : Good l) (he : tkE cl l = 0) : (tkC cl l : Int) ∉ xs := fun hm => by
  have := h.tk _ hm
  rw [takI_nat, (take_bits hcl hg he).1] at this
  cases this
theorem Inv.take {l : List Pg} {xs : List Int} (h : Inv l xs) {cl : Nat} (hcl : cl < 6) (hg : Good l) (he : tkE cl l = 0) : Inv (tkL cl l) (xs ++ [(tkC cl l : Int)]) := by
  obtain ⟨_, b2, b3, _⟩ := take_bits hcl hg he
  refine ⟨?_, fun x hx => ?_, by rw [List.length_append, h.len, b3]; rfl⟩
  · rw [List.nodup_append]
    refine ⟨h.nd, by simp, fun a ha b hb => ?_⟩
    simp at hb
    subst hb
    intro e
    subst e
    exact h.notin hcl hg he ha
  · rcases List.mem_append.1 hx with h1 | h1
    · obtain ⟨n, rfl, hn⟩ := takI_pos (h.tk x h1)
      rw [takI_nat, b2, hn, Bool.true_or]
    · simp at h1
      subst h1
      rw [takI_nat, b2]
      simp
theorem Inv.free {l : List Pg} {xs : List Int} (h : Inv l xs) {k : Nat} {x : Int} (hx : xs[k]? = some x) : takI l x = true ∧ Inv (clr l x.toNat) (xs.take k ++ xs.drop (k + 1)) := by
  have hk := (List.getElem?_eq_some_iff.1 hx).1
  have htk := h.tk x (List.mem_of_getElem? hx)
  obtain ⟨n, rfl, hn⟩ := takI_pos htk
  obtain ⟨b2, b3⟩ := clr_bits hn
  have hsplit : xs = xs.take k ++ (n : Int) :: xs.drop (k + 1) := by
    have : (n : Int) :: xs.drop (k + 1) = xs.drop k := by rw [List.drop_eq_getElem_cons hk, (List.getElem?_eq_some_iff.1 hx).2]
    rw [this, List.take_append_drop]
  have hnd := h.nd
  rw [hsplit, List.nodup_append, List.nodup_cons] at hnd
  obtain ⟨n1, ⟨n2, n3⟩, n4⟩ := hnd
  refine ⟨htk, ⟨?_, fun y hy => ?_, ?_⟩⟩
  · rw [List.nodup_append]
    exact ⟨n1, n3, fun a ha b hb => n4 a ha b (List.mem_cons_of_mem _ hb)⟩
  · have hy1 : y ∈ xs := by
      rw [hsplit]
      rcases List.mem_append.1 hy with h1 | h1
      · exact List.mem_append.2 (.inl h1)
      · exact List.mem_append.2 (.inr (List.mem_cons_of_mem _ h1))
    have hne : y ≠ (n : Int) := by
      rcases List.mem_append.1 hy with h1 | h1
      · exact n4 y h1 _ (by simp)
      · exact fun e => n2 (e ▸ h1)
    obtain ⟨m, rfl, hm⟩ := takI_pos (h.tk y hy1)
    rw [Int.toNat_natCast, takI_nat, b2, hm, decide_eq_true (show m ≠ n by omega)]
    rfl
  · rw [Int.toNat_natCast, List.length_append, List.length_take, List.length_drop]
    have := h.len
    omega
theorem and_low (a : Int) (m : Nat) (hm : m < 9223372036854775808) : ∃ q : Nat, bits BinOp.and IntKind.i64 a (m : Int) = (q : Int) ∧ q ≤ m := by
  have h1 : (BitVec.ofInt 64 (m : Int)).toNat = m := by rw [BitVec.ofInt_natCast, BitVec.toNat_ofNat]; exact Nat.mod_eq_of_lt (by omega)
  have h2 : ((BitVec.ofInt 64 a) &&& (BitVec.ofInt 64 (m : Int))).toNat ≤ m := by
    rw [BitVec.toNat_and, h1]
    exact Nat.and_le_right
  refine ⟨((BitVec.ofInt 64 a) &&& (BitVec.ofInt 64 (m : Int))).toNat, ?_, h2⟩
  show IntKind.i64.wrap (((BitVec.ofInt 64 a) &&& (BitVec.ofInt 64 (m : Int))).toNat : Int) = _
  generalize ((BitVec.ofInt 64 a) &&& (BitVec.ofInt 64 (m : Int))).toNat = q at *
  simp [IntKind.wrap, IntKind.bits, IntKind.signed]
  omega
end Go.Proofs.YteeanaoglcpaaaaDoor
