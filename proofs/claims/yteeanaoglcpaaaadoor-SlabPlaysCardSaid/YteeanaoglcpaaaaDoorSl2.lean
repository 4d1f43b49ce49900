/- A slab in memory: Of, Used, Pages, Left. -/
import Derived.Test.YteeanaoglcpaaaaDoorSl1
set_option linter.unusedVariables false
set_option linter.unusedSimpArgs false
namespace Go.Proofs.YteeanaoglcpaaaaDoor
open Go.RowKit Go.Deep Math

/-- Every page's bits fit a word. -/
def Fit (l : List Pg) : Prop := ∀ p ∈ l, p.t < 18446744073709551616
theorem Fit.at {l : List Pg} (h : Fit l) {i : Nat} {p : Pg} (hp : l[i]? = some p) : p.t < 18446744073709551616 := h p (List.mem_of_getElem? hp)

set_option maxHeartbeats 1000000 in
theorem of_bad (f s : Nat) (l : List Pg) (k : Int) (w : World) (h : SlIn w f s l) (hk9 : k ≤ 9223372036854775807) (hk : k < 0 ∨ (64 * l.length : Nat) ≤ k) :
    Calls Tryd.prog 15 #[.pointer (some ⟨f, 0, none⟩), .int .i64 k] w fun e w' => e = .returned (.int .i64 (-1)) ∧ w' = w := by
  have c0 := h.own.cell (i := 0) rfl
  by_cases h0 : k < 0
  · clear hk
    go_enter Tryd.func15, Tryd.ntmps15
    go_wp2
    go_ret
    exact ⟨rfl, rfl⟩
  · have h1 : 0 ≤ k := by omega
    obtain ⟨n, hn⟩ : ∃ n, n = l.length := ⟨_, rfl⟩
    rw [← hn] at c0
    have h2 : (n : Int) ≤ k / 64 := by omega
    clear hk h0 hn h
    go_enter Tryd.func15, Tryd.ntmps15
    go_wp2
    go_ret
    exact ⟨rfl, rfl⟩
theorem shr_bit (t j : Nat) (ht : t < 18446744073709551616) : bits BinOp.and IntKind.u64 ((t : Int) / 2 ^ j) 1 = if t.testBit j then 1 else 0 := by
  have e : (t : Int) / 2 ^ j = ((t / 2 ^ j : Nat) : Int) := by rw [Int.natCast_ediv]; simp
  rw [e, show (1 : Int) = ((1 : Nat) : Int) from rfl, bits_and_u64_nat (t / 2 ^ j) 1 (Nat.lt_of_le_of_lt (Nat.div_le_self _ _) ht) (by omega), Nat.and_one_is_mod, Nat.testBit_eq_decide_div_mod_eq]
  rcases Nat.mod_two_eq_zero_or_one (t / 2 ^ j) with h | h <;> simp [h]
set_option maxHeartbeats 1000000 in
theorem of_in (f s : Nat) (l : List Pg) (k : Int) (i j : Nat) (p : Pg) (w : World) (h : SlIn w f s l) (hf : Fit l) (h0 : 0 ≤ k) (hk9 : k ≤ 9223372036854775807) (hq : k / 64 = (i : Int)) (hr : k % 64 = (j : Int)) (hp : l[i]? = some p) :
    Calls Tryd.prog 15 #[.pointer (some ⟨f, 0, none⟩), .int .i64 k] w fun e w' => e = .returned (.int .i64 (if p.t.testBit j then p.c else -1)) ∧ Below w.heap.size w w' := by
  have c0 := h.own.cell (i := 0) rfl
  have c1 := h.cell0 hp
  have c2 := h.cell1 hp
  have hi : i < l.length := (List.getElem?_eq_some_iff.1 hp).1
  have hj : j < 64 := by omega
  obtain ⟨n, hn⟩ : ∃ n, n = l.length := ⟨_, rfl⟩
  rw [← hn] at c0 hi
  have ht := hf.at hp
  have hb := shr_bit p.t j ht
  have hi2 : (i : Int) < (n : Int) := by omega
  clear hn h hf hp
  obtain ⟨c, t⟩ := p
  simp only at *
  by_cases ht2 : t.testBit j = true
  · rw [if_pos ht2] at hb ⊢
    clear ht2 ht
    go_enter Tryd.func15, Tryd.ntmps15
    go_wp2
    go_ret
    exact ⟨rfl, (Below.refl _ _).alloc (Nat.le_refl _) _⟩
  · rw [if_neg ht2] at hb ⊢
    clear ht2 ht
    go_enter Tryd.func15, Tryd.ntmps15
    go_wp2
    go_ret
    exact ⟨rfl, (Below.refl _ _).alloc (Nat.le_refl _) _⟩

/-! ### Counts -/
/-- How many chunks of a class are taken; how many pages it has. -/
def usd (c : Int) : List Pg → Nat
  | [] => 0
  | p :: l => (if p.c = c then pop 64 p.t else 0) + usd c l
def ownd (c : Int) : List Pg → Nat
  | [] => 0
  | p :: l => (if p.c = c then 1 else 0) + ownd c l
theorem usd_app (c : Int) (l m : List Pg) : usd c (l ++ m) = usd c l + usd c m := by
  induction l with
  | nil => simp [usd]
  | cons p l ih => simp only [List.cons_append, usd, ih]; omega
theorem ownd_app (c : Int) (l m : List Pg) : ownd c (l ++ m) = ownd c l + ownd c m := by
  induction l with
  | nil => simp [ownd]
  | cons p l ih => simp only [List.cons_append, ownd, ih]; omega
theorem usd_le (c : Int) (l : List Pg) : usd c l ≤ 64 * l.length := by
  induction l with
  | nil => simp [usd]
  | cons p l ih => have := pop_le 64 p.t; simp only [usd, List.length_cons]; split <;> omega
theorem ownd_le (c : Int) (l : List Pg) : ownd c l ≤ l.length := by
  induction l with
  | nil => simp [ownd]
  | cons p l ih => simp only [ownd, List.length_cons]; split <;> omega
theorem take_snoc {α : Type} {l : List α} {i : Nat} {p : α} (h : l[i]? = some p) : l.take (i + 1) = l.take i ++ [p] := by
  obtain ⟨hi, he⟩ := List.getElem?_eq_some_iff.1 h
  rw [List.take_succ_eq_append_getElem hi, he]

set_option maxHeartbeats 1000000 in
theorem owned_any (f s : Nat) (l : List Pg) (c : Int) (w : World) (h : SlIn w f s l) :
    Calls Tryd.prog 27 #[.pointer (some ⟨f, 0, none⟩), .int .i64 c] w fun e w' => e = .returned (.int .i64 (ownd c l)) ∧ Below w.heap.size w w' := by
  have c0 := h.own.cell (i := 0) rfl
  have hn9 := h.n9
  have H := hide h
  obtain ⟨n, hn⟩ : ∃ n, n = l.length := ⟨_, rfl⟩
  rw [← hn] at c0 hn9
  have HN := hide hn
  clear h hn
  go_enter Tryd.func27, Tryd.ntmps27
  go_wp2
  go_loopg [5, 13] n (fun kx s5 s13 wr => ∃ (i r : Nat), s13 = .int .i64 i ∧ s5 = .int .i64 r ∧ i ≤ n ∧ r ≤ i ∧ n - i ≤ kx ∧ Hid (r = ownd c (l.take i) ∧ Below w.heap.size w wr))
  case atStart => exact ⟨0, 0, rfl, rfl, Nat.zero_le _, Nat.le_refl _, by omega, rfl, Below.refl _ _⟩
  case round =>
    obtain ⟨i, r, rfl, rfl, hin, hri, hg, I⟩ := hrel
    by_cases hlt : i < n
    · have hlt2 : (i : Int) < (n : Int) := by omega
      obtain ⟨p, hp⟩ : ∃ p, l[i]? = some p := ⟨_, List.getElem?_eq_getElem (by rw [← HN.out]; exact hlt)⟩
      have SW := H.out.below I.out.2
      have k0 := SW.cell0 hp
      have k1 := SW.cell1 hp
      have E : Hid (ownd c (l.take (i + 1)) = r + if p.c = c then 1 else 0) := by
        show _ = _
        rw [take_snoc hp, ownd_app, ← I.out.1]; simp [ownd]
      have B2 : Hid (∀ o, Below w.heap.size w (wr.alloc o)) := fun o => I.out.2.alloc (I.out.2.size) _
      clear hp SW
      by_cases hc : p.c = c
      · rw [if_pos hc] at E
        rw [hc] at k0
        clear hc
        go_wp2
        go_roundg (n - (i + 1))
        case measure => omega
        case rel => exact ⟨i + 1, r + 1, by go_num, by go_num, by omega, by omega, by omega, E.out.symm, B2.out _⟩
      · rw [if_neg hc] at E
        have hc2 : (p.c == c) = false := by simp [hc]
        clear hc
        go_wp2
        go_roundg (n - (i + 1))
        case measure => omega
        case rel => exact ⟨i + 1, r, by go_num, rfl, by omega, by omega, by omega, E.out.symm, B2.out _⟩
    · obtain rfl : i = n := by omega
      have hlt2 : ¬ (i : Int) < (i : Int) := by omega
      go_wp2
      go_ret
      exact ⟨ret_int (by rw [I.out.1, HN.out, List.take_of_length_le (Nat.le_refl _)]), I.out.2⟩
set_option maxHeartbeats 1000000 in
theorem used_any (f s : Nat) (l : List Pg) (c : Int) (w : World) (h : SlIn w f s l) (hf : Fit l) :
    Calls Tryd.prog 21 #[.pointer (some ⟨f, 0, none⟩), .int .i64 c] w fun e w' => e = .returned (.int .i64 (usd c l)) ∧ Below w.heap.size w w' := by
  have c0 := h.own.cell (i := 0) rfl
  have hn9 := h.n9
  have H := hide h
  have HF := hide hf
  obtain ⟨n, hn⟩ : ∃ n, n = l.length := ⟨_, rfl⟩
  rw [← hn] at c0 hn9
  have HN := hide hn
  clear h hn hf
  go_enter Tryd.func21, Tryd.ntmps21
  go_wp2
  go_loopg [5, 13] n (fun kx s5 s13 wr => ∃ (i r : Nat), s13 = .int .i64 i ∧ s5 = .int .i64 r ∧ i ≤ n ∧ r ≤ 64 * i ∧ n - i ≤ kx ∧ Hid (r = usd c (l.take i) ∧ Below w.heap.size w wr))
  case atStart => exact ⟨0, 0, rfl, rfl, Nat.zero_le _, Nat.le_refl _, by omega, rfl, Below.refl _ _⟩
  case round =>
    obtain ⟨i, r, rfl, rfl, hin, hri, hg, I⟩ := hrel
    by_cases hlt : i < n
    · have hlt2 : (i : Int) < (n : Int) := by omega
      obtain ⟨p, hp⟩ : ∃ p, l[i]? = some p := ⟨_, List.getElem?_eq_getElem (by rw [← HN.out]; exact hlt)⟩
      have SW := H.out.below I.out.2
      have k0 := SW.cell0 hp
      have k1 := SW.cell1 hp
      have E : Hid (usd c (l.take (i + 1)) = r + if p.c = c then pop 64 p.t else 0) := by
        show _ = _
        rw [take_snoc hp, usd_app, ← I.out.1]; simp [usd]
      have B2 : Hid (∀ o, Below w.heap.size w (wr.alloc o)) := fun o => I.out.2.alloc (I.out.2.size) _
      have co := hide (fun W : World => ones_any p.t (HF.out.at hp) W)
      have hpl := pop_le 64 p.t
      clear hp SW
      generalize pop 64 p.t = q at *
      by_cases hc : p.c = c
      · rw [if_pos hc] at E
        rw [hc] at k0
        clear hc
        go_wp2_with fail
        refine (co.out _).mono ?_
        rintro e w2 ⟨rfl, h2⟩
        subst h2
        clear co
        go_wp2
        go_roundg (n - (i + 1))
        case measure => omega
        case rel => exact ⟨i + 1, r + q, by go_num, by go_num, by omega, by omega, by omega, E.out.symm, B2.out _⟩
      · rw [if_neg hc] at E
        have hc2 : (p.c == c) = false := by simp [hc]
        clear hc
        go_wp2
        go_roundg (n - (i + 1))
        case measure => omega
        case rel => exact ⟨i + 1, r, by go_num, rfl, by omega, by omega, by omega, E.out.symm, B2.out _⟩
    · obtain rfl : i = n := by omega
      have hlt2 : ¬ (i : Int) < (i : Int) := by omega
      go_wp2
      go_ret
      exact ⟨ret_int (by rw [I.out.1, HN.out, List.take_of_length_le (Nat.le_refl _)]), I.out.2⟩
theorem left_any (f s : Nat) (l : List Pg) (w : World) (h : SlIn w f s l) :
    Calls Tryd.prog 16 #[.pointer (some ⟨f, 0, none⟩)] w fun e w' => e = .returned (.int .i64 (ownd (-1) l)) ∧ Below w.heap.size w w' := by
  have c0 := hide (owned_any f s l (-1) w h)
  generalize ownd (-1) l = r at *
  clear h
  go_enter Tryd.func16, Tryd.ntmps16
  go_wp2_with fail
  refine c0.out.mono ?_
  rintro e w2 ⟨rfl, h2⟩
  have B := hide h2
  clear h2 c0
  go_wp2
  go_ret
  exact ⟨rfl, B.out⟩
theorem pages_ok (f s : Nat) (l : List Pg) (c : Int) (w : World) (h : SlIn w f s l) (hc : 0 ≤ c ∧ c < 6) :
    Calls Tryd.prog 22 #[.pointer (some ⟨f, 0, none⟩), .int .i64 c] w fun e w' => e = .returned (.int .i64 (ownd c l)) ∧ Below w.heap.size w w' := by
  have c0 := hide (owned_any f s l c w h)
  have ci := hide (is_any c w)
  rw [decide_eq_true hc] at ci
  generalize ownd c l = r at *
  clear h
  go_enter Tryd.func22, Tryd.ntmps22
  go_wp2_with fail
  refine ci.out.mono ?_
  rintro e w2 ⟨rfl, h2⟩
  obtain rfl : w = w2 := h2.symm
  clear h2 ci
  go_wp2_with fail
  refine c0.out.mono ?_
  rintro e w2 ⟨rfl, h2⟩
  have B := hide h2
  clear h2 c0
  go_wp2
  go_ret
  exact ⟨rfl, B.out⟩
end Go.Proofs.YteeanaoglcpaaaaDoor
