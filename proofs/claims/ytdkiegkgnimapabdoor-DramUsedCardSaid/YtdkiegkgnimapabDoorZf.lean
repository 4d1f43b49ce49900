/- Joined texts: Sl1, Sl2. -/
import Derived.Test.YtdkiegkgnimapabDoorLBits
import Derived.Laws.MakeOwn
import Derived.Deep.LoopGhost
/- A slab in memory: New, Of, Used, Pages, Left, Class, Chunk. -/
set_option linter.unusedVariables false
set_option linter.unusedSimpArgs false
namespace Go.Proofs.YtdkiegkgnimapabDoor.Slb
open Go.RowKit Go.Deep Math

/-- A page: its class (-1: none), the bits of its chunks. -/
structure Pg where
  c : Int
  t : Nat
def pgL (p : Pg) : List Value := [.int .i64 p.c, .int .u64 (p.t : Int)]
def pgRow (l : List Pg) : List Value := l.flatMap pgL
theorem pgRow_cons (p : Pg) (l : List Pg) : pgRow (p :: l) = .int .i64 p.c :: .int .u64 (p.t : Int) :: pgRow l := rfl
theorem pgRow_app (l m : List Pg) : pgRow (l ++ m) = pgRow l ++ pgRow m := by simp [pgRow]
theorem pgRow_len (l : List Pg) : (pgRow l).length = 2 * l.length := by
  induction l with
  | nil => rfl
  | cons p l ih => rw [pgRow_cons]; simp only [List.length_cons, ih]; omega
theorem pgRow_get {l : List Pg} {i : Nat} {p : Pg} (h : l[i]? = some p) : (pgRow l)[i * 2]? = some (.int .i64 p.c) ∧ (pgRow l)[i * 2 + 1]? = some (.int .u64 (p.t : Int)) := by
  induction l generalizing i with
  | nil => simp at h
  | cons q l ih =>
    rw [pgRow_cons]
    cases i with
    | zero => simp at h; subst h; simp
    | succ i =>
      have := ih (i := i) (by simpa using h)
      rw [show (i + 1) * 2 = i * 2 + 2 by omega]
      simpa using this
theorem pgRow_set0 {l : List Pg} {i : Nat} {p : Pg} (h : l[i]? = some p) (c : Int) : (pgRow l).set (i * 2) (.int .i64 c) = pgRow (l.set i ⟨c, p.t⟩) := by
  induction l generalizing i with
  | nil => simp at h
  | cons q l ih =>
    rw [pgRow_cons]
    cases i with
    | zero => simp at h; subst h; simp [pgRow_cons]
    | succ i =>
      have := ih (i := i) (by simpa using h)
      rw [show (i + 1) * 2 = i * 2 + 1 + 1 by omega]
      simp only [List.set_cons_succ, this, pgRow_cons]
theorem pgRow_set1 {l : List Pg} {i : Nat} {p : Pg} (h : l[i]? = some p) (t : Nat) : (pgRow l).set (i * 2 + 1) (.int .u64 (t : Int)) = pgRow (l.set i ⟨p.c, t⟩) := by
  induction l generalizing i with
  | nil => simp at h
  | cons q l ih =>
    rw [pgRow_cons]
    cases i with
    | zero => simp at h; subst h; simp [pgRow_cons]
    | succ i =>
      have := ih (i := i) (by simpa using h)
      rw [show (i + 1) * 2 + 1 = i * 2 + 1 + 1 + 1 by omega]
      simp only [List.set_cons_succ, this, pgRow_cons]

/-- The slab f, its pages in block s. -/
structure SlIn (w : World) (f s : Nat) (l : List Pg) : Prop where
  own : Blk w f [.slice (some ⟨s, 0, none⟩) l.length l.length] 81
  row : Blk w s (pgRow l) 83
  ne : f ≠ s
  n1 : 1 ≤ l.length
  n9 : l.length ≤ 1024
theorem SlIn.same {w w' : World} {f s : Nat} {l : List Pg} (h : SlIn w f s l) (h1 : w'.heap[f]? = w.heap[f]?) (h2 : w'.heap[s]? = w.heap[s]?) : SlIn w' f s l :=
  ⟨h.own.same h1, h.row.same h2, h.ne, h.n1, h.n9⟩
theorem SlIn.below {w w' : World} {f s : Nat} {l : List Pg} (h : SlIn w f s l) (k : Below w.heap.size w w') : SlIn w' f s l :=
  h.same (k.block f h.own.lt) (k.block s h.row.lt)
theorem SlIn.drew {w : World} {f s : Nat} {l : List Pg} (h : SlIn w f s l) : SlIn w.drew f s l := h.same rfl rfl
theorem SlIn.cell0 {w : World} {f s : Nat} {l : List Pg} (h : SlIn w f s l) {i : Nat} {p : Pg} (hp : l[i]? = some p) : w.cell? ⟨s, i * 2, none⟩ = some (.int .i64 p.c) := h.row.cell (pgRow_get hp).1
theorem SlIn.cell1 {w : World} {f s : Nat} {l : List Pg} (h : SlIn w f s l) {i : Nat} {p : Pg} (hp : l[i]? = some p) : w.cell? ⟨s, i * 2 + 1, none⟩ = some (.int .u64 (p.t : Int)) := h.row.cell (pgRow_get hp).2
theorem SlIn.set0 {w : World} {f s : Nat} {l : List Pg} (h : SlIn w f s l) {i : Nat} {p : Pg} (hp : l[i]? = some p) (c : Int) : SlIn (w.setCell ⟨s, i * 2, none⟩ (.int .i64 c)) f s (l.set i ⟨c, p.t⟩) := by
  refine ⟨?_, ?_, h.ne, by simpa using h.n1, by simpa using h.n9⟩
  · rw [List.length_set]; exact h.own.other (a := ⟨s, i * 2, none⟩) h.ne _
  · have := h.row.set (i * 2) (.int .i64 c); rw [pgRow_set0 hp] at this; exact this
theorem SlIn.set1 {w : World} {f s : Nat} {l : List Pg} (h : SlIn w f s l) {i : Nat} {p : Pg} (hp : l[i]? = some p) (t : Nat) : SlIn (w.setCell ⟨s, i * 2 + 1, none⟩ (.int .u64 (t : Int))) f s (l.set i ⟨p.c, t⟩) := by
  refine ⟨?_, ?_, h.ne, by simpa using h.n1, by simpa using h.n9⟩
  · rw [List.length_set]; exact h.own.other (a := ⟨s, i * 2 + 1, none⟩) h.ne _
  · have := h.row.set (i * 2 + 1) (.int .u64 (t : Int)); rw [pgRow_set1 hp] at this; exact this

/-! ### Class, Chunk -/
set_option maxHeartbeats 1000000 in
theorem chunk_ok (c : Nat) (hc : c < 6) (w : World) : Calls Tryd.prog 17 #[.int .i64 c] w fun e w' => e = .returned (.int .i64 ((64 * 2 ^ c : Nat) : Int)) ∧ w' = w := by
  have ci := hide (is_any (c : Int) w)
  rw [decide_eq_true (show (0 : Int) ≤ (c : Int) ∧ (c : Int) < 6 by omega)] at ci
  have h0 : (0 : Int) ≤ (c : Int) := by omega
  rcases (show c = 0 ∨ c = 1 ∨ c = 2 ∨ c = 3 ∨ c = 4 ∨ c = 5 by omega) with rfl | rfl | rfl | rfl | rfl | rfl
  all_goals
    go_enter Tryd.func17, Tryd.ntmps17
    go_wp2_with fail
    refine ci.out.mono ?_
    rintro e w2 ⟨rfl, h2⟩
    obtain rfl : w = w2 := h2.symm
    clear h2 ci
    go_wp2
    go_ret
    exact ⟨rfl, rfl⟩
set_option maxHeartbeats 1000000 in
theorem chunk_bad (c : Int) (hc : c < 0 ∨ 5 < c) (w : World) : Calls Tryd.prog 17 #[.int .i64 c] w fun e w' => e = .returned (.int .i64 0) ∧ w' = w := by
  have ci := hide (is_any c w)
  rw [decide_eq_false (show ¬ (0 ≤ c ∧ c < 6) by omega)] at ci
  go_enter Tryd.func17, Tryd.ntmps17
  go_wp2_with fail
  refine ci.out.mono ?_
  rintro e w2 ⟨rfl, h2⟩
  obtain rfl : w = w2 := h2.symm
  clear h2 ci
  go_wp2
  go_ret
  exact ⟨rfl, rfl⟩
/-- The class of so many bytes. -/
def cls (z : Int) : Int := if z < 0 then -1 else if z ≤ 64 then 0 else if z ≤ 128 then 1 else if z ≤ 256 then 2 else if z ≤ 512 then 3 else if z ≤ 1024 then 4 else if z ≤ 2048 then 5 else -1
theorem cls_neg (z : Int) (h : z < 0) : cls z = -1 := by unfold cls; rw [if_pos h]
theorem cls_at (z : Int) (i : Nat) (hi : i < 6) (h0 : 0 ≤ z) (h1 : ∀ j, j < i → ((64 * 2 ^ j : Nat) : Int) < z) (h2 : z ≤ ((64 * 2 ^ i : Nat) : Int)) : cls z = i := by
  have a0 := h1 0; have a1 := h1 1; have a2 := h1 2; have a3 := h1 3; have a4 := h1 4
  unfold cls
  rcases (show i = 0 ∨ i = 1 ∨ i = 2 ∨ i = 3 ∨ i = 4 ∨ i = 5 by omega) with rfl | rfl | rfl | rfl | rfl | rfl <;> simp at * <;> (repeat' split) <;> omega
theorem cls_big (z : Int) (h0 : 0 ≤ z) (h1 : ∀ j, j < 6 → ((64 * 2 ^ j : Nat) : Int) < z) : cls z = -1 := by
  have a0 := h1 0 (by omega); have a1 := h1 1 (by omega); have a2 := h1 2 (by omega); have a3 := h1 3 (by omega); have a4 := h1 4 (by omega); have a5 := h1 5 (by omega)
  unfold cls
  simp at *
  (repeat' split) <;> omega
theorem ret_int {k : IntKind} {a b : Int} (h : a = b) : Ending.returned (.int k a) = .returned (.int k b) := by rw [h]
set_option maxHeartbeats 1000000 in
theorem class_any (z : Int) (w : World) : Calls Tryd.prog 20 #[.int .i64 z] w fun e w' => e = .returned (.int .i64 (cls z)) ∧ w' = w := by
  by_cases hz : z < 0
  · rw [cls_neg z hz]
    go_enter Tryd.func20, Tryd.ntmps20
    go_wp2
    go_ret
    exact ⟨rfl, rfl⟩
  · have hz2 : 0 ≤ z := by omega
    have hz3 : (z < 0) = False := eq_false hz
    clear hz
    go_enter Tryd.func20, Tryd.ntmps20
    go_wp2
    go_loop [6] (fun s6 => ∃ i : Nat, s6 = .int .i64 i ∧ i ≤ 6 ∧ Hid (∀ j, j < i → ((64 * 2 ^ j : Nat) : Int) < z)) (fun s6 => 6 - (intOf s6).toNat)
    case atStart => exact ⟨0, rfl, by omega, fun j hj => absurd hj (by omega)⟩
    case round =>
      obtain ⟨i, rfl, hi, I⟩ := hrel
      by_cases hlt : i < 6
      · have hlt2 : (i : Int) < 6 := by omega
        have cc := hide (chunk_ok i hlt w)
        obtain ⟨M, hM⟩ : ∃ M : Nat, M = 64 * 2 ^ i := ⟨_, rfl⟩
        rw [← hM] at cc
        have HM := hide hM
        clear hM
        by_cases hle : z ≤ (M : Int)
        · go_wp2_with fail
          refine cc.out.mono ?_
          rintro e w2 ⟨rfl, h2⟩
          obtain rfl : w = w2 := h2.symm
          clear h2 cc
          go_wp2
          go_ret
          exact ⟨ret_int (cls_at z i hlt hz2 I.out (by rw [← HM.out]; exact hle)).symm, rfl⟩
        · go_wp2_with fail
          refine cc.out.mono ?_
          rintro e w2 ⟨rfl, h2⟩
          obtain rfl : w = w2 := h2.symm
          clear h2 cc
          go_wp2
          go_round
          case rel =>
            refine ⟨i + 1, by go_num, by omega, fun j hj => ?_⟩
            rcases Nat.lt_or_ge j i with h1 | h1
            · exact I.out j h1
            · obtain rfl : j = i := by omega
              rw [← HM.out]; exact hle
          case measure => simp [intOf]; omega
      · obtain rfl : i = 6 := by omega
        go_wp2
        go_ret
        exact ⟨ret_int (cls_big z hz2 I.out).symm, rfl⟩

/-! ### New -/
theorem info51 : (Tryd.prog.info? 83).map (fun i => (i.zero, i.size, i.bytes)) = some (some (.agg #[.int .i64 0, .int .u64 0]), 2, 16) := by kernel_rfl
def pgA (l : List Pg) : Array Value := (pgRow l).toArray
theorem pgRow_rep (n : Nat) (p : Pg) : ∀ j, j < n * 2 → (pgRow (List.replicate n p))[j]? = some (if j % 2 = 0 then .int .i64 p.c else .int .u64 (p.t : Int)) := by
  induction n with
  | zero => intro j hj; omega
  | succ n ih =>
    intro j hj
    rw [List.replicate_succ, pgRow_cons]
    rcases j with _ | _ | j
    · rfl
    · rfl
    · simp only [List.getElem?_cons_succ]
      rw [ih j (by omega), show (j + 1 + 1) % 2 = j % 2 by omega]
theorem run_make_pages (n : Nat) (hn : n ≤ 1000000) (w : World) :
    (Instr.makeSlice 79 (.int .i64 (n : Int)) (.int .i64 (n : Int))).run Tryd.prog w = .ok (.slice (some ⟨w.heap.size, 0, none⟩) n n) (w.alloc (.cells (pgA (List.replicate n ⟨0, 0⟩)) 83)) := by
  unfold pgA
  obtain ⟨i, hi, hi2⟩ := Option.map_eq_some_iff.1 info51
  simp only [Prod.mk.injEq] at hi2
  obtain ⟨hz0, hz1, hz2⟩ := hi2
  have := run_make (P := Tryd.prog) w 79 83 i (.agg #[.int .i64 0, .int .u64 0]) Tryd.underlying79 hi hz0 .i64 .i64 (n : Int) (n : Int) (by omega) (by omega) (by rw [hz2]; omega) (by omega)
  rw [this, hz1]
  have e : madeCells (Value.agg #[.int .i64 0, .int .u64 0]).cells ((n : Int).toNat * 2) = (pgRow (List.replicate n ⟨0, 0⟩)).toArray := by
    have hc : (Value.agg #[.int .i64 0, .int .u64 0]).cells = #[.int .i64 0, .int .u64 0] := rfl
    rw [hc, Int.toNat_natCast]
    unfold madeCells
    apply Array.ext'
    apply List.ext_getElem?
    intro j
    by_cases hj : j < n * 2
    · have h1 : (pgRow (List.replicate n ⟨0, 0⟩))[j]? = _ := pgRow_rep n ⟨0, 0⟩ j hj
      rw [List.toList_toArray, h1]
      rcases Nat.mod_two_eq_zero_or_one j with h | h <;> simp [h, hj]
    · have hl := pgRow_len (List.replicate n ⟨0, 0⟩)
      rw [List.length_replicate] at hl
      rw [List.toList_toArray, List.getElem?_eq_none (by simp; omega), List.getElem?_eq_none (by simp only [List.toList_toArray, hl]; omega)]
  rw [e, Int.toNat_natCast]
/-- A new slab's pages. -/
def blank : Pg := ⟨-1, 0⟩
set_option maxHeartbeats 400000 in
theorem new_bad (n : Int) (w : World) (h : n < 1 ∨ 1024 < n) :
    Calls Tryd.prog 15 #[.int .i64 n] w fun e w' => e = .returned (.tuple #[.pointer none, .int .i64 1]) ∧ w' = w := by
  by_cases h1 : n < 1
  · clear h
    go_enter Tryd.func15, Tryd.ntmps15
    go_wp2
    go_ret2
    exact ⟨rfl, rfl⟩
  have h4 : 1024 < n := by omega
  clear h
  go_enter Tryd.func15, Tryd.ntmps15
  go_wp2
  go_ret2
  exact ⟨rfl, rfl⟩
def half (n k : Nat) : List Pg := List.replicate k blank ++ List.replicate (n - k) ⟨0, 0⟩
theorem half_len (n k : Nat) (h : k ≤ n) : (half n k).length = n := by simp [half]; omega
theorem half_get (n k : Nat) (h : k < n) : (half n k)[k]? = some ⟨0, 0⟩ := by
  simp [half, List.getElem?_append, List.getElem?_replicate]; omega
theorem half_step (n k : Nat) (h : k < n) : (half n k).set k ⟨-1, 0⟩ = half n (k + 1) := by
  unfold half
  rw [show n - k = (n - (k + 1)) + 1 by omega, List.replicate_succ, List.set_append_right _ _ (by simp)]
  simp only [List.length_replicate, Nat.sub_self, List.set_cons_zero]
  rw [List.replicate_succ' (n := k), List.append_assoc]
  rfl
set_option maxHeartbeats 1000000 in
theorem new_ok (n : Nat) (w : World) (h1 : 1 ≤ n) (h2 : n ≤ 1024) :
    Calls Tryd.prog 15 #[.int .i64 n] w fun e w' => e = .returned (.tuple #[.pointer (some ⟨w.heap.size + 1, 0, none⟩), .int .i64 0]) ∧ SlIn w' (w.heap.size + 1) w.heap.size (List.replicate n blank) ∧ Below w.heap.size w w' := by
  have e1 : ¬ (n : Int) < 1 := by omega
  have e2 : ¬ (1024 : Int) < (n : Int) := by omega
  have hmk := run_make_pages n (by omega)
  obtain ⟨A, hA⟩ : ∃ A, A = pgA (List.replicate n ⟨0, 0⟩) := ⟨_, rfl⟩
  rw [← hA] at hmk
  have HA := hide hA
  clear hA
  go_enter Tryd.func15, Tryd.ntmps15
  go_wp2
  go_loopg [21] n (fun kx s21 wr => ∃ (i : Nat), s21 = .int .i64 i ∧ i ≤ n ∧ n - i ≤ kx ∧ Hid (SlIn wr (w.heap.size + 1) w.heap.size (half n i) ∧ Below w.heap.size w wr))
  case atStart =>
    refine ⟨0, rfl, Nat.zero_le _, by omega, ⟨?_, ?_, by omega, by rw [half_len _ _ (by omega)]; exact h1, by rw [half_len _ _ (by omega)]; exact h2⟩, ((Below.refl _ w).alloc (Nat.le_refl _) _).alloc (by simp) _⟩
    · have := Blk.new (w.alloc (.cells A 83)) [.slice (some ⟨w.heap.size, 0, none⟩) n n] 81
      rw [World.size_alloc] at this
      rw [half_len _ _ (by omega)]
      exact this
    · have := (Blk.new w (pgRow (List.replicate n ⟨0, 0⟩)) 83).alloc (.cells #[.slice (some ⟨w.heap.size, 0, none⟩) n n] 81)
      rw [show (pgRow (List.replicate n ⟨0, 0⟩)).toArray = A from HA.out.symm] at this
      exact this
  case round =>
    obtain ⟨i, rfl, hin, hg, I⟩ := hrel
    have c0 := I.out.1.own.cell (i := 0) rfl
    rw [half_len _ _ hin] at c0
    by_cases hlt : i < n
    · have hlt2 : (i : Int) < (n : Int) := by omega
      have c1 := I.out.1.cell0 (half_get n i hlt)
      have c2 := I.out.1.row.frozen (i * 2)
      go_wp2
      go_roundg (n - (i + 1))
      case measure => omega
      case rel =>
        refine ⟨i + 1, rfl, by omega, by omega, ?_, I.out.2.setCell (p := ⟨w.heap.size, i * 2, none⟩) (by simp) _⟩
        have := I.out.1.set0 (half_get n i hlt) (-1)
        rw [half_step n i hlt] at this
        exact this
    · obtain rfl : i = n := by omega
      have hlt2 : ¬ (i : Int) < (i : Int) := by omega
      go_wp2
      go_ret2
      refine ⟨rfl, ?_, I.out.2⟩
      have := I.out.1
      rw [show half i i = List.replicate i blank by simp [half]] at this
      exact this
end Go.Proofs.YtdkiegkgnimapabDoor.Slb

/- A slab in memory: Of, Used, Pages, Left. -/
set_option linter.unusedVariables false
set_option linter.unusedSimpArgs false
namespace Go.Proofs.YtdkiegkgnimapabDoor.Slb
open Go.RowKit Go.Deep Math

/-- Every page's bits fit a word. -/
def Fit (l : List Pg) : Prop := ∀ p ∈ l, p.t < 18446744073709551616
theorem Fit.at {l : List Pg} (h : Fit l) {i : Nat} {p : Pg} (hp : l[i]? = some p) : p.t < 18446744073709551616 := h p (List.mem_of_getElem? hp)

set_option maxHeartbeats 1000000 in
theorem of_bad (f s : Nat) (l : List Pg) (k : Int) (w : World) (h : SlIn w f s l) (hk9 : k ≤ 9223372036854775807) (hk : k < 0 ∨ (64 * l.length : Nat) ≤ k) :
    Calls Tryd.prog 51 #[.pointer (some ⟨f, 0, none⟩), .int .i64 k] w fun e w' => e = .returned (.int .i64 (-1)) ∧ w' = w := by
  have c0 := h.own.cell (i := 0) rfl
  by_cases h0 : k < 0
  · clear hk
    go_enter Tryd.func51, Tryd.ntmps51
    go_wp2
    go_ret
    exact ⟨rfl, rfl⟩
  · have h1 : 0 ≤ k := by omega
    obtain ⟨n, hn⟩ : ∃ n, n = l.length := ⟨_, rfl⟩
    rw [← hn] at c0
    have h2 : (n : Int) ≤ k / 64 := by omega
    clear hk h0 hn h
    go_enter Tryd.func51, Tryd.ntmps51
    go_wp2
    go_ret
    exact ⟨rfl, rfl⟩
theorem shr_bit (t j : Nat) (ht : t < 18446744073709551616) : bits BinOp.and IntKind.u64 ((t : Int) / 2 ^ j) 1 = if t.testBit j then 1 else 0 := by
  have e : (t : Int) / 2 ^ j = ((t / 2 ^ j : Nat) : Int) := by rw [Int.natCast_ediv]; simp
  rw [e, show (1 : Int) = ((1 : Nat) : Int) from rfl, bits_and_u64_nat (t / 2 ^ j) 1 (Nat.lt_of_le_of_lt (Nat.div_le_self _ _) ht) (by omega), Nat.and_one_is_mod, Nat.testBit_eq_decide_div_mod_eq]
  rcases Nat.mod_two_eq_zero_or_one (t / 2 ^ j) with h | h <;> simp [h]
set_option maxHeartbeats 1000000 in
theorem of_in (f s : Nat) (l : List Pg) (k : Int) (i j : Nat) (p : Pg) (w : World) (h : SlIn w f s l) (hf : Fit l) (h0 : 0 ≤ k) (hk9 : k ≤ 9223372036854775807) (hq : k / 64 = (i : Int)) (hr : k % 64 = (j : Int)) (hp : l[i]? = some p) :
    Calls Tryd.prog 51 #[.pointer (some ⟨f, 0, none⟩), .int .i64 k] w fun e w' => e = .returned (.int .i64 (if p.t.testBit j then p.c else -1)) ∧ Below w.heap.size w w' := by
  have c0 := h.own.cell (i := 0) rfl
  have c1 := h.cell0 hp
  have c2 := h.cell1 hp
  have hi : i < l.length := (List.getElem?_eq_some_iff.1 hp).1
  have hj : j < 64 := by omega
  obtain ⟨n, hn⟩ : ∃ n, n = l.length := ⟨_, rfl⟩
  rw [← hn] at c0 hi
  have ht := hf.at hp
  have hb := shr_bit p.t j ht
  have hi2 : (i : Int) < (n : Int) := by omega
  clear hn h hf hp
  obtain ⟨c, t⟩ := p
  simp only at *
  by_cases ht2 : t.testBit j = true
  · rw [if_pos ht2] at hb ⊢
    clear ht2 ht
    go_enter Tryd.func51, Tryd.ntmps51
    go_wp2
    go_ret
    exact ⟨rfl, (Below.refl _ _).alloc (Nat.le_refl _) _⟩
  · rw [if_neg ht2] at hb ⊢
    clear ht2 ht
    go_enter Tryd.func51, Tryd.ntmps51
    go_wp2
    go_ret
    exact ⟨rfl, (Below.refl _ _).alloc (Nat.le_refl _) _⟩

/-! ### Counts -/
/-- How many chunks of a class are taken; how many pages it has. -/
def usd (c : Int) : List Pg → Nat
  | [] => 0
  | p :: l => (if p.c = c then pop 64 p.t else 0) + usd c l
def ownd (c : Int) : List Pg → Nat
  | [] => 0
  | p :: l => (if p.c = c then 1 else 0) + ownd c l
theorem usd_app (c : Int) (l m : List Pg) : usd c (l ++ m) = usd c l + usd c m := by
  induction l with
  | nil => simp [usd]
  | cons p l ih => simp only [List.cons_append, usd, ih]; omega
theorem ownd_app (c : Int) (l m : List Pg) : ownd c (l ++ m) = ownd c l + ownd c m := by
  induction l with
  | nil => simp [ownd]
  | cons p l ih => simp only [List.cons_append, ownd, ih]; omega
theorem usd_le (c : Int) (l : List Pg) : usd c l ≤ 64 * l.length := by
  induction l with
  | nil => simp [usd]
  | cons p l ih => have := pop_le 64 p.t; simp only [usd, List.length_cons]; split <;> omega
theorem ownd_le (c : Int) (l : List Pg) : ownd c l ≤ l.length := by
  induction l with
  | nil => simp [ownd]
  | cons p l ih => simp only [ownd, List.length_cons]; split <;> omega
theorem take_snoc {α : Type} {l : List α} {i : Nat} {p : α} (h : l[i]? = some p) : l.take (i + 1) = l.take i ++ [p] := by
  obtain ⟨hi, he⟩ := List.getElem?_eq_some_iff.1 h
  rw [List.take_succ_eq_append_getElem hi, he]

end Go.Proofs.YtdkiegkgnimapabDoor.Slb

