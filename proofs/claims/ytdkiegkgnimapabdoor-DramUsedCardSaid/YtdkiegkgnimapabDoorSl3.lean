/- A slab in memory: which page is next, Take, Free. -/
import Derived.Test.YtdkiegkgnimapabDoorZf
import Derived.Test.YtdkiegkgnimapabDoorAny
import Derived.Test.YtdkiegkgnimapabDoorAnyB
import Derived.Laws.BitsAllLaws
import Derived.Shelf.Abstract
set_option linter.unusedVariables false
set_option linter.unusedSimpArgs false
set_option maxRecDepth 8000
namespace Go.Proofs.YtdkiegkgnimapabDoor.Slb
open Go.RowKit Go.Deep Go.Shelf Math

theorem size_of {ops : Array Oper} {a0 : Act} {n : Nat} (h : ((List.range ops.size).all fun i => match (ops[i]?).bind (·.dst) with | some t => decide (t < n) | none => true) = true) (hn : a0.tmps.size = n) : ∀ (i : Nat) (o : Oper) (t : Nat), ops[i]? = some o → o.dst = some t → t < a0.tmps.size := fun i o t ho hd => by
  have hi : i < ops.size := (Array.getElem?_eq_some_iff.1 ho).1
  have := List.all_eq_true.1 h i (List.mem_range.2 hi)
  rw [ho] at this
  simp only [Option.bind_some, hd, decide_eq_true_eq] at this
  rw [hn]
  exact this
theorem enter26 (args : Array Value) (w : World) : (callFunc 58 args).run Tryd.prog w = .ok (.enter 58 args) w := enters_of Tryd.func58 (by kernel_rfl) rfl args w
/-- The chunks of a class on a page. -/
def many (c : Nat) : Nat := 64 / 2 ^ c
theorem run_shr (c : Nat) (hc : c < 6) (W : World) : (binOp .shr 3 (.int .i64 64) (.int .i64 (c : Int))).run Tryd.prog W = .ok (.int .i64 (many c : Int)) W := by
  rcases (show c = 0 ∨ c = 1 ∨ c = 2 ∨ c = 3 ∨ c = 4 ∨ c = 5 by omega) with rfl | rfl | rfl | rfl | rfl | rfl <;> rfl
theorem run_shl (j : Nat) (hj : j < 64) (W : World) : (binOp .shl 31 (.int .u64 1) (.int .i64 (j : Int))).run Tryd.prog W = .ok (.int .u64 ((2 ^ j : Nat) : Int)) W := by
  have h2 : 2 ^ j < 18446744073709551616 := Nat.pow_lt_pow_right (a := 2) (by decide) hj
  have := wrap_nat (2 ^ j) h2
  simp [go_sem]
  simpa using this
theorem run_or (t j : Nat) (ht : t < 18446744073709551616) (hj : j < 64) (hb : t.testBit j = false) (W : World) : (binOp .or 31 (.int .u64 (t : Int)) (.int .u64 ((2 ^ j : Nat) : Int))).run Tryd.prog W = .ok (.int .u64 ((t + 2 ^ j : Nat) : Int)) W := by
  have h2 : 2 ^ j < 18446744073709551616 := Nat.pow_lt_pow_right (a := 2) (by decide) hj
  have := bits_or_u64_nat t (2 ^ j) ht h2
  rw [or_add hb] at this
  simp [go_sem]
  simpa using this
theorem run_not (t j : Nat) (ht : t < 18446744073709551616) (hj : j < 64) (hb : t.testBit j = true) (W : World) : (binOp .andNot 31 (.int .u64 (t : Int)) (.int .u64 ((2 ^ j : Nat) : Int))).run Tryd.prog W = .ok (.int .u64 ((t - 2 ^ j : Nat) : Int)) W := by
  have h2 : 2 ^ j < 18446744073709551616 := Nat.pow_lt_pow_right (a := 2) (by decide) hj
  have := u64_andNot_nat t (2 ^ j) ht h2
  rw [show 18446744073709551615 - 2 ^ j = 2 ^ 64 - 1 - 2 ^ j from rfl, and_not 64 j t hj ht hb] at this
  simp [go_sem]
  simpa using this
theorem run_quo (k : Int) (a : Nat) (h0 : 0 ≤ k) (hk9 : k ≤ 9223372036854775807) (hq : k / 64 = (a : Int)) (W : World) : (binOp .quo 3 (.int .i64 k) (.int .i64 64)).run Tryd.prog W = .ok (.int .i64 (a : Int)) W := by
  simp [go_sem]
  rw [Int.tdiv_eq_ediv_of_nonneg h0, hq, IntWalk.i64_left, IntWalk.wrap64_in _ (by omega)]
theorem run_rem (k : Int) (j : Nat) (h0 : 0 ≤ k) (hk9 : k ≤ 9223372036854775807) (hq : k % 64 = (j : Int)) (W : World) : (binOp .rem 3 (.int .i64 k) (.int .i64 64)).run Tryd.prog W = .ok (.int .i64 (j : Int)) W := by
  simp [go_sem]
  rw [Int.tmod_eq_emod_of_nonneg h0, hq]

/-! ### Which page -/
/-- What IndexFunc is handed: a function of a page. -/
def Asks (w : World) (v : Value) (g : Pg → Bool) (fn : Nat) (caps : Array Value) : Prop := v = .func (.func fn) #[] caps ∧ ∀ (p : Pg) (W : World), p.t < 18446744073709551616 → Below w.heap.size w W → Calls Tryd.prog fn (#[.agg #[.int .i64 p.c, .int .u64 (p.t : Int)]] ++ caps) W fun e w' => e = .returned (.bool (g p)) ∧ Below W.heap.size W w'
def owns (cl : Nat) (p : Pg) : Bool := decide (p.c = (cl : Int)) && decide (lz 64 p.t < many cl)
def bare (p : Pg) : Bool := decide (p.c = -1)
def free (p : Pg) : Bool := decide (p.t = 0)
set_option maxHeartbeats 4000000 in
theorem clo_hit (cl : Nat) (hcl : cl < 6) (t : Nat) (ht : t < 18446744073709551616) (B : Nat) (w : World) (hT : Tab w) (hB : w.cell? ⟨B, 0, none⟩ = some (.int .i64 (cl : Int))) :
    Calls Tryd.prog 75 #[.agg #[.int .i64 (cl : Int), .int .u64 (t : Int)], .pointer (some ⟨B, 0, none⟩)] w fun e w' => e = .returned (.bool (decide ((lz 64 t : Int) < (many cl : Int)))) ∧ Below w.heap.size w w' := by
  obtain ⟨M, hM⟩ : ∃ M, M = many cl := ⟨_, rfl⟩
  have HSH : Hid (∀ W, (binOp .shr 3 (.int .i64 64) (.int .i64 (cl : Int))).run Tryd.prog W = .ok (.int .i64 (M : Int)) W) := fun W => by rw [hM]; exact run_shr cl hcl W
  rw [← hM]
  have cL0 : Hid (∀ W, Below w.heap.size w W → Calls Tryd.prog 58 #[.agg #[.int .i64 (cl : Int), .int .u64 (t : Int)]] W fun e w' => e = .returned (.int .i64 (lz 64 t : Int)) ∧ Below W.heap.size W w') := fun W b => least_any cl t ht W (hT.later b)
  have hBl : B < w.heap.size := block_lt_of_cell hB
  have HB := hide hB
  generalize (cl : Int) = c at *
  clear hM hB
  go_enter Tryd.func75, Tryd.ntmps75
  go_wp2
  obtain ⟨W1, hW1⟩ : ∃ W1, W1 = w.alloc (.cells #[.int .i64 c, .int .u64 (t : Int)] 83) := ⟨_, rfl⟩
  rw [← hW1]
  have BW : Hid (Below w.heap.size w W1) := by show Below _ _ _; rw [hW1]; exact (Below.refl _ _).alloc (Nat.le_refl _) _
  have bx : Blk W1 w.heap.size [.int .i64 c, .int .u64 (t : Int)] 83 := by rw [hW1]; exact Blk.new _ _ _
  have RD : Hid (∀ W, Below W1.heap.size W1 W → W.cell? ⟨w.heap.size, 0, none⟩ = some (.int .i64 c) ∧ W.cell? ⟨w.heap.size, 1, none⟩ = some (.int .u64 (t : Int)) ∧ W.cell? ⟨B, 0, none⟩ = some (.int .i64 c)) := fun W b => by
    have b2 := bx.same (b.block _ bx.lt)
    refine ⟨b2.cell (i := 0) rfl, b2.cell (i := 1) rfl, ?_⟩
    exact ((BW.out.trans (b.mono BW.out.size)).cell (p := ⟨B, 0, none⟩) hBl).trans HB.out
  have cL : Hid (∀ W, Below W1.heap.size W1 W → Calls Tryd.prog 58 #[.agg #[.int .i64 c, .int .u64 (t : Int)]] W fun e w' => e = .returned (.int .i64 (lz 64 t : Int)) ∧ Below W.heap.size W w') := fun W b => cL0.out W (BW.out.trans (b.mono BW.out.size))
  have DR : Hid (Below W1.heap.size W1 W1.drew) := (Below.refl _ _).drew
  clear hW1 bx cL0 hBl HB
  refine wp_region_guard (by kernel_rfl) (by kernel_rfl) (fun jx => ([.pointer (some ⟨w.heap.size, 0, none⟩), .int .i64 c, .int .i64 c, .bool true, .bool true, .agg #[.int .i64 c, .int .u64 (t : Int)], .int .i64 (lz 64 t : Int), .int .i64 c, .int .i64 (M : Int), .bool (decide ((lz 64 t : Int) < (M : Int))), .bool (decide ((lz 64 t : Int) < (M : Int))), .bool (decide ((lz 64 t : Int) < (M : Int)))] : List Value).getD jx undef) (fun W => Below W1.heap.size W1 W) (size_of (n := 15) (by kernel_rfl) rfl) (DR.out) ?_ ?_
  · intro jx ox hi w' ev hc hin hout hcst hfn
    have hltx : jx < 12 := by
      have := (Array.getElem?_eq_some_iff.1 hi).1
      simpa using this
    match jx, hltx with
    | 0, _ =>
      simp only [List.getElem?_toArray, List.getElem?_cons_zero, List.getElem?_cons_succ, Option.some.injEq] at hi
      subst hi
      rw [if_pos (by first | rfl | simp [wantV])]
      have e0 : ev (.tmp 2) = .pointer (some ⟨w.heap.size, 0, none⟩) := hout 2 (by kernel_rfl) (show (2 : Nat) < 15 by decide)
      refine .inl ⟨w', ?_, hc⟩
      show _ = Result.ok (Next.value (.pointer (some ⟨w.heap.size, 0, none⟩))) w'
      simp [execOp, e0, hcst, go_sem]
    | 1, _ =>
      simp only [List.getElem?_toArray, List.getElem?_cons_zero, List.getElem?_cons_succ, Option.some.injEq] at hi
      subst hi
      rw [if_pos (by first | rfl | simp [wantV])]
      have e0 : ev (.tmp 4) = .pointer (some ⟨w.heap.size, 0, none⟩) := hin 4 0 ⟨0, .data⟩ (by kernel_rfl) (by simp) rfl rfl (show (4 : Nat) < 15 by decide)
      refine .inl ⟨w', ?_, hc⟩
      show _ = Result.ok (Next.value (.int .i64 c)) w'
      obtain ⟨q0, q1, q2⟩ := RD.out w' hc
      simp [execOp, e0, q0, hcst, go_sem]
    | 2, _ =>
      simp only [List.getElem?_toArray, List.getElem?_cons_zero, List.getElem?_cons_succ, Option.some.injEq] at hi
      subst hi
      rw [if_pos (by first | rfl | simp [wantV])]
      have e0 : ev (.tmp 1) = .pointer (some ⟨B, 0, none⟩) := hout 1 (by kernel_rfl) (show (1 : Nat) < 15 by decide)
      refine .inl ⟨w', ?_, hc⟩
      show _ = Result.ok (Next.value (.int .i64 c)) w'
      obtain ⟨q0, q1, q2⟩ := RD.out w' hc
      simp [execOp, e0, q2, hcst, go_sem]
    | 3, _ =>
      simp only [List.getElem?_toArray, List.getElem?_cons_zero, List.getElem?_cons_succ, Option.some.injEq] at hi
      subst hi
      rw [if_pos (by first | rfl | simp [wantV])]
      have e0 : ev (.tmp 5) = .int .i64 c := hin 5 1 ⟨1, .data⟩ (by kernel_rfl) (by simp) rfl rfl (show (5 : Nat) < 15 by decide)
      have e1 : ev (.tmp 6) = .int .i64 c := hin 6 2 ⟨2, .data⟩ (by kernel_rfl) (by simp) rfl rfl (show (6 : Nat) < 15 by decide)
      refine .inl ⟨w', ?_, hc⟩
      show _ = Result.ok (Next.value (.bool true)) w'
      simp [execOp, e0, e1, hcst, go_sem]
    | 4, _ =>
      simp only [List.getElem?_toArray, List.getElem?_cons_zero, List.getElem?_cons_succ, Option.some.injEq] at hi
      subst hi
      rw [if_pos (by first | rfl | simp [wantV])]
      have e0 : ev (.tmp 7) = .bool true := hin 7 3 ⟨3, .data⟩ (by kernel_rfl) (by simp) rfl rfl (show (7 : Nat) < 15 by decide)
      refine .inl ⟨w', ?_, hc⟩
      show _ = Result.ok (Next.value (.bool true)) w'
      simp [execOp, e0, hcst, go_sem]
    | 5, _ =>
      simp only [List.getElem?_toArray, List.getElem?_cons_zero, List.getElem?_cons_succ, Option.some.injEq] at hi
      subst hi
      rw [if_pos (by first | rfl | simp [wantV])]
      have e0 : ev (.tmp 2) = .pointer (some ⟨w.heap.size, 0, none⟩) := hout 2 (by kernel_rfl) (show (2 : Nat) < 15 by decide)
      refine .inl ⟨w', ?_, hc⟩
      show _ = Result.ok (Next.value (.agg #[.int .i64 c, .int .u64 (t : Int)])) w'
      obtain ⟨q0, q1, q2⟩ := RD.out w' hc
      simp [execOp, e0, q0, q1, hcst, go_sem]
    | 6, _ =>
      simp only [List.getElem?_toArray, List.getElem?_cons_zero, List.getElem?_cons_succ, Option.some.injEq] at hi
      subst hi
      rw [if_pos (by first | rfl | simp [wantV])]
      have e0 : ev (.tmp 9) = .agg #[.int .i64 c, .int .u64 (t : Int)] := hin 9 5 ⟨5, .data⟩ (by kernel_rfl) (by simp) rfl rfl (show (9 : Nat) < 15 by decide)
      refine .inr (.inr ⟨58, #[.agg #[.int .i64 c, .int .u64 (t : Int)]], ?_, ?_⟩)
      · have ef := hfn 58
        simp [execOp, resolve, invoke, ef, hcst, e0, Result.andThen]
        exact enter26 _ _
      · refine (cL.out w' hc).mono ?_
        rintro e w2 ⟨rfl, b2⟩
        exact ⟨rfl, hc.trans (b2.mono hc.size)⟩
    | 7, _ =>
      simp only [List.getElem?_toArray, List.getElem?_cons_zero, List.getElem?_cons_succ, Option.some.injEq] at hi
      subst hi
      rw [if_pos (by first | rfl | simp [wantV])]
      have e0 : ev (.tmp 1) = .pointer (some ⟨B, 0, none⟩) := hout 1 (by kernel_rfl) (show (1 : Nat) < 15 by decide)
      refine .inl ⟨w', ?_, hc⟩
      show _ = Result.ok (Next.value (.int .i64 c)) w'
      obtain ⟨q0, q1, q2⟩ := RD.out w' hc
      simp [execOp, e0, q2, hcst, go_sem]
    | 8, _ =>
      simp only [List.getElem?_toArray, List.getElem?_cons_zero, List.getElem?_cons_succ, Option.some.injEq] at hi
      subst hi
      rw [if_pos (by first | rfl | simp [wantV])]
      have e0 : ev (.tmp 11) = .int .i64 c := hin 11 7 ⟨7, .data⟩ (by kernel_rfl) (by simp) rfl rfl (show (11 : Nat) < 15 by decide)
      refine .inl ⟨w', ?_, hc⟩
      show _ = Result.ok (Next.value (.int .i64 (M : Int))) w'
      have q := HSH.out w'
      simp [execOp, e0, hcst, eqGuard, q, Result.andThen, pure, Sem.run]
    | 9, _ =>
      simp only [List.getElem?_toArray, List.getElem?_cons_zero, List.getElem?_cons_succ, Option.some.injEq] at hi
      subst hi
      rw [if_pos (by first | rfl | simp [wantV])]
      have e0 : ev (.tmp 10) = .int .i64 (lz 64 t : Int) := hin 10 6 ⟨6, .data⟩ (by kernel_rfl) (by simp) rfl rfl (show (10 : Nat) < 15 by decide)
      have e1 : ev (.tmp 12) = .int .i64 (M : Int) := hin 12 8 ⟨8, .data⟩ (by kernel_rfl) (by simp) rfl rfl (show (12 : Nat) < 15 by decide)
      refine .inl ⟨w', ?_, hc⟩
      show _ = Result.ok (Next.value (.bool (decide ((lz 64 t : Int) < (M : Int))))) w'
      simp [execOp, e0, e1, hcst, go_sem]
    | 10, _ =>
      simp only [List.getElem?_toArray, List.getElem?_cons_zero, List.getElem?_cons_succ, Option.some.injEq] at hi
      subst hi
      rw [if_pos (by first | rfl | simp [wantV])]
      have e0 : ev (.tmp 8) = .bool true := hin 8 4 ⟨4, .data⟩ (by kernel_rfl) (by simp) rfl rfl (show (8 : Nat) < 15 by decide)
      have e1 : ev (.tmp 13) = .bool (decide ((lz 64 t : Int) < (M : Int))) := hin 13 9 ⟨9, .data⟩ (by kernel_rfl) (by simp) rfl rfl (show (13 : Nat) < 15 by decide)
      refine .inl ⟨w', ?_, hc⟩
      show _ = Result.ok (Next.value (.bool (decide ((lz 64 t : Int) < (M : Int))))) w'
      simp [execOp, e0, e1, hcst, go_sem]
    | 11, _ =>
      simp only [List.getElem?_toArray, List.getElem?_cons_zero, List.getElem?_cons_succ, Option.some.injEq] at hi
      subst hi
      rw [if_pos (by first | rfl | simp [wantV])]
      have e0 : ev (.tmp 14) = .bool (decide ((lz 64 t : Int) < (M : Int))) := hin 14 10 ⟨10, .data⟩ (by kernel_rfl) (by simp) rfl rfl (show (14 : Nat) < 15 by decide)
      refine .inl ⟨w', ?_, hc⟩
      show _ = Result.ok (Next.value (.bool (decide ((lz 64 t : Int) < (M : Int))))) w'
      simp [execOp, e0, hcst, go_sem]
  · intro w7 hc
    simp only [lexF, Act.put, List.setIfInBounds_toArray, List.set_cons_succ, List.set_cons_zero, List.getD_cons_succ, List.getD_cons_zero]
    go_wp2
    go_ret
    exact ⟨rfl, BW.out.trans (hc.mono BW.out.size)⟩
set_option maxHeartbeats 4000000 in
theorem clo_miss (cl c : Int) (hne : ¬ c = cl) (t : Nat) (B : Nat) (w : World) (hB : w.cell? ⟨B, 0, none⟩ = some (.int .i64 cl)) :
    Calls Tryd.prog 75 #[.agg #[.int .i64 c, .int .u64 (t : Int)], .pointer (some ⟨B, 0, none⟩)] w fun e w' => e = .returned (.bool false) ∧ Below w.heap.size w w' := by
  have hBl : B < w.heap.size := block_lt_of_cell hB
  have HB := hide hB
  clear hB
  go_enter Tryd.func75, Tryd.ntmps75
  go_wp2
  obtain ⟨W1, hW1⟩ : ∃ W1, W1 = w.alloc (.cells #[.int .i64 c, .int .u64 (t : Int)] 83) := ⟨_, rfl⟩
  rw [← hW1]
  have BW : Hid (Below w.heap.size w W1) := by show Below _ _ _; rw [hW1]; exact (Below.refl _ _).alloc (Nat.le_refl _) _
  have bx : Blk W1 w.heap.size [.int .i64 c, .int .u64 (t : Int)] 83 := by rw [hW1]; exact Blk.new _ _ _
  have RD : Hid (∀ W, Below W1.heap.size W1 W → W.cell? ⟨w.heap.size, 0, none⟩ = some (.int .i64 c) ∧ W.cell? ⟨w.heap.size, 1, none⟩ = some (.int .u64 (t : Int)) ∧ W.cell? ⟨B, 0, none⟩ = some (.int .i64 cl)) := fun W b => by
    have b2 := bx.same (b.block _ bx.lt)
    refine ⟨b2.cell (i := 0) rfl, b2.cell (i := 1) rfl, ?_⟩
    exact ((BW.out.trans (b.mono BW.out.size)).cell (p := ⟨B, 0, none⟩) hBl).trans HB.out
  have DR : Hid (Below W1.heap.size W1 W1.drew) := (Below.refl _ _).drew
  clear hW1 bx hBl HB
  refine wp_region_guard (by kernel_rfl) (by kernel_rfl) (fun jx => ([.pointer (some ⟨w.heap.size, 0, none⟩), .int .i64 c, .int .i64 cl, .bool false, .bool false, undef, undef, undef, undef, undef, .bool false, .bool false] : List Value).getD jx undef) (fun W => Below W1.heap.size W1 W) (size_of (n := 15) (by kernel_rfl) rfl) (DR.out) ?_ ?_
  · intro jx ox hi w' ev hc hin hout hcst hfn
    have hltx : jx < 12 := by
      have := (Array.getElem?_eq_some_iff.1 hi).1
      simpa using this
    match jx, hltx with
    | 0, _ =>
      simp only [List.getElem?_toArray, List.getElem?_cons_zero, List.getElem?_cons_succ, Option.some.injEq] at hi
      subst hi
      rw [if_pos (by first | rfl | simp [wantV])]
      have e0 : ev (.tmp 2) = .pointer (some ⟨w.heap.size, 0, none⟩) := hout 2 (by kernel_rfl) (show (2 : Nat) < 15 by decide)
      refine .inl ⟨w', ?_, hc⟩
      show _ = Result.ok (Next.value (.pointer (some ⟨w.heap.size, 0, none⟩))) w'
      simp [execOp, e0, hcst, go_sem]
    | 1, _ =>
      simp only [List.getElem?_toArray, List.getElem?_cons_zero, List.getElem?_cons_succ, Option.some.injEq] at hi
      subst hi
      rw [if_pos (by first | rfl | simp [wantV])]
      have e0 : ev (.tmp 4) = .pointer (some ⟨w.heap.size, 0, none⟩) := hin 4 0 ⟨0, .data⟩ (by kernel_rfl) (by simp) rfl rfl (show (4 : Nat) < 15 by decide)
      refine .inl ⟨w', ?_, hc⟩
      show _ = Result.ok (Next.value (.int .i64 c)) w'
      obtain ⟨q0, q1, q2⟩ := RD.out w' hc
      simp [execOp, e0, q0, hcst, go_sem]
    | 2, _ =>
      simp only [List.getElem?_toArray, List.getElem?_cons_zero, List.getElem?_cons_succ, Option.some.injEq] at hi
      subst hi
      rw [if_pos (by first | rfl | simp [wantV])]
      have e0 : ev (.tmp 1) = .pointer (some ⟨B, 0, none⟩) := hout 1 (by kernel_rfl) (show (1 : Nat) < 15 by decide)
      refine .inl ⟨w', ?_, hc⟩
      show _ = Result.ok (Next.value (.int .i64 cl)) w'
      obtain ⟨q0, q1, q2⟩ := RD.out w' hc
      simp [execOp, e0, q2, hcst, go_sem]
    | 3, _ =>
      simp only [List.getElem?_toArray, List.getElem?_cons_zero, List.getElem?_cons_succ, Option.some.injEq] at hi
      subst hi
      rw [if_pos (by first | rfl | simp [wantV])]
      have e0 : ev (.tmp 5) = .int .i64 c := hin 5 1 ⟨1, .data⟩ (by kernel_rfl) (by simp) rfl rfl (show (5 : Nat) < 15 by decide)
      have e1 : ev (.tmp 6) = .int .i64 cl := hin 6 2 ⟨2, .data⟩ (by kernel_rfl) (by simp) rfl rfl (show (6 : Nat) < 15 by decide)
      refine .inl ⟨w', ?_, hc⟩
      show _ = Result.ok (Next.value (.bool false)) w'
      simp [execOp, e0, e1, hcst, go_sem, hne]
    | 4, _ =>
      simp only [List.getElem?_toArray, List.getElem?_cons_zero, List.getElem?_cons_succ, Option.some.injEq] at hi
      subst hi
      rw [if_pos (by first | rfl | simp [wantV])]
      have e0 : ev (.tmp 7) = .bool false := hin 7 3 ⟨3, .data⟩ (by kernel_rfl) (by simp) rfl rfl (show (7 : Nat) < 15 by decide)
      refine .inl ⟨w', ?_, hc⟩
      show _ = Result.ok (Next.value (.bool false)) w'
      simp [execOp, e0, hcst, go_sem]
    | 5, _ =>
      simp only [List.getElem?_toArray, List.getElem?_cons_zero, List.getElem?_cons_succ, Option.some.injEq] at hi
      subst hi
      rw [if_neg (by first | (simp [wantV]; done) | (simp [wantV]; rfl))]
      rfl
    | 6, _ =>
      simp only [List.getElem?_toArray, List.getElem?_cons_zero, List.getElem?_cons_succ, Option.some.injEq] at hi
      subst hi
      rw [if_neg (by first | (simp [wantV]; done) | (simp [wantV]; rfl))]
      rfl
    | 7, _ =>
      simp only [List.getElem?_toArray, List.getElem?_cons_zero, List.getElem?_cons_succ, Option.some.injEq] at hi
      subst hi
      rw [if_neg (by first | (simp [wantV]; done) | (simp [wantV]; rfl))]
      rfl
    | 8, _ =>
      simp only [List.getElem?_toArray, List.getElem?_cons_zero, List.getElem?_cons_succ, Option.some.injEq] at hi
      subst hi
      rw [if_neg (by first | (simp [wantV]; done) | (simp [wantV]; rfl))]
      rfl
    | 9, _ =>
      simp only [List.getElem?_toArray, List.getElem?_cons_zero, List.getElem?_cons_succ, Option.some.injEq] at hi
      subst hi
      rw [if_neg (by first | (simp [wantV]; done) | (simp [wantV]; rfl))]
      rfl
    | 10, _ =>
      simp only [List.getElem?_toArray, List.getElem?_cons_zero, List.getElem?_cons_succ, Option.some.injEq] at hi
      subst hi
      rw [if_pos (by first | rfl | simp [wantV])]
      have e0 : ev (.tmp 8) = .bool false := hin 8 4 ⟨4, .data⟩ (by kernel_rfl) (by simp) rfl rfl (show (8 : Nat) < 15 by decide)
      have e1 : ev (.tmp 13) = undef := hin 13 9 ⟨9, .data⟩ (by kernel_rfl) (by simp) rfl rfl (show (13 : Nat) < 15 by decide)
      refine .inl ⟨w', ?_, hc⟩
      show _ = Result.ok (Next.value (.bool false)) w'
      simp [execOp, e0, e1, hcst, go_sem]
    | 11, _ =>
      simp only [List.getElem?_toArray, List.getElem?_cons_zero, List.getElem?_cons_succ, Option.some.injEq] at hi
      subst hi
      rw [if_pos (by first | rfl | simp [wantV])]
      have e0 : ev (.tmp 14) = .bool false := hin 14 10 ⟨10, .data⟩ (by kernel_rfl) (by simp) rfl rfl (show (14 : Nat) < 15 by decide)
      refine .inl ⟨w', ?_, hc⟩
      show _ = Result.ok (Next.value (.bool false)) w'
      simp [execOp, e0, hcst, go_sem]
  · intro w7 hc
    simp only [lexF, Act.put, List.setIfInBounds_toArray, List.set_cons_succ, List.set_cons_zero, List.getD_cons_succ, List.getD_cons_zero]
    go_wp2
    go_ret
    exact ⟨rfl, BW.out.trans (hc.mono BW.out.size)⟩
theorem asks_own (cl : Nat) (hcl : cl < 6) (B : Nat) (w : World) (hT : Tab w) (hB : w.cell? ⟨B, 0, none⟩ = some (.int .i64 (cl : Int))) :
    Asks w (.func (.func 75) #[] #[.pointer (some ⟨B, 0, none⟩)]) (owns cl) 75 #[.pointer (some ⟨B, 0, none⟩)] := by
  refine ⟨rfl, fun p W hp b => ?_⟩
  have hBl : B < w.heap.size := block_lt_of_cell hB
  have hB2 := (b.cell (p := ⟨B, 0, none⟩) hBl).trans hB
  unfold owns
  by_cases hc : p.c = (cl : Int)
  · rw [hc, decide_eq_true rfl, Bool.true_and, show decide (lz 64 p.t < many cl) = decide ((lz 64 p.t : Int) < (many cl : Int)) by rw [decide_eq_decide]; omega]
    exact clo_hit cl hcl p.t hp B W (hT.later b) hB2
  · rw [decide_eq_false hc, Bool.false_and]
    exact clo_miss cl p.c hc p.t B W hB2
set_option maxHeartbeats 1000000 in
theorem asks_bare (w : World) : Asks w (.func (.func 76) #[] #[]) bare 76 #[] := by
  refine ⟨rfl, fun p W hp b => ?_⟩
  obtain ⟨c, t⟩ := p
  unfold bare
  show Calls Tryd.prog 76 #[.agg #[.int .i64 c, .int .u64 (t : Int)]] W _
  by_cases hc : c = -1
  · subst hc
    go_enter Tryd.func76, Tryd.ntmps76
    go_wp2
    go_ret
    exact ⟨rfl, (Below.refl _ _).alloc (Nat.le_refl _) _⟩
  · have h2 : (c == -1) = false := by simp [hc]
    rw [decide_eq_false hc]
    clear hc
    go_enter Tryd.func76, Tryd.ntmps76
    go_wp2
    go_ret
    exact ⟨rfl, (Below.refl _ _).alloc (Nat.le_refl _) _⟩
set_option maxHeartbeats 1000000 in
theorem asks_free (w : World) : Asks w (.func (.func 77) #[] #[]) free 77 #[] := by
  refine ⟨rfl, fun p W hp b => ?_⟩
  obtain ⟨c, t⟩ := p
  unfold free
  show Calls Tryd.prog 77 #[.agg #[.int .i64 c, .int .u64 (t : Int)]] W _
  by_cases hc : t = 0
  · subst hc
    go_enter Tryd.func77, Tryd.ntmps77
    go_wp2
    go_ret
    exact ⟨rfl, (Below.refl _ _).alloc (Nat.le_refl _) _⟩
  · have h2 : ((t : Int) == 0) = false := by simp; omega
    rw [decide_eq_false hc]
    clear hc
    go_enter Tryd.func77, Tryd.ntmps77
    go_wp2
    go_ret
    exact ⟨rfl, (Below.refl _ _).alloc (Nat.le_refl _) _⟩
/-- The number that stands for a place, or for none. -/
def ixI : Option Nat → Int
  | none => -1
  | some i => (i : Int)
set_option maxHeartbeats 2000000 in
theorem index31 (f s : Nat) (l : List Pg) (g : Pg → Bool) (B : Nat) (w : World) (h : SlIn w f s l) (hf : Fit l) (hA : Asks w (.func (.func 75) #[] #[.pointer (some ⟨B, 0, none⟩)]) g 75 #[.pointer (some ⟨B, 0, none⟩)]) :
    Calls Tryd.prog 74 #[.slice (some ⟨s, 0, none⟩) l.length l.length, .func (.func 75) #[] #[.pointer (some ⟨B, 0, none⟩)]] w fun e w' => e = .returned (.int .i64 (ixI (l.findIdx? g))) ∧ Below w.heap.size w w' := by
  have hn9 := h.n9
  have H := hide h
  have HF := hide hf
  obtain ⟨n, hn⟩ : ∃ n, n = l.length := ⟨_, rfl⟩
  rw [← hn] at hn9
  rw [← hn]
  have HN := hide hn
  have cA : Hid (∀ (p : Pg) (W : World), p.t < 18446744073709551616 → Below w.heap.size w W → Calls Tryd.prog 75 #[.agg #[.int .i64 p.c, .int .u64 (p.t : Int)], .pointer (some ⟨B, 0, none⟩)] W fun e w' => e = .returned (.bool (g p)) ∧ Below W.heap.size W w') := hA.2
  clear h hn hf hA
  go_enter Tryd.func74, Tryd.ntmps74
  go_wp2_with fail
  go_loopg [8] n (fun kx s8 wr => ∃ (i : Nat), s8 = .int .i64 i ∧ i ≤ n ∧ n - i ≤ kx ∧ Hid ((∀ j p, j < i → l[j]? = some p → g p = false) ∧ Below w.heap.size w wr))
  case atStart => exact ⟨0, rfl, Nat.zero_le _, by omega, fun j r hj => absurd hj (by omega), Below.refl _ _⟩
  case round =>
    obtain ⟨i, rfl, hin, hg, I⟩ := hrel
    by_cases hlt : i < n
    · have hlt2 : (i : Int) < (n : Int) := by omega
      obtain ⟨p, hp⟩ : ∃ p, l[i]? = some p := ⟨_, List.getElem?_eq_getElem (by rw [← HN.out]; exact hlt)⟩
      have SW := H.out.below I.out.2
      have k0 := SW.cell0 hp
      have k1 := SW.cell1 hp
      have cR := hide (cA.out p wr (HF.out.at hp) I.out.2)
      have HR := hide hp
      clear hp SW
      by_cases hgp : g p = true
      · rw [hgp] at cR
        have E : Hid (l.findIdx? g = some i) := by
          show _ = _
          rw [List.findIdx?_eq_some_iff_getElem]
          obtain ⟨hi, he⟩ := List.getElem?_eq_some_iff.1 HR.out
          refine ⟨hi, by rw [he]; exact hgp, fun j hj => ?_⟩
          have := I.out.1 j l[j] hj (List.getElem?_eq_getElem (by omega))
          simp [this]
        clear hgp
        go_wp2_with fail
        refine cR.out.mono ?_
        rintro e w2 ⟨rfl, b2⟩
        have B2 := hide (I.out.2.trans (b2.mono I.out.2.size))
        clear b2 cR
        go_wp2
        go_ret
        exact ⟨by rw [E.out]; rfl, B2.out⟩
      · have hgp := Bool.eq_false_iff.2 hgp
        rw [hgp] at cR
        have E : Hid (∀ j p, j < i + 1 → l[j]? = some p → g p = false) := fun j r' hj hr' => by
          rcases Nat.lt_or_ge j i with h1 | h1
          · exact I.out.1 j r' h1 hr'
          · have : j = i := by omega
            subst this
            rw [HR.out] at hr'
            cases hr'
            exact hgp
        clear hgp
        go_wp2_with fail
        refine cR.out.mono ?_
        rintro e w2 ⟨rfl, b2⟩
        have B2 := hide (I.out.2.trans (b2.mono I.out.2.size))
        clear b2 cR
        go_wp2
        go_roundg (n - (i + 1))
        case measure => omega
        case rel => exact ⟨i + 1, rfl, by omega, by omega, E.out, B2.out⟩
    · obtain rfl : i = n := by omega
      have hlt2 : ¬ (i : Int) < (i : Int) := by omega
      have E : Hid (l.findIdx? g = none) := by
        show _ = _
        rw [List.findIdx?_eq_none_iff]
        intro r hr
        obtain ⟨j, hj⟩ := List.getElem?_of_mem hr
        have hjl := (List.getElem?_eq_some_iff.1 hj).1
        exact I.out.1 j r (by have := HN.out; omega) hj
      go_wp2
      go_ret
      exact ⟨by rw [E.out]; rfl, I.out.2⟩
set_option maxHeartbeats 2000000 in
theorem index32 (f s : Nat) (l : List Pg) (g : Pg → Bool) (w : World) (h : SlIn w f s l) (hf : Fit l) (hA : Asks w (.func (.func 76) #[] #[]) g 76 #[]) :
    Calls Tryd.prog 74 #[.slice (some ⟨s, 0, none⟩) l.length l.length, .func (.func 76) #[] #[]] w fun e w' => e = .returned (.int .i64 (ixI (l.findIdx? g))) ∧ Below w.heap.size w w' := by
  have hn9 := h.n9
  have H := hide h
  have HF := hide hf
  obtain ⟨n, hn⟩ : ∃ n, n = l.length := ⟨_, rfl⟩
  rw [← hn] at hn9
  rw [← hn]
  have HN := hide hn
  have cA : Hid (∀ (p : Pg) (W : World), p.t < 18446744073709551616 → Below w.heap.size w W → Calls Tryd.prog 76 #[.agg #[.int .i64 p.c, .int .u64 (p.t : Int)]] W fun e w' => e = .returned (.bool (g p)) ∧ Below W.heap.size W w') := hA.2
  clear h hn hf hA
  go_enter Tryd.func74, Tryd.ntmps74
  go_wp2_with fail
  go_loopg [8] n (fun kx s8 wr => ∃ (i : Nat), s8 = .int .i64 i ∧ i ≤ n ∧ n - i ≤ kx ∧ Hid ((∀ j p, j < i → l[j]? = some p → g p = false) ∧ Below w.heap.size w wr))
  case atStart => exact ⟨0, rfl, Nat.zero_le _, by omega, fun j r hj => absurd hj (by omega), Below.refl _ _⟩
  case round =>
    obtain ⟨i, rfl, hin, hg, I⟩ := hrel
    by_cases hlt : i < n
    · have hlt2 : (i : Int) < (n : Int) := by omega
      obtain ⟨p, hp⟩ : ∃ p, l[i]? = some p := ⟨_, List.getElem?_eq_getElem (by rw [← HN.out]; exact hlt)⟩
      have SW := H.out.below I.out.2
      have k0 := SW.cell0 hp
      have k1 := SW.cell1 hp
      have cR := hide (cA.out p wr (HF.out.at hp) I.out.2)
      have HR := hide hp
      clear hp SW
      by_cases hgp : g p = true
      · rw [hgp] at cR
        have E : Hid (l.findIdx? g = some i) := by
          show _ = _
          rw [List.findIdx?_eq_some_iff_getElem]
          obtain ⟨hi, he⟩ := List.getElem?_eq_some_iff.1 HR.out
          refine ⟨hi, by rw [he]; exact hgp, fun j hj => ?_⟩
          have := I.out.1 j l[j] hj (List.getElem?_eq_getElem (by omega))
          simp [this]
        clear hgp
        go_wp2_with fail
        refine cR.out.mono ?_
        rintro e w2 ⟨rfl, b2⟩
        have B2 := hide (I.out.2.trans (b2.mono I.out.2.size))
        clear b2 cR
        go_wp2
        go_ret
        exact ⟨by rw [E.out]; rfl, B2.out⟩
      · have hgp := Bool.eq_false_iff.2 hgp
        rw [hgp] at cR
        have E : Hid (∀ j p, j < i + 1 → l[j]? = some p → g p = false) := fun j r' hj hr' => by
          rcases Nat.lt_or_ge j i with h1 | h1
          · exact I.out.1 j r' h1 hr'
          · have : j = i := by omega
            subst this
            rw [HR.out] at hr'
            cases hr'
            exact hgp
        clear hgp
        go_wp2_with fail
        refine cR.out.mono ?_
        rintro e w2 ⟨rfl, b2⟩
        have B2 := hide (I.out.2.trans (b2.mono I.out.2.size))
        clear b2 cR
        go_wp2
        go_roundg (n - (i + 1))
        case measure => omega
        case rel => exact ⟨i + 1, rfl, by omega, by omega, E.out, B2.out⟩
    · obtain rfl : i = n := by omega
      have hlt2 : ¬ (i : Int) < (i : Int) := by omega
      have E : Hid (l.findIdx? g = none) := by
        show _ = _
        rw [List.findIdx?_eq_none_iff]
        intro r hr
        obtain ⟨j, hj⟩ := List.getElem?_of_mem hr
        have hjl := (List.getElem?_eq_some_iff.1 hj).1
        exact I.out.1 j r (by have := HN.out; omega) hj
      go_wp2
      go_ret
      exact ⟨by rw [E.out]; rfl, I.out.2⟩
set_option maxHeartbeats 2000000 in
theorem index33 (f s : Nat) (l : List Pg) (g : Pg → Bool) (w : World) (h : SlIn w f s l) (hf : Fit l) (hA : Asks w (.func (.func 77) #[] #[]) g 77 #[]) :
    Calls Tryd.prog 74 #[.slice (some ⟨s, 0, none⟩) l.length l.length, .func (.func 77) #[] #[]] w fun e w' => e = .returned (.int .i64 (ixI (l.findIdx? g))) ∧ Below w.heap.size w w' := by
  have hn9 := h.n9
  have H := hide h
  have HF := hide hf
  obtain ⟨n, hn⟩ : ∃ n, n = l.length := ⟨_, rfl⟩
  rw [← hn] at hn9
  rw [← hn]
  have HN := hide hn
  have cA : Hid (∀ (p : Pg) (W : World), p.t < 18446744073709551616 → Below w.heap.size w W → Calls Tryd.prog 77 #[.agg #[.int .i64 p.c, .int .u64 (p.t : Int)]] W fun e w' => e = .returned (.bool (g p)) ∧ Below W.heap.size W w') := hA.2
  clear h hn hf hA
  go_enter Tryd.func74, Tryd.ntmps74
  go_wp2_with fail
  go_loopg [8] n (fun kx s8 wr => ∃ (i : Nat), s8 = .int .i64 i ∧ i ≤ n ∧ n - i ≤ kx ∧ Hid ((∀ j p, j < i → l[j]? = some p → g p = false) ∧ Below w.heap.size w wr))
  case atStart => exact ⟨0, rfl, Nat.zero_le _, by omega, fun j r hj => absurd hj (by omega), Below.refl _ _⟩
  case round =>
    obtain ⟨i, rfl, hin, hg, I⟩ := hrel
    by_cases hlt : i < n
    · have hlt2 : (i : Int) < (n : Int) := by omega
      obtain ⟨p, hp⟩ : ∃ p, l[i]? = some p := ⟨_, List.getElem?_eq_getElem (by rw [← HN.out]; exact hlt)⟩
      have SW := H.out.below I.out.2
      have k0 := SW.cell0 hp
      have k1 := SW.cell1 hp
      have cR := hide (cA.out p wr (HF.out.at hp) I.out.2)
      have HR := hide hp
      clear hp SW
      by_cases hgp : g p = true
      · rw [hgp] at cR
        have E : Hid (l.findIdx? g = some i) := by
          show _ = _
          rw [List.findIdx?_eq_some_iff_getElem]
          obtain ⟨hi, he⟩ := List.getElem?_eq_some_iff.1 HR.out
          refine ⟨hi, by rw [he]; exact hgp, fun j hj => ?_⟩
          have := I.out.1 j l[j] hj (List.getElem?_eq_getElem (by omega))
          simp [this]
        clear hgp
        go_wp2_with fail
        refine cR.out.mono ?_
        rintro e w2 ⟨rfl, b2⟩
        have B2 := hide (I.out.2.trans (b2.mono I.out.2.size))
        clear b2 cR
        go_wp2
        go_ret
        exact ⟨by rw [E.out]; rfl, B2.out⟩
      · have hgp := Bool.eq_false_iff.2 hgp
        rw [hgp] at cR
        have E : Hid (∀ j p, j < i + 1 → l[j]? = some p → g p = false) := fun j r' hj hr' => by
          rcases Nat.lt_or_ge j i with h1 | h1
          · exact I.out.1 j r' h1 hr'
          · have : j = i := by omega
            subst this
            rw [HR.out] at hr'
            cases hr'
            exact hgp
        clear hgp
        go_wp2_with fail
        refine cR.out.mono ?_
        rintro e w2 ⟨rfl, b2⟩
        have B2 := hide (I.out.2.trans (b2.mono I.out.2.size))
        clear b2 cR
        go_wp2
        go_roundg (n - (i + 1))
        case measure => omega
        case rel => exact ⟨i + 1, rfl, by omega, by omega, E.out, B2.out⟩
    · obtain rfl : i = n := by omega
      have hlt2 : ¬ (i : Int) < (i : Int) := by omega
      have E : Hid (l.findIdx? g = none) := by
        show _ = _
        rw [List.findIdx?_eq_none_iff]
        intro r hr
        obtain ⟨j, hj⟩ := List.getElem?_of_mem hr
        have hjl := (List.getElem?_eq_some_iff.1 hj).1
        exact I.out.1 j r (by have := HN.out; omega) hj
      go_wp2
      go_ret
      exact ⟨by rw [E.out]; rfl, I.out.2⟩
end Go.Proofs.YtdkiegkgnimapabDoor.Slb
