/- New, Copy. -/
import Derived.Test.YthnfdgjikbjgoabRead
set_option linter.unusedVariables false
set_option linter.unusedSimpArgs false
namespace Go.Proofs.Ythnfdgjikbjgoab
open Go.RowKit Go.Deep

theorem made_two (a b : Value) : ∀ n : Nat, (madeCells #[a, b] (n * 2)).toList = (List.replicate n ()).flatMap (fun _ => [a, b])
  | 0 => by simp [madeCells]
  | n + 1 => by
    have ih := made_two a b n
    have h1 : madeCells #[a, b] ((n + 1) * 2) = ((madeCells #[a, b] (n * 2)).push a).push b := by
      unfold madeCells
      rw [show (n + 1) * 2 = n * 2 + 1 + 1 by omega, Array.range_succ, Array.range_succ]
      have e1 : (n * 2) % 2 = 0 := by omega
      have e2 : (n * 2 + 1) % 2 = 1 := by omega
      apply Array.ext'
      simp [e1, e2]
    rw [h1, List.replicate_succ', List.flatMap_append]
    simp [ih]

theorem pgRow_fresh : ∀ n : Nat, pgRow (List.replicate n (⟨.blank, none⟩ : Cl)) = (List.replicate n ()).flatMap (fun _ => [Value.int .u8 0, Value.string ⟨#[]⟩])
  | 0 => rfl
  | n + 1 => by
    rw [List.replicate_succ, pgRow_cons, pgRow_fresh n, List.replicate_succ]
    rfl

theorem makePages (n : Nat) (hn : n ≤ 4096) (W : World) : (Instr.makeSlice 51 (.int .i64 n) (.int .i64 n)).run Try.prog W = .ok (.slice (some ⟨W.heap.size, 0, none⟩) n n) (W.alloc (.cells (pgRow (List.replicate n (⟨.blank, none⟩ : Cl))).toArray 65)) := by
  obtain ⟨i0, hi0, hp0⟩ := Option.map_eq_some_iff.1 info71
  simp only [Prod.mk.injEq] at hp0
  obtain ⟨hz0, hz1, hz2⟩ := hp0
  have h := run_make (P := Try.prog) W 51 65 i0 _ Try.underlying51 hi0 hz0 .i64 .i64 (n : Int) (n : Int) (by omega) (by omega) (by rw [hz2]; omega) (by omega)
  rw [h]
  simp only [Int.toNat_natCast, hz1]
  congr 3
  apply Array.ext'
  rw [pgRow_fresh]
  exact made_two _ _ n

set_option maxHeartbeats 400000 in
theorem new_bad (n : Int) (hn : n < 1 ∨ 4096 < n) (w : World) : Calls Try.prog 6 #[.int .i64 n] w fun e w' => e = .returned (.tuple #[.pointer none, .int .i64 1]) ∧ w' = w := by
  by_cases h1 : n < 1
  · clear hn
    go_enter Try.func6, Try.ntmps6
    go_wp2
    go_ret2
    exact ⟨rfl, rfl⟩
  · have h2 : 4096 < n := by omega
    clear hn
    go_enter Try.func6, Try.ntmps6
    go_wp2
    go_ret2
    exact ⟨rfl, rfl⟩

set_option maxHeartbeats 400000 in
theorem new_any (n : Nat) (h1 : 1 ≤ n) (h2 : n ≤ 4096) (w : World) :
    Calls Try.prog 6 #[.int .i64 n] w fun e w' => e = .returned (.tuple #[.pointer (some ⟨w.heap.size + 1, 0, none⟩), .int .i64 0]) ∧ DvIn w' (w.heap.size + 1) w.heap.size [] none 0 (Dv.fresh n) ∧ Below w.heap.size w w' := by
  have hmk := makePages n h2
  have hz1 : ¬ (n : Int) < 1 := by omega
  have hz2 : ¬ (4096 : Int) < (n : Int) := by omega
  have H2 := hide h2
  clear h1 h2
  generalize hZ : (pgRow (List.replicate n (⟨.blank, none⟩ : Cl))).toArray = Z at hmk
  have HZ := hide hZ
  clear hZ
  go_enter Try.func6, Try.ntmps6
  go_wp2
  go_ret2
  refine ⟨rfl, ⟨?_, ?_, ?_, by omega, (fun a ha => by cases ha), Dv.fresh_good n H2.out⟩, ((Below.refl _ _).alloc (Nat.le_refl _) _).alloc (by rw [nblk_alloc]; omega) _⟩
  · have hw : wl 0 (Dv.fresh n).cs = [] := wl_fresh n 0
    have hl : (Dv.fresh n).cs.length = n := by simp [Dv.fresh]
    rw [hw]
    unfold Blk dvCells
    rw [hl]
    have := blk_alloc_new (w.alloc (.cells Z 65)) (.cells #[.slice (some ⟨w.heap.size, 0, none⟩) n n, .slice none 0 0, .int .i64 0, .bool false, .int .i64 0, .int .i64 0, .int .i64 0, .int .i64 0, .int .i64 0] 54)
    rw [nblk_alloc] at this
    exact this
  · rw [List.append_nil]
    refine Blk.alloc ?_ _
    unfold Blk
    have e : (pgRow (Dv.fresh n).cs).toArray = Z := HZ.out
    rw [e]
    exact blk_alloc_new _ _
  · have hw : wl 0 (Dv.fresh n).cs = [] := wl_fresh n 0
    rw [hw]
    exact World.ownsRow_nil _ _ _ _

set_option maxHeartbeats 1000000 in
theorem clone40 (b n c : Nat) (news : List Value) (w : World) (hl : news.length = n * 2) (hn : n ≤ 4096) (hc : ∀ j u, news[j]? = some u → w.cell? ⟨b, j, none⟩ = some u) (h1 : ∀ u ∈ news, u.oneCell' = true) :
    Calls Try.prog 30 #[.slice (some ⟨b, 0, none⟩) n c] w fun e w' => ∃ v', e = .returned v' ∧ w'.ownsRow w.heap.size 65 2 v' n news ∧ v' ≠ .slice none 0 0 ∧ Below w.heap.size w w' := by
  obtain ⟨i0, hi0, hp0⟩ := Option.map_eq_some_iff.1 info71
  simp only [Prod.mk.injEq] at hp0
  obtain ⟨hz0, hz1, hz2⟩ := hp0
  have q61 : ∀ (w : World) (a : Option Addr) (n c n' c' : Nat), (binOp .eql 51 (.slice a n c) (.slice none n' c')).run Try.prog w = .ok (.bool a.isNone) w := fun w a n c n' c' => Lib.run_eql_slice_nil w _ _ a n c n' c' Try.underlying51
  have A := hide hc
  clear hc
  go_enter Try.func30, Try.ntmps30
  go_wp2_with (at_builtin; refine wpList_append_own _ rfl _ _ 51 rfl w.heap.size 65 i0 (.agg #[.int .u8 0, .string ⟨#[]⟩]) 2 24 Try.underlying51 hi0 hz0 hz1 hz2 rfl (by decide) _ _ _ rfl (World.ownsRow_made w #[] 0 (Nat.le_refl _) (Nat.zero_le _) (by simp)) ⟨b, 0, none⟩ n c news rfl ?qc1 ?qc2 ?qc3 ?qc4 ?qc5 ?qc6 ?_)
  case qc1 => exact hl
  case qc2 =>
    intro j u hj
    rw [Addr.add_lit, Nat.zero_add]
    exact Lib.cell?_alloc_some _ (A.out j u hj)
  case qc3 => exact h1
  case qc4 => unfold maxLen; omega
  case qc5 => omega
  case qc6 => simp
  intro v' w1 hown hgrow hnil
  go_wp2
  go_ret
  refine ⟨v', rfl, by simpa using hown, fun h => ?_, ?_⟩
  · exact hnil h
  · exact ((Below.refl _ w).alloc (Nat.le_refl _) _).grown hgrow (by simp) (by intro k hk; simp [Value.ownBlock] at hk; omega)

set_option maxHeartbeats 1000000 in
theorem clone41 (b n c : Nat) (news : List Value) (w : World) (hl : news.length = n * 3) (hn : n ≤ 4096) (hc : ∀ j u, news[j]? = some u → w.cell? ⟨b, j, none⟩ = some u) (h1 : ∀ u ∈ news, u.oneCell' = true) :
    Calls Try.prog 31 #[.slice (some ⟨b, 0, none⟩) n c] w fun e w' => ∃ v', e = .returned v' ∧ w'.ownsRow w.heap.size 68 3 v' n news ∧ v' ≠ .slice none 0 0 ∧ Below w.heap.size w w' := by
  obtain ⟨i0, hi0, hp0⟩ := Option.map_eq_some_iff.1 info73
  simp only [Prod.mk.injEq] at hp0
  obtain ⟨hz0, hz1, hz2⟩ := hp0
  have q62 : ∀ (w : World) (a : Option Addr) (n c n' c' : Nat), (binOp .eql 52 (.slice a n c) (.slice none n' c')).run Try.prog w = .ok (.bool a.isNone) w := fun w a n c n' c' => Lib.run_eql_slice_nil w _ _ a n c n' c' Try.underlying52
  have A := hide hc
  clear hc
  go_enter Try.func31, Try.ntmps31
  go_wp2_with (at_builtin; refine wpList_append_own _ rfl _ _ 52 rfl w.heap.size 68 i0 zero73 3 32 Try.underlying52 hi0 hz0 hz1 hz2 rfl (by decide) _ _ _ rfl (World.ownsRow_made w #[] 0 (Nat.le_refl _) (Nat.zero_le _) (by simp)) ⟨b, 0, none⟩ n c news rfl ?qc1 ?qc2 ?qc3 ?qc4 ?qc5 ?qc6 ?_)
  case qc1 => exact hl
  case qc2 =>
    intro j u hj
    rw [Addr.add_lit, Nat.zero_add]
    exact Lib.cell?_alloc_some _ (A.out j u hj)
  case qc3 => exact h1
  case qc4 => unfold maxLen; omega
  case qc5 => omega
  case qc6 => simp
  intro v' w1 hown hgrow hnil
  go_wp2
  go_ret
  refine ⟨v', rfl, by simpa using hown, fun h => ?_, ?_⟩
  · exact hnil h
  · exact ((Below.refl _ w).alloc (Nat.le_refl _) _).grown hgrow (by simp) (by intro k hk; simp [Value.ownBlock] at hk; omega)

set_option maxHeartbeats 400000 in
theorem clone41_nil (n c : Nat) (w : World) : Calls Try.prog 31 #[.slice none n c] w fun e w' => e = .returned (.slice none 0 0) ∧ w' = w := by
  have q62 : ∀ (w : World) (a : Option Addr) (n c n' c' : Nat), (binOp .eql 52 (.slice a n c) (.slice none n' c')).run Try.prog w = .ok (.bool a.isNone) w := fun w a n c n' c' => Lib.run_eql_slice_nil w _ _ a n c n' c' Try.underlying52
  go_enter Try.func31, Try.ntmps31
  go_wp2
  go_ret
  exact ⟨rfl, rfl⟩
end Go.Proofs.Ythnfdgjikbjgoab
