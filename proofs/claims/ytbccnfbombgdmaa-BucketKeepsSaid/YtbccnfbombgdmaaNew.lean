/- New, Copy. -/
import Derived.Test.YtbccnfbombgdmaaRead
set_option linter.unusedVariables false
set_option linter.unusedSimpArgs false
set_option maxRecDepth 8000
namespace Go.Proofs.Ytbccnfbombgdmaa
open Go.RowKit Go.Deep

theorem made_two (a b : Value) : ∀ n : Nat, (madeCells #[a, b] (n * 2)).toList = (List.replicate n ()).flatMap (fun _ => [a, b])
  | 0 => by simp [madeCells]
  | n + 1 => by
    have ih := made_two a b n
    have h1 : madeCells #[a, b] ((n + 1) * 2) = ((madeCells #[a, b] (n * 2)).push a).push b := by
      unfold madeCells
      rw [show (n + 1) * 2 = n * 2 + 1 + 1 by omega, Array.range_succ, Array.range_succ]
      have e1 : (n * 2) % 2 = 0 := by omega
      have e2 : (n * 2 + 1) % 2 = 1 := by omega
      apply Array.ext'
      simp [e1, e2]
    rw [h1, List.replicate_succ', List.flatMap_append]
    simp [ih]

theorem pgRow_fresh : ∀ n : Nat, pgRow (List.replicate n (⟨.blank, none⟩ : Cl)) = (List.replicate n ()).flatMap (fun _ => [Value.int .u8 0, Value.string ⟨#[]⟩])
  | 0 => rfl
  | n + 1 => by
    rw [List.replicate_succ, pgRow_cons, pgRow_fresh n, List.replicate_succ]
    rfl

theorem makePages (n : Nat) (hn : n ≤ 4096) (W : World) : (Instr.makeSlice 57 (.int .i64 n) (.int .i64 n)).run Try.prog W = .ok (.slice (some ⟨W.heap.size, 0, none⟩) n n) (W.alloc (.cells (pgRow (List.replicate n (⟨.blank, none⟩ : Cl))).toArray 92)) := by
  obtain ⟨i0, hi0, hp0⟩ := Option.map_eq_some_iff.1 info71
  simp only [Prod.mk.injEq] at hp0
  obtain ⟨hz0, hz1, hz2⟩ := hp0
  have h := run_make (P := Try.prog) W 57 92 i0 _ Try.underlying57 hi0 hz0 .i64 .i64 (n : Int) (n : Int) (by omega) (by omega) (by rw [hz2]; omega) (by omega)
  rw [h]
  simp only [Int.toNat_natCast, hz1]
  congr 3
  apply Array.ext'
  rw [pgRow_fresh]
  exact made_two _ _ n

set_option maxHeartbeats 400000 in
theorem new_bad (n : Int) (hn : n < 1 ∨ 4096 < n) (w : World) : Calls Try.prog 9 #[.int .i64 n] w fun e w' => e = .returned (.tuple #[.pointer none, .int .i64 1]) ∧ w' = w := by
  by_cases h1 : n < 1
  · clear hn
    go_enter Try.func9, Try.ntmps9
    go_wp2
    go_ret2
    exact ⟨rfl, rfl⟩
  · have h2 : 4096 < n := by omega
    clear hn
    go_enter Try.func9, Try.ntmps9
    go_wp2
    go_ret2
    exact ⟨rfl, rfl⟩

set_option maxHeartbeats 400000 in
theorem new_any (n : Nat) (h1 : 1 ≤ n) (h2 : n ≤ 4096) (w : World) :
    Calls Try.prog 9 #[.int .i64 n] w fun e w' => e = .returned (.tuple #[.pointer (some ⟨w.heap.size + 1, 0, none⟩), .int .i64 0]) ∧ DvIn w' (w.heap.size + 1) w.heap.size [] none 0 (Dv.fresh n) ∧ Below w.heap.size w w' := by
  have hmk := makePages n h2
  have hz1 : ¬ (n : Int) < 1 := by omega
  have hz2 : ¬ (4096 : Int) < (n : Int) := by omega
  have H2 := hide h2
  clear h1 h2
  generalize hZ : (pgRow (List.replicate n (⟨.blank, none⟩ : Cl))).toArray = Z at hmk
  have HZ := hide hZ
  clear hZ
  go_enter Try.func9, Try.ntmps9
  go_wp2
  go_ret2
  refine ⟨rfl, ⟨?_, ?_, ?_, by omega, (fun a ha => by cases ha), Dv.fresh_good n H2.out⟩, ((Below.refl _ _).alloc (Nat.le_refl _) _).alloc (by rw [nblk_alloc]; omega) _⟩
  · have hw : wl 0 (Dv.fresh n).cs = [] := wl_fresh n 0
    have hl : (Dv.fresh n).cs.length = n := by simp [Dv.fresh]
    rw [hw]
    unfold Blk dvCells
    rw [hl]
    have := blk_alloc_new (w.alloc (.cells Z 92)) (.cells #[.slice (some ⟨w.heap.size, 0, none⟩) n n, .slice none 0 0, .int .i64 0, .bool false, .int .i64 0, .int .i64 0, .int .i64 0, .int .i64 0, .int .i64 0] 62)
    rw [nblk_alloc] at this
    exact this
  · rw [List.append_nil]
    refine Blk.alloc ?_ _
    unfold Blk
    have e : (pgRow (Dv.fresh n).cs).toArray = Z := HZ.out
    rw [e]
    exact blk_alloc_new _ _
  · have hw : wl 0 (Dv.fresh n).cs = [] := wl_fresh n 0
    rw [hw]
    exact World.ownsRow_nil _ _ _ _

end Go.Proofs.Ytbccnfbombgdmaa
