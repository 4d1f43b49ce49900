/-
  Proof of the law 'SuperKnown'.
-/
import Derived.WalkKit
import Derived.Below
import Derived.Test.YtcdefadeaiklbaaAwake
namespace Go.Proofs.Ytcdefadeaiklbaa.superKnown
open Go.RowKit Go.Deep
set_option linter.unusedVariables false
set_option linter.unusedSimpArgs false

theorem makeN (n : Nat) (hn : n ≤ 4096) (W : World) : (Instr.makeSlice 34 (.int .i64 n) (.int .i64 n)).run Try.prog W = .ok (.slice (some ⟨W.heap.size, 0, none⟩) n n) (W.alloc (.cells (List.replicate n (Value.int .u8 0)).toArray 5)) := by
  have h := run_make_row' (P := Try.prog) 34 5 (.int .u8 0) 1 Try.underlying34 info5 rfl .i64 .i64 n (by omega) (by omega) W
  have e : madeCells #[Value.int .u8 0] n = (List.replicate n (Value.int .u8 0)).toArray := by
    apply Array.ext'
    rw [toList_madeCells_one]
  rw [e] at h
  exact h
theorem dec_zeros (n : Nat) : dec (List.replicate n 0) = none := by
  unfold dec
  split
  · rfl
  · rename_i h1
    rw [List.length_replicate] at h1
    rw [if_neg]
    intro h2
    have h3 := congrArg List.head? h2
    obtain ⟨m, rfl⟩ : ∃ m, n = m + 1 := ⟨n - 1, by omega⟩
    rw [List.replicate_succ, List.take_succ_cons] at h3
    have h4 : ∀ b : Bk, b.enc.head? = some 83 := fun b => rfl
    rw [h4] at h3
    simp at h3
theorem made_bs (n : Nat) (W : World) : BS (W.alloc (.cells (List.replicate n (Value.int .u8 0)).toArray 5)) (some ⟨W.heap.size, 0, none⟩) n n (List.replicate n 0) := by
  refine buf_bs ?_ (by simp) (Nat.le_refl _)
  unfold Buf
  rw [show bCells (List.replicate n 0) ++ zc 0 = List.replicate n (Value.int .u8 0) by simp [bCells, zc]]
  exact Blk.new _ _ _
theorem dec_made (n : Nat) (hn : n ≤ 4096) (Z : Array Value) (hZ : (List.replicate n (Value.int .u8 0)).toArray = Z) (W : World) : Calls Try.prog 13 #[.slice (some ⟨W.heap.size, 0, none⟩) n n] (W.alloc (.cells Z 5)) fun e w' => e = .returned (.tuple #[.agg #[.int .u64 0, .int .u64 0, .int .u64 0, .int .u64 0, .int .u64 0, .bool false, .int .i64 0], .int .i64 3]) ∧ Below (W.alloc (.cells Z 5)).heap.size (W.alloc (.cells Z 5)) w' := by
  subst hZ
  have h := decode_any _ n n _ (by omega) _ (made_bs n W)
  rw [dec_zeros] at h
  exact h

set_option maxRecDepth 4000 in
set_option maxHeartbeats 4000000 in
theorem walk  (w : World)  :
    Calls Try.prog 3 #[] w fun e w' => e = .returned (.bool true) ∧ Below w.heap.size w w' := by
  have ca := hide (awake_any w)
  have cN : Hid (∀ W : World, Below w.heap.size w W → Calls Try.prog 10 #[.int .i64 1] W fun e W' => ∃ d F, e = .returned (.tuple #[.pointer (some ⟨d, 0, none⟩), .int .i64 0]) ∧ Law w d F (Dv.fresh 1) W') := fun W b => by
    refine (new_law b 1 (by omega) (by omega)).mono ?_
    rintro e W' ⟨d, F, rfl, h, _⟩
    exact ⟨d, F, rfl, h⟩
  have cL : Hid (∀ (W : World) (d : Nat) (F : List Nat), Law w d F (Dv.fresh 1) W → Calls Try.prog 11 #[.pointer (some ⟨d, 0, none⟩)] W fun e W' => e = .returned (.tuple #[.agg #[.int .u64 0, .int .u64 0, .int .u64 0, .int .u64 0, .int .u64 0, .bool false, .int .i64 0], .int .i64 1]) ∧ Law w d F (Dv.fresh 1) W') := fun W d F h => by
    refine (load_law h).mono ?_
    rintro e W' ⟨rfl, hl, _⟩
    exact ⟨rfl, hl⟩
  have cS : Hid (∀ (W : World) (d : Nat) (F : List Nat), Law w d F (Dv.fresh 1) W → Calls Try.prog 12 #[.pointer (some ⟨d, 0, none⟩), .agg #[.int .u64 0, .int .u64 0, .int .u64 0, .int .u64 0, .int .u64 0, .bool false, .int .i64 0]] W fun e W' => e = .returned (.tuple #[.agg #[.int .u64 0, .int .u64 0, .int .u64 0, .int .u64 0, .int .u64 0, .bool false, .int .i64 0], .int .i64 1]) ∧ Below w.heap.size w W') := fun W d F h => by
    refine (store_law h Bk.zero (by constructor <;> simp [Bk.zero])).mono ?_
    rintro e W' ⟨rfl, F', hl, _⟩
    exact ⟨rfl, hl.bel⟩
  have m63 := makeN 63 (by omega)
  have m64 := makeN 64 (by omega)
  generalize h63 : (List.replicate 63 (Value.int .u8 0)).toArray = Z63 at m63
  generalize h64 : (List.replicate 64 (Value.int .u8 0)).toArray = Z64 at m64
  have c63 := hide (dec_made 63 (by omega) Z63 h63)
  have c64 := hide (dec_made 64 (by omega) Z64 h64)
  clear h63 h64
  have m63' : ∀ W : World, (Instr.makeSlice 34 (.int .i64 63) (.int .i64 63)).run Try.prog W = .ok (.slice (some ⟨W.heap.size, 0, none⟩) 63 63) (W.alloc (.cells Z63 5)) := m63
  have m64' : ∀ W : World, (Instr.makeSlice 34 (.int .i64 64) (.int .i64 64)).run Try.prog W = .ok (.slice (some ⟨W.heap.size, 0, none⟩) 64 64) (W.alloc (.cells Z64 5)) := m64
  clear m63 m64
  go_enter Try.func3, Try.ntmps3
  go_wp2_with fail
  refine ca.out.mono ?_
  rintro r w1 ⟨rfl, h1⟩
  have B1 := hide h1
  clear h1 ca
  go_wp2_with fail
  refine (cN.out _ B1.out).mono ?_
  rintro r w2 ⟨d, F, rfl, hl⟩
  have L2 := hide hl
  clear hl B1 cN
  go_wp2_with fail
  refine (cL.out _ _ _ L2.out).mono ?_
  rintro r w3 ⟨rfl, hl⟩
  have L3 := hide hl
  clear hl L2 cL
  go_wp2_with fail
  refine (cS.out _ _ _ (L3.out.alloc _)).mono ?_
  rintro r w4 ⟨rfl, hb⟩
  have B4 := hide hb
  clear hb L3 cS
  go_wp2_with fail
  have e5 : w4.heap.size + 1 = (w4.alloc (.cells #[.int .u64 0, .int .u64 0, .int .u64 0, .int .u64 0, .int .u64 0, .bool false, .int .i64 0] 29)).heap.size := (nblk_alloc _ _).symm
  rw [e5]
  refine (c63.out _).mono ?_
  rintro r w5 ⟨rfl, hb⟩
  have B5 := hide ((((B4.out.alloc B4.out.size (.cells #[.int .u64 0, .int .u64 0, .int .u64 0, .int .u64 0, .int .u64 0, .bool false, .int .i64 0] 29))).alloc (Nat.le_trans B4.out.size (by rw [nblk_alloc]; omega)) (.cells Z63 5)).trans (hb.mono (by rw [nblk_alloc, nblk_alloc]; have := B4.out.size; omega)))
  clear hb B4 c63 e5
  go_wp2_with fail
  have e6 : w5.heap.size + 1 = (w5.alloc (.cells #[.int .u64 0, .int .u64 0, .int .u64 0, .int .u64 0, .int .u64 0, .bool false, .int .i64 0] 29)).heap.size := (nblk_alloc _ _).symm
  rw [e6]
  refine (c64.out _).mono ?_
  rintro r w6 ⟨rfl, hb⟩
  have B6 := hide ((((B5.out.alloc B5.out.size (.cells #[.int .u64 0, .int .u64 0, .int .u64 0, .int .u64 0, .int .u64 0, .bool false, .int .i64 0] 29))).alloc (Nat.le_trans B5.out.size (by rw [nblk_alloc]; omega)) (.cells Z64 5)).trans (hb.mono (by rw [nblk_alloc, nblk_alloc]; have := B5.out.size; omega)))
  clear hb B5 c64 e6
  go_wp2
  go_ret
  exact ⟨rfl, B6.out.alloc B6.out.size _⟩
end Go.Proofs.Ytcdefadeaiklbaa.superKnown
