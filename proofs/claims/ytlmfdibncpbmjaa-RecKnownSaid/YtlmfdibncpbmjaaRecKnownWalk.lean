/-
  Proof of the law 'RecKnown'.
-/
import Derived.WalkKit
import Derived.Below
import Derived.Test.YtlmfdibncpbmjaaTakeE
import Derived.Test.YtlmfdibncpbmjaaAwake
namespace Go.Proofs.Ytlmfdibncpbmjaa.recKnown
open Go.RowKit Go.Deep
set_option linter.unusedVariables false
set_option linter.unusedSimpArgs false

theorem blk_new_at {w : World} {N : Nat} {L : List Value} {t : TypeId} (h : N = w.heap.size) : Blk (w.alloc (.cells L.toArray t)) N L t := h ▸ Blk.new w L t
theorem bs_nil (W : World) : BS W none 0 0 [] := ⟨rfl, Nat.le_refl _, Reads.nil _ _, fun i hi => absurd hi (by omega)⟩
theorem bs_one {W : World} {N : Nat} {c : UInt8} (h : Blk W N [.int .u8 (c.toNat : Int)] 5) : BS W (some ⟨N, 0, none⟩) 1 1 [c] :=
  buf_bs (l := [c]) (by unfold Buf; exact h) rfl (Nat.le_refl _)
theorem put_zero (W : World) : Calls Try.prog 10 #[.agg #[.string ⟨#[]⟩, .string ⟨#[]⟩, .int .u32 0, .int .i64 0, .int .u64 0]] W fun r w' => r = .returned (.tuple #[.slice none 0 0, .int .i64 1]) ∧ Below W.heap.size W w' :=
  put_bad ⟨#[]⟩ ⟨#[]⟩ 0 0 0 rfl W
theorem take_nil (ht : TakeIs) (W : World) : Calls Try.prog 11 #[.slice none 0 0] W fun r w' => r = .returned (.tuple #[.agg #[.string ⟨#[]⟩, .string ⟨#[]⟩, .int .u32 0, .int .i64 0, .int .u64 0], .int .i64 0, .int .i64 5]) ∧ Below W.heap.size W w' :=
  (ht none 0 0 [] (by omega) W (bs_nil W)).mono (fun e w' h => h)
theorem take_1 (ht : TakeIs) (W : World) (N : Nat) (h : Blk W N [.int .u8 1] 5) : Calls Try.prog 11 #[.slice (some ⟨N, 0, none⟩) 1 1] W fun r w' => r = .returned (.tuple #[.agg #[.string ⟨#[]⟩, .string ⟨#[]⟩, .int .u32 0, .int .i64 0, .int .u64 0], .int .i64 0, .int .i64 3]) ∧ Below W.heap.size W w' :=
  (ht (some ⟨N, 0, none⟩) 1 1 [1] (by omega) W (bs_one (c := 1) h)).mono (fun e w' h => ⟨h.1.trans (by rw [show take [1] = .bad by simp [take, ended, form1]]; rfl), h.2⟩)
theorem list_9 (ht : TakeIs) (W : World) (N : Nat) (h : Blk W N [.int .u8 9] 5) : Calls Try.prog 14 #[.slice (some ⟨N, 0, none⟩) 1 1] W fun r w' => r = .returned (.tuple #[.slice none 0 0, .int .i64 3]) ∧ Below W.heap.size W w' := by
  refine (list_any ht (some ⟨N, 0, none⟩) 1 1 [9] (by omega) W (bs_one (c := 9) h)).mono ?_
  rw [lst_bad (show take [9] = .bad by simp [take, ended, form1])]
  rintro e w' ⟨h1, h2⟩
  exact ⟨h2, h1⟩
theorem lay_33 (W : World) (N : Nat) (h : Blk W N (itsCells [oneIt]) 30) : Calls Try.prog 12 #[.slice (some ⟨N, 0, none⟩) 1 1, .int .i64 33] W fun e w' => e = .returned (.tuple #[.slice none 0 0, .int .i64 7]) ∧ Below W.heap.size W w' :=
  lay_full (some ⟨N, 0, none⟩) 1 1 [oneIt] 33 (by omega) (by omega) (by omega) W (its_of_row h (by rfl) rfl (fun x hx => two_fits x (by simp at hx ⊢; exact hx))) rfl (by show ¬ ((34 : Nat) : Int) ≤ 33; omega)
theorem lay_nil (W : World) : Calls Try.prog 12 #[.slice none 0 0, .int .i64 65537] W fun e w' => e = .returned (.tuple #[.slice none 0 0, .int .i64 1]) ∧ w' = W := lay_big none 0 0 65537 (by omega) W
theorem good_a (W : World) : Calls Try.prog 15 #[.agg #[.string ⟨#[97]⟩, .string ⟨#[]⟩, .int .u32 0, .int .i64 0, .int .u64 0]] W fun e w' => e = .returned (.bool false) ∧ Below W.heap.size W w' :=
  good_any ⟨#[97]⟩ ⟨#[]⟩ 0 0 0 W

set_option maxRecDepth 4000 in
set_option maxHeartbeats 4000000 in
theorem walk  (w : World)  :
    Calls Try.prog 3 #[] w fun e w' => e = .returned (.bool true) ∧ Below w.heap.size w w' := by
  have ca := hide (awake_any take_is)
  have c1 := hide one_any
  have cp := hide put_zero
  have ct := hide (take_nil take_is)
  have cu := hide (take_1 take_is)
  have cl := hide lay_33
  have cn := hide lay_nil
  have cs := hide (list_9 take_is)
  have cg := hide good_a
  go_enter Try.func3, Try.ntmps3
  go_wp2_with fail
  refine (ca.out _).mono ?_
  rintro r w1 ⟨rfl, h1⟩
  have B := hide h1
  clear h1
  go_wp2_with fail
  refine (cp.out _).mono ?_
  rintro r w2 ⟨rfl, h2⟩
  replace B := hide (B.out.trans (h2.mono B.out.size))
  clear h2
  go_wp2_with fail
  refine (ct.out _).mono ?_
  rintro r w3 ⟨rfl, h3⟩
  replace B := hide (B.out.trans (h3.mono B.out.size))
  clear h3
  go_wp2_with fail
  refine (cu.out _ _ (blk_new_at (by simp only [nblk_alloc]))).mono ?_
  rintro r w4 ⟨rfl, h4⟩
  replace B := hide (B.out.alloc B.out.size (.cells #[.string ⟨#[]⟩, .string ⟨#[]⟩, .int .u32 0, .int .i64 0, .int .u64 0] 30))
  replace B := hide (B.out.alloc B.out.size (.cells #[.int .u8 1] 5))
  replace B := hide (B.out.trans (h4.mono B.out.size))
  clear h4
  go_wp2_with fail
  refine (c1.out _).mono ?_
  rintro r w5 ⟨rfl, h5⟩
  replace B := hide (B.out.alloc B.out.size (.cells #[.string ⟨#[]⟩, .string ⟨#[]⟩, .int .u32 0, .int .i64 0, .int .u64 0] 30))
  replace B := hide (B.out.trans (h5.mono B.out.size))
  clear h5
  go_wp2_with fail
  refine (cl.out _ _ (Blk.new w5 _ 30)).mono ?_
  rintro r w6 ⟨rfl, h6⟩
  replace B := hide (B.out.alloc B.out.size (.cells (itsCells [oneIt]).toArray 30))
  replace B := hide (B.out.trans (h6.mono B.out.size))
  clear h6
  go_wp2_with fail
  refine (cn.out _).mono ?_
  rintro r w7 ⟨rfl, h7⟩
  obtain rfl : w6 = w7 := h7.symm
  clear h7
  go_wp2_with fail
  refine (cs.out _ _ (Blk.new w6 _ 5)).mono ?_
  rintro r w8 ⟨rfl, h8⟩
  replace B := hide (B.out.alloc B.out.size (.cells #[.int .u8 9] 5))
  replace B := hide (B.out.trans (h8.mono B.out.size))
  clear h8
  go_wp2_with fail
  refine (cg.out _).mono ?_
  rintro r w9 ⟨rfl, h9⟩
  replace B := hide (B.out.trans (h9.mono B.out.size))
  clear h9
  go_wp2_with fail
  go_ret
  exact ⟨rfl, B.out⟩
end Go.Proofs.Ytlmfdibncpbmjaa.recKnown
