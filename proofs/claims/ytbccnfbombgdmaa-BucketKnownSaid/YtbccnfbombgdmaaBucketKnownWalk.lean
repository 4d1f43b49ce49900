/-
  What chapter 8 says of a few calls: proof of the law 'BucketKnown'. No conditions.
-/
import Derived.WalkKit
import Derived.Below
import Derived.Test.YtbccnfbombgdmaaAwake
namespace Go.Proofs.Ytbccnfbombgdmaa.bucketKnown
open Go.RowKit Go.Deep Math
set_option linter.unusedVariables false
set_option linter.unusedSimpArgs false

theorem make88 (W : World) : (Instr.makeSlice 37 (.int .i64 88) (.int .i64 88)).run Try.prog W = .ok (.slice (some ⟨W.heap.size, 0, none⟩) 88 88) (W.alloc (.cells (zc 88).toArray 5)) := by
  obtain ⟨i0, hi0, hp0⟩ := Option.map_eq_some_iff.1 info5
  simp only [Prod.mk.injEq] at hp0
  obtain ⟨hz0, hz1, hz2⟩ := hp0
  have h := run_make (P := Try.prog) W 37 5 i0 _ Try.underlying37 hi0 hz0 .i64 .i64 (88 : Int) (88 : Int) (by omega) (by omega) (by rw [hz2]; omega) (by omega)
  rw [h]
  refine congrArg (fun Z => Result.ok (Value.slice (some ⟨W.heap.size, 0, none⟩) 88 88) (W.alloc (Obj.cells Z 5))) ?_
  apply Array.ext'
  rw [hz1, Nat.mul_one, show (Value.int IntKind.u8 0).cells = #[Value.int IntKind.u8 0] from rfl, toList_madeCells_one]
  rfl
theorem conv88 (W : World) : (convert 37 9 (.slice (some ⟨W.heap.size, 0, none⟩) 88 88)).run Try.prog (W.alloc (.cells (zc 88).toArray 5)) = .ok (.string (txt (List.replicate 88 0))) (W.alloc (.cells (zc 88).toArray 5)) := by
  have hb : Buf (W.alloc (.cells (zc 88).toArray 5)) W.heap.size [] 88 := by unfold Buf; rw [show bCells [] ++ zc 88 = zc 88 from rfl]; exact Blk.new W _ 5
  have := buf_full hb
  rw [List.nil_append] at this
  exact str_bs (buf_bs this (by simp) (Nat.le_refl _)) (fun h => by cases h)
set_option maxRecDepth 8000 in
set_option maxHeartbeats 4000000 in
theorem walk  (w : World)  :
    Calls Try.prog 3 #[] w fun e w' => e = .returned (.bool true) ∧ Below w.heap.size w w' := by
  have ca := hide (awake_any w)
  go_enter Try.func3, Try.ntmps3
  go_wp2_with fail
  refine ca.out.mono ?_
  rintro r w1 ⟨rfl, h1⟩
  have B1 := hide h1
  clear h1 ca
  have cN := hide (new_law B1.out 2 (by omega) (by omega))
  go_wp2_with fail
  refine cN.out.mono ?_
  rintro e w2 ⟨d, F2, rfl, hl2, _⟩
  have L2 := hide hl2
  clear hl2 cN
  have c1 := hide (open_bad L2.out 1 2 (by omega) (by omega) (.inr (.inr (.inr (by show ((2 : Nat) : Int) - 2 < 1; omega)))))
  have c2 := hide (open_bad L2.out 0 0 (by omega) (by omega) (.inr (.inl (by omega))))
  go_wp2_with fail
  refine c1.out.mono ?_
  rintro e w3 ⟨rfl, h3⟩
  obtain rfl : w2 = w3 := h3.symm
  clear h3 c1
  go_wp2_with fail
  refine c2.out.mono ?_
  rintro e w3 ⟨rfl, h3⟩
  obtain rfl : w2 = w3 := h3.symm
  clear h3 c2
  have cO := hide (bu_open L2.out (Sure.fresh 2) 0 2 (by omega) (by omega) (by decide))
  go_wp2_with fail
  refine cO.out.mono ?_
  rintro e w4 ⟨s, S4, G4, rfl, hb4, _, _⟩
  obtain ⟨f0, hf⟩ : ∃ f0, f0 = (fun k => (Dv.fresh 2).its (0 + k)) := ⟨_, rfl⟩
  rw [← hf] at hb4
  have HF0 : Hid (∀ k, k < 2 → f0 k = []) := fun k hk => by
    rw [hf]
    match k, hk with
    | 0, _ => rfl
    | 1, _ => rfl
  have U4 := hide hb4
  clear hb4 cO hf L2
  have cB := hide (put_bad s It.zero (.inl rfl))
  go_wp2_with fail
  refine (cB.out _).mono ?_
  rintro e w5 ⟨rfl, b5⟩
  have U5 := hide (U4.out.below b5)
  clear b5 cB U4
  have hmk := make88
  have hcv := conv88
  have cB := hide (put_bad s ⟨[97], List.replicate 88 0, 0, 0, 1⟩ (.inr (by simp [It.size])))
  obtain ⟨vb, hvb⟩ : ∃ vb, vb = txt (List.replicate 88 0) := ⟨_, rfl⟩
  simp only [← hvb] at hcv cB
  have cB2 : Hid (∀ V, Calls Try.prog 11 #[.pointer (some ⟨s, 0, none⟩), .agg #[.string ⟨#[97]⟩, .string vb, .int .u32 0, .int .i64 0, .int .u64 1]] V fun e W' => e = .returned (.tuple #[.slice none 0 0, .int .i64 1]) ∧ Below V.heap.size V W') := fun V => cB.out V
  generalize hZ : (zc 88).toArray = Z at hmk hcv
  clear cB hvb hZ
  go_wp2_with fail
  refine (cB2.out _).mono ?_
  rintro e w6 ⟨rfl, b6⟩
  have U6 := hide ((U5.out.below ((Below.refl _ _).alloc (Nat.le_refl _) (.cells Z 5))).below b6)
  clear b6 cB2 hmk hcv U5
  have cD := hide (bu_drop U6.out [97] (by decide))
  rw [HF0.out _ (bkt_lt _ _ (by omega)), List.filter_nil, if_pos rfl] at cD
  go_wp2_with fail
  refine cD.out.mono ?_
  rintro e w7 ⟨rfl, S7, G7, hb7, _, _, _⟩
  have B7 := hide hb7.bel
  clear hb7 cD
  go_wp2
  go_ret
  exact ⟨rfl, B7.out⟩
end Go.Proofs.Ytbccnfbombgdmaa.bucketKnown
