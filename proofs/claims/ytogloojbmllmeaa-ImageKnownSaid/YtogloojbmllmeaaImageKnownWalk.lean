/-
  ImageKnown holds for every input.
-/
import Derived.WalkKit
import Derived.Below
import Derived.Test.YtogloojbmllmeaaAw
namespace Go.Proofs.Ytogloojbmllmeaa.imageKnown
open Go.RowKit Go.Deep Math
set_option linter.unusedVariables false
set_option linter.unusedSimpArgs false

theorem dump_no {S : Dv} {first pages : Int} {xs : List It} (h : S.dumpOk first pages xs = false) : S.dumpErr first pages xs = 1 ∧ S.dumpP first pages xs = 0 ∧ S.dumpN first pages xs = 0 ∧ S.dumpDo first pages xs = S := by
  have her : S.dumpErr first pages xs = 1 := by unfold Dv.dumpErr; rw [if_pos h]
  exact ⟨her, by unfold Dv.dumpP; rw [her]; rfl, by unfold Dv.dumpN; rw [her]; rfl, by unfold Dv.dumpDo; rw [if_pos h]⟩
theorem raw_nil (w : World) : RawAt w none 0 [] := ⟨rfl, fun x hx => by simp at hx, fun i x hx => by simp at hx⟩
theorem raw_zero (w : World) : RawAt (w.alloc (.cells #[.string ⟨#[]⟩, .string ⟨#[]⟩, .int .u32 0, .int .i64 0, .int .u64 0] 32)) (some ⟨w.heap.size, 0, none⟩) 1 [It.zero] := by
  have hb := Blk.new w (itCells It.zero) 32
  refine ⟨rfl, fun x hx => ?_, fun i x hx => ?_⟩
  · simp only [List.mem_cons, List.not_mem_nil, or_false] at hx
    subst hx
    exact ⟨by decide, by decide, by decide, by decide⟩
  · match i, hx with
    | 0, hx =>
      simp only [List.getElem?_cons_zero, Option.some.injEq] at hx
      subst hx
      exact ⟨w.heap.size, 0, rfl, hb.lt, hb.cell rfl, hb.cell rfl, hb.cell rfl, hb.cell rfl, hb.cell rfl⟩
    | i + 1, hx => simp at hx
theorem fresh_load : (Dv.fresh 2).loadErr ((0 : Nat) : Int) ((1 : Nat) : Int) = 3 ∧ (Dv.fresh 2).loadIts ((0 : Nat) : Int) ((1 : Nat) : Int) = [] :=
  load_bad (first := 0) (n := 1) (j := 0) (by decide) rfl (by decide) (part_bare (p := .blank) rfl rfl (by decide))
theorem like_load {S : Dv} (h : Like (Dv.fresh 2) S) : S.loadErr ((2 : Nat) : Int) ((0 : Nat) : Int) = 0 ∧ S.loadIts ((2 : Nat) : Int) ((0 : Nat) : Int) = [] := by
  have hl : S.cs.length = 2 := by rw [h.cs]; rfl
  have ho : S.off = false := by rw [h.off]; rfl
  have hw : withinB S.cs.length ((2 : Nat) : Int) ((0 : Nat) : Int) = true := by rw [hl]; decide
  refine ⟨?_, ?_⟩
  · unfold Dv.loadErr; rw [if_neg (by rw [hw]; simp), if_neg (by rw [ho]; simp)]; rfl
  · unfold Dv.loadIts; rw [if_neg (by rw [hw]; simp), if_neg (by rw [ho]; simp)]; rfl
set_option maxRecDepth 8000 in
set_option maxHeartbeats 40000000 in
theorem walk  (w : World)  :
    Calls Try.prog 3 #[] w fun e w' => e = .returned (.bool true) ∧ Below w.heap.size w w' := by
  have ca := hide (awake_any w)
  go_enter Try.func3, Try.ntmps3
  go_wp2_with fail
  refine ca.out.mono ?_
  rintro e w1 ⟨rfl, b1⟩
  have cN := hide (new_lw b1 2 (by omega) (by omega))
  clear b1 ca
  go_wp2_with fail
  refine cN.out.mono ?_
  rintro e w2 ⟨d, F2, rfl, L2⟩
  have cD := dump_lw L2 ((1 : Nat) : Int) ((2 : Nat) : Int) (by omega) none 0 0 [] (by omega) (by omega) (raw_nil w2)
  obtain ⟨q1, q2, q3, q4⟩ := dump_no (S := Dv.fresh 2) (first := ((1 : Nat) : Int)) (pages := ((2 : Nat) : Int)) (xs := []) (by decide)
  rw [q1, q2, q3, q4] at cD
  have CD := hide cD
  clear cD L2 cN q1 q2 q3 q4
  go_wp2_with fail
  refine CD.out.mono ?_
  rintro e w3 ⟨rfl, F3, L3⟩
  have L3a := L3.below ((Below.refl _ _).alloc (Nat.le_refl _) (.cells #[.string ⟨#[]⟩, .string ⟨#[]⟩, .int .u32 0, .int .i64 0, .int .u64 0] 32))
  have cD := dump_lw L3a ((0 : Nat) : Int) ((1 : Nat) : Int) (by omega) (some ⟨w3.heap.size, 0, none⟩) 1 1 [It.zero] (by omega) (by omega) (raw_zero w3)
  obtain ⟨q1, q2, q3, q4⟩ := dump_no (S := Dv.fresh 2) (first := ((0 : Nat) : Int)) (pages := ((1 : Nat) : Int)) (xs := [It.zero]) (by decide)
  rw [q1, q2, q3, q4] at cD
  have CD2 := hide cD
  clear cD L3 L3a CD q1 q2 q3 q4
  go_wp2_with fail
  refine CD2.out.mono ?_
  rintro e w4 ⟨rfl, F4, L4⟩
  have cL := load_lw L4 ((0 : Nat) : Int) ((1 : Nat) : Int) (by omega) (by rw [fresh_load.2]; simp)
  rw [fresh_load.1, fresh_load.2] at cL
  have CL := hide cL
  clear cL CD2 L4
  go_wp2_with fail
  refine CL.out.mono ?_
  rintro e w5 ⟨a5, c5, rfl, hr5, hc5, S5, hl5, L5⟩
  have hq := like_load hl5
  have cL := load_lw L5 ((2 : Nat) : Int) ((0 : Nat) : Int) (by omega) (by rw [hq.2]; simp)
  rw [hq.1, hq.2] at cL
  have CL2 := hide cL
  clear cL CL L5 hl5 hr5 hc5 hq
  go_wp2_with fail
  refine CL2.out.mono ?_
  rintro e w6 ⟨a6, c6, rfl, hr6, hc6, S6, hl6, L6⟩
  have HL6 := hide L6
  clear CL2 hl6 hr6 hc6 L6
  go_wp2
  go_ret
  exact ⟨rfl, HL6.out.bel⟩
end Go.Proofs.Ytogloojbmllmeaa.imageKnown
