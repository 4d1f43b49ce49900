/-
  ParseKnown holds for every input.
-/
import Derived.WalkKit
import Derived.Below
import Derived.Test.YtmfjaehajdephaaJM
namespace Go.Proofs.Ytmfjaehajdephaa.parseKnown
open Go.RowKit Go.Deep Go.Shelf
set_option linter.unusedVariables false
set_option linter.unusedSimpArgs false

def knD : Cm := ⟨⟨#[100, 101, 108, 101, 116, 101]⟩, ⟨#[]⟩, [⟨#[97]⟩], ⟨#[]⟩, 0, 0, 0, 0, false, false, false, false⟩
def knE1 : Cm := badV ⟨#[69, 82, 82, 79, 82]⟩
theorem kn_o1 : oneB ⟨#[]⟩ = (knE1, none) := by kernel_rfl
def knE2 : Cm := badV ⟨#[67, 76, 73, 69, 78, 84, 95, 69, 82, 82, 79, 82, 32, 105, 110, 118, 97, 108, 105, 100, 32, 110, 117, 109, 101, 114, 105, 99, 32, 100, 101, 108, 116, 97, 32, 97, 114, 103, 117, 109, 101, 110, 116]⟩
theorem kn_o2 : oneB ⟨#[105, 110, 99, 114, 32, 97, 32, 120]⟩ = (knE2, none) := by kernel_rfl
def knE3 : Cm := badV ⟨#[83, 69, 82, 86, 69, 82, 95, 69, 82, 82, 79, 82, 32, 111, 98, 106, 101, 99, 116, 32, 116, 111, 111, 32, 108, 97, 114, 103, 101, 32, 102, 111, 114, 32, 99, 97, 99, 104, 101]⟩
theorem kn_o3 : oneB ⟨#[115, 101, 116, 32, 97, 32, 48, 32, 48, 32, 49, 48, 50, 53]⟩ = (knE3, some 1025) := by kernel_rfl
def knE4 : Cm := badV ⟨#[67, 76, 73, 69, 78, 84, 95, 69, 82, 82, 79, 82, 32, 105, 110, 118, 97, 108, 105, 100, 32, 101, 120, 112, 116, 105, 109, 101, 32, 97, 114, 103, 117, 109, 101, 110, 116]⟩
theorem kn_o4 : oneB ⟨#[116, 111, 117, 99, 104, 32, 97, 32, 120]⟩ = (knE4, none) := by kernel_rfl
def knE5 : Cm := badV ⟨#[67, 76, 73, 69, 78, 84, 95, 69, 82, 82, 79, 82, 32, 98, 97, 100, 32, 99, 111, 109, 109, 97, 110, 100, 32, 108, 105, 110, 101, 32, 102, 111, 114, 109, 97, 116]⟩
theorem kn_o5 : oneB ⟨#[115, 101, 116, 32, 1, 32, 48, 32, 48, 32, 49]⟩ = (knE5, none) := by kernel_rfl
theorem kn_o6 : oneB ⟨#[100, 101, 108, 101, 116, 101, 32, 97, 32, 48]⟩ = (knD, none) := by kernel_rfl
set_option maxRecDepth 8000 in
set_option maxHeartbeats 40000000 in
theorem walk  (w : World)  :
    Calls Try.prog 3 #[] w fun e w' => e = .returned (.bool true) ∧ Below w.heap.size w w' := by
  have B := Below.refl w.heap.size w
  go_enter Try.func3, Try.ntmps3
  go_wp2_with fail
  refine (awake_any w).mono ?_
  rintro e Y0 ⟨rfl, BX⟩
  replace B := B.trans (BX.mono B.size)
  clear BX
  go_wp2_with fail
  have Q : Calls Try.prog 10 #[.string ⟨#[]⟩] Y0 (OneR Y0 knE1 (-1)) := by
    have Q := one_any ⟨#[]⟩ Y0 (by decide)
    rw [kn_o1] at Q
    exact Q
  refine Q.mono ?_
  clear Q
  rintro e W1 ⟨a1, n1, q1, rfl, R1, BX⟩
  replace B := B.trans (BX.mono B.size)
  clear BX
  obtain rfl : n1 = 0 := R1.at_.len
  simp only []
  iterate 13 go_step
  refine box_step knE1 a1 0 q1 rfl _ _ rfl rfl rfl ?_
  intro Y1 X1 BX
  replace R1 := R1.later BX
  replace B := B.trans (BX.mono B.size)
  clear BX
  go_wp2_with fail
  have Q : Calls Try.prog 10 #[.string ⟨#[105, 110, 99, 114, 32, 97, 32, 120]⟩] Y1 (OneR Y1 knE2 (-1)) := by
    have Q := one_any ⟨#[105, 110, 99, 114, 32, 97, 32, 120]⟩ Y1 (by decide)
    rw [kn_o2] at Q
    exact Q
  refine Q.mono ?_
  clear Q
  rintro e W2 ⟨a2, n2, q2, rfl, R2, BX⟩
  replace X1 := (BX.block _ (lt_of_at _ ⟨_, X1⟩)).trans X1
  replace R1 := R1.later BX
  replace B := B.trans (BX.mono B.size)
  clear BX
  obtain rfl : n2 = 0 := R2.at_.len
  simp only []
  iterate 13 go_step
  refine box_step knE2 a2 0 q2 rfl _ _ rfl rfl rfl ?_
  intro Y2 X2 BX
  replace X1 := (BX.block _ (lt_of_at _ ⟨_, X1⟩)).trans X1
  replace R1 := R1.later BX
  replace R2 := R2.later BX
  replace B := B.trans (BX.mono B.size)
  clear BX
  go_wp2_with fail
  have Q : Calls Try.prog 10 #[.string ⟨#[115, 101, 116, 32, 97, 32, 48, 32, 48, 32, 49, 48, 50, 53]⟩] Y2 (OneR Y2 knE3 (1025)) := by
    have Q := one_any ⟨#[115, 101, 116, 32, 97, 32, 48, 32, 48, 32, 49, 48, 50, 53]⟩ Y2 (by decide)
    rw [kn_o3] at Q
    exact Q
  refine Q.mono ?_
  clear Q
  rintro e W3 ⟨a3, n3, q3, rfl, R3, BX⟩
  replace X1 := (BX.block _ (lt_of_at _ ⟨_, X1⟩)).trans X1
  replace R1 := R1.later BX
  replace X2 := (BX.block _ (lt_of_at _ ⟨_, X2⟩)).trans X2
  replace R2 := R2.later BX
  replace B := B.trans (BX.mono B.size)
  clear BX
  obtain rfl : n3 = 0 := R3.at_.len
  simp only []
  iterate 13 go_step
  refine box_step knE3 a3 0 q3 rfl _ _ rfl rfl rfl ?_
  intro Y3 X3 BX
  replace X1 := (BX.block _ (lt_of_at _ ⟨_, X1⟩)).trans X1
  replace R1 := R1.later BX
  replace X2 := (BX.block _ (lt_of_at _ ⟨_, X2⟩)).trans X2
  replace R2 := R2.later BX
  replace R3 := R3.later BX
  replace B := B.trans (BX.mono B.size)
  clear BX
  go_wp2_with fail
  have Q : Calls Try.prog 10 #[.string ⟨#[116, 111, 117, 99, 104, 32, 97, 32, 120]⟩] Y3 (OneR Y3 knE4 (-1)) := by
    have Q := one_any ⟨#[116, 111, 117, 99, 104, 32, 97, 32, 120]⟩ Y3 (by decide)
    rw [kn_o4] at Q
    exact Q
  refine Q.mono ?_
  clear Q
  rintro e W4 ⟨a4, n4, q4, rfl, R4, BX⟩
  replace X1 := (BX.block _ (lt_of_at _ ⟨_, X1⟩)).trans X1
  replace R1 := R1.later BX
  replace X2 := (BX.block _ (lt_of_at _ ⟨_, X2⟩)).trans X2
  replace R2 := R2.later BX
  replace X3 := (BX.block _ (lt_of_at _ ⟨_, X3⟩)).trans X3
  replace R3 := R3.later BX
  replace B := B.trans (BX.mono B.size)
  clear BX
  obtain rfl : n4 = 0 := R4.at_.len
  simp only []
  iterate 13 go_step
  refine box_step knE4 a4 0 q4 rfl _ _ rfl rfl rfl ?_
  intro Y4 X4 BX
  replace X1 := (BX.block _ (lt_of_at _ ⟨_, X1⟩)).trans X1
  replace R1 := R1.later BX
  replace X2 := (BX.block _ (lt_of_at _ ⟨_, X2⟩)).trans X2
  replace R2 := R2.later BX
  replace X3 := (BX.block _ (lt_of_at _ ⟨_, X3⟩)).trans X3
  replace R3 := R3.later BX
  replace R4 := R4.later BX
  replace B := B.trans (BX.mono B.size)
  clear BX
  go_wp2_with fail
  have Q : Calls Try.prog 10 #[.string ⟨#[115, 101, 116, 32, 1, 32, 48, 32, 48, 32, 49]⟩] Y4 (OneR Y4 knE5 (-1)) := by
    have Q := one_any ⟨#[115, 101, 116, 32, 1, 32, 48, 32, 48, 32, 49]⟩ Y4 (by decide)
    rw [kn_o5] at Q
    exact Q
  refine Q.mono ?_
  clear Q
  rintro e W5 ⟨a5, n5, q5, rfl, R5, BX⟩
  replace X1 := (BX.block _ (lt_of_at _ ⟨_, X1⟩)).trans X1
  replace R1 := R1.later BX
  replace X2 := (BX.block _ (lt_of_at _ ⟨_, X2⟩)).trans X2
  replace R2 := R2.later BX
  replace X3 := (BX.block _ (lt_of_at _ ⟨_, X3⟩)).trans X3
  replace R3 := R3.later BX
  replace X4 := (BX.block _ (lt_of_at _ ⟨_, X4⟩)).trans X4
  replace R4 := R4.later BX
  replace B := B.trans (BX.mono B.size)
  clear BX
  obtain rfl : n5 = 0 := R5.at_.len
  simp only []
  iterate 13 go_step
  refine box_step knE5 a5 0 q5 rfl _ _ rfl rfl rfl ?_
  intro Y5 X5 BX
  replace X1 := (BX.block _ (lt_of_at _ ⟨_, X1⟩)).trans X1
  replace R1 := R1.later BX
  replace X2 := (BX.block _ (lt_of_at _ ⟨_, X2⟩)).trans X2
  replace R2 := R2.later BX
  replace X3 := (BX.block _ (lt_of_at _ ⟨_, X3⟩)).trans X3
  replace R3 := R3.later BX
  replace X4 := (BX.block _ (lt_of_at _ ⟨_, X4⟩)).trans X4
  replace R4 := R4.later BX
  replace R5 := R5.later BX
  replace B := B.trans (BX.mono B.size)
  clear BX
  go_wp2_with fail
  have Q : Calls Try.prog 10 #[.string ⟨#[100, 101, 108, 101, 116, 101, 32, 97, 32, 48]⟩] Y5 (OneR Y5 knD (-1)) := by
    have Q := one_any ⟨#[100, 101, 108, 101, 116, 101, 32, 97, 32, 48]⟩ Y5 (by decide)
    rw [kn_o6] at Q
    exact Q
  refine Q.mono ?_
  clear Q
  rintro e W6 ⟨a6, n6, q6, rfl, R6, BX⟩
  replace X1 := (BX.block _ (lt_of_at _ ⟨_, X1⟩)).trans X1
  replace R1 := R1.later BX
  replace X2 := (BX.block _ (lt_of_at _ ⟨_, X2⟩)).trans X2
  replace R2 := R2.later BX
  replace X3 := (BX.block _ (lt_of_at _ ⟨_, X3⟩)).trans X3
  replace R3 := R3.later BX
  replace X4 := (BX.block _ (lt_of_at _ ⟨_, X4⟩)).trans X4
  replace R4 := R4.later BX
  replace X5 := (BX.block _ (lt_of_at _ ⟨_, X5⟩)).trans X5
  replace R5 := R5.later BX
  replace B := B.trans (BX.mono B.size)
  clear BX
  obtain rfl : n6 = 1 := R6.at_.len
  simp only []
  iterate 13 go_step
  refine box_step knD a6 1 q6 rfl _ _ rfl rfl rfl ?_
  intro Y6 X6 BX
  replace X1 := (BX.block _ (lt_of_at _ ⟨_, X1⟩)).trans X1
  replace R1 := R1.later BX
  replace X2 := (BX.block _ (lt_of_at _ ⟨_, X2⟩)).trans X2
  replace R2 := R2.later BX
  replace X3 := (BX.block _ (lt_of_at _ ⟨_, X3⟩)).trans X3
  replace R3 := R3.later BX
  replace X4 := (BX.block _ (lt_of_at _ ⟨_, X4⟩)).trans X4
  replace R4 := R4.later BX
  replace X5 := (BX.block _ (lt_of_at _ ⟨_, X5⟩)).trans X5
  replace R5 := R5.later BX
  replace R6 := R6.later BX
  replace B := B.trans (BX.mono B.size)
  clear BX
  obtain ⟨g0, g1, g2, g3, g4, g5, g6, g7, g8, g9, g10, g11⟩ := CmAt.of X1
  go_wp2_with fail
  refine (is_any Y6 ⟨#[69, 82, 82, 79, 82]⟩ a1 q1).mono ?_
  rintro e Z1 ⟨rfl, BX⟩
  clear g0 g1 g2 g3 g4 g5 g6 g7 g8 g9 g10 g11 X1 R1
  replace X2 := (BX.block _ (lt_of_at _ ⟨_, X2⟩)).trans X2
  replace R2 := R2.later BX
  replace X3 := (BX.block _ (lt_of_at _ ⟨_, X3⟩)).trans X3
  replace R3 := R3.later BX
  replace X4 := (BX.block _ (lt_of_at _ ⟨_, X4⟩)).trans X4
  replace R4 := R4.later BX
  replace X5 := (BX.block _ (lt_of_at _ ⟨_, X5⟩)).trans X5
  replace R5 := R5.later BX
  replace X6 := (BX.block _ (lt_of_at _ ⟨_, X6⟩)).trans X6
  replace R6 := R6.later BX
  replace B := B.trans (BX.mono B.size)
  clear BX
  obtain ⟨g0, g1, g2, g3, g4, g5, g6, g7, g8, g9, g10, g11⟩ := CmAt.of X2
  go_wp2_with fail
  refine (is_any Z1 ⟨#[67, 76, 73, 69, 78, 84, 95, 69, 82, 82, 79, 82, 32, 105, 110, 118, 97, 108, 105, 100, 32, 110, 117, 109, 101, 114, 105, 99, 32, 100, 101, 108, 116, 97, 32, 97, 114, 103, 117, 109, 101, 110, 116]⟩ a2 q2).mono ?_
  rintro e Z2 ⟨rfl, BX⟩
  clear g0 g1 g2 g3 g4 g5 g6 g7 g8 g9 g10 g11 X2 R2
  replace X3 := (BX.block _ (lt_of_at _ ⟨_, X3⟩)).trans X3
  replace R3 := R3.later BX
  replace X4 := (BX.block _ (lt_of_at _ ⟨_, X4⟩)).trans X4
  replace R4 := R4.later BX
  replace X5 := (BX.block _ (lt_of_at _ ⟨_, X5⟩)).trans X5
  replace R5 := R5.later BX
  replace X6 := (BX.block _ (lt_of_at _ ⟨_, X6⟩)).trans X6
  replace R6 := R6.later BX
  replace B := B.trans (BX.mono B.size)
  clear BX
  obtain ⟨g0, g1, g2, g3, g4, g5, g6, g7, g8, g9, g10, g11⟩ := CmAt.of X3
  go_wp2_with fail
  refine (is_any Z2 ⟨#[83, 69, 82, 86, 69, 82, 95, 69, 82, 82, 79, 82, 32, 111, 98, 106, 101, 99, 116, 32, 116, 111, 111, 32, 108, 97, 114, 103, 101, 32, 102, 111, 114, 32, 99, 97, 99, 104, 101]⟩ a3 q3).mono ?_
  rintro e Z3 ⟨rfl, BX⟩
  clear g0 g1 g2 g3 g4 g5 g6 g7 g8 g9 g10 g11 X3 R3
  replace X4 := (BX.block _ (lt_of_at _ ⟨_, X4⟩)).trans X4
  replace R4 := R4.later BX
  replace X5 := (BX.block _ (lt_of_at _ ⟨_, X5⟩)).trans X5
  replace R5 := R5.later BX
  replace X6 := (BX.block _ (lt_of_at _ ⟨_, X6⟩)).trans X6
  replace R6 := R6.later BX
  replace B := B.trans (BX.mono B.size)
  clear BX
  obtain ⟨g0, g1, g2, g3, g4, g5, g6, g7, g8, g9, g10, g11⟩ := CmAt.of X4
  go_wp2_with fail
  refine (is_any Z3 ⟨#[67, 76, 73, 69, 78, 84, 95, 69, 82, 82, 79, 82, 32, 105, 110, 118, 97, 108, 105, 100, 32, 101, 120, 112, 116, 105, 109, 101, 32, 97, 114, 103, 117, 109, 101, 110, 116]⟩ a4 q4).mono ?_
  rintro e Z4 ⟨rfl, BX⟩
  clear g0 g1 g2 g3 g4 g5 g6 g7 g8 g9 g10 g11 X4 R4
  replace X5 := (BX.block _ (lt_of_at _ ⟨_, X5⟩)).trans X5
  replace R5 := R5.later BX
  replace X6 := (BX.block _ (lt_of_at _ ⟨_, X6⟩)).trans X6
  replace R6 := R6.later BX
  replace B := B.trans (BX.mono B.size)
  clear BX
  obtain ⟨g0, g1, g2, g3, g4, g5, g6, g7, g8, g9, g10, g11⟩ := CmAt.of X5
  go_wp2_with fail
  refine (is_any Z4 ⟨#[67, 76, 73, 69, 78, 84, 95, 69, 82, 82, 79, 82, 32, 98, 97, 100, 32, 99, 111, 109, 109, 97, 110, 100, 32, 108, 105, 110, 101, 32, 102, 111, 114, 109, 97, 116]⟩ a5 q5).mono ?_
  rintro e Z5 ⟨rfl, BX⟩
  clear g0 g1 g2 g3 g4 g5 g6 g7 g8 g9 g10 g11 X5 R5
  replace X6 := (BX.block _ (lt_of_at _ ⟨_, X6⟩)).trans X6
  replace R6 := R6.later BX
  replace B := B.trans (BX.mono B.size)
  clear BX
  obtain ⟨g0, g1, g2, g3, g4, g5, g6, g7, g8, g9, g10, g11⟩ := CmAt.of X6
  go_wp2_with fail
  refine (cmd_any Z5 a6 1 q6 knD R6.at_ (by decide)).mono ?_
  rintro e Z6 ⟨ac, cc, rfl, RC, BX⟩
  clear g0 g1 g2 g3 g4 g5 g6 g7 g8 g9 g10 g11 X6 R6
  replace B := B.trans (BX.mono B.size)
  clear BX
  go_wp2_with fail
  have BX := (Below.refl Z6.heap.size Z6).alloc (Nat.le_refl _) (.cells #[.string ⟨#[97]⟩] 9)
  have R9 := one_strs Z6 ⟨#[97]⟩ (by decide)
  refine (same_any (Z6.alloc (.cells #[.string ⟨#[97]⟩] 9)) knD ac (some ⟨Z6.heap.size, 0, none⟩) 1 cc 1 (RC.later BX) R9 (by decide)).mono ?_
  rintro e Z7 ⟨rfl, BY⟩
  replace BX := BX.trans (BY.mono BX.size)
  clear BY R9 RC
  replace B := B.trans (BX.mono B.size)
  clear BX
  go_wp2
  go_ret
  exact ⟨rfl, B⟩
end Go.Proofs.Ytmfjaehajdephaa.parseKnown
