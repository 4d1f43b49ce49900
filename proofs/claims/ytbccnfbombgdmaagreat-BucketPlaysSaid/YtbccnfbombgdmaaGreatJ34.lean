/- Texts joined: RefTakeB, RefTakeC. -/
import Derived.Test.YtbccnfbombgdmaaGreatJ33
import Derived.Test.YtbccnfbombgdmaaGreatJ05
/- 'Take' of the reckoning side: what has no form. -/
set_option linter.unusedVariables false
set_option linter.unusedSimpArgs false
namespace Go.Proofs.YtbccnfbombgdmaaGreat
open Go.RowKit Go.Deep Math

set_option maxHeartbeats 2000000 in
theorem refTake_b1 (s : ByteArray) (U C : Nat → Nat → Nat) (cU : Hid (UpIs s U)) (cC : Hid (CrcIs s C)) (w : World) (he : s.toList.isEmpty = false) (hs63 : s.size ≤ 1048576) (hs0 : 0 < s.size) (k : Nat) (e0 : ∀ h : 0 < s.size, ((s[0]'h).toNat : Int) = (k : Int)) (hk0 : 1 ≤ k) (h32 : (32 : Int) ≤ (s.size : Int)) (hs3 : 3 < s.size) (e3 : ∀ h : 3 < s.size, ((s[3]'h).toNat : Int) = 82) (v : Nat) (hk255 : k ≤ 255) (hv : U 1 3 = v) (hv16 : v ≤ 65535) (h24 : U 24 28 = C 0 24) (h : 250 < k) :
    Calls Tryz.prog 79 #[.string s] w fun e w' => e = .returned (.tuple #[.agg #[.string ⟨#[]⟩, .string ⟨#[]⟩, .int .u32 0, .int .i64 0, .int .u64 0], .int .i64 0, .int .i64 3]) ∧ Below w.heap.size w w' := by
  have A := hide (Aft.new w zeroBox)
  have p0 : ((k : Int) == 0) = false := by simp; omega
  have b28 : (28 : Int) ≤ (s.size : Int) := by omega
  have b24 : (24 : Int) ≤ (s.size : Int) := by omega
  have b16 : (16 : Int) ≤ (s.size : Int) := by omega
  have b8 : (8 : Int) ≤ (s.size : Int) := by omega
  have b3 : (3 : Int) ≤ (s.size : Int) := by omega
  have hlt : ((s.size : Int) < 32) = False := eq_false (by omega)
  have h24' : (U 24 28 : Int) = (C 0 24 : Int) := by omega
  have hwk : wrap64 (k : Int) = (k : Int) := by unfold wrap64; omega
  have hwv : IntKind.i64.wrap (v : Int) = (v : Int) := by rw [IntKind.wrap_i64]; omega
  have p1 : ((250 : Int) < (k : Int)) = True := eq_true (by omega)
  clear h
  go_enter Tryz.func79, Tryz.ntmps79
  go_wp2_with fail
  replace A := hide A.out.drew
  clear h24
  apply stage (S := fun W => Aft (w.heap.size + 1) (w.alloc zeroBox) W)
  · intro H
    go_region_held3 (fun W => W.cell? ⟨w.heap.size, 0, none⟩ = some (.string ⟨#[]⟩))
      (exact (box_cells A.out).cell rfl)
      (first
        | (go_at_call 93; refine (cU.out _ _ _ (by omega) (by omega) (by omega)).mono ?_; rintro r wx ⟨rfl, rfl⟩)
        | (go_at_call 91; refine (cC.out _ _ _ (by omega)).mono ?_; rintro r wx ⟨rfl, hx⟩; replace A := hide (A.out.then hx); clear hx))
    all_goals exact H _ A.out
  intro W1 A1
  replace A := hide A1
  clear A1
  go_wp2_with (go_at_call 93; refine (cU.out _ _ _ (by omega) (by omega) (by omega)).mono ?_; rintro r wx ⟨rfl, rfl⟩)
  go_quiet (first | (go_at_call 93; refine Calls.quiet_of_same (cU.out _ _ _ (by omega) (by omega) (by omega))))
  replace A := hide (show Aft (w.heap.size + 1) (w.alloc zeroBox) (wx.drewN nq) from ⟨below_q A.out.below _, A.out.size⟩)
  generalize wx.drewN nq = W2 at A ⊢
  have bx := box_cells A.out
  obtain ⟨x0, x1, x2, x3, x4⟩ : W2.cell? ⟨w.heap.size, 0, none⟩ = some (.string ⟨#[]⟩) ∧ W2.cell? ⟨w.heap.size, 1, none⟩ = some (.string ⟨#[]⟩) ∧ W2.cell? ⟨w.heap.size, 2, none⟩ = some (.int .u32 0) ∧ W2.cell? ⟨w.heap.size, 3, none⟩ = some (.int .i64 0) ∧ W2.cell? ⟨w.heap.size, 4, none⟩ = some (.int .u64 0) := ⟨bx.cell rfl, bx.cell rfl, bx.cell rfl, bx.cell rfl, bx.cell rfl⟩
  have y0 := bx.frozen 0
  have y1 := bx.frozen 1
  have y2 := bx.frozen 2
  have y3 := bx.frozen 3
  have y4 := bx.frozen 4
  clear bx
  go_wp2
  exact bodyPost_ret (v := .tuple #[.agg #[.string ⟨#[]⟩, .string ⟨#[]⟩, .int .u32 0, .int .i64 0, .int .u64 0], .int .i64 0, .int .i64 3]) (by simp [results, Tryz.results79, go_sem, x0, x1, x2, x3, x4]) rfl ⟨rfl, below_box A.out.old _ _ _ _ _⟩

set_option maxHeartbeats 2000000 in
theorem refTake_b2 (s : ByteArray) (U C : Nat → Nat → Nat) (cU : Hid (UpIs s U)) (cC : Hid (CrcIs s C)) (w : World) (he : s.toList.isEmpty = false) (hs63 : s.size ≤ 1048576) (hs0 : 0 < s.size) (k : Nat) (e0 : ∀ h : 0 < s.size, ((s[0]'h).toNat : Int) = (k : Int)) (hk0 : 1 ≤ k) (h32 : (32 : Int) ≤ (s.size : Int)) (hs3 : 3 < s.size) (e3 : ∀ h : 3 < s.size, ((s[3]'h).toNat : Int) = 82) (v : Nat) (hk255 : k ≤ 255) (hv : U 1 3 = v) (hv16 : v ≤ 65535) (h24 : U 24 28 = C 0 24) (hk1 : k ≤ 250) (h : 1024 < v) :
    Calls Tryz.prog 79 #[.string s] w fun e w' => e = .returned (.tuple #[.agg #[.string ⟨#[]⟩, .string ⟨#[]⟩, .int .u32 0, .int .i64 0, .int .u64 0], .int .i64 0, .int .i64 3]) ∧ Below w.heap.size w w' := by
  have A := hide (Aft.new w zeroBox)
  have p0 : ((k : Int) == 0) = false := by simp; omega
  have b28 : (28 : Int) ≤ (s.size : Int) := by omega
  have b24 : (24 : Int) ≤ (s.size : Int) := by omega
  have b16 : (16 : Int) ≤ (s.size : Int) := by omega
  have b8 : (8 : Int) ≤ (s.size : Int) := by omega
  have b3 : (3 : Int) ≤ (s.size : Int) := by omega
  have hlt : ((s.size : Int) < 32) = False := eq_false (by omega)
  have h24' : (U 24 28 : Int) = (C 0 24 : Int) := by omega
  have hwk : wrap64 (k : Int) = (k : Int) := by unfold wrap64; omega
  have hwv : IntKind.i64.wrap (v : Int) = (v : Int) := by rw [IntKind.wrap_i64]; omega
  have p1 : ((250 : Int) < (k : Int)) = False := eq_false (by omega)
  have p2 : ((1024 : Int) < (v : Int)) = True := eq_true (by omega)
  clear h
  go_enter Tryz.func79, Tryz.ntmps79
  go_wp2_with fail
  replace A := hide A.out.drew
  clear h24
  apply stage (S := fun W => Aft (w.heap.size + 1) (w.alloc zeroBox) W)
  · intro H
    go_region_held3 (fun W => W.cell? ⟨w.heap.size, 0, none⟩ = some (.string ⟨#[]⟩))
      (exact (box_cells A.out).cell rfl)
      (first
        | (go_at_call 93; refine (cU.out _ _ _ (by omega) (by omega) (by omega)).mono ?_; rintro r wx ⟨rfl, rfl⟩)
        | (go_at_call 91; refine (cC.out _ _ _ (by omega)).mono ?_; rintro r wx ⟨rfl, hx⟩; replace A := hide (A.out.then hx); clear hx))
    all_goals exact H _ A.out
  intro W1 A1
  replace A := hide A1
  clear A1
  go_wp2_with (go_at_call 93; refine (cU.out _ _ _ (by omega) (by omega) (by omega)).mono ?_; rintro r wx ⟨rfl, rfl⟩)
  go_quiet (first | (go_at_call 93; refine Calls.quiet_of_same (cU.out _ _ _ (by omega) (by omega) (by omega))))
  replace A := hide (show Aft (w.heap.size + 1) (w.alloc zeroBox) (wx.drewN nq) from ⟨below_q A.out.below _, A.out.size⟩)
  generalize wx.drewN nq = W2 at A ⊢
  have bx := box_cells A.out
  obtain ⟨x0, x1, x2, x3, x4⟩ : W2.cell? ⟨w.heap.size, 0, none⟩ = some (.string ⟨#[]⟩) ∧ W2.cell? ⟨w.heap.size, 1, none⟩ = some (.string ⟨#[]⟩) ∧ W2.cell? ⟨w.heap.size, 2, none⟩ = some (.int .u32 0) ∧ W2.cell? ⟨w.heap.size, 3, none⟩ = some (.int .i64 0) ∧ W2.cell? ⟨w.heap.size, 4, none⟩ = some (.int .u64 0) := ⟨bx.cell rfl, bx.cell rfl, bx.cell rfl, bx.cell rfl, bx.cell rfl⟩
  have y0 := bx.frozen 0
  have y1 := bx.frozen 1
  have y2 := bx.frozen 2
  have y3 := bx.frozen 3
  have y4 := bx.frozen 4
  clear bx
  go_wp2
  exact bodyPost_ret (v := .tuple #[.agg #[.string ⟨#[]⟩, .string ⟨#[]⟩, .int .u32 0, .int .i64 0, .int .u64 0], .int .i64 0, .int .i64 3]) (by simp [results, Tryz.results79, go_sem, x0, x1, x2, x3, x4]) rfl ⟨rfl, below_box A.out.old _ _ _ _ _⟩

set_option maxHeartbeats 2000000 in
theorem refTake_b3 (s : ByteArray) (U C : Nat → Nat → Nat) (cU : Hid (UpIs s U)) (cC : Hid (CrcIs s C)) (w : World) (he : s.toList.isEmpty = false) (hs63 : s.size ≤ 1048576) (hs0 : 0 < s.size) (k : Nat) (e0 : ∀ h : 0 < s.size, ((s[0]'h).toNat : Int) = (k : Int)) (hk0 : 1 ≤ k) (h32 : (32 : Int) ≤ (s.size : Int)) (hs3 : 3 < s.size) (e3 : ∀ h : 3 < s.size, ((s[3]'h).toNat : Int) = 82) (v : Nat) (hk255 : k ≤ 255) (hv : U 1 3 = v) (hv16 : v ≤ 65535) (h24 : U 24 28 = C 0 24) (hk1 : k ≤ 250) (hv1 : v ≤ 1024) (h : U 16 24 = 0) :
    Calls Tryz.prog 79 #[.string s] w fun e w' => e = .returned (.tuple #[.agg #[.string ⟨#[]⟩, .string ⟨#[]⟩, .int .u32 0, .int .i64 0, .int .u64 0], .int .i64 0, .int .i64 3]) ∧ Below w.heap.size w w' := by
  have A := hide (Aft.new w zeroBox)
  have p0 : ((k : Int) == 0) = false := by simp; omega
  have b28 : (28 : Int) ≤ (s.size : Int) := by omega
  have b24 : (24 : Int) ≤ (s.size : Int) := by omega
  have b16 : (16 : Int) ≤ (s.size : Int) := by omega
  have b8 : (8 : Int) ≤ (s.size : Int) := by omega
  have b3 : (3 : Int) ≤ (s.size : Int) := by omega
  have hlt : ((s.size : Int) < 32) = False := eq_false (by omega)
  have h24' : (U 24 28 : Int) = (C 0 24 : Int) := by omega
  have hwk : wrap64 (k : Int) = (k : Int) := by unfold wrap64; omega
  have hwv : IntKind.i64.wrap (v : Int) = (v : Int) := by rw [IntKind.wrap_i64]; omega
  have p1 : ((250 : Int) < (k : Int)) = False := eq_false (by omega)
  have p2 : ((1024 : Int) < (v : Int)) = False := eq_false (by omega)
  have p3 : ((U 16 24 : Int) == 0) = true := by simp; omega
  clear h
  go_enter Tryz.func79, Tryz.ntmps79
  go_wp2_with fail
  replace A := hide A.out.drew
  clear h24
  apply stage (S := fun W => Aft (w.heap.size + 1) (w.alloc zeroBox) W)
  · intro H
    go_region_held3 (fun W => W.cell? ⟨w.heap.size, 0, none⟩ = some (.string ⟨#[]⟩))
      (exact (box_cells A.out).cell rfl)
      (first
        | (go_at_call 93; refine (cU.out _ _ _ (by omega) (by omega) (by omega)).mono ?_; rintro r wx ⟨rfl, rfl⟩)
        | (go_at_call 91; refine (cC.out _ _ _ (by omega)).mono ?_; rintro r wx ⟨rfl, hx⟩; replace A := hide (A.out.then hx); clear hx))
    all_goals exact H _ A.out
  intro W1 A1
  replace A := hide A1
  clear A1
  go_wp2_with (go_at_call 93; refine (cU.out _ _ _ (by omega) (by omega) (by omega)).mono ?_; rintro r wx ⟨rfl, rfl⟩)
  go_quiet (first | (go_at_call 93; refine Calls.quiet_of_same (cU.out _ _ _ (by omega) (by omega) (by omega))))
  replace A := hide (show Aft (w.heap.size + 1) (w.alloc zeroBox) (wx.drewN nq) from ⟨below_q A.out.below _, A.out.size⟩)
  generalize wx.drewN nq = W2 at A ⊢
  have bx := box_cells A.out
  obtain ⟨x0, x1, x2, x3, x4⟩ : W2.cell? ⟨w.heap.size, 0, none⟩ = some (.string ⟨#[]⟩) ∧ W2.cell? ⟨w.heap.size, 1, none⟩ = some (.string ⟨#[]⟩) ∧ W2.cell? ⟨w.heap.size, 2, none⟩ = some (.int .u32 0) ∧ W2.cell? ⟨w.heap.size, 3, none⟩ = some (.int .i64 0) ∧ W2.cell? ⟨w.heap.size, 4, none⟩ = some (.int .u64 0) := ⟨bx.cell rfl, bx.cell rfl, bx.cell rfl, bx.cell rfl, bx.cell rfl⟩
  have y0 := bx.frozen 0
  have y1 := bx.frozen 1
  have y2 := bx.frozen 2
  have y3 := bx.frozen 3
  have y4 := bx.frozen 4
  clear bx
  go_wp2
  exact bodyPost_ret (v := .tuple #[.agg #[.string ⟨#[]⟩, .string ⟨#[]⟩, .int .u32 0, .int .i64 0, .int .u64 0], .int .i64 0, .int .i64 3]) (by simp [results, Tryz.results79, go_sem, x0, x1, x2, x3, x4]) rfl ⟨rfl, below_box A.out.old _ _ _ _ _⟩

set_option maxHeartbeats 2000000 in
theorem refTake_b4 (s : ByteArray) (U C : Nat → Nat → Nat) (cU : Hid (UpIs s U)) (cC : Hid (CrcIs s C)) (w : World) (he : s.toList.isEmpty = false) (hs63 : s.size ≤ 1048576) (hs0 : 0 < s.size) (k : Nat) (e0 : ∀ h : 0 < s.size, ((s[0]'h).toNat : Int) = (k : Int)) (hk0 : 1 ≤ k) (h32 : (32 : Int) ≤ (s.size : Int)) (hs3 : 3 < s.size) (e3 : ∀ h : 3 < s.size, ((s[3]'h).toNat : Int) = 82) (v : Nat) (hk255 : k ≤ 255) (hv : U 1 3 = v) (hv16 : v ≤ 65535) (h24 : U 24 28 = C 0 24) (hk1 : k ≤ 250) (hv1 : v ≤ 1024) (hver : 0 < U 16 24) (h : s.size < 32 + k + v) :
    Calls Tryz.prog 79 #[.string s] w fun e w' => e = .returned (.tuple #[.agg #[.string ⟨#[]⟩, .string ⟨#[]⟩, .int .u32 0, .int .i64 0, .int .u64 0], .int .i64 0, .int .i64 3]) ∧ Below w.heap.size w w' := by
  have A := hide (Aft.new w zeroBox)
  have p0 : ((k : Int) == 0) = false := by simp; omega
  have b28 : (28 : Int) ≤ (s.size : Int) := by omega
  have b24 : (24 : Int) ≤ (s.size : Int) := by omega
  have b16 : (16 : Int) ≤ (s.size : Int) := by omega
  have b8 : (8 : Int) ≤ (s.size : Int) := by omega
  have b3 : (3 : Int) ≤ (s.size : Int) := by omega
  have hlt : ((s.size : Int) < 32) = False := eq_false (by omega)
  have h24' : (U 24 28 : Int) = (C 0 24 : Int) := by omega
  have hwk : wrap64 (k : Int) = (k : Int) := by unfold wrap64; omega
  have hwv : IntKind.i64.wrap (v : Int) = (v : Int) := by rw [IntKind.wrap_i64]; omega
  have r1 : IntKind.i64.wrap ((32 : Int) + (k : Int)) = (32 : Int) + (k : Int) := by rw [IntKind.wrap_i64]; omega
  have r2 : IntKind.i64.wrap ((32 : Int) + (k : Int) + (v : Int)) = (32 : Int) + (k : Int) + (v : Int) := by rw [IntKind.wrap_i64]; omega
  have r3 : (32 : Int) ≤ (32 : Int) + (k : Int) + (v : Int) := by omega
  have r4 : (0 : Int) ≤ (32 : Int) + (k : Int) + (v : Int) := by omega
  have q1 : ((32 : Int) + (k : Int) + (v : Int)).toNat = 32 + k + v := by omega
  have p1 : ((250 : Int) < (k : Int)) = False := eq_false (by omega)
  have p2 : ((1024 : Int) < (v : Int)) = False := eq_false (by omega)
  have p3 : ((U 16 24 : Int) == 0) = false := by simp; omega
  have p4 : ((s.size : Int) < 32 + (k : Int) + (v : Int)) = True := eq_true (by omega)
  clear h
  go_enter Tryz.func79, Tryz.ntmps79
  go_wp2_with fail
  replace A := hide A.out.drew
  clear h24
  apply stage (S := fun W => Aft (w.heap.size + 1) (w.alloc zeroBox) W)
  · intro H
    go_region_held3 (fun W => W.cell? ⟨w.heap.size, 0, none⟩ = some (.string ⟨#[]⟩))
      (exact (box_cells A.out).cell rfl)
      (first
        | (go_at_call 93; refine (cU.out _ _ _ (by omega) (by omega) (by omega)).mono ?_; rintro r wx ⟨rfl, rfl⟩)
        | (go_at_call 91; refine (cC.out _ _ _ (by omega)).mono ?_; rintro r wx ⟨rfl, hx⟩; replace A := hide (A.out.then hx); clear hx))
    all_goals exact H _ A.out
  intro W1 A1
  replace A := hide A1
  clear A1
  go_wp2_with (go_at_call 93; refine (cU.out _ _ _ (by omega) (by omega) (by omega)).mono ?_; rintro r wx ⟨rfl, rfl⟩)
  go_quiet (first | (go_at_call 93; refine Calls.quiet_of_same (cU.out _ _ _ (by omega) (by omega) (by omega))))
  replace A := hide (show Aft (w.heap.size + 1) (w.alloc zeroBox) (wx.drewN nq) from ⟨below_q A.out.below _, A.out.size⟩)
  generalize wx.drewN nq = W2 at A ⊢
  have bx := box_cells A.out
  obtain ⟨x0, x1, x2, x3, x4⟩ : W2.cell? ⟨w.heap.size, 0, none⟩ = some (.string ⟨#[]⟩) ∧ W2.cell? ⟨w.heap.size, 1, none⟩ = some (.string ⟨#[]⟩) ∧ W2.cell? ⟨w.heap.size, 2, none⟩ = some (.int .u32 0) ∧ W2.cell? ⟨w.heap.size, 3, none⟩ = some (.int .i64 0) ∧ W2.cell? ⟨w.heap.size, 4, none⟩ = some (.int .u64 0) := ⟨bx.cell rfl, bx.cell rfl, bx.cell rfl, bx.cell rfl, bx.cell rfl⟩
  have y0 := bx.frozen 0
  have y1 := bx.frozen 1
  have y2 := bx.frozen 2
  have y3 := bx.frozen 3
  have y4 := bx.frozen 4
  clear bx
  go_wp2
  exact bodyPost_ret (v := .tuple #[.agg #[.string ⟨#[]⟩, .string ⟨#[]⟩, .int .u32 0, .int .i64 0, .int .u64 0], .int .i64 0, .int .i64 3]) (by simp [results, Tryz.results79, go_sem, x0, x1, x2, x3, x4]) rfl ⟨rfl, below_box A.out.old _ _ _ _ _⟩

set_option maxHeartbeats 2000000 in
theorem refTake_a1 (s : ByteArray) (U C : Nat → Nat → Nat) (cU : Hid (UpIs s U)) (cC : Hid (CrcIs s C)) (w : World) (he : s.toList.isEmpty = false) (hs63 : s.size ≤ 1048576) (hs0 : 0 < s.size) (k : Nat) (e0 : ∀ h : 0 < s.size, ((s[0]'h).toNat : Int) = (k : Int)) (hk0 : 1 ≤ k) (h : s.size < 32) :
    Calls Tryz.prog 79 #[.string s] w fun e w' => e = .returned (.tuple #[.agg #[.string ⟨#[]⟩, .string ⟨#[]⟩, .int .u32 0, .int .i64 0, .int .u64 0], .int .i64 0, .int .i64 3]) ∧ Below w.heap.size w w' := by
  have A := hide (Aft.new w zeroBox)
  have p0 : ((k : Int) == 0) = false := by simp; omega
  have hlt : ((s.size : Int) < 32) = True := eq_true (by omega)
  clear h
  go_enter Tryz.func79, Tryz.ntmps79
  go_wp2_with fail
  go_quiet (fail)
  replace A := hide (show Aft (w.heap.size + 1) (w.alloc zeroBox) ((w.alloc (.cells #[.string ⟨#[]⟩, .string ⟨#[]⟩, .int .u32 0, .int .i64 0, .int .u64 0] 39)).drewN nq) from ⟨below_q A.out.below _, A.out.size⟩)
  generalize (w.alloc (.cells #[.string ⟨#[]⟩, .string ⟨#[]⟩, .int .u32 0, .int .i64 0, .int .u64 0] 39)).drewN nq = W1 at A ⊢
  have bx := box_cells A.out
  obtain ⟨x0, x1, x2, x3, x4⟩ : W1.cell? ⟨w.heap.size, 0, none⟩ = some (.string ⟨#[]⟩) ∧ W1.cell? ⟨w.heap.size, 1, none⟩ = some (.string ⟨#[]⟩) ∧ W1.cell? ⟨w.heap.size, 2, none⟩ = some (.int .u32 0) ∧ W1.cell? ⟨w.heap.size, 3, none⟩ = some (.int .i64 0) ∧ W1.cell? ⟨w.heap.size, 4, none⟩ = some (.int .u64 0) := ⟨bx.cell rfl, bx.cell rfl, bx.cell rfl, bx.cell rfl, bx.cell rfl⟩
  have y0 := bx.frozen 0
  have y1 := bx.frozen 1
  have y2 := bx.frozen 2
  have y3 := bx.frozen 3
  have y4 := bx.frozen 4
  clear bx
  go_wp2
  exact bodyPost_ret (v := .tuple #[.agg #[.string ⟨#[]⟩, .string ⟨#[]⟩, .int .u32 0, .int .i64 0, .int .u64 0], .int .i64 0, .int .i64 3]) (by simp [results, Tryz.results79, go_sem, x0, x1, x2, x3, x4]) rfl ⟨rfl, below_box A.out.old _ _ _ _ _⟩

set_option maxHeartbeats 2000000 in
theorem refTake_a2 (s : ByteArray) (U C : Nat → Nat → Nat) (cU : Hid (UpIs s U)) (cC : Hid (CrcIs s C)) (w : World) (he : s.toList.isEmpty = false) (hs63 : s.size ≤ 1048576) (hs0 : 0 < s.size) (k : Nat) (e0 : ∀ h : 0 < s.size, ((s[0]'h).toNat : Int) = (k : Int)) (hk0 : 1 ≤ k) (h32 : (32 : Int) ≤ (s.size : Int)) (hs3 : 3 < s.size) (j : Nat) (hj : j ≠ 82) (e3 : ∀ h : 3 < s.size, ((s[3]'h).toNat : Int) = (j : Int)) :
    Calls Tryz.prog 79 #[.string s] w fun e w' => e = .returned (.tuple #[.agg #[.string ⟨#[]⟩, .string ⟨#[]⟩, .int .u32 0, .int .i64 0, .int .u64 0], .int .i64 0, .int .i64 3]) ∧ Below w.heap.size w w' := by
  have A := hide (Aft.new w zeroBox)
  have p0 : ((k : Int) == 0) = false := by simp; omega
  have b28 : (28 : Int) ≤ (s.size : Int) := by omega
  have b24 : (24 : Int) ≤ (s.size : Int) := by omega
  have b16 : (16 : Int) ≤ (s.size : Int) := by omega
  have b8 : (8 : Int) ≤ (s.size : Int) := by omega
  have b3 : (3 : Int) ≤ (s.size : Int) := by omega
  have hlt : ((s.size : Int) < 32) = False := eq_false (by omega)
  have p9 : ¬ ((j : Int) = 82) := by omega
  have i3 : (3 : Int) < (s.size : Int) := by omega
  clear hj
  go_enter Tryz.func79, Tryz.ntmps79
  go_wp2_with fail
  go_quiet (fail)
  replace A := hide (show Aft (w.heap.size + 1) (w.alloc zeroBox) ((w.alloc (.cells #[.string ⟨#[]⟩, .string ⟨#[]⟩, .int .u32 0, .int .i64 0, .int .u64 0] 39)).drewN nq) from ⟨below_q A.out.below _, A.out.size⟩)
  generalize (w.alloc (.cells #[.string ⟨#[]⟩, .string ⟨#[]⟩, .int .u32 0, .int .i64 0, .int .u64 0] 39)).drewN nq = W1 at A ⊢
  have bx := box_cells A.out
  obtain ⟨x0, x1, x2, x3, x4⟩ : W1.cell? ⟨w.heap.size, 0, none⟩ = some (.string ⟨#[]⟩) ∧ W1.cell? ⟨w.heap.size, 1, none⟩ = some (.string ⟨#[]⟩) ∧ W1.cell? ⟨w.heap.size, 2, none⟩ = some (.int .u32 0) ∧ W1.cell? ⟨w.heap.size, 3, none⟩ = some (.int .i64 0) ∧ W1.cell? ⟨w.heap.size, 4, none⟩ = some (.int .u64 0) := ⟨bx.cell rfl, bx.cell rfl, bx.cell rfl, bx.cell rfl, bx.cell rfl⟩
  have y0 := bx.frozen 0
  have y1 := bx.frozen 1
  have y2 := bx.frozen 2
  have y3 := bx.frozen 3
  have y4 := bx.frozen 4
  clear bx
  go_wp2
  exact bodyPost_ret (v := .tuple #[.agg #[.string ⟨#[]⟩, .string ⟨#[]⟩, .int .u32 0, .int .i64 0, .int .u64 0], .int .i64 0, .int .i64 3]) (by simp [results, Tryz.results79, go_sem, x0, x1, x2, x3, x4]) rfl ⟨rfl, below_box A.out.old _ _ _ _ _⟩

set_option maxHeartbeats 2000000 in
theorem refTake_a3 (s : ByteArray) (U C : Nat → Nat → Nat) (cU : Hid (UpIs s U)) (cC : Hid (CrcIs s C)) (w : World) (he : s.toList.isEmpty = false) (hs63 : s.size ≤ 1048576) (hs0 : 0 < s.size) (k : Nat) (e0 : ∀ h : 0 < s.size, ((s[0]'h).toNat : Int) = (k : Int)) (hk0 : 1 ≤ k) (h32 : (32 : Int) ≤ (s.size : Int)) (hs3 : 3 < s.size) (e3 : ∀ h : 3 < s.size, ((s[3]'h).toNat : Int) = 82) (h24 : U 24 28 ≠ C 0 24) :
    Calls Tryz.prog 79 #[.string s] w fun e w' => e = .returned (.tuple #[.agg #[.string ⟨#[]⟩, .string ⟨#[]⟩, .int .u32 0, .int .i64 0, .int .u64 0], .int .i64 0, .int .i64 3]) ∧ Below w.heap.size w w' := by
  have A := hide (Aft.new w zeroBox)
  have p0 : ((k : Int) == 0) = false := by simp; omega
  have b28 : (28 : Int) ≤ (s.size : Int) := by omega
  have b24 : (24 : Int) ≤ (s.size : Int) := by omega
  have b16 : (16 : Int) ≤ (s.size : Int) := by omega
  have b8 : (8 : Int) ≤ (s.size : Int) := by omega
  have b3 : (3 : Int) ≤ (s.size : Int) := by omega
  have hlt : ((s.size : Int) < 32) = False := eq_false (by omega)
  have h24' : ¬ ((U 24 28 : Int) = (C 0 24 : Int)) := by omega
  clear h24
  go_enter Tryz.func79, Tryz.ntmps79
  go_wp2_with fail
  replace A := hide A.out.drew
  apply stage (S := fun W => Aft (w.heap.size + 1) (w.alloc zeroBox) W)
  · intro H
    go_region_held3 (fun W => W.cell? ⟨w.heap.size, 0, none⟩ = some (.string ⟨#[]⟩))
      (exact (box_cells A.out).cell rfl)
      (first
        | (go_at_call 93; refine (cU.out _ _ _ (by omega) (by omega) (by omega)).mono ?_; rintro r wx ⟨rfl, rfl⟩)
        | (go_at_call 91; refine (cC.out _ _ _ (by omega)).mono ?_; rintro r wx ⟨rfl, hx⟩; replace A := hide (A.out.then hx); clear hx))
    all_goals exact H _ A.out
  intro W1 A1
  replace A := hide A1
  clear A1
  have bx := box_cells A.out
  obtain ⟨x0, x1, x2, x3, x4⟩ : W1.cell? ⟨w.heap.size, 0, none⟩ = some (.string ⟨#[]⟩) ∧ W1.cell? ⟨w.heap.size, 1, none⟩ = some (.string ⟨#[]⟩) ∧ W1.cell? ⟨w.heap.size, 2, none⟩ = some (.int .u32 0) ∧ W1.cell? ⟨w.heap.size, 3, none⟩ = some (.int .i64 0) ∧ W1.cell? ⟨w.heap.size, 4, none⟩ = some (.int .u64 0) := ⟨bx.cell rfl, bx.cell rfl, bx.cell rfl, bx.cell rfl, bx.cell rfl⟩
  have y0 := bx.frozen 0
  have y1 := bx.frozen 1
  have y2 := bx.frozen 2
  have y3 := bx.frozen 3
  have y4 := bx.frozen 4
  clear bx
  go_wp2
  exact bodyPost_ret (v := .tuple #[.agg #[.string ⟨#[]⟩, .string ⟨#[]⟩, .int .u32 0, .int .i64 0, .int .u64 0], .int .i64 0, .int .i64 3]) (by simp [results, Tryz.results79, go_sem, x0, x1, x2, x3, x4]) rfl ⟨rfl, below_box A.out.old _ _ _ _ _⟩

set_option maxHeartbeats 2000000 in
theorem refTake_n1 (s : ByteArray) (w : World) (he : s.toList.isEmpty = true) :
    Calls Tryz.prog 79 #[.string s] w fun e w' => e = .returned (.tuple #[.agg #[.string ⟨#[]⟩, .string ⟨#[]⟩, .int .u32 0, .int .i64 0, .int .u64 0], .int .i64 0, .int .i64 5]) ∧ Below w.heap.size w w' := by
  have A := hide (Aft.new w zeroBox)
  go_enter Tryz.func79, Tryz.ntmps79
  go_wp2
  exact bodyPost_ret (v := .tuple #[.agg #[.string ⟨#[]⟩, .string ⟨#[]⟩, .int .u32 0, .int .i64 0, .int .u64 0], .int .i64 0, .int .i64 5]) (by simp [results, Tryz.results79, go_sem]) rfl ⟨rfl, A.out.old⟩

set_option maxHeartbeats 2000000 in
theorem refTake_n2 (s : ByteArray) (w : World) (he : s.toList.isEmpty = false) (hs0 : 0 < s.size) (e0 : ∀ h : 0 < s.size, ((s[0]'h).toNat : Int) = 0) :
    Calls Tryz.prog 79 #[.string s] w fun e w' => e = .returned (.tuple #[.agg #[.string ⟨#[]⟩, .string ⟨#[]⟩, .int .u32 0, .int .i64 0, .int .u64 0], .int .i64 0, .int .i64 5]) ∧ Below w.heap.size w w' := by
  have A := hide (Aft.new w zeroBox)
  go_enter Tryz.func79, Tryz.ntmps79
  go_wp2
  exact bodyPost_ret (v := .tuple #[.agg #[.string ⟨#[]⟩, .string ⟨#[]⟩, .int .u32 0, .int .i64 0, .int .u64 0], .int .i64 0, .int .i64 5]) (by simp [results, Tryz.results79, go_sem]) rfl ⟨rfl, A.out.old⟩

end Go.Proofs.YtbccnfbombgdmaaGreat

/- 'Take' of the reckoning side, of any bytes. -/
set_option linter.unusedVariables false
set_option linter.unusedSimpArgs false
namespace Go.Proofs.YtbccnfbombgdmaaGreat
open Go.RowKit Go.Deep Math

theorem txt_extract (l : List UInt8) (i j : Nat) : (txt l).extract i j = txt (sl l i j) := by
  unfold txt sl
  apply ByteArray.ext
  simp [ByteArray.data_extract]
  rw [List.drop_take]
theorem upIs (l : List UInt8) : UpIs (txt l) (fun i j => up (sl l i j)) := fun W i j hij hj h8 => by
  rw [txt_size] at hj
  rw [txt_extract]
  exact up_any (sl l i j) (by rw [sl_length _ _ _ hj]; exact h8) W
theorem crcIs (l : List UInt8) (hl : l.length ≤ 1048576) : CrcIs (txt l) (fun i j => crcN (sl l i j)) := fun W i j hj => by
  rw [txt_size] at hj
  rw [txt_extract]
  exact crcT_any (sl l i j) (by rw [sl_length _ _ _ hj]; omega) W
theorem byte_is (l : List UInt8) (i k : Nat) (h : k = (l.getD i 0).toNat) : ∀ h' : i < (txt l).size, (((txt l)[i]'h').toNat : Int) = (k : Int) := fun h' => by
  rw [txt_get l i (by rwa [txt_size] at h'), h]
theorem tk_bad : tkV .bad = .tuple #[.agg #[.string ⟨#[]⟩, .string ⟨#[]⟩, .int .u32 0, .int .i64 0, .int .u64 0], .int .i64 0, .int .i64 3] := rfl
theorem tk_none : tkV .none = .tuple #[.agg #[.string ⟨#[]⟩, .string ⟨#[]⟩, .int .u32 0, .int .i64 0, .int .u64 0], .int .i64 0, .int .i64 5] := rfl

theorem refTake_any (l : List UInt8) (hl : l.length ≤ 1048576) (w : World) :
    Calls Tryz.prog 79 #[.string (txt l)] w fun e w' => e = .returned (tkV (take l)) ∧ Below w.heap.size w w' := by
  have hs := txt_size l
  have cU := hide (upIs l)
  have cC := hide (crcIs l hl)
  by_cases h0 : l.length = 0
  · have hn : l = [] := List.eq_nil_of_length_eq_zero h0
    have E : ended l = true := by simp [ended, h0]
    rw [show take l = .none by simp [take, E], tk_none]
    exact refTake_n1 (txt l) w (by rw [txt_list, hn]; rfl)
  have hne : (txt l).toList.isEmpty = false := by
    rw [txt_list]
    cases l with
    | nil => simp at h0
    | cons a r => rfl
  have hs0 : 0 < (txt l).size := by omega
  by_cases hz : l.getD 0 0 = 0
  · have E : ended l = true := by simp only [ended, decide_eq_true hz, Bool.or_true]
    rw [show take l = .none by simp [take, E], tk_none]
    exact refTake_n2 (txt l) w hne hs0 (fun h' => by have := byte_is l 0 0 (by rw [hz]; rfl) h'; simpa using this)
  have E : ended l = false := by simp only [ended, decide_eq_false hz, decide_eq_false h0, Bool.or_self]
  have hk0 : 1 ≤ (l.getD 0 0).toNat := by
    rcases Nat.eq_zero_or_pos (l.getD 0 0).toNat with h | h
    · exact absurd (UInt8.toNat_inj.1 h) hz
    · exact h
  have e0 := byte_is l 0 _ rfl
  have hk255 : (l.getD 0 0).toNat ≤ 255 := by have := (l.getD 0 0).toNat_lt; omega
  have hs63 : (txt l).size ≤ 1048576 := by omega
  by_cases h32 : (txt l).size < 32
  · have F : form1 l = false := by
      have : ¬ 32 ≤ l.length := by omega
      simp only [form1, decide_eq_false this, Bool.false_and]
    rw [show take l = .bad by simp [take, E, F], tk_bad]
    exact refTake_a1 (txt l) _ _ cU cC w hne hs63 hs0 _ e0 hk0 h32
  have h32l : 32 ≤ l.length := by omega
  have h32i : (32 : Int) ≤ ((txt l).size : Int) := by omega
  have hs3 : 3 < (txt l).size := by omega
  by_cases h82 : l.getD 3 0 = 82
  rotate_left
  · have F : form1 l = false := by simp only [form1, decide_eq_false h82, Bool.and_false, Bool.false_and]
    rw [show take l = .bad by simp [take, E, F], tk_bad]
    exact refTake_a2 (txt l) _ _ cU cC w hne hs63 hs0 _ e0 hk0 h32i hs3 _ (fun he => h82 (by
      have : (l.getD 3 0).toNat = (82 : UInt8).toNat := he
      exact UInt8.toNat_inj.1 this)) (byte_is l 3 _ rfl)
  have e3 : ∀ h' : 3 < (txt l).size, (((txt l)[3]'h').toNat : Int) = 82 := byte_is l 3 82 (by rw [h82]; rfl)
  by_cases h24 : up (sl l 24 28) = crcN (sl l 0 24)
  rotate_left
  · have F : form1 l = false := by simp only [form1, decide_eq_false h24, Bool.and_false]
    rw [show take l = .bad by simp [take, E, F], tk_bad]
    exact refTake_a3 (txt l) _ _ cU cC w hne hs63 hs0 _ e0 hk0 h32i hs3 e3 h24
  have F1 : form1 l = true := by simp only [form1, decide_eq_true h32l, decide_eq_true h82, decide_eq_true h24, Bool.and_self]
  have hv16 : up (sl l 1 3) ≤ 65535 := by have := up_lt (sl l 1 3); rw [sl_length _ _ _ (by omega)] at this; simp at this; omega
  have ek : tkKey l = (l.getD 0 0).toNat := rfl
  have ev : tkVal l = up (sl l 1 3) := rfl
  have er : tkVer l = up (sl l 16 24) := rfl
  have el : tkLen l = 32 + tkKey l + tkVal l := rfl
  have bad : form2 l = false → take l = .bad := fun F2 => by simp [take, E, F1, F2]
  have f2 : form2 l = (mayBe (tkKey l) (tkVal l) (tkVer l) && decide (tkLen l ≤ l.length) && decide (up (sl l 28 32) = crcN (sl l 32 (tkLen l)))) := rfl
  rw [← ek] at e0 hk0 hk255
  by_cases hk1 : tkKey l ≤ 250
  rotate_left
  · rw [bad (by rw [f2]; simp [mayBe, hk1]), tk_bad]
    exact refTake_b1 (txt l) _ _ cU cC w hne hs63 hs0 _ e0 hk0 h32i hs3 e3 (tkVal l) hk255 rfl hv16 h24 (by omega)
  by_cases hv1 : tkVal l ≤ 1024
  rotate_left
  · rw [bad (by rw [f2]; simp [mayBe, hv1]), tk_bad]
    exact refTake_b2 (txt l) _ _ cU cC w hne hs63 hs0 _ e0 hk0 h32i hs3 e3 (tkVal l) hk255 rfl hv16 h24 hk1 (by omega)
  by_cases hr : tkVer l = 0
  · rw [bad (by rw [f2]; simp [mayBe, hr]), tk_bad]
    exact refTake_b3 (txt l) _ _ cU cC w hne hs63 hs0 _ e0 hk0 h32i hs3 e3 (tkVal l) hk255 rfl hv16 h24 hk1 hv1 hr
  have hr0 : 0 < tkVer l := Nat.pos_of_ne_zero hr
  by_cases hn : tkLen l ≤ l.length
  rotate_left
  · rw [bad (by rw [f2]; simp [hn]), tk_bad]
    exact refTake_b4 (txt l) _ _ cU cC w hne hs63 hs0 _ e0 hk0 h32i hs3 e3 (tkVal l) hk255 rfl hv16 h24 hk1 hv1 hr0 (by omega)
  by_cases h28 : up (sl l 28 32) = crcN (sl l 32 (tkLen l))
  rotate_left
  · rw [bad (by rw [f2]; simp [h28]), tk_bad]
    exact refTake_b5 (txt l) _ _ cU cC w hne hs63 hs0 _ e0 hk0 h32i hs3 e3 (tkVal l) hk255 rfl hv16 h24 hk1 hv1 hr0 (by omega) h28
  have F2 : form2 l = true := by
    rw [f2]
    have h1 : 1 ≤ tkKey l := hk0
    simp [mayBe, hk1, hv1, hr0, hn, h28, h1]
  rw [show take l = .ok (tkItem l) (tkLen l) by simp [take, E, F1, F2]]
  refine (refTake_good (txt l) _ _ cU cC w hne hs63 hs0 _ e0 hk0 h32i hs3 e3 (tkVal l) hk255 rfl hv16 h24 hk1 hv1 hr0 (by omega) h28).mono ?_
  rintro e w' ⟨rfl, hb⟩
  refine ⟨?_, hb⟩
  congr 1
  show _ = Value.tuple #[itV (txt (tkItem l).key) (txt (tkItem l).value) ((tkItem l).flags : Int) (tkItem l).exp ((tkItem l).ver : Int), .int .i64 (tkLen l : Int), .int .i64 0]
  have F3 : up (sl l 4 8) < 4294967296 := by have := up_lt (sl l 4 8); rw [sl_length _ _ _ (by omega)] at this; exact this
  have X3 : up (sl l 8 16) < 18446744073709551616 := by have := up_lt (sl l 8 16); rw [sl_length _ _ _ (by omega)] at this; exact this
  have e1 : IntKind.u32.wrap (up (sl l 4 8) : Int) = (up (sl l 4 8) : Int) := by rw [IntKind.wrap_u32']; omega
  have e2 : IntKind.i64.wrap (up (sl l 8 16) : Int) = i64 (up (sl l 8 16)) := by rw [IntKind.wrap_i64]; unfold i64; split <;> omega
  rw [txt_extract, txt_extract, e1, e2]
  rfl
end Go.Proofs.YtbccnfbombgdmaaGreat
