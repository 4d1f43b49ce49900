/- 'Take' of the reckoning side: what has no form. -/
import Derived.Test.YtlmfdibncpbmjaaRefTake
set_option linter.unusedVariables false
set_option linter.unusedSimpArgs false
namespace Go.Proofs.Ytlmfdibncpbmjaa
open Go.RowKit Go.Deep Math

set_option maxHeartbeats 2000000 in
theorem refTake_b1 (s : ByteArray) (U C : Nat → Nat → Nat) (cU : Hid (UpIs s U)) (cC : Hid (CrcIs s C)) (w : World) (he : s.toList.isEmpty = false) (hs63 : s.size ≤ 1048576) (hs0 : 0 < s.size) (k : Nat) (e0 : ∀ h : 0 < s.size, ((s[0]'h).toNat : Int) = (k : Int)) (hk0 : 1 ≤ k) (h32 : (32 : Int) ≤ (s.size : Int)) (hs3 : 3 < s.size) (e3 : ∀ h : 3 < s.size, ((s[3]'h).toNat : Int) = 82) (v : Nat) (hk255 : k ≤ 255) (hv : U 1 3 = v) (hv16 : v ≤ 65535) (h24 : U 24 28 = C 0 24) (h : 250 < k) :
    Calls Try.prog 20 #[.string s] w fun e w' => e = .returned (.tuple #[.agg #[.string ⟨#[]⟩, .string ⟨#[]⟩, .int .u32 0, .int .i64 0, .int .u64 0], .int .i64 0, .int .i64 3]) ∧ Below w.heap.size w w' := by
  have A := hide (Aft.new w zeroBox)
  have p0 : ((k : Int) == 0) = false := by simp; omega
  have b28 : (28 : Int) ≤ (s.size : Int) := by omega
  have b24 : (24 : Int) ≤ (s.size : Int) := by omega
  have b16 : (16 : Int) ≤ (s.size : Int) := by omega
  have b8 : (8 : Int) ≤ (s.size : Int) := by omega
  have b3 : (3 : Int) ≤ (s.size : Int) := by omega
  have hlt : ((s.size : Int) < 32) = False := eq_false (by omega)
  have h24' : (U 24 28 : Int) = (C 0 24 : Int) := by omega
  have hwk : wrap64 (k : Int) = (k : Int) := by unfold wrap64; omega
  have hwv : IntKind.i64.wrap (v : Int) = (v : Int) := by rw [IntKind.wrap_i64]; omega
  have p1 : ((250 : Int) < (k : Int)) = True := eq_true (by omega)
  clear h
  go_enter Try.func20, Try.ntmps20
  go_wp2_with fail
  replace A := hide A.out.drew
  clear h24
  apply stage (S := fun W => Aft (w.heap.size + 1) (w.alloc zeroBox) W)
  · intro H
    go_region_held3 (fun W => W.cell? ⟨w.heap.size, 0, none⟩ = some (.string ⟨#[]⟩))
      (exact (box_cells A.out).cell rfl)
      (first
        | (go_at_call 33; refine (cU.out _ _ _ (by omega) (by omega) (by omega)).mono ?_; rintro r wx ⟨rfl, rfl⟩)
        | (go_at_call 32; refine (cC.out _ _ _ (by omega)).mono ?_; rintro r wx ⟨rfl, hx⟩; replace A := hide (A.out.then hx); clear hx))
    all_goals exact H _ A.out
  intro W1 A1
  replace A := hide A1
  clear A1
  go_wp2_with (go_at_call 33; refine (cU.out _ _ _ (by omega) (by omega) (by omega)).mono ?_; rintro r wx ⟨rfl, rfl⟩)
  go_quiet (first | (go_at_call 33; refine Calls.quiet_of_same (cU.out _ _ _ (by omega) (by omega) (by omega))))
  replace A := hide (show Aft (w.heap.size + 1) (w.alloc zeroBox) (wx.drewN nq) from ⟨below_q A.out.below _, A.out.size⟩)
  generalize wx.drewN nq = W2 at A ⊢
  have bx := box_cells A.out
  obtain ⟨x0, x1, x2, x3, x4⟩ : W2.cell? ⟨w.heap.size, 0, none⟩ = some (.string ⟨#[]⟩) ∧ W2.cell? ⟨w.heap.size, 1, none⟩ = some (.string ⟨#[]⟩) ∧ W2.cell? ⟨w.heap.size, 2, none⟩ = some (.int .u32 0) ∧ W2.cell? ⟨w.heap.size, 3, none⟩ = some (.int .i64 0) ∧ W2.cell? ⟨w.heap.size, 4, none⟩ = some (.int .u64 0) := ⟨bx.cell rfl, bx.cell rfl, bx.cell rfl, bx.cell rfl, bx.cell rfl⟩
  have y0 := bx.frozen 0
  have y1 := bx.frozen 1
  have y2 := bx.frozen 2
  have y3 := bx.frozen 3
  have y4 := bx.frozen 4
  clear bx
  go_wp2
  exact bodyPost_ret (v := .tuple #[.agg #[.string ⟨#[]⟩, .string ⟨#[]⟩, .int .u32 0, .int .i64 0, .int .u64 0], .int .i64 0, .int .i64 3]) (by simp [results, Try.results20, go_sem, x0, x1, x2, x3, x4]) rfl ⟨rfl, below_box A.out.old _ _ _ _ _⟩

set_option maxHeartbeats 2000000 in
theorem refTake_b2 (s : ByteArray) (U C : Nat → Nat → Nat) (cU : Hid (UpIs s U)) (cC : Hid (CrcIs s C)) (w : World) (he : s.toList.isEmpty = false) (hs63 : s.size ≤ 1048576) (hs0 : 0 < s.size) (k : Nat) (e0 : ∀ h : 0 < s.size, ((s[0]'h).toNat : Int) = (k : Int)) (hk0 : 1 ≤ k) (h32 : (32 : Int) ≤ (s.size : Int)) (hs3 : 3 < s.size) (e3 : ∀ h : 3 < s.size, ((s[3]'h).toNat : Int) = 82) (v : Nat) (hk255 : k ≤ 255) (hv : U 1 3 = v) (hv16 : v ≤ 65535) (h24 : U 24 28 = C 0 24) (hk1 : k ≤ 250) (h : 1024 < v) :
    Calls Try.prog 20 #[.string s] w fun e w' => e = .returned (.tuple #[.agg #[.string ⟨#[]⟩, .string ⟨#[]⟩, .int .u32 0, .int .i64 0, .int .u64 0], .int .i64 0, .int .i64 3]) ∧ Below w.heap.size w w' := by
  have A := hide (Aft.new w zeroBox)
  have p0 : ((k : Int) == 0) = false := by simp; omega
  have b28 : (28 : Int) ≤ (s.size : Int) := by omega
  have b24 : (24 : Int) ≤ (s.size : Int) := by omega
  have b16 : (16 : Int) ≤ (s.size : Int) := by omega
  have b8 : (8 : Int) ≤ (s.size : Int) := by omega
  have b3 : (3 : Int) ≤ (s.size : Int) := by omega
  have hlt : ((s.size : Int) < 32) = False := eq_false (by omega)
  have h24' : (U 24 28 : Int) = (C 0 24 : Int) := by omega
  have hwk : wrap64 (k : Int) = (k : Int) := by unfold wrap64; omega
  have hwv : IntKind.i64.wrap (v : Int) = (v : Int) := by rw [IntKind.wrap_i64]; omega
  have p1 : ((250 : Int) < (k : Int)) = False := eq_false (by omega)
  have p2 : ((1024 : Int) < (v : Int)) = True := eq_true (by omega)
  clear h
  go_enter Try.func20, Try.ntmps20
  go_wp2_with fail
  replace A := hide A.out.drew
  clear h24
  apply stage (S := fun W => Aft (w.heap.size + 1) (w.alloc zeroBox) W)
  · intro H
    go_region_held3 (fun W => W.cell? ⟨w.heap.size, 0, none⟩ = some (.string ⟨#[]⟩))
      (exact (box_cells A.out).cell rfl)
      (first
        | (go_at_call 33; refine (cU.out _ _ _ (by omega) (by omega) (by omega)).mono ?_; rintro r wx ⟨rfl, rfl⟩)
        | (go_at_call 32; refine (cC.out _ _ _ (by omega)).mono ?_; rintro r wx ⟨rfl, hx⟩; replace A := hide (A.out.then hx); clear hx))
    all_goals exact H _ A.out
  intro W1 A1
  replace A := hide A1
  clear A1
  go_wp2_with (go_at_call 33; refine (cU.out _ _ _ (by omega) (by omega) (by omega)).mono ?_; rintro r wx ⟨rfl, rfl⟩)
  go_quiet (first | (go_at_call 33; refine Calls.quiet_of_same (cU.out _ _ _ (by omega) (by omega) (by omega))))
  replace A := hide (show Aft (w.heap.size + 1) (w.alloc zeroBox) (wx.drewN nq) from ⟨below_q A.out.below _, A.out.size⟩)
  generalize wx.drewN nq = W2 at A ⊢
  have bx := box_cells A.out
  obtain ⟨x0, x1, x2, x3, x4⟩ : W2.cell? ⟨w.heap.size, 0, none⟩ = some (.string ⟨#[]⟩) ∧ W2.cell? ⟨w.heap.size, 1, none⟩ = some (.string ⟨#[]⟩) ∧ W2.cell? ⟨w.heap.size, 2, none⟩ = some (.int .u32 0) ∧ W2.cell? ⟨w.heap.size, 3, none⟩ = some (.int .i64 0) ∧ W2.cell? ⟨w.heap.size, 4, none⟩ = some (.int .u64 0) := ⟨bx.cell rfl, bx.cell rfl, bx.cell rfl, bx.cell rfl, bx.cell rfl⟩
  have y0 := bx.frozen 0
  have y1 := bx.frozen 1
  have y2 := bx.frozen 2
  have y3 := bx.frozen 3
  have y4 := bx.frozen 4
  clear bx
  go_wp2
  exact bodyPost_ret (v := .tuple #[.agg #[.string ⟨#[]⟩, .string ⟨#[]⟩, .int .u32 0, .int .i64 0, .int .u64 0], .int .i64 0, .int .i64 3]) (by simp [results, Try.results20, go_sem, x0, x1, x2, x3, x4]) rfl ⟨rfl, below_box A.out.old _ _ _ _ _⟩

set_option maxHeartbeats 2000000 in
theorem refTake_b3 (s : ByteArray) (U C : Nat → Nat → Nat) (cU : Hid (UpIs s U)) (cC : Hid (CrcIs s C)) (w : World) (he : s.toList.isEmpty = false) (hs63 : s.size ≤ 1048576) (hs0 : 0 < s.size) (k : Nat) (e0 : ∀ h : 0 < s.size, ((s[0]'h).toNat : Int) = (k : Int)) (hk0 : 1 ≤ k) (h32 : (32 : Int) ≤ (s.size : Int)) (hs3 : 3 < s.size) (e3 : ∀ h : 3 < s.size, ((s[3]'h).toNat : Int) = 82) (v : Nat) (hk255 : k ≤ 255) (hv : U 1 3 = v) (hv16 : v ≤ 65535) (h24 : U 24 28 = C 0 24) (hk1 : k ≤ 250) (hv1 : v ≤ 1024) (h : U 16 24 = 0) :
    Calls Try.prog 20 #[.string s] w fun e w' => e = .returned (.tuple #[.agg #[.string ⟨#[]⟩, .string ⟨#[]⟩, .int .u32 0, .int .i64 0, .int .u64 0], .int .i64 0, .int .i64 3]) ∧ Below w.heap.size w w' := by
  have A := hide (Aft.new w zeroBox)
  have p0 : ((k : Int) == 0) = false := by simp; omega
  have b28 : (28 : Int) ≤ (s.size : Int) := by omega
  have b24 : (24 : Int) ≤ (s.size : Int) := by omega
  have b16 : (16 : Int) ≤ (s.size : Int) := by omega
  have b8 : (8 : Int) ≤ (s.size : Int) := by omega
  have b3 : (3 : Int) ≤ (s.size : Int) := by omega
  have hlt : ((s.size : Int) < 32) = False := eq_false (by omega)
  have h24' : (U 24 28 : Int) = (C 0 24 : Int) := by omega
  have hwk : wrap64 (k : Int) = (k : Int) := by unfold wrap64; omega
  have hwv : IntKind.i64.wrap (v : Int) = (v : Int) := by rw [IntKind.wrap_i64]; omega
  have p1 : ((250 : Int) < (k : Int)) = False := eq_false (by omega)
  have p2 : ((1024 : Int) < (v : Int)) = False := eq_false (by omega)
  have p3 : ((U 16 24 : Int) == 0) = true := by simp; omega
  clear h
  go_enter Try.func20, Try.ntmps20
  go_wp2_with fail
  replace A := hide A.out.drew
  clear h24
  apply stage (S := fun W => Aft (w.heap.size + 1) (w.alloc zeroBox) W)
  · intro H
    go_region_held3 (fun W => W.cell? ⟨w.heap.size, 0, none⟩ = some (.string ⟨#[]⟩))
      (exact (box_cells A.out).cell rfl)
      (first
        | (go_at_call 33; refine (cU.out _ _ _ (by omega) (by omega) (by omega)).mono ?_; rintro r wx ⟨rfl, rfl⟩)
        | (go_at_call 32; refine (cC.out _ _ _ (by omega)).mono ?_; rintro r wx ⟨rfl, hx⟩; replace A := hide (A.out.then hx); clear hx))
    all_goals exact H _ A.out
  intro W1 A1
  replace A := hide A1
  clear A1
  go_wp2_with (go_at_call 33; refine (cU.out _ _ _ (by omega) (by omega) (by omega)).mono ?_; rintro r wx ⟨rfl, rfl⟩)
  go_quiet (first | (go_at_call 33; refine Calls.quiet_of_same (cU.out _ _ _ (by omega) (by omega) (by omega))))
  replace A := hide (show Aft (w.heap.size + 1) (w.alloc zeroBox) (wx.drewN nq) from ⟨below_q A.out.below _, A.out.size⟩)
  generalize wx.drewN nq = W2 at A ⊢
  have bx := box_cells A.out
  obtain ⟨x0, x1, x2, x3, x4⟩ : W2.cell? ⟨w.heap.size, 0, none⟩ = some (.string ⟨#[]⟩) ∧ W2.cell? ⟨w.heap.size, 1, none⟩ = some (.string ⟨#[]⟩) ∧ W2.cell? ⟨w.heap.size, 2, none⟩ = some (.int .u32 0) ∧ W2.cell? ⟨w.heap.size, 3, none⟩ = some (.int .i64 0) ∧ W2.cell? ⟨w.heap.size, 4, none⟩ = some (.int .u64 0) := ⟨bx.cell rfl, bx.cell rfl, bx.cell rfl, bx.cell rfl, bx.cell rfl⟩
  have y0 := bx.frozen 0
  have y1 := bx.frozen 1
  have y2 := bx.frozen 2
  have y3 := bx.frozen 3
  have y4 := bx.frozen 4
  clear bx
  go_wp2
  exact bodyPost_ret (v := .tuple #[.agg #[.string ⟨#[]⟩, .string ⟨#[]⟩, .int .u32 0, .int .i64 0, .int .u64 0], .int .i64 0, .int .i64 3]) (by simp [results, Try.results20, go_sem, x0, x1, x2, x3, x4]) rfl ⟨rfl, below_box A.out.old _ _ _ _ _⟩

set_option maxHeartbeats 2000000 in
theorem refTake_b4 (s : ByteArray) (U C : Nat → Nat → Nat) (cU : Hid (UpIs s U)) (cC : Hid (CrcIs s C)) (w : World) (he : s.toList.isEmpty = false) (hs63 : s.size ≤ 1048576) (hs0 : 0 < s.size) (k : Nat) (e0 : ∀ h : 0 < s.size, ((s[0]'h).toNat : Int) = (k : Int)) (hk0 : 1 ≤ k) (h32 : (32 : Int) ≤ (s.size : Int)) (hs3 : 3 < s.size) (e3 : ∀ h : 3 < s.size, ((s[3]'h).toNat : Int) = 82) (v : Nat) (hk255 : k ≤ 255) (hv : U 1 3 = v) (hv16 : v ≤ 65535) (h24 : U 24 28 = C 0 24) (hk1 : k ≤ 250) (hv1 : v ≤ 1024) (hver : 0 < U 16 24) (h : s.size < 32 + k + v) :
    Calls Try.prog 20 #[.string s] w fun e w' => e = .returned (.tuple #[.agg #[.string ⟨#[]⟩, .string ⟨#[]⟩, .int .u32 0, .int .i64 0, .int .u64 0], .int .i64 0, .int .i64 3]) ∧ Below w.heap.size w w' := by
  have A := hide (Aft.new w zeroBox)
  have p0 : ((k : Int) == 0) = false := by simp; omega
  have b28 : (28 : Int) ≤ (s.size : Int) := by omega
  have b24 : (24 : Int) ≤ (s.size : Int) := by omega
  have b16 : (16 : Int) ≤ (s.size : Int) := by omega
  have b8 : (8 : Int) ≤ (s.size : Int) := by omega
  have b3 : (3 : Int) ≤ (s.size : Int) := by omega
  have hlt : ((s.size : Int) < 32) = False := eq_false (by omega)
  have h24' : (U 24 28 : Int) = (C 0 24 : Int) := by omega
  have hwk : wrap64 (k : Int) = (k : Int) := by unfold wrap64; omega
  have hwv : IntKind.i64.wrap (v : Int) = (v : Int) := by rw [IntKind.wrap_i64]; omega
  have r1 : IntKind.i64.wrap ((32 : Int) + (k : Int)) = (32 : Int) + (k : Int) := by rw [IntKind.wrap_i64]; omega
  have r2 : IntKind.i64.wrap ((32 : Int) + (k : Int) + (v : Int)) = (32 : Int) + (k : Int) + (v : Int) := by rw [IntKind.wrap_i64]; omega
  have r3 : (32 : Int) ≤ (32 : Int) + (k : Int) + (v : Int) := by omega
  have r4 : (0 : Int) ≤ (32 : Int) + (k : Int) + (v : Int) := by omega
  have q1 : ((32 : Int) + (k : Int) + (v : Int)).toNat = 32 + k + v := by omega
  have p1 : ((250 : Int) < (k : Int)) = False := eq_false (by omega)
  have p2 : ((1024 : Int) < (v : Int)) = False := eq_false (by omega)
  have p3 : ((U 16 24 : Int) == 0) = false := by simp; omega
  have p4 : ((s.size : Int) < 32 + (k : Int) + (v : Int)) = True := eq_true (by omega)
  clear h
  go_enter Try.func20, Try.ntmps20
  go_wp2_with fail
  replace A := hide A.out.drew
  clear h24
  apply stage (S := fun W => Aft (w.heap.size + 1) (w.alloc zeroBox) W)
  · intro H
    go_region_held3 (fun W => W.cell? ⟨w.heap.size, 0, none⟩ = some (.string ⟨#[]⟩))
      (exact (box_cells A.out).cell rfl)
      (first
        | (go_at_call 33; refine (cU.out _ _ _ (by omega) (by omega) (by omega)).mono ?_; rintro r wx ⟨rfl, rfl⟩)
        | (go_at_call 32; refine (cC.out _ _ _ (by omega)).mono ?_; rintro r wx ⟨rfl, hx⟩; replace A := hide (A.out.then hx); clear hx))
    all_goals exact H _ A.out
  intro W1 A1
  replace A := hide A1
  clear A1
  go_wp2_with (go_at_call 33; refine (cU.out _ _ _ (by omega) (by omega) (by omega)).mono ?_; rintro r wx ⟨rfl, rfl⟩)
  go_quiet (first | (go_at_call 33; refine Calls.quiet_of_same (cU.out _ _ _ (by omega) (by omega) (by omega))))
  replace A := hide (show Aft (w.heap.size + 1) (w.alloc zeroBox) (wx.drewN nq) from ⟨below_q A.out.below _, A.out.size⟩)
  generalize wx.drewN nq = W2 at A ⊢
  have bx := box_cells A.out
  obtain ⟨x0, x1, x2, x3, x4⟩ : W2.cell? ⟨w.heap.size, 0, none⟩ = some (.string ⟨#[]⟩) ∧ W2.cell? ⟨w.heap.size, 1, none⟩ = some (.string ⟨#[]⟩) ∧ W2.cell? ⟨w.heap.size, 2, none⟩ = some (.int .u32 0) ∧ W2.cell? ⟨w.heap.size, 3, none⟩ = some (.int .i64 0) ∧ W2.cell? ⟨w.heap.size, 4, none⟩ = some (.int .u64 0) := ⟨bx.cell rfl, bx.cell rfl, bx.cell rfl, bx.cell rfl, bx.cell rfl⟩
  have y0 := bx.frozen 0
  have y1 := bx.frozen 1
  have y2 := bx.frozen 2
  have y3 := bx.frozen 3
  have y4 := bx.frozen 4
  clear bx
  go_wp2
  exact bodyPost_ret (v := .tuple #[.agg #[.string ⟨#[]⟩, .string ⟨#[]⟩, .int .u32 0, .int .i64 0, .int .u64 0], .int .i64 0, .int .i64 3]) (by simp [results, Try.results20, go_sem, x0, x1, x2, x3, x4]) rfl ⟨rfl, below_box A.out.old _ _ _ _ _⟩

set_option maxHeartbeats 2000000 in
theorem refTake_a1 (s : ByteArray) (U C : Nat → Nat → Nat) (cU : Hid (UpIs s U)) (cC : Hid (CrcIs s C)) (w : World) (he : s.toList.isEmpty = false) (hs63 : s.size ≤ 1048576) (hs0 : 0 < s.size) (k : Nat) (e0 : ∀ h : 0 < s.size, ((s[0]'h).toNat : Int) = (k : Int)) (hk0 : 1 ≤ k) (h : s.size < 32) :
    Calls Try.prog 20 #[.string s] w fun e w' => e = .returned (.tuple #[.agg #[.string ⟨#[]⟩, .string ⟨#[]⟩, .int .u32 0, .int .i64 0, .int .u64 0], .int .i64 0, .int .i64 3]) ∧ Below w.heap.size w w' := by
  have A := hide (Aft.new w zeroBox)
  have p0 : ((k : Int) == 0) = false := by simp; omega
  have hlt : ((s.size : Int) < 32) = True := eq_true (by omega)
  clear h
  go_enter Try.func20, Try.ntmps20
  go_wp2_with fail
  go_quiet (fail)
  replace A := hide (show Aft (w.heap.size + 1) (w.alloc zeroBox) ((w.alloc (.cells #[.string ⟨#[]⟩, .string ⟨#[]⟩, .int .u32 0, .int .i64 0, .int .u64 0] 30)).drewN nq) from ⟨below_q A.out.below _, A.out.size⟩)
  generalize (w.alloc (.cells #[.string ⟨#[]⟩, .string ⟨#[]⟩, .int .u32 0, .int .i64 0, .int .u64 0] 30)).drewN nq = W1 at A ⊢
  have bx := box_cells A.out
  obtain ⟨x0, x1, x2, x3, x4⟩ : W1.cell? ⟨w.heap.size, 0, none⟩ = some (.string ⟨#[]⟩) ∧ W1.cell? ⟨w.heap.size, 1, none⟩ = some (.string ⟨#[]⟩) ∧ W1.cell? ⟨w.heap.size, 2, none⟩ = some (.int .u32 0) ∧ W1.cell? ⟨w.heap.size, 3, none⟩ = some (.int .i64 0) ∧ W1.cell? ⟨w.heap.size, 4, none⟩ = some (.int .u64 0) := ⟨bx.cell rfl, bx.cell rfl, bx.cell rfl, bx.cell rfl, bx.cell rfl⟩
  have y0 := bx.frozen 0
  have y1 := bx.frozen 1
  have y2 := bx.frozen 2
  have y3 := bx.frozen 3
  have y4 := bx.frozen 4
  clear bx
  go_wp2
  exact bodyPost_ret (v := .tuple #[.agg #[.string ⟨#[]⟩, .string ⟨#[]⟩, .int .u32 0, .int .i64 0, .int .u64 0], .int .i64 0, .int .i64 3]) (by simp [results, Try.results20, go_sem, x0, x1, x2, x3, x4]) rfl ⟨rfl, below_box A.out.old _ _ _ _ _⟩

set_option maxHeartbeats 2000000 in
theorem refTake_a2 (s : ByteArray) (U C : Nat → Nat → Nat) (cU : Hid (UpIs s U)) (cC : Hid (CrcIs s C)) (w : World) (he : s.toList.isEmpty = false) (hs63 : s.size ≤ 1048576) (hs0 : 0 < s.size) (k : Nat) (e0 : ∀ h : 0 < s.size, ((s[0]'h).toNat : Int) = (k : Int)) (hk0 : 1 ≤ k) (h32 : (32 : Int) ≤ (s.size : Int)) (hs3 : 3 < s.size) (j : Nat) (hj : j ≠ 82) (e3 : ∀ h : 3 < s.size, ((s[3]'h).toNat : Int) = (j : Int)) :
    Calls Try.prog 20 #[.string s] w fun e w' => e = .returned (.tuple #[.agg #[.string ⟨#[]⟩, .string ⟨#[]⟩, .int .u32 0, .int .i64 0, .int .u64 0], .int .i64 0, .int .i64 3]) ∧ Below w.heap.size w w' := by
  have A := hide (Aft.new w zeroBox)
  have p0 : ((k : Int) == 0) = false := by simp; omega
  have b28 : (28 : Int) ≤ (s.size : Int) := by omega
  have b24 : (24 : Int) ≤ (s.size : Int) := by omega
  have b16 : (16 : Int) ≤ (s.size : Int) := by omega
  have b8 : (8 : Int) ≤ (s.size : Int) := by omega
  have b3 : (3 : Int) ≤ (s.size : Int) := by omega
  have hlt : ((s.size : Int) < 32) = False := eq_false (by omega)
  have p9 : ¬ ((j : Int) = 82) := by omega
  have i3 : (3 : Int) < (s.size : Int) := by omega
  clear hj
  go_enter Try.func20, Try.ntmps20
  go_wp2_with fail
  go_quiet (fail)
  replace A := hide (show Aft (w.heap.size + 1) (w.alloc zeroBox) ((w.alloc (.cells #[.string ⟨#[]⟩, .string ⟨#[]⟩, .int .u32 0, .int .i64 0, .int .u64 0] 30)).drewN nq) from ⟨below_q A.out.below _, A.out.size⟩)
  generalize (w.alloc (.cells #[.string ⟨#[]⟩, .string ⟨#[]⟩, .int .u32 0, .int .i64 0, .int .u64 0] 30)).drewN nq = W1 at A ⊢
  have bx := box_cells A.out
  obtain ⟨x0, x1, x2, x3, x4⟩ : W1.cell? ⟨w.heap.size, 0, none⟩ = some (.string ⟨#[]⟩) ∧ W1.cell? ⟨w.heap.size, 1, none⟩ = some (.string ⟨#[]⟩) ∧ W1.cell? ⟨w.heap.size, 2, none⟩ = some (.int .u32 0) ∧ W1.cell? ⟨w.heap.size, 3, none⟩ = some (.int .i64 0) ∧ W1.cell? ⟨w.heap.size, 4, none⟩ = some (.int .u64 0) := ⟨bx.cell rfl, bx.cell rfl, bx.cell rfl, bx.cell rfl, bx.cell rfl⟩
  have y0 := bx.frozen 0
  have y1 := bx.frozen 1
  have y2 := bx.frozen 2
  have y3 := bx.frozen 3
  have y4 := bx.frozen 4
  clear bx
  go_wp2
  exact bodyPost_ret (v := .tuple #[.agg #[.string ⟨#[]⟩, .string ⟨#[]⟩, .int .u32 0, .int .i64 0, .int .u64 0], .int .i64 0, .int .i64 3]) (by simp [results, Try.results20, go_sem, x0, x1, x2, x3, x4]) rfl ⟨rfl, below_box A.out.old _ _ _ _ _⟩

set_option maxHeartbeats 2000000 in
theorem refTake_a3 (s : ByteArray) (U C : Nat → Nat → Nat) (cU : Hid (UpIs s U)) (cC : Hid (CrcIs s C)) (w : World) (he : s.toList.isEmpty = false) (hs63 : s.size ≤ 1048576) (hs0 : 0 < s.size) (k : Nat) (e0 : ∀ h : 0 < s.size, ((s[0]'h).toNat : Int) = (k : Int)) (hk0 : 1 ≤ k) (h32 : (32 : Int) ≤ (s.size : Int)) (hs3 : 3 < s.size) (e3 : ∀ h : 3 < s.size, ((s[3]'h).toNat : Int) = 82) (h24 : U 24 28 ≠ C 0 24) :
    Calls Try.prog 20 #[.string s] w fun e w' => e = .returned (.tuple #[.agg #[.string ⟨#[]⟩, .string ⟨#[]⟩, .int .u32 0, .int .i64 0, .int .u64 0], .int .i64 0, .int .i64 3]) ∧ Below w.heap.size w w' := by
  have A := hide (Aft.new w zeroBox)
  have p0 : ((k : Int) == 0) = false := by simp; omega
  have b28 : (28 : Int) ≤ (s.size : Int) := by omega
  have b24 : (24 : Int) ≤ (s.size : Int) := by omega
  have b16 : (16 : Int) ≤ (s.size : Int) := by omega
  have b8 : (8 : Int) ≤ (s.size : Int) := by omega
  have b3 : (3 : Int) ≤ (s.size : Int) := by omega
  have hlt : ((s.size : Int) < 32) = False := eq_false (by omega)
  have h24' : ¬ ((U 24 28 : Int) = (C 0 24 : Int)) := by omega
  clear h24
  go_enter Try.func20, Try.ntmps20
  go_wp2_with fail
  replace A := hide A.out.drew
  apply stage (S := fun W => Aft (w.heap.size + 1) (w.alloc zeroBox) W)
  · intro H
    go_region_held3 (fun W => W.cell? ⟨w.heap.size, 0, none⟩ = some (.string ⟨#[]⟩))
      (exact (box_cells A.out).cell rfl)
      (first
        | (go_at_call 33; refine (cU.out _ _ _ (by omega) (by omega) (by omega)).mono ?_; rintro r wx ⟨rfl, rfl⟩)
        | (go_at_call 32; refine (cC.out _ _ _ (by omega)).mono ?_; rintro r wx ⟨rfl, hx⟩; replace A := hide (A.out.then hx); clear hx))
    all_goals exact H _ A.out
  intro W1 A1
  replace A := hide A1
  clear A1
  have bx := box_cells A.out
  obtain ⟨x0, x1, x2, x3, x4⟩ : W1.cell? ⟨w.heap.size, 0, none⟩ = some (.string ⟨#[]⟩) ∧ W1.cell? ⟨w.heap.size, 1, none⟩ = some (.string ⟨#[]⟩) ∧ W1.cell? ⟨w.heap.size, 2, none⟩ = some (.int .u32 0) ∧ W1.cell? ⟨w.heap.size, 3, none⟩ = some (.int .i64 0) ∧ W1.cell? ⟨w.heap.size, 4, none⟩ = some (.int .u64 0) := ⟨bx.cell rfl, bx.cell rfl, bx.cell rfl, bx.cell rfl, bx.cell rfl⟩
  have y0 := bx.frozen 0
  have y1 := bx.frozen 1
  have y2 := bx.frozen 2
  have y3 := bx.frozen 3
  have y4 := bx.frozen 4
  clear bx
  go_wp2
  exact bodyPost_ret (v := .tuple #[.agg #[.string ⟨#[]⟩, .string ⟨#[]⟩, .int .u32 0, .int .i64 0, .int .u64 0], .int .i64 0, .int .i64 3]) (by simp [results, Try.results20, go_sem, x0, x1, x2, x3, x4]) rfl ⟨rfl, below_box A.out.old _ _ _ _ _⟩

set_option maxHeartbeats 2000000 in
theorem refTake_n1 (s : ByteArray) (w : World) (he : s.toList.isEmpty = true) :
    Calls Try.prog 20 #[.string s] w fun e w' => e = .returned (.tuple #[.agg #[.string ⟨#[]⟩, .string ⟨#[]⟩, .int .u32 0, .int .i64 0, .int .u64 0], .int .i64 0, .int .i64 5]) ∧ Below w.heap.size w w' := by
  have A := hide (Aft.new w zeroBox)
  go_enter Try.func20, Try.ntmps20
  go_wp2
  exact bodyPost_ret (v := .tuple #[.agg #[.string ⟨#[]⟩, .string ⟨#[]⟩, .int .u32 0, .int .i64 0, .int .u64 0], .int .i64 0, .int .i64 5]) (by simp [results, Try.results20, go_sem]) rfl ⟨rfl, A.out.old⟩

set_option maxHeartbeats 2000000 in
theorem refTake_n2 (s : ByteArray) (w : World) (he : s.toList.isEmpty = false) (hs0 : 0 < s.size) (e0 : ∀ h : 0 < s.size, ((s[0]'h).toNat : Int) = 0) :
    Calls Try.prog 20 #[.string s] w fun e w' => e = .returned (.tuple #[.agg #[.string ⟨#[]⟩, .string ⟨#[]⟩, .int .u32 0, .int .i64 0, .int .u64 0], .int .i64 0, .int .i64 5]) ∧ Below w.heap.size w w' := by
  have A := hide (Aft.new w zeroBox)
  go_enter Try.func20, Try.ntmps20
  go_wp2
  exact bodyPost_ret (v := .tuple #[.agg #[.string ⟨#[]⟩, .string ⟨#[]⟩, .int .u32 0, .int .i64 0, .int .u64 0], .int .i64 0, .int .i64 5]) (by simp [results, Try.results20, go_sem]) rfl ⟨rfl, A.out.old⟩

end Go.Proofs.Ytlmfdibncpbmjaa
