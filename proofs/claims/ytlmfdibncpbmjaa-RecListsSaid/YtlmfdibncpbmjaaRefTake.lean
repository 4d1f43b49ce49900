/- 'Take' of the reckoning side. -/
import Derived.Test.YtlmfdibncpbmjaaUp
import Derived.Test.YtlmfdibncpbmjaaRefLow
import Derived.Deep.RegionHeld3
set_option linter.unusedVariables false
set_option linter.unusedSimpArgs false
namespace Go.Proofs.Ytlmfdibncpbmjaa
open Go.RowKit Go.Deep Math

def UpIs (s : ByteArray) (U : Nat → Nat → Nat) : Prop := ∀ (W : World) (i j : Nat), i ≤ j → j ≤ s.size → j - i ≤ 8 → Calls Try.prog 33 #[.string (s.extract i j)] W fun e w' => e = .returned (.int .u64 (U i j : Int)) ∧ w' = W
def CrcIs (s : ByteArray) (C : Nat → Nat → Nat) : Prop := ∀ (W : World) (i j : Nat), j ≤ s.size → Calls Try.prog 32 #[.string (s.extract i j)] W fun e w' => e = .returned (.int .u64 (C i j : Int)) ∧ Below W.heap.size W w'
theorem box_cells {w W : World} (h : Aft (w.heap.size + 1) (w.alloc zeroBox) W) : Blk W w.heap.size [.string ⟨#[]⟩, .string ⟨#[]⟩, .int .u32 0, .int .i64 0, .int .u64 0] 30 :=
  (Blk.new w [.string ⟨#[]⟩, .string ⟨#[]⟩, .int .u32 0, .int .i64 0, .int .u64 0] 30).same (h.below.block _ (by omega))

theorem stage {X : World → Prop} {G : Prop} {S : World → Prop} (h1 : (∀ W, S W → X W) → G) (h2 : ∀ W, S W → X W) : G := h1 h2

set_option maxHeartbeats 2000000 in
theorem refTake_good (s : ByteArray) (U C : Nat → Nat → Nat) (cU : Hid (UpIs s U)) (cC : Hid (CrcIs s C)) (w : World) (he : s.toList.isEmpty = false) (hs63 : s.size ≤ 1048576) (hs0 : 0 < s.size) (k : Nat) (e0 : ∀ h : 0 < s.size, ((s[0]'h).toNat : Int) = (k : Int)) (hk0 : 1 ≤ k) (h32 : (32 : Int) ≤ (s.size : Int)) (hs3 : 3 < s.size) (e3 : ∀ h : 3 < s.size, ((s[3]'h).toNat : Int) = 82) (v : Nat) (hk255 : k ≤ 255) (hv : U 1 3 = v) (hv16 : v ≤ 65535) (h24 : U 24 28 = C 0 24) (hk1 : k ≤ 250) (hv1 : v ≤ 1024) (hver : 0 < U 16 24) (hlen : 32 + k + v ≤ s.size) (h28 : U 28 32 = C 32 (32 + k + v)) :
    Calls Try.prog 20 #[.string s] w fun e w' => e = .returned (.tuple #[.agg #[.string (s.extract 32 (32 + k)), .string (s.extract (32 + k) (32 + k + v)), .int .u32 (IntKind.u32.wrap (U 4 8 : Int)), .int .i64 (IntKind.i64.wrap (U 8 16 : Int)), .int .u64 (U 16 24 : Int)], .int .i64 (32 + k + v : Nat), .int .i64 0]) ∧ Below w.heap.size w w' := by
  have A := hide (Aft.new w zeroBox)
  have p0 : ((k : Int) == 0) = false := by simp; omega
  have b28 : (28 : Int) ≤ (s.size : Int) := by omega
  have b24 : (24 : Int) ≤ (s.size : Int) := by omega
  have b16 : (16 : Int) ≤ (s.size : Int) := by omega
  have b8 : (8 : Int) ≤ (s.size : Int) := by omega
  have b3 : (3 : Int) ≤ (s.size : Int) := by omega
  have hlt : ((s.size : Int) < 32) = False := eq_false (by omega)
  have h24' : (U 24 28 : Int) = (C 0 24 : Int) := by omega
  have hwk : wrap64 (k : Int) = (k : Int) := by unfold wrap64; omega
  have hwv : IntKind.i64.wrap (v : Int) = (v : Int) := by rw [IntKind.wrap_i64]; omega
  have r1 : IntKind.i64.wrap ((32 : Int) + (k : Int)) = (32 : Int) + (k : Int) := by rw [IntKind.wrap_i64]; omega
  have r2 : IntKind.i64.wrap ((32 : Int) + (k : Int) + (v : Int)) = (32 : Int) + (k : Int) + (v : Int) := by rw [IntKind.wrap_i64]; omega
  have r3 : (32 : Int) ≤ (32 : Int) + (k : Int) + (v : Int) := by omega
  have r4 : (0 : Int) ≤ (32 : Int) + (k : Int) + (v : Int) := by omega
  have q1 : ((32 : Int) + (k : Int) + (v : Int)).toNat = 32 + k + v := by omega
  have q2 : (32 : Int) + (k : Int) + (v : Int) ≤ (s.size : Int) := by omega
  have p4 : ((s.size : Int) < 32 + (k : Int) + (v : Int)) = False := eq_false (by omega)
  have p1 : ((250 : Int) < (k : Int)) = False := eq_false (by omega)
  have p2 : ((1024 : Int) < (v : Int)) = False := eq_false (by omega)
  have p3 : ((U 16 24 : Int) == 0) = false := by simp; omega
  have r5 : (32 : Int) ≤ (32 : Int) + (k : Int) := by omega
  have r6 : (32 : Int) + (k : Int) ≤ (32 : Int) + (k : Int) + (v : Int) := by omega
  have r7 : (32 : Int) + (k : Int) ≤ (s.size : Int) := by omega
  have r8 : (0 : Int) ≤ (32 : Int) + (k : Int) := by omega
  have q3 : ((32 : Int) + (k : Int)).toNat = 32 + k := by omega
  have h28' : (U 28 32 : Int) = (C 32 (32 + k + v) : Int) := by omega
  clear h28
  go_enter Try.func20, Try.ntmps20
  go_wp2_with fail
  replace A := hide A.out.drew
  clear h24
  apply stage (S := fun W => Aft (w.heap.size + 1) (w.alloc zeroBox) W)
  · intro H
    go_region_held3 (fun W => W.cell? ⟨w.heap.size, 0, none⟩ = some (.string ⟨#[]⟩))
      (exact (box_cells A.out).cell rfl)
      (first
        | (go_at_call 33; refine (cU.out _ _ _ (by omega) (by omega) (by omega)).mono ?_; rintro r wx ⟨rfl, rfl⟩)
        | (go_at_call 32; refine (cC.out _ _ _ (by omega)).mono ?_; rintro r wx ⟨rfl, hx⟩; replace A := hide (A.out.then hx); clear hx))
    all_goals exact H _ A.out
  intro W1 A1
  replace A := hide A1
  clear A1
  go_wp2_with (go_at_call 33; refine (cU.out _ _ _ (by omega) (by omega) (by omega)).mono ?_; rintro r wx ⟨rfl, rfl⟩)
  replace A := hide A.out.drew
  apply stage (S := fun W => Aft (w.heap.size + 1) (w.alloc zeroBox) W)
  · intro H
    go_region_held3 (fun W => W.cell? ⟨w.heap.size, 0, none⟩ = some (.string ⟨#[]⟩))
      (exact (box_cells A.out).cell rfl)
      (first
        | (go_at_call 33; refine (cU.out _ _ _ (by omega) (by omega) (by omega)).mono ?_; rintro r wx ⟨rfl, rfl⟩)
        | (go_at_call 32; refine (cC.out _ _ _ (by omega)).mono ?_; rintro r wx ⟨rfl, hx⟩; replace A := hide (A.out.then hx); clear hx))
    all_goals exact H _ A.out
  intro W2 A1
  replace A := hide A1
  clear A1
  go_wp2_with fail
  have bx := box_cells A.out
  obtain ⟨x0, x1, x2, x3, x4⟩ : W2.cell? ⟨w.heap.size, 0, none⟩ = some (.string ⟨#[]⟩) ∧ W2.cell? ⟨w.heap.size, 1, none⟩ = some (.string ⟨#[]⟩) ∧ W2.cell? ⟨w.heap.size, 2, none⟩ = some (.int .u32 0) ∧ W2.cell? ⟨w.heap.size, 3, none⟩ = some (.int .i64 0) ∧ W2.cell? ⟨w.heap.size, 4, none⟩ = some (.int .u64 0) := ⟨bx.cell rfl, bx.cell rfl, bx.cell rfl, bx.cell rfl, bx.cell rfl⟩
  have y0 := bx.frozen 0
  have y1 := bx.frozen 1
  have y2 := bx.frozen 2
  have y3 := bx.frozen 3
  have y4 := bx.frozen 4
  clear bx
  go_region_held3 (fun W => True)
    (trivial)
    (first
      | (go_at_call 33; refine (cU.out _ _ _ (by omega) (by omega) (by omega)).mono ?_; rintro r wx ⟨rfl, rfl⟩))
  all_goals go_wp2
  all_goals (
    refine bodyPost_ret (v := .tuple #[.agg #[.string (s.extract 32 (32 + k)), .string (s.extract (32 + k) (32 + k + v)), .int .u32 (IntKind.u32.wrap (U 4 8 : Int)), .int .i64 (IntKind.i64.wrap (U 8 16 : Int)), .int .u64 (U 16 24 : Int)], .int .i64 (32 + k + v : Nat), .int .i64 0]) ?_ rfl ⟨rfl, ?_⟩
    · have ew1 : IntKind.u32.wrap (U 4 8 : Int) = (U 4 8 : Int) % 4294967296 := IntKind.wrap_u32' _
      have ew2 : IntKind.i64.wrap (U 8 16 : Int) = wrap64 (U 8 16 : Int) := by rw [IntKind.wrap_i64]; unfold wrap64; omega
      simp [results, Try.results20, go_sem, x0, x1, x2, x3, x4, ew1, ew2]
    · exact (below_box (w := w) (V := W2) A.out.old _ _ _ _ _).drew)

set_option maxHeartbeats 2000000 in
theorem refTake_b5 (s : ByteArray) (U C : Nat → Nat → Nat) (cU : Hid (UpIs s U)) (cC : Hid (CrcIs s C)) (w : World) (he : s.toList.isEmpty = false) (hs63 : s.size ≤ 1048576) (hs0 : 0 < s.size) (k : Nat) (e0 : ∀ h : 0 < s.size, ((s[0]'h).toNat : Int) = (k : Int)) (hk0 : 1 ≤ k) (h32 : (32 : Int) ≤ (s.size : Int)) (hs3 : 3 < s.size) (e3 : ∀ h : 3 < s.size, ((s[3]'h).toNat : Int) = 82) (v : Nat) (hk255 : k ≤ 255) (hv : U 1 3 = v) (hv16 : v ≤ 65535) (h24 : U 24 28 = C 0 24) (hk1 : k ≤ 250) (hv1 : v ≤ 1024) (hver : 0 < U 16 24) (hlen : 32 + k + v ≤ s.size) (h28 : U 28 32 ≠ C 32 (32 + k + v)) :
    Calls Try.prog 20 #[.string s] w fun e w' => e = .returned (.tuple #[.agg #[.string ⟨#[]⟩, .string ⟨#[]⟩, .int .u32 0, .int .i64 0, .int .u64 0], .int .i64 0, .int .i64 3]) ∧ Below w.heap.size w w' := by
  have A := hide (Aft.new w zeroBox)
  have p0 : ((k : Int) == 0) = false := by simp; omega
  have b28 : (28 : Int) ≤ (s.size : Int) := by omega
  have b24 : (24 : Int) ≤ (s.size : Int) := by omega
  have b16 : (16 : Int) ≤ (s.size : Int) := by omega
  have b8 : (8 : Int) ≤ (s.size : Int) := by omega
  have b3 : (3 : Int) ≤ (s.size : Int) := by omega
  have hlt : ((s.size : Int) < 32) = False := eq_false (by omega)
  have h24' : (U 24 28 : Int) = (C 0 24 : Int) := by omega
  have hwk : wrap64 (k : Int) = (k : Int) := by unfold wrap64; omega
  have hwv : IntKind.i64.wrap (v : Int) = (v : Int) := by rw [IntKind.wrap_i64]; omega
  have r1 : IntKind.i64.wrap ((32 : Int) + (k : Int)) = (32 : Int) + (k : Int) := by rw [IntKind.wrap_i64]; omega
  have r2 : IntKind.i64.wrap ((32 : Int) + (k : Int) + (v : Int)) = (32 : Int) + (k : Int) + (v : Int) := by rw [IntKind.wrap_i64]; omega
  have r3 : (32 : Int) ≤ (32 : Int) + (k : Int) + (v : Int) := by omega
  have r4 : (0 : Int) ≤ (32 : Int) + (k : Int) + (v : Int) := by omega
  have q1 : ((32 : Int) + (k : Int) + (v : Int)).toNat = 32 + k + v := by omega
  have q2 : (32 : Int) + (k : Int) + (v : Int) ≤ (s.size : Int) := by omega
  have p4 : ((s.size : Int) < 32 + (k : Int) + (v : Int)) = False := eq_false (by omega)
  have p1 : ((250 : Int) < (k : Int)) = False := eq_false (by omega)
  have p2 : ((1024 : Int) < (v : Int)) = False := eq_false (by omega)
  have p3 : ((U 16 24 : Int) == 0) = false := by simp; omega
  have h28' : ¬ ((U 28 32 : Int) = (C 32 (32 + k + v) : Int)) := by omega
  clear h28
  go_enter Try.func20, Try.ntmps20
  go_wp2_with fail
  replace A := hide A.out.drew
  clear h24
  apply stage (S := fun W => Aft (w.heap.size + 1) (w.alloc zeroBox) W)
  · intro H
    go_region_held3 (fun W => W.cell? ⟨w.heap.size, 0, none⟩ = some (.string ⟨#[]⟩))
      (exact (box_cells A.out).cell rfl)
      (first
        | (go_at_call 33; refine (cU.out _ _ _ (by omega) (by omega) (by omega)).mono ?_; rintro r wx ⟨rfl, rfl⟩)
        | (go_at_call 32; refine (cC.out _ _ _ (by omega)).mono ?_; rintro r wx ⟨rfl, hx⟩; replace A := hide (A.out.then hx); clear hx))
    all_goals exact H _ A.out
  intro W1 A1
  replace A := hide A1
  clear A1
  go_wp2_with (go_at_call 33; refine (cU.out _ _ _ (by omega) (by omega) (by omega)).mono ?_; rintro r wx ⟨rfl, rfl⟩)
  replace A := hide A.out.drew
  apply stage (S := fun W => Aft (w.heap.size + 1) (w.alloc zeroBox) W)
  · intro H
    go_region_held3 (fun W => W.cell? ⟨w.heap.size, 0, none⟩ = some (.string ⟨#[]⟩))
      (exact (box_cells A.out).cell rfl)
      (first
        | (go_at_call 33; refine (cU.out _ _ _ (by omega) (by omega) (by omega)).mono ?_; rintro r wx ⟨rfl, rfl⟩)
        | (go_at_call 32; refine (cC.out _ _ _ (by omega)).mono ?_; rintro r wx ⟨rfl, hx⟩; replace A := hide (A.out.then hx); clear hx))
    all_goals exact H _ A.out
  intro W2 A1
  replace A := hide A1
  clear A1
  have bx := box_cells A.out
  obtain ⟨x0, x1, x2, x3, x4⟩ : W2.cell? ⟨w.heap.size, 0, none⟩ = some (.string ⟨#[]⟩) ∧ W2.cell? ⟨w.heap.size, 1, none⟩ = some (.string ⟨#[]⟩) ∧ W2.cell? ⟨w.heap.size, 2, none⟩ = some (.int .u32 0) ∧ W2.cell? ⟨w.heap.size, 3, none⟩ = some (.int .i64 0) ∧ W2.cell? ⟨w.heap.size, 4, none⟩ = some (.int .u64 0) := ⟨bx.cell rfl, bx.cell rfl, bx.cell rfl, bx.cell rfl, bx.cell rfl⟩
  have y0 := bx.frozen 0
  have y1 := bx.frozen 1
  have y2 := bx.frozen 2
  have y3 := bx.frozen 3
  have y4 := bx.frozen 4
  clear bx
  go_wp2
  exact bodyPost_ret (v := .tuple #[.agg #[.string ⟨#[]⟩, .string ⟨#[]⟩, .int .u32 0, .int .i64 0, .int .u64 0], .int .i64 0, .int .i64 3]) (by simp [results, Try.results20, go_sem, x0, x1, x2, x3, x4]) rfl ⟨rfl, below_box A.out.old _ _ _ _ _⟩

end Go.Proofs.Ytlmfdibncpbmjaa
