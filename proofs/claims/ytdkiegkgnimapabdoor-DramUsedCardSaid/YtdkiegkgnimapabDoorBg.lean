/- '==' of items; big. -/
import Derived.Test.YtdkiegkgnimapabDoorDc7
import Derived.Laws.StructEq
import Derived.Lib.ConvBytes
set_option linter.unusedVariables false
set_option linter.unusedSimpArgs false
set_option maxRecDepth 8000
namespace Go.Proofs.YtdkiegkgnimapabDoor
open Go.RowKit Go.Deep Drm Go.Shelf
open Tbl (txt)

def eqI (x y : It) : Bool := decide (x.k = y.k) && (decide (x.v = y.v) && (decide (x.fl = y.fl) && (decide (x.ex = y.ex) && decide (x.ve = y.ve))))
theorem eqI_iff (x y : It) : eqI x y = true ↔ x = y := by
  obtain ⟨a, b, c, d, e⟩ := x
  obtain ⟨a', b', c', d', e'⟩ := y
  simp [eqI]
theorem eqI_refl (x : It) : eqI x x = true := (eqI_iff x x).2 rfl
theorem txt_list (l : List UInt8) : (txt l).toList = l := by
  unfold Tbl.txt
  simp [ByteArray.toList_eq]
theorem run_eql_it (x y : It) (W : World) : (binOp .eql 33 (itV x) (itV y)).run Tryd.prog W = .ok (.bool (eqI x y)) W := by
  unfold itV eqI
  simp [go_sem, txt_list]
  by_cases h0 : x.k = y.k <;> by_cases h1 : x.v = y.v <;> by_cases h2 : x.fl = y.fl <;> by_cases h3 : x.ex = y.ex <;> by_cases h4 : x.ve = y.ve <;> simp [h0, h1, h2, h3, h4]
theorem run_neq_it (x y : It) (W : World) : (binOp .neq 33 (itV x) (itV y)).run Tryd.prog W = .ok (.bool (!eqI x y)) W := by
  unfold itV eqI
  simp [go_sem, txt_list]
  by_cases h0 : x.k = y.k <;> by_cases h1 : x.v = y.v <;> by_cases h2 : x.fl = y.fl <;> by_cases h3 : x.ex = y.ex <;> by_cases h4 : x.ve = y.ve <;> simp [h0, h1, h2, h3, h4]
def bigV : List UInt8 := List.replicate 1024 0
def bigI (k : List UInt8) : It := ⟨k, bigV, 0, 0, 1⟩
theorem bigV_len : bigV.length = 1024 := by simp [bigV]
theorem bigI_ok {k : List UInt8} (h1 : 1 ≤ k.length) (h2 : k.length ≤ 250) : (bigI k).ok := ⟨h1, h2, by show bigV.length ≤ 1024; rw [bigV_len]; omega, by show (0 : Int) ≤ 0 ∧ (0 : Int) ≤ 4294967295; omega, by show (-9223372036854775808 : Int) ≤ 0 ∧ (0 : Int) ≤ 9223372036854775807; omega, by show (0 : Int) < 1 ∧ (1 : Int) ≤ 18446744073709551615; omega⟩
theorem info5 : (Tryd.prog.info? 5).map (fun i => (i.zero, i.size, i.bytes)) = some (some (.int .u8 0), 1, 1) := by kernel_rfl
theorem make1024 (W : World) : (Instr.makeSlice 37 (.int .i64 1024) (.int .i64 1024)).run Tryd.prog W = .ok (.slice (some ⟨W.heap.size, 0, none⟩) 1024 1024) (W.alloc (.cells (List.replicate 1024 (Value.int .u8 0)).toArray 5)) := by
  obtain ⟨i0, hi0, hp0⟩ := Option.map_eq_some_iff.1 info5
  simp only [Prod.mk.injEq] at hp0
  obtain ⟨hz0, hz1, hz2⟩ := hp0
  have h := run_make (P := Tryd.prog) W 37 5 i0 _ Tryd.underlying37 hi0 hz0 .i64 .i64 1024 1024 (by omega) (by omega) (by rw [hz2]; omega) (by omega)
  rw [h]
  congr 3
  apply Array.ext'
  rw [hz1, Nat.mul_one, show (Value.int IntKind.u8 0).cells = #[Value.int IntKind.u8 0] from rfl, toList_madeCells_one]
  rfl
theorem conv1024 {W : World} {N : Nat} (h : Blk W N (List.replicate 1024 (Value.int .u8 0)) 5) : (convert 37 9 (.slice (some ⟨N, 0, none⟩) 1024 1024)).run Tryd.prog W = .ok (.string (txt bigV)) W := by
  have h9 := run_convert_bytes_back W 37 9 5 ⟨N, 0, none⟩ 1024 bigV Tryd.underlying37 Tryd.underlying5 Tryd.underlying9 (fun j hj => by
    rw [bigV_len] at hj
    rw [Addr.add_lit, Nat.zero_add, h.cell (i := j) (v := .int .u8 0) (by rw [List.getElem?_replicate, if_pos hj])]
    have h0 : ∀ (hj : j < bigV.length), bigV[j] = 0 := fun _ => by unfold bigV; exact List.getElem_replicate _
    rw [h0]
    rfl)
  rw [bigV_len] at h9
  exact h9
set_option maxHeartbeats 1000000 in
theorem big_any (k : ByteArray) (w : World) : Calls Tryd.prog 7 #[.string k] w fun e w' => e = .returned (.agg #[.string k, .string (txt bigV), .int .u32 0, .int .i64 0, .int .u64 1]) ∧ Below w.heap.size w w' := by
  have hm := make1024
  have hc : ∀ (W : World), (convert 37 9 (.slice (some ⟨W.heap.size, 0, none⟩) 1024 1024)).run Tryd.prog (W.alloc (.cells (List.replicate 1024 (Value.int .u8 0)).toArray 5)) = .ok (.string (txt bigV)) (W.alloc (.cells (List.replicate 1024 (Value.int .u8 0)).toArray 5)) := fun W => conv1024 (Blk.new W _ 5)
  generalize (List.replicate 1024 (Value.int .u8 0)).toArray = Z at hm hc
  generalize txt bigV = zb at *
  obtain ⟨W0, hW0⟩ : ∃ W0, W0 = w.alloc (.cells #[.string ⟨#[]⟩, .string ⟨#[]⟩, .int .u32 0, .int .i64 0, .int .u64 0] 33) := ⟨_, rfl⟩
  have b0 : Below w.heap.size w W0 := by rw [hW0]; exact (Below.refl _ w).alloc (Nat.le_refl _) _
  have k0 : Blk W0 w.heap.size (L5 ⟨#[]⟩ ⟨#[]⟩ 0 0 0) 33 := by rw [hW0]; exact Blk.new w _ 33
  have hm1 := hm W0
  have hc1 := hc W0
  obtain ⟨W1, hW1⟩ : ∃ W1, W1 = W0.alloc (.cells Z 5) := ⟨_, rfl⟩
  rw [← hW1] at hm1 hc1
  have b1 : Below w.heap.size w W1 := by rw [hW1]; exact b0.alloc b0.size _
  have k1 : Blk W1 w.heap.size (L5 ⟨#[]⟩ ⟨#[]⟩ 0 0 0) 33 := by rw [hW1]; exact k0.alloc _
  obtain ⟨y0, y1, y2, y3, y4, z0, z1, z2, z3, z4⟩ := cells5 k1
  have HE : Hid (Below w.heap.size w (put5 W1 w.heap.size k zb 0 0 1)) := b1.trans ((put5_keep (Keep.refl [w.heap.size] W1) (.inl (by simp))).below (fun q hq => by simp at hq; subst hq; exact Nat.le_refl _) b1.size)
  rw [hW0] at hm1 hc1
  rw [World.size_alloc] at hm1 hc1
  clear hm hc b0 k0 hW1 b1 k1 hW0
  go_enter Tryd.func7, Tryd.ntmps7
  go_wp2
  exact bodyPost_ret (v := .agg #[.string k, .string zb, .int .u32 0, .int .i64 0, .int .u64 1]) (by simp [results, Tryd.results7, go_sem, *]) rfl ⟨rfl, HE.out⟩
end Go.Proofs.YtdkiegkgnimapabDoor
