/-
  A row of one key many times over; a text of zeros.
-/
import Derived.Test.YtofjadgnkpcaeaaLaw
import Derived.Test.YtofjadgnkpcaeaaOpen
import Derived.Test.YtofjadgnkpcaeaaRef
import Derived.Laws.IdiomStrings
import Derived.Laws.MakeOwn
namespace Go.Proofs.Ytofjadgnkpcaeaa
open Go.Shelf Go.RowKit Go.Deep
set_option linter.unusedVariables false
set_option linter.unusedSimpArgs false
set_option maxRecDepth 1000000

/-- 'append(row, key)': the row is the call's own, and may be nil. -/
theorem append_key (w1 : World) (base : Nat) (v : Value) (k : Nat) (A : List ByteArray) (hown : w1.ownsRow base 9 1 v k (strC A)) (q : Nat) (key : ByteArray) (hq : w1.cell? ⟨q, 0, none⟩ = some (.string key)) (hk : k ≤ 1000) (hB : base ≤ w1.heap.size) :
    ∃ g c w', (Builtin.append_ #[24, 24] 24 #[v, .slice (some ⟨q, 0, none⟩) 1 1]).run Try.prog w1 = .ok (.slice (some ⟨g, 0, none⟩) (k + 1) c) w' ∧
      w'.ownsRow base 9 1 (.slice (some ⟨g, 0, none⟩) (k + 1) c) (k + 1) (strC (A ++ [key])) ∧ Below base w1 w' := by
  obtain ⟨i0, hi0, hz0, hz1, hz2⟩ := infoStr
  obtain ⟨v', w', hr, ho, hg, hnl⟩ := run_append_own (P := Try.prog) w1 base 24 24 9 i0 (.string ⟨#[]⟩) 1 16 Try.underlying24 hi0 hz0 hz1 hz2 rfl (by decide) v k (strC A) hown ⟨q, 0, none⟩ 1 1 (strC [key]) (by simp [strC])
    (fun j u hj => by
      match j, hj with
      | 0, hj =>
        simp [strC] at hj
        subst hj
        exact hq
      | j + 1, hj => simp [strC] at hj)
    (fun u hu => by obtain ⟨_, _, rfl⟩ := List.mem_map.1 hu; rfl) (by unfold maxLen; omega) (by omega) hB
  have e : strC A ++ strC [key] = strC (A ++ [key]) := by simp [strC]
  rw [e] at ho
  obtain ⟨g, c, rfl⟩ : ∃ g c, v' = .slice (some ⟨g, 0, none⟩) (k + 1) c := by
    rcases ho.2 with ⟨_, h⟩ | ⟨g, c, cur, hv, _⟩
    · omega
    · exact ⟨g, c, hv⟩
  exact ⟨g, c, w', hr, ho, (Below.refl base w1).grown hg hB (fun q hq => (hown.lt q hq).1)⟩

theorem make39 (n : Nat) (hn : n ≤ 1048576) (W : World) : (Instr.makeSlice 39 (.int .i64 n) (.int .i64 n)).run Try.prog W = .ok (.slice (some ⟨W.heap.size, 0, none⟩) n n) (W.alloc (.cells (List.replicate n (Value.int .u8 0)).toArray 5)) := by
  obtain ⟨i0, hi0, hp0⟩ := Option.map_eq_some_iff.1 (show (Try.prog.info? 5).map (fun i => (i.zero, i.size, i.bytes)) = some (some (.int .u8 0), 1, 1) by kernel_rfl)
  simp only [Prod.mk.injEq] at hp0
  obtain ⟨hz0, hz1, hz2⟩ := hp0
  have h := run_make (P := Try.prog) W 39 5 i0 _ Try.underlying39 hi0 hz0 .i64 .i64 (n : Int) (n : Int) (by omega) (by omega) (by rw [hz2]; omega) (by omega)
  rw [h]
  simp only [Int.toNat_natCast]
  congr 3
  apply Array.ext'
  rw [hz1, Nat.mul_one, show (Value.int IntKind.u8 0).cells = #[Value.int IntKind.u8 0] from rfl, toList_madeCells_one]
def zeros (n : Nat) : ByteArray := ⟨(List.replicate n (0 : UInt8)).toArray⟩
theorem zeros_size (n : Nat) : (zeros n).size = n := by simp [zeros, ByteArray.size]
theorem conv39 (n : Nat) (W : World) : (convert 39 9 (.slice (some ⟨W.heap.size, 0, none⟩) n n)).run Try.prog (W.alloc (.cells (List.replicate n (Value.int .u8 0)).toArray 5)) = .ok (.string (zeros n)) (W.alloc (.cells (List.replicate n (Value.int .u8 0)).toArray 5)) := by
  have h := run_convert_bytes_back (P := Try.prog) (W.alloc (.cells (List.replicate n (Value.int .u8 0)).toArray 5)) 39 9 5 ⟨W.heap.size, 0, none⟩ n (List.replicate n 0) Try.underlying39 Try.underlying5 Try.underlying9 (fun j hj => ?_)
  · rw [List.length_replicate] at h
    exact h
  · have hj' : j < n := by simpa using hj
    have hg : (W.alloc (.cells (List.replicate n (Value.int .u8 0)).toArray 5)).heap[W.heap.size]? = some (.cells (List.replicate n (Value.int .u8 0)).toArray 5) := by
      show (W.heap.push _)[W.heap.size]? = _
      simp
    rw [Addr.add_lit, Nat.zero_add]
    simp only [World.cell?, hg]
    simp [hj']
theorem conv39b (n : Nat) (W : World) (o : Obj) : (convert 39 9 (.slice (some ⟨W.heap.size + 1, 0, none⟩) n n)).run Try.prog ((W.alloc o).alloc (.cells (Array.replicate n (Value.int .u8 0)) 5)) = .ok (.string (zeros n)) ((W.alloc o).alloc (.cells (Array.replicate n (Value.int .u8 0)) 5)) := by
  have h := conv39 n (W.alloc o)
  have e : (List.replicate n (Value.int .u8 0)).toArray = Array.replicate n (Value.int .u8 0) := by simp
  have e2 : (W.alloc o).heap.size = W.heap.size + 1 := by
    show (W.heap.push _).size = _
    rw [Array.size_push]
  rw [e, e2] at h
  exact h
end Go.Proofs.Ytofjadgnkpcaeaa
