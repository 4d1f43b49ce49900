/- A filter and a plain row of bits beside it; the document's own bit. -/
import Derived.Test.YtipgfkcfbiofdaaPair
set_option linter.unusedVariables false
set_option linter.unusedSimpArgs false
namespace Go.Proofs.Ytipgfkcfbiofdaa
open Go.RowKit Go.Deep Math

set_option maxHeartbeats 400000 in
theorem bit_any (key : ByteArray) (hk : key.size + 1 ≤ maxLen) (k n : Nat) (hk8 : k ≤ 8) (hn : 0 < n) (hn2 : n ≤ 65536) (w : World) :
    Calls Try.prog 11 #[.string key, .int .i64 k, .int .i64 n] w fun e w' => e = .returned (.int .i64 (pl (hashK key) (stepK key) n k : Nat)) ∧ w' = w := by
  have cH : Hid (∀ W : World, Calls Try.prog 17 #[.string key] W fun e w' => e = .returned (.int .u64 (hashK key)) ∧ w' = W) := fun W => refHash_any key W (by omega)
  have cS : Hid (∀ W : World, Calls Try.prog 18 #[.string key] W fun e w' => e = .returned (.int .u64 (hash second0 key.data.toList)) ∧ w' = W) := fun W => refSecond_any key W hk
  have e1 := pl_int (hashK key) (stepK key) n k hn
  have e3 : pl (hashK key) (stepK key) n k < n := pl_lt _ _ _ _ hn
  have e4 : IntKind.u64.wrap (n : Int) = (n : Int) := by rw [IntKind.wrap_u64]; omega
  have e5 : IntKind.i64.wrap (pl (hashK key) (stepK key) n k : Int) = (pl (hashK key) (stepK key) n k : Int) := by rw [IntKind.wrap_i64]; omega
  have e6 : IntKind.u64.wrap (k : Int) = (k : Int) := by rw [IntKind.wrap_u64]; omega
  have e7 : ¬ (n : Int) = 0 := by omega
  have hs : IntKind.u64.signed = false := rfl
  have e2 : IntKind.u64.wrap (hashK key + IntKind.u64.wrap ((k : Int) * stepK key)) = at64 (hashK key) (stepK key) k := by
    rw [IntKind.wrap_u64, IntKind.wrap_u64]; unfold at64; omega
  unfold stepK at e2
  clear hk
  go_enter Try.func11, Try.ntmps11
  go_wp2_with fail
  refine (cH.out _).mono ?_
  rintro e w1 ⟨rfl, h1⟩
  obtain rfl : w = w1 := h1.symm
  clear h1 cH
  go_wp2_with fail
  refine (cS.out _).mono ?_
  rintro e w2 ⟨rfl, h2⟩
  obtain rfl : w = w2 := h2.symm
  clear h2 cS
  unfold stepK at e1 e3 e5
  go_wp2
  go_ret
  exact ⟨rfl, rfl⟩

structure Both (w0 : World) (f s : Nat) (l : List Bool) (t u : Nat) (m : List Bool) (W : World) : Prop where
  fl : Fl w0 f s l t W
  row : Blk W u (m.map Value.bool) 4
  uf : u ≠ f
  us : u ≠ s
  lu : w0.heap.size ≤ u
theorem Both.add {w0 W : World} {f s t u : Nat} {l m : List Bool} (h : Both w0 f s l t u m W) (key : ByteArray) (hk : key.size ≤ maxLen) :
    Calls Try.prog 10 #[.pointer (some ⟨f, 0, none⟩), .string key] W fun e W' => e = .returned (.tuple #[]) ∧ Both w0 f s (setB l (plc key l.length t)) t u m W' := by
  refine (add_l h.fl key hk).mono ?_
  rintro e W' ⟨rfl, hf, hb⟩
  exact ⟨rfl, hf, h.row.same (hb.block u h.row.lt (by simpa using h.us)), h.uf, h.us, h.lu⟩
theorem Both.set {w0 W : World} {f s t u : Nat} {l m : List Bool} (h : Both w0 f s l t u m W) (i : Nat) : Both w0 f s l t u (m.set i true) (W.setCell ⟨u, i, none⟩ (.bool true)) := by
  refine ⟨⟨h.fl.flt.same (blk_setCell_other _ _ _ _ (Ne.symm h.uf)) (blk_setCell_other _ _ _ _ (Ne.symm h.us)), h.fl.bel.setCell (p := ⟨u, i, none⟩) h.lu _, h.fl.lf, h.fl.ls⟩, ?_, h.uf, h.us, h.lu⟩
  have := h.row.set i (.bool true)
  rw [List.map_set]
  exact this
theorem Both.on {w0 W W' : World} {f s t u : Nat} {l m : List Bool} (h : Both w0 f s l t u m W) (b : Below W.heap.size W W') : Both w0 f s l t u m W' :=
  ⟨h.fl.on b, h.row.same (b.block u h.row.lt), h.uf, h.us, h.lu⟩
theorem Both.bit {w0 W : World} {f s t u : Nat} {l m : List Bool} (h : Both w0 f s l t u m W) (k : Nat) (hk : k < m.length) : W.cell? ⟨u, k, none⟩ = some (.bool (m.getD k false)) :=
  h.row.cell (by rw [List.getElem?_map, List.getElem?_eq_getElem hk, List.getD_eq_getElem?_getD, List.getElem?_eq_getElem hk]; rfl)

theorem ixs_lt {l : List Bool} {k i x : Nat} (h : (ixs l k)[i]? = some x) : x < k ∧ l.getD x false = true := mem_ixs.1 (List.mem_of_getElem? h)
theorem ixs_rise {l : List Bool} {k i x y : Nat} (h : (ixs l k)[i]? = some x) (h2 : (ixs l k)[i + 1]? = some y) : x < y := by
  have hp : (ixs l k).Pairwise (· < ·) := (List.pairwise_lt_range (n := k)).filter _
  obtain ⟨h3, rfl⟩ := List.getElem?_eq_some_iff.1 h
  obtain ⟨h4, rfl⟩ := List.getElem?_eq_some_iff.1 h2
  exact (List.pairwise_iff_getElem.1 hp) i (i + 1) h3 h4 (by omega)
end Go.Proofs.Ytipgfkcfbiofdaa
