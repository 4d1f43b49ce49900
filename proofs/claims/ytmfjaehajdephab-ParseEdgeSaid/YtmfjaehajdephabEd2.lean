/-
  make([]byte, n), its stores, one byte more behind.
-/
import Derived.Test.YtmfjaehajdephabEd
import Derived.Test.YtmfjaehajdephabJM
import Derived.Laws.MakeOwn
namespace Go.Proofs.Ytmfjaehajdephab
open Go.Shelf Go.RowKit Go.Deep
set_option linter.unusedVariables false
set_option linter.unusedSimpArgs false
set_option maxRecDepth 1000000

theorem infoB : ∃ i0, Try.prog.info? 5 = some i0 ∧ i0.zero = some (.int .u8 0) ∧ i0.size = 1 ∧ i0.bytes = 1 := by
  obtain ⟨i, hi, he⟩ := Option.map_eq_some_iff.1 (show (Try.prog.info? 5).map (fun i => (i.zero, i.size, i.bytes)) = some (some (.int .u8 0), 1, 1) by kernel_rfl)
  simp only [Prod.mk.injEq] at he
  exact ⟨i, hi, he.1, he.2.1, he.2.2⟩
theorem mk_bytes (W : World) (n : Nat) (hn : n ≤ 1000000) : (Instr.makeSlice 26 (.int .i64 (n : Int)) (.int .i64 (n : Int))).run Try.prog W = .ok (.slice (some ⟨W.heap.size, 0, none⟩) n n) (W.alloc (.cells (bC (List.replicate n 0)).toArray 5)) := by
  obtain ⟨i0, h1, h2, h3, h4⟩ := infoB
  have h := run_make (P := Try.prog) W 26 5 i0 (.int .u8 0) Try.underlying26 h1 h2 .i64 .i64 (n : Int) (n : Int) (by omega) (by omega) (by rw [h4]; omega) (by omega)
  have e : madeCells (Value.int .u8 0).cells (((n : Int)).toNat * i0.size) = (bC (List.replicate n 0)).toArray := by
    rw [h3]
    apply Array.ext
    · simp [madeCells, bC]
    · intro j h5 h6
      simp [madeCells, bC, Value.cells]
      rw [Nat.mod_one]
      rfl
  rw [e] at h
  simpa using h
theorem blk_own {W : World} {g : Nat} {l : List UInt8} (h : Blk W g (bC l) 5) (base : Nat) (hb : base ≤ g) (n : Nat) (hn : n = l.length) (hm : n ≤ 1000000) : W.ownsRow base 5 1 (.slice (some ⟨g, 0, none⟩) n n) n (bC l) := by
  subst hn
  refine ⟨by simp [bC], .inr ⟨g, l.length, (bC l).toArray, rfl, hb, h, Nat.le_refl _, by unfold maxLen; omega, by simp [bC], by simp only [Nat.mul_one]; exact List.take_of_length_le (by simp [bC])⟩⟩
theorem app_byte (W : World) (g : Nat) (l : List UInt8) (h : Blk W g (bC l) 5) (base : Nat) (hb : base ≤ g) (n : Nat) (hn : n = l.length) (hm : n ≤ 100000) (x : UInt8) (hB : base ≤ W.heap.size) (C : Array Value) (hC : C = (bC [x]).toArray) :
    ∃ a' c' w', (Builtin.append_ #[26, 26] 26 #[.slice (some ⟨g, 0, none⟩) n n, .slice (some ⟨W.heap.size, 0, none⟩) 1 1]).run Try.prog (W.alloc (.cells C 5)) = .ok (.slice (some a') (n + 1) c') w' ∧ BS w' (some a') (n + 1) c' (l ++ [x]) ∧ Below base W w' := by
  subst hC
  obtain ⟨i0, h1, h2, h3, h4⟩ := infoB
  have k1 : Below W.heap.size W (W.alloc (.cells (bC [x]).toArray 5)) := (Below.refl _ _).alloc (Nat.le_refl _) _
  have ho := blk_own (h.alloc (.cells (bC [x]).toArray 5)) base hb n hn (by omega)
  have hs := bs_lit W [x] (bC [x]).toArray (0, 0) rfl 1 rfl
  obtain ⟨v', w', hr, hO, hg, hnl⟩ := run_append_own (P := Try.prog) (W.alloc (.cells (bC [x]).toArray 5)) base 26 26 5 i0 (.int .u8 0) 1 1 Try.underlying26 h1 h2 h3 h4 rfl (by decide) _ n (bC l) ho ⟨W.heap.size, 0, none⟩ 1 1 (bC [x]) (by simp [bC]) (fun j u hu => by
      have hj : j < 1 := by have := (List.getElem?_eq_some_iff.1 hu).1; simpa [bC] using this
      obtain ⟨b, off, ha, _, hc⟩ := hs.cell j hj
      cases ha
      rw [Addr.add_lit, hc]
      have e0 : j = 0 := by omega
      subst e0
      exact hu) (fun u hu => by simp [bC] at hu; subst hu; rfl) (by unfold maxLen; omega) (by omega) (Nat.le_trans hB k1.size)
  have e : bC l ++ bC [x] = bC (l ++ [x]) := by simp [bC]
  rw [e] at hO
  rcases hO.2 with ⟨hz, _⟩ | ⟨g', c', cur, hv, _⟩
  · exact absurd (hnl.1 hz).1 (by simp)
  · subst hv
    exact ⟨_, _, w', hr, (own_bs hO).1, (k1.mono hB).trans ((Below.refl base _).grown hg (Nat.le_trans hB k1.size) (fun q hq => (ho.lt q hq).1))⟩
theorem set_xs (n k : Nat) (hk : k < n) : (bC (List.replicate k 120 ++ List.replicate (n - k) 0)).set k (.int .u8 120) = bC (List.replicate (k + 1) 120 ++ List.replicate (n - (k + 1)) 0) := by
  obtain ⟨m, rfl⟩ : ∃ m, n = k + 1 + m := ⟨n - (k + 1), by omega⟩
  rw [show k + 1 + m - k = m + 1 by omega, show k + 1 + m - (k + 1) = m by omega]
  unfold bC
  rw [List.map_append, List.map_append, List.map_replicate, List.map_replicate, List.map_replicate, List.map_replicate, List.replicate_succ (n := m), List.replicate_succ' (n := k), set_append_len _ _ (.int .u8 120) _ k (by simp), List.append_assoc]
  rfl
end Go.Proofs.Ytmfjaehajdephab
