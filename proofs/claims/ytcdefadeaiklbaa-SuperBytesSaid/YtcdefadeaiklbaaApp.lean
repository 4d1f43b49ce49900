/- Rows of bytes that are appended to. -/
import Derived.Test.YtcdefadeaiklbaaCut
import Derived.Laws.AppendOwn
import Derived.Lib.AppendZerosOnto
set_option linter.unusedVariables false
set_option linter.unusedSimpArgs false
set_option maxRecDepth 8000
namespace Go.Proofs.Ytcdefadeaiklbaa
open Go.RowKit Go.Deep Go.ChangeShapes Go.WideShapes Math

theorem own_bs {w : World} {base g n c : Nat} {l : List UInt8} (h : w.ownsRow base 5 1 (.slice (some ⟨g, 0, none⟩) n c) n (bCells l)) : BS w (some ⟨g, 0, none⟩) n c l ∧ c ≤ 9223372036854775807 ∧ base ≤ g ∧ g < w.heap.size := by
  have hl := h.1
  rw [bCells_length, Nat.mul_one] at hl
  rcases h.2 with ⟨h0, _⟩ | ⟨g', cap, cur, hv, hb, hc, h1, h2, h3, h4⟩
  · cases h0
  · simp only [Value.slice.injEq, Option.some.injEq, Addr.mk.injEq, and_true, true_and] at hv
    obtain ⟨rfl, rfl⟩ := hv
    refine ⟨BS.mk' hl.symm h1 ⟨fun j hj => ⟨g, 0, rfl, ?_⟩, fun k => ?_⟩, by unfold maxLen at h2; omega, hb, (Array.getElem?_eq_some_iff.1 hc).1⟩
    · rw [ints_length] at hj
      have hB : Blk w g cur.toList 5 := by unfold Blk; rw [Array.toArray_toList]; exact hc
      refine hB.cell ?_
      rw [Nat.mul_one] at h4
      have h5 : (bCells l)[j]? = some (.int .u8 ((l.getD j 0).toNat : Int)) := by
        simp [bCells, hj, List.getD_eq_getElem?_getD, List.getElem?_eq_getElem hj]
      rw [← h4, List.getElem?_take_of_lt (by omega)] at h5
      rw [Nat.zero_add, h5, ints_getD]
    · rw [ints_getD]
      have := (l.getD k 0).toNat_lt
      omega

/-- 'append(row, b...)'. -/
theorem append_more (w1 : World) (base g0 k c0 : Nat) (A : List UInt8) (hown : w1.ownsRow base 5 1 (.slice (some ⟨g0, 0, none⟩) k c0) k (bCells A)) (a : Option Addr) (n cap : Nat) (l : List UInt8) (hb : BS w1 a n cap l) (hnil : a = none → l = []) (hk : k + n ≤ 140737488355328) (hB : base ≤ w1.heap.size) :
    ∃ g c w', (Builtin.append_ #[34, 34] 34 #[.slice (some ⟨g0, 0, none⟩) k c0, .slice a n cap]).run Try.prog w1 = .ok (.slice (some ⟨g, 0, none⟩) (k + n) c) w' ∧
      w'.ownsRow base 5 1 (.slice (some ⟨g, 0, none⟩) (k + n) c) (k + n) (bCells (A ++ l)) ∧ Below base w1 w' := by
  obtain ⟨i0, hi0, hp0⟩ := Option.map_eq_some_iff.1 info5
  simp only [Prod.mk.injEq] at hp0
  obtain ⟨hz0, hz1, hz2⟩ := hp0
  have hn := hb.len
  cases a with
  | none =>
    have h0 := hnil rfl
    subst h0
    have hn0 : n = 0 := by simpa using hn
    subst hn0
    rcases hown.2 with ⟨h0, _⟩ | ⟨g', cap', cur, hv, hbb, hc, h1, h2, h3, h4⟩
    · cases h0
    simp only [Value.slice.injEq, Option.some.injEq, Addr.mk.injEq, and_true, true_and] at hv
    obtain ⟨rfl, rfl⟩ := hv
    have h := run_append_room_src (P := Try.prog) w1 34 34 34 5 i0 Try.underlying34 hi0 g0 0 k c0 (.slice none 0 cap) 0 [] (Src.ofNil _ Try.underlying34 cap) h1 (fun j hj => by simp at hj) (fun j hj => by simp at hj)
    refine ⟨g0, c0, w1, h, ?_, Below.refl _ _⟩
    rw [List.append_nil]
    exact hown
  | some x =>
    have hcells : ∀ j u, (bCells l)[j]? = some u → w1.cell? (x.add j) = some u := by
      intro j u hj
      have hjl : j < l.length := by have := (List.getElem?_eq_some_iff.1 hj).1; simpa [bCells] using this
      obtain ⟨b, off, ha, _, hc⟩ := hb.cell j (by omega)
      cases ha
      rw [Addr.add_lit, hc]
      have : u = .int .u8 (l[j].toNat : Int) := by
        have e : (bCells l)[j]? = some (.int .u8 (l[j].toNat : Int)) := by simp [bCells, hjl]
        rw [e] at hj
        exact (Option.some.inj hj).symm
      rw [this, List.getD_eq_getElem?_getD, List.getElem?_eq_getElem hjl]
      rfl
    obtain ⟨v', w', hr, ho, hg, hnl⟩ := run_append_own (P := Try.prog) w1 base 34 34 5 i0 (.int .u8 0) 1 1 Try.underlying34 hi0 hz0 hz1 hz2 rfl (by decide) _ k (bCells A) hown x n cap (bCells l) (by simp [bCells, hn]) hcells
      (fun u hu => by obtain ⟨_, _, rfl⟩ := List.mem_map.1 hu; rfl) (by unfold maxLen; omega) (by omega) hB
    rw [← bCells_append] at ho
    obtain ⟨g, c, rfl⟩ : ∃ g c, v' = .slice (some ⟨g, 0, none⟩) (k + n) c := by
      rcases ho.2 with ⟨h, _⟩ | ⟨g, c, cur, hv, _⟩
      · exact absurd (hnl.1 h).1 (by simp)
      · exact ⟨g, c, hv⟩
    exact ⟨g, c, w', hr, ho, (Below.refl base w1).grown hg hB (fun q hq => (hown.lt q hq).1)⟩

/-- 'append([]byte{}, b...)'. -/
theorem append_copy (w1 : World) (a : Option Addr) (n cap : Nat) (l : List UInt8) (hb : BS w1 a n cap l) (hnil : a = none → l = []) (hl : n ≤ 140737488355328) :
    ∃ g c w', (Builtin.append_ #[34, 34] 34 #[.slice (some ⟨w1.heap.size, 0, none⟩) 0 0, .slice a n cap]).run Try.prog (w1.alloc (.cells #[] 5)) = .ok (.slice (some ⟨g, 0, none⟩) n c) w' ∧
      w'.ownsRow w1.heap.size 5 1 (.slice (some ⟨g, 0, none⟩) n c) n (bCells l) ∧ Below w1.heap.size w1 w' := by
  have hown : (w1.alloc (.cells #[] 5)).ownsRow w1.heap.size 5 1 (.slice (some ⟨w1.heap.size, 0, none⟩) 0 0) 0 (bCells []) := World.ownsRow_made w1 #[] 0 (Nat.le_refl _) (Nat.zero_le _) (by simp)
  obtain ⟨g, c, w', h1, h2, h3⟩ := append_more (w1.alloc (.cells #[] 5)) w1.heap.size w1.heap.size 0 0 [] hown a n cap l (hb.later ((Below.refl _ _).alloc (Nat.le_refl _) _)) hnil (by omega) (by rw [nblk_alloc]; omega)
  rw [Nat.zero_add] at h1 h2
  exact ⟨g, c, w', h1, h2, ((Below.refl _ w1).alloc (Nat.le_refl _) _).trans h3⟩

theorem zeroCells_u8 (n : Nat) : Builtin.zeroCells (Value.int .u8 0).cells n = (zc n).toArray := by
  apply Array.ext
  · simp [Builtin.zeroCells, zc, Value.cells]
  · intro i h1 h2
    simp [Builtin.zeroCells, zc, Value.cells, Nat.mod_one]
theorem run_append_room_zeros (w : World) (g k c m : Nat) (hm : 0 < m) (hm2 : m ≤ 1000) (hroom : k + m ≤ c) (hc : ∀ j, j < m → (w.cell? ⟨g, k + j, none⟩).isSome = true) (hf : ∀ j, j < m → w.frozen? ⟨g, k + j, none⟩ = false) :
    (Builtin.append_ #[34, 3] 34 #[.slice (some ⟨g, 0, none⟩) k c, .int .i64 m]).run Try.prog w = .ok (.slice (some ⟨g, 0, none⟩) (k + m) c) (w.setCells g k (zc m)) := by
  obtain ⟨i0, hi0, hp0⟩ := Option.map_eq_some_iff.1 info5
  simp only [Prod.mk.injEq] at hp0
  obtain ⟨hz0, hz1, hz2⟩ := hp0
  have hk : m ≠ 0 := by omega
  have hw : IntKind.i64.wrap (m : Int) = m := by rw [IntKind.wrap_i64]; omega
  have h48i : ¬ (281474976710656 < (m : Int)) := by omega
  have hneg : ¬ ((m : Int) < 0) := by omega
  have hst := run_storeCells_cells (P := Try.prog) g k (zc m) 0 w (by simpa [zc] using hc) (by simpa [zc] using hf) (fun u hu => by have := List.eq_of_mem_replicate hu; subst this; rfl)
  simp only [Nat.add_zero] at hst
  simp [Builtin.append_, run_underlying Try.underlying34, run_underlying Try.underlying3, sizeOf, typeInfo, zeroValue, hi0, hz0, hz1, hz2, asInt, asIntOf, hw, hroom, hneg, hk, h48i, Addr.add_lit, zeroCells_u8, hst]
theorem bs_of_blk {w : World} {g n c : Nat} {L : List UInt8} {R : List Value} (h : Blk w g (bCells L ++ R) 5) (hn : n = L.length) (hc : n ≤ c) : BS w (some ⟨g, 0, none⟩) n c L := by
  refine BS.mk' hn hc ⟨fun j hj => ⟨g, 0, rfl, ?_⟩, fun k => ?_⟩
  · rw [ints_length] at hj
    refine h.cell ?_
    rw [List.getElem?_append_left (by rw [bCells_length]; omega), Nat.zero_add, ints_getD]
    simp [bCells, hj, List.getD_eq_getElem?_getD, List.getElem?_eq_getElem hj]
  · rw [ints_getD]
    have := (L.getD k 0).toNat_lt
    omega
theorem append_zeros (w1 : World) (base g0 k c0 : Nat) (A : List UInt8) (hown : w1.ownsRow base 5 1 (.slice (some ⟨g0, 0, none⟩) k c0) k (bCells A)) (hk : k ≤ 1000) (hB : base ≤ w1.heap.size) :
    ∃ g c w', (Builtin.append_ #[34, 3] 34 #[.slice (some ⟨g0, 0, none⟩) k c0, .int .i64 384]).run Try.prog w1 = .ok (.slice (some ⟨g, 0, none⟩) (k + 384) c) w' ∧
      BS w' (some ⟨g, 0, none⟩) (k + 384) c (A ++ List.replicate 384 0) ∧ c ≤ 9223372036854775807 ∧ Below base w1 w' := by
  obtain ⟨i0, hi0, hp0⟩ := Option.map_eq_some_iff.1 info5
  simp only [Prod.mk.injEq] at hp0
  obtain ⟨hz0, hz1, hz2⟩ := hp0
  have hA := hown.1
  rw [bCells_length, Nat.mul_one] at hA
  have ez : bCells (A ++ List.replicate 384 0) = bCells A ++ zc 384 := by rw [bCells_append]; simp [bCells, zc]
  rcases hown.2 with ⟨h0, _⟩ | ⟨g', cap', cur, hv, hbb, hc, h1, h2, h3, h4⟩
  · cases h0
  simp only [Value.slice.injEq, Option.some.injEq, Addr.mk.injEq, and_true, true_and] at hv
  obtain ⟨rfl, rfl⟩ := hv
  rw [Nat.mul_one] at h3 h4
  have hBk : Blk w1 g0 cur.toList 5 := by unfold Blk; rw [Array.toArray_toList]; exact hc
  have hlen : cur.toList.length = c0 := by rw [Array.length_toList]; exact h3
  by_cases hroom : k + 384 ≤ c0
  · refine ⟨g0, c0, _, run_append_room_zeros w1 g0 k c0 384 (by omega) (by omega) hroom (fun j hj => ?_) (fun j hj => hBk.frozen _), ?_, by unfold maxLen at h2; omega, ?_⟩
    · rw [hBk.cell (List.getElem?_eq_getElem (by omega))]; rfl
    · have e : cur.toList = bCells A ++ (cur.toList.drop k).take 384 ++ cur.toList.drop (k + 384) := by
        rw [← h4, List.append_assoc, show cur.toList.drop (k + 384) = (cur.toList.drop k).drop 384 by rw [List.drop_drop], List.take_append_drop]
        exact (List.take_append_drop _ _).symm
      rw [e] at hBk
      have := Blk.sets (zc 384) (bCells A) _ _ w1 (by simp [zc]; omega) hBk
      rw [bCells_length, hA, ← ez] at this
      exact bs_of_blk this (by simp [hA]) (by omega)
    · exact ((Keep.refl [g0] w1).setCells (.inl (by simp)) _ _).below (fun x hx => by simp at hx; omega) hB
  · have hold : (Builtin.firstCells i0.size k (.slice (some ⟨g0, 0, none⟩) k c0)).run Try.prog w1.drew = .ok (bCells A).toArray w1.drew := by
      rw [hz1]
      refine run_firstCells_some w1.drew 1 k ⟨g0, 0, none⟩ k c0 (bCells A) (by rw [bCells_length]; omega) (fun j v hj => ?_)
      have hjl := (List.getElem?_eq_some_iff.1 hj).1
      rw [bCells_length] at hjl
      rw [← h4, List.getElem?_take_of_lt (by omega)] at hj
      have := hBk.cell hj
      rw [Addr.add_lit, Nat.zero_add]
      exact this
    have hr := Lib.run_append_grow_zeros (P := Try.prog) w1 34 3 34 5 i0 (.int .u8 0) .i64 .i64 Try.underlying34 Try.underlying3 hi0 hz0 (some ⟨g0, 0, none⟩) k c0 (bCells A) hold 384 (by omega) (by rw [hz1]; omega) (by omega) (by omega) (by rw [hz2]; omega) (growslice_fits (by omega) (by rw [hz2]; omega))
    have hcap := grownCap_le_maxLen w1 (k + 384) c0 5 (by unfold maxLen; omega)
    have hge : k + 384 ≤ grownCap w1 (k + 384) c0 5 := grownCap_ge w1 _ _ _
    refine ⟨w1.heap.size, grownCap w1 (k + 384) c0 5, _, hr, ?_, by unfold maxLen at hcap; omega, ((Below.refl _ _).drew).alloc (by exact hB) _⟩
    have hn : Blk (w1.drew.alloc (.cells ((bCells A).toArray ++ Builtin.zeroCells (Value.int .u8 0).cells 384 ++ Builtin.zeroCells (Value.int .u8 0).cells (grownCap w1 (k + 384) c0 5 - (k + 384))) 5)) w1.heap.size (bCells (A ++ List.replicate 384 0) ++ zc (grownCap w1 (k + 384) c0 5 - (k + 384))) 5 := by
      rw [ez, zeroCells_u8, zeroCells_u8]
      have := Blk.new w1.drew (bCells A ++ zc 384 ++ zc (grownCap w1 (k + 384) c0 5 - (k + 384))) 5
      have e2 : (bCells A ++ zc 384 ++ zc (grownCap w1 (k + 384) c0 5 - (k + 384))).toArray = (bCells A).toArray ++ (zc 384).toArray ++ (zc (grownCap w1 (k + 384) c0 5 - (k + 384))).toArray := by simp
      rw [e2] at this
      exact this
    exact bs_of_blk hn (by simp [hA]) hge
end Go.Proofs.Ytcdefadeaiklbaa
