/- Bytes as they come in; a copy of one's own. -/
import Derived.Test.YtlmfdibncpbmjaaTakeS
import Derived.ChangeSlices
import Derived.Deep.Slices
import Derived.SizedLaws
import Derived.Laws.AppendOwn
set_option linter.unusedVariables false
set_option linter.unusedSimpArgs false
namespace Go.Proofs.Ytlmfdibncpbmjaa
open Go.RowKit Go.Deep Go.ChangeShapes Go.WideShapes Math

theorem bytes5 : Try.prog.bytesOf 5 = 1 := by kernel_rfl
theorem cells5 : Try.prog.cellsOf 5 = 1 := by kernel_rfl
theorem u8_wf {z : Int} (h : (Lit.int .u8 z).wf = true) : 0 ≤ z ∧ z ≤ 255 := by
  have h1 : IntKind.u8.min = 0 := rfl
  have h2 : IntKind.u8.max = 255 := rfl
  simp [Lit.wf, h1, h2] at h
  exact h

theorem bytes_open {H : Type} {enc : TypeId × Value → H} {W : World} {fuel : Nat} {a0 : Option Addr} {n0 c0 : Nat} {x : DataW H × List MemPlace} (h : DataW.trod enc Try.prog W 0 (fun _ => true) true fuel 23 [.slice a0 n0 c0] = some x)
    (hw : ∀ n ∈ x.1.weights Try.prog 23, n ≤ reachBytes) :
    ∃ l : List UInt8, BS W a0 n0 c0 l ∧ (a0 = none → l = []) ∧ n0 ≤ 140737488351232 := by
  rcases open_ints Try.underlying23 Try.underlying5 cells5 h with ⟨hcs, _⟩ | ⟨a, len, cap, zs, hcs, _, hl, hm, hz, hx, hcell, hwz⟩
  · simp at hcs
    obtain ⟨rfl, rfl, rfl⟩ := hcs
    exact ⟨[], BS.mk' rfl (Nat.le_refl _) (Reads.nil _ _), fun _ => rfl, Nat.zero_le _⟩
  · simp only [List.cons.injEq, Value.slice.injEq, and_true] at hcs
    obtain ⟨rfl, rfl, rfl⟩ := hcs
    have hz' : zs.length = c0 := by simpa using hz
    have hb : (zs.take n0).length + (zs.drop n0).length ≤ reachBytes := by
      have := hw (((lits (H := H) .u8 (zs.take n0)).length + (lits (H := H) .u8 (zs.drop n0)).length) * Try.prog.bytesOf 5) (by rw [hx]; simp [DataW.weights, Try.underlying23])
      rw [bytes5] at this
      simpa [lits] using this
    have hlen : ((zs.take n0).map (fun z => UInt8.ofNat z.toNat)).length = n0 := by simp; omega
    have e8 : ∀ j, j < n0 → (((zs.take n0).map (fun z => UInt8.ofNat z.toNat)).getD j 0).toNat = zs.getD j 0 := fun j hj => by
      have hmem : zs.getD j 0 ∈ zs := by rw [List.getD_eq_getElem?_getD, List.getElem?_eq_getElem (by omega)]; exact List.getElem_mem _
      have hb := u8_wf (hwz _ hmem)
      have e1 : ((zs.take n0).map (fun z => UInt8.ofNat z.toNat)).getD j 0 = UInt8.ofNat (zs.getD j 0).toNat := by
        simp [List.getD_eq_getElem?_getD, List.getElem?_eq_getElem (show j < zs.length by omega), List.getElem?_take_of_lt hj]
      rw [e1, UInt8.toNat_ofNat']
      have e2 : ((zs.getD j 0).toNat % 2 ^ 8 : Nat) = (zs.getD j 0).toNat := Nat.mod_eq_of_lt (by omega)
      rw [e2]
      omega
    refine ⟨(zs.take n0).map (fun z => UInt8.ofNat z.toNat), BS.mk' hlen.symm hl ⟨fun i hi => ?_, fun i => ?_⟩, (fun h => by cases h), ?_⟩
    · rw [ints_length, hlen] at hi
      have c0' := hcell 0 (by omega)
      have hspot : a.spot = none := by simpa [Addr.add] using World.cell?_spot c0'
      obtain ⟨b, off, sp⟩ := a
      simp only at hspot
      subst hspot
      refine ⟨b, off, rfl, ?_⟩
      have cj := hcell i (by omega)
      rw [Addr.add_lit] at cj
      rw [cj, ints_getD, e8 i hi]
    · rw [ints_getD]
      have := (((zs.take n0).map (fun z => UInt8.ofNat z.toNat)).getD i 0).toNat_lt
      omega
    · have e : reachBytes = 140737488351232 := by decide
      simp at hb
      omega

theorem own_bs {w : World} {base g n c : Nat} {l : List UInt8} (h : w.ownsRow base 5 1 (.slice (some ⟨g, 0, none⟩) n c) n (bCells l)) : BS w (some ⟨g, 0, none⟩) n c l ∧ c ≤ 9223372036854775807 ∧ base ≤ g ∧ g < w.heap.size := by
  have hl := h.1
  rw [bCells_length, Nat.mul_one] at hl
  rcases h.2 with ⟨h0, _⟩ | ⟨g', cap, cur, hv, hb, hc, h1, h2, h3, h4⟩
  · cases h0
  · simp only [Value.slice.injEq, Option.some.injEq, Addr.mk.injEq, and_true, true_and] at hv
    obtain ⟨rfl, rfl⟩ := hv
    refine ⟨BS.mk' hl.symm h1 ⟨fun j hj => ⟨g, 0, rfl, ?_⟩, fun k => ?_⟩, by unfold maxLen at h2; omega, hb, (Array.getElem?_eq_some_iff.1 hc).1⟩
    · rw [ints_length] at hj
      have hB : Blk w g cur.toList 5 := by unfold Blk; rw [Array.toArray_toList]; exact hc
      refine hB.cell ?_
      rw [Nat.mul_one] at h4
      have h5 : (bCells l)[j]? = some (.int .u8 ((l.getD j 0).toNat : Int)) := by
        simp [bCells, hj, List.getD_eq_getElem?_getD, List.getElem?_eq_getElem hj]
      rw [← h4, List.getElem?_take_of_lt (by omega)] at h5
      rw [Nat.zero_add, h5, ints_getD]
    · rw [ints_getD]
      have := (l.getD k 0).toNat_lt
      omega

/-- 'append(row, b...)'. -/
theorem append_more (w1 : World) (base g0 k c0 : Nat) (A : List UInt8) (hown : w1.ownsRow base 5 1 (.slice (some ⟨g0, 0, none⟩) k c0) k (bCells A)) (a : Option Addr) (n cap : Nat) (l : List UInt8) (hb : BS w1 a n cap l) (hnil : a = none → l = []) (hk : k + n ≤ 140737488355328) (hB : base ≤ w1.heap.size) :
    ∃ g c w', (Builtin.append_ #[23, 23] 23 #[.slice (some ⟨g0, 0, none⟩) k c0, .slice a n cap]).run Try.prog w1 = .ok (.slice (some ⟨g, 0, none⟩) (k + n) c) w' ∧
      w'.ownsRow base 5 1 (.slice (some ⟨g, 0, none⟩) (k + n) c) (k + n) (bCells (A ++ l)) ∧ Below base w1 w' := by
  obtain ⟨i0, hi0, hp0⟩ := Option.map_eq_some_iff.1 info5
  simp only [Prod.mk.injEq] at hp0
  obtain ⟨hz0, hz1, hz2⟩ := hp0
  have hn := hb.len
  cases a with
  | none =>
    have h0 := hnil rfl
    subst h0
    have hn0 : n = 0 := by simpa using hn
    subst hn0
    rcases hown.2 with ⟨h0, _⟩ | ⟨g', cap', cur, hv, hbb, hc, h1, h2, h3, h4⟩
    · cases h0
    simp only [Value.slice.injEq, Option.some.injEq, Addr.mk.injEq, and_true, true_and] at hv
    obtain ⟨rfl, rfl⟩ := hv
    have h := run_append_room_src (P := Try.prog) w1 23 23 23 5 i0 Try.underlying23 hi0 g0 0 k c0 (.slice none 0 cap) 0 [] (Src.ofNil _ Try.underlying23 cap) h1 (fun j hj => by simp at hj) (fun j hj => by simp at hj)
    refine ⟨g0, c0, w1, h, ?_, Below.refl _ _⟩
    rw [List.append_nil]
    exact hown
  | some x =>
    have hcells : ∀ j u, (bCells l)[j]? = some u → w1.cell? (x.add j) = some u := by
      intro j u hj
      have hjl : j < l.length := by have := (List.getElem?_eq_some_iff.1 hj).1; simpa [bCells] using this
      obtain ⟨b, off, ha, _, hc⟩ := hb.cell j (by omega)
      cases ha
      rw [Addr.add_lit, hc]
      have : u = .int .u8 (l[j].toNat : Int) := by
        have e : (bCells l)[j]? = some (.int .u8 (l[j].toNat : Int)) := by simp [bCells, hjl]
        rw [e] at hj
        exact (Option.some.inj hj).symm
      rw [this, List.getD_eq_getElem?_getD, List.getElem?_eq_getElem hjl]
      rfl
    obtain ⟨v', w', hr, ho, hg, hnl⟩ := run_append_own (P := Try.prog) w1 base 23 23 5 i0 (.int .u8 0) 1 1 Try.underlying23 hi0 hz0 hz1 hz2 rfl (by decide) _ k (bCells A) hown x n cap (bCells l) (by simp [bCells, hn]) hcells
      (fun u hu => by obtain ⟨_, _, rfl⟩ := List.mem_map.1 hu; rfl) (by unfold maxLen; omega) (by omega) hB
    rw [← bCells_append] at ho
    obtain ⟨g, c, rfl⟩ : ∃ g c, v' = .slice (some ⟨g, 0, none⟩) (k + n) c := by
      rcases ho.2 with ⟨h, _⟩ | ⟨g, c, cur, hv, _⟩
      · exact absurd (hnl.1 h).1 (by simp)
      · exact ⟨g, c, hv⟩
    exact ⟨g, c, w', hr, ho, (Below.refl base w1).grown hg hB (fun q hq => (hown.lt q hq).1)⟩

/-- 'append([]byte{}, b...)'. -/
theorem append_copy (w1 : World) (a : Option Addr) (n cap : Nat) (l : List UInt8) (hb : BS w1 a n cap l) (hnil : a = none → l = []) (hl : n ≤ 140737488355328) :
    ∃ g c w', (Builtin.append_ #[23, 23] 23 #[.slice (some ⟨w1.heap.size, 0, none⟩) 0 0, .slice a n cap]).run Try.prog (w1.alloc (.cells #[] 5)) = .ok (.slice (some ⟨g, 0, none⟩) n c) w' ∧
      w'.ownsRow w1.heap.size 5 1 (.slice (some ⟨g, 0, none⟩) n c) n (bCells l) ∧ Below w1.heap.size w1 w' := by
  have hown : (w1.alloc (.cells #[] 5)).ownsRow w1.heap.size 5 1 (.slice (some ⟨w1.heap.size, 0, none⟩) 0 0) 0 (bCells []) := World.ownsRow_made w1 #[] 0 (Nat.le_refl _) (Nat.zero_le _) (by simp)
  obtain ⟨g, c, w', h1, h2, h3⟩ := append_more (w1.alloc (.cells #[] 5)) w1.heap.size w1.heap.size 0 0 [] hown a n cap l (hb.later ((Below.refl _ _).alloc (Nat.le_refl _) _)) hnil (by omega) (by rw [nblk_alloc]; omega)
  rw [Nat.zero_add] at h1 h2
  exact ⟨g, c, w', h1, h2, ((Below.refl _ w1).alloc (Nat.le_refl _) _).trans h3⟩
end Go.Proofs.Ytlmfdibncpbmjaa
