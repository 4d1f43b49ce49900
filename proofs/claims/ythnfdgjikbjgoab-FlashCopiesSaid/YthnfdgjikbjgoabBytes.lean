/- Slices of bytes that came in; a copy of one's own. -/
import Derived.Test.YthnfdgjikbjgoabAwake
set_option linter.unusedVariables false
set_option linter.unusedSimpArgs false
namespace Go.Proofs.Ythnfdgjikbjgoab
open Go.RowKit Go.Deep

/-- A slice of bytes as it comes in. -/
def RowIs (w : World) (a : Option Addr) (len cap : Nat) (zs : List Int) : Prop :=
  (a = none ∧ len = 0 ∧ cap = 0 ∧ zs = []) ∨
  ∃ x, a = some x ∧ len ≤ cap ∧ cap ≤ maxLen ∧ zs.length = cap ∧ (∀ i, i < zs.length → w.cell? (x.add i) = some (.int .u8 (zs.getD i 0))) ∧ ∀ n ∈ zs, (Lit.int .u8 n).wf = true

theorem u8_wf {z : Int} (h : (Lit.int .u8 z).wf = true) : 0 ≤ z ∧ z ≤ 255 := by
  have h1 : IntKind.u8.min = 0 := rfl
  have h2 : IntKind.u8.max = 255 := rfl
  simp [Lit.wf, h1, h2] at h
  exact h

theorem row_bytes {w : World} {a : Option Addr} {len cap : Nat} {zs : List Int} (h : RowIs w a len cap zs) :
    ∃ (l : List UInt8) (bb : Nat), l.length = len ∧ BSlice w a l bb ∧ (a = none → l = []) ∧ (l ≠ [] → bb < w.heap.size) := by
  rcases h with ⟨rfl, rfl, rfl, rfl⟩ | ⟨x, rfl, hlc, hm, hz, hc, hwf⟩
  · exact ⟨[], 0, rfl, .inl rfl, fun _ => rfl, fun h => absurd rfl h⟩
  · refine ⟨(zs.take len).map (fun z => UInt8.ofNat z.toNat), x.block, by simp; omega, ?_, (fun h => by cases h), ?_⟩
    · by_cases h0 : len = 0
      · exact .inl (by subst h0; simp)
      · have c0 := hc 0 (by omega)
        have hspot : x.spot = none := by simpa [Addr.add] using World.cell?_spot c0
        obtain ⟨b, off, sp⟩ := x
        simp only at hspot
        subst hspot
        refine .inr ⟨block_lt_of_cell (by simpa [Addr.add] using c0), off, rfl, fun j hj => ?_⟩
        have hjl : j < len := by simp at hj; omega
        have cj := hc j (by omega)
        rw [Addr.add_lit] at cj
        rw [cj]
        have hmem : zs.getD j 0 ∈ zs := by rw [List.getD_eq_getElem?_getD, List.getElem?_eq_getElem (by omega)]; exact List.getElem_mem _
        have hb := u8_wf (hwf _ hmem)
        have e1 : ((zs.take len).map (fun z => UInt8.ofNat z.toNat))[j] = UInt8.ofNat (zs.getD j 0).toNat := by
          simp [List.getD_eq_getElem?_getD, List.getElem?_eq_getElem (show j < zs.length by omega)]
        rw [e1, UInt8.toNat_ofNat']
        have e2 : ((zs.getD j 0).toNat % 2 ^ 8 : Nat) = (zs.getD j 0).toNat := Nat.mod_eq_of_lt (by omega)
        rw [e2]
        congr 2
        omega
    · intro hne
      have h0 : 0 < len := by
        rcases Nat.eq_zero_or_pos len with h | h
        · subst h; simp at hne
        · exact h
      have c0 := hc 0 (by omega)
      obtain ⟨b, off, sp⟩ := x
      exact block_lt_of_cell (by simpa [Addr.add] using c0)

/-- 'append([]byte{}, b...)'. -/
theorem append_bytes (w1 : World) (a : Option Addr) (l : List UInt8) (bb cap : Nat) (hb : BSlice w1 a l bb) (hnil : a = none → l = []) (hl : l.length ≤ 140737488355328) :
    ∃ g cap' w' pad, (Builtin.append_ #[31, 31] 31 #[.slice (some ⟨w1.heap.size, 0, none⟩) 0 0, .slice a l.length cap]).run Try.prog (w1.alloc (.cells #[] 5)) = .ok (.slice (some ⟨g, 0, none⟩) l.length cap') w' ∧
      w1.heap.size ≤ g ∧ Blk w' g (bCells l ++ pad) 5 ∧ Below w1.heap.size w1 w' := by
  obtain ⟨i0, hi0, hp0⟩ := Option.map_eq_some_iff.1 info5
  simp only [Prod.mk.injEq] at hp0
  obtain ⟨hz0, hz1, hz2⟩ := hp0
  have hown : (w1.alloc (.cells #[] 5)).ownsRow w1.heap.size 5 1 (.slice (some ⟨w1.heap.size, 0, none⟩) 0 0) 0 [] := World.ownsRow_made w1 #[] 0 (Nat.le_refl _) (Nat.zero_le _) (by simp)
  have fin : ∀ v' w', w'.ownsRow w1.heap.size 5 1 v' l.length (bCells l) → v' ≠ .slice none 0 0 → ∃ g cap' pad, v' = .slice (some ⟨g, 0, none⟩) l.length cap' ∧ w1.heap.size ≤ g ∧ Blk w' g (bCells l ++ pad) 5 := by
    intro v' w' ho hv
    rcases ho.2 with ⟨h, _⟩ | ⟨g, c', cur, hv2, hB, hh, _, _, _, ht⟩
    · exact absurd h hv
    · refine ⟨g, c', cur.toList.drop (l.length * 1), hv2, hB, ?_⟩
      unfold Blk
      rw [← ht, List.take_append_drop, Array.toArray_toList]
      exact hh
  cases a with
  | none =>
    have h0 := hnil rfl
    subst h0
    have hr : (Builtin.append_ #[31, 31] 31 #[.slice (some ⟨w1.heap.size, 0, none⟩) 0 0, .slice none 0 cap]).run Try.prog (w1.alloc (.cells #[] 5)) = .ok (.slice (some ⟨w1.heap.size, 0, none⟩) 0 0) (w1.alloc (.cells #[] 5)) := by
      have h := run_append_room_src (P := Try.prog) (w1.alloc (.cells #[] 5)) 31 31 31 5 i0 Try.underlying31 hi0 w1.heap.size 0 0 0 (.slice none 0 cap) 0 [] (Src.ofNil _ Try.underlying31 cap) (Nat.le_refl _) (fun j hj => by simp at hj) (fun j hj => by simp at hj)
      exact h
    exact ⟨w1.heap.size, 0, _, [], hr, Nat.le_refl _, Blk.new w1 [] 5, (Below.refl _ _).alloc (Nat.le_refl _) _⟩
  | some x =>
    have hcells : ∀ j u, (bCells l)[j]? = some u → (w1.alloc (.cells #[] 5)).cell? (x.add j) = some u := by
      intro j u hj
      have hjl : j < l.length := by have := (List.getElem?_eq_some_iff.1 hj).1; simpa [bCells] using this
      rcases hb with h | ⟨hb0, off, ha, hc⟩
      · subst h; simp at hjl
      · cases ha
        rw [Addr.add_lit]
        have : u = .int .u8 (l[j].toNat : Int) := by
          have e : (bCells l)[j]? = some (.int .u8 (l[j].toNat : Int)) := by simp [bCells, hjl]
          rw [e] at hj
          exact (Option.some.inj hj).symm
        rw [this]
        exact Lib.cell?_alloc_some _ (hc j hjl)
    obtain ⟨v', w', hr, ho, hg, hnl⟩ := run_append_own (P := Try.prog) (w1.alloc (.cells #[] 5)) w1.heap.size 31 31 5 i0 (.int .u8 0) 1 1 Try.underlying31 hi0 hz0 hz1 hz2 rfl (by decide) _ 0 [] hown x l.length cap (bCells l) (by simp [bCells]) hcells
      (fun u hu => by obtain ⟨_, _, rfl⟩ := List.mem_map.1 hu; rfl) (by unfold maxLen; omega) (by omega) (by rw [nblk_alloc]; omega)
    rw [Nat.zero_add, List.nil_append] at ho
    obtain ⟨g, c', pad, rfl, hgB, hblk⟩ := fin v' w' ho (fun h => by have := (hnl.1 h).1; simp at this)
    exact ⟨g, c', w', pad, hr, hgB, hblk, ((Below.refl _ w1).alloc (Nat.le_refl _) _).grown hg (by rw [nblk_alloc]; omega) (by intro k hk; simp [Value.ownBlock] at hk; omega)⟩

theorem blk_slice {w : World} {g cap : Nat} {l : List UInt8} {pad : List Value} (h : Blk w g (bCells l ++ pad) 5) : BSlice w (some ⟨g, 0, none⟩) l g := by
  refine .inr ⟨h.lt, 0, rfl, fun j hj => ?_⟩
  rw [Nat.zero_add]
  refine h.cell ?_
  rw [List.getElem?_append_left (by simpa [bCells] using hj)]
  simp [bCells, hj]
end Go.Proofs.Ythnfdgjikbjgoab
