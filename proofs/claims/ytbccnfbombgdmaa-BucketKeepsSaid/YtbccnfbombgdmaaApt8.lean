/- Each item stands in its own bucket; what is done to one bucket leaves the others. -/
import Derived.Test.YtbccnfbombgdmaaLst8
set_option linter.unusedVariables false
set_option linter.unusedSimpArgs false
set_option maxRecDepth 100000
namespace Go.Proofs.Ytbccnfbombgdmaa
open Go.RowKit Go.Deep Go.ChangeShapes Go.WideShapes Math

/-- An item as it comes in, with how long its key can be. -/
theorem item_open2 {H : Type} {enc : TypeId × Value → H} {W : World} {fuel : Nat} {cs : List Value} {x : DataW H × List MemPlace} (h : DataW.trod enc Try.prog W 0 (fun _ => true) true fuel 36 cs = some x) (hl : cs.length = 5) :
    ∃ t : It, (t.fits ∧ t.key.length ≤ maxLen) ∧ cs = itCells t := by
  obtain ⟨xs, k, hk, hxy, _, hxl, hf⟩ := DataW.trod_struct Try.underlying36 h
  match xs, hxl, cs, hl with
  | [y0, y1, y2, y3, y4], _, [v0, v1, v2, v3, v4], _ =>
    have g0 := hf 0 _ rfl
    have g1 := hf 1 _ rfl
    have g2 := hf 2 _ rfl
    have g3 := hf 3 _ rfl
    have g4 := hf 4 _ rfl
    simp at g0 g1 g2 g3 g4
    simp only [cells9, cells27, cells2, cells28] at g0 g1 g2 g3 g4
    simp only [List.take_succ_cons, List.take_zero] at g0 g1 g2 g3 g4
    obtain ⟨s0, hv0, _, hs0⟩ := DataW.trod_string Try.underlying9 g0
    obtain ⟨s1, hv1, _, _⟩ := DataW.trod_string Try.underlying9 g1
    obtain ⟨n2, hv2, _, w2⟩ := DataW.trod_int Try.underlying33 g2
    obtain ⟨n3, hv3, _, w3⟩ := DataW.trod_int Try.underlying2 g3
    obtain ⟨n4, hv4, _, w4⟩ := DataW.trod_int Try.underlying34 g4
    simp only [List.cons.injEq, and_true] at hv0 hv1 hv2 hv3 hv4
    subst hv0 hv1 hv2 hv3 hv4
    have q2 := wf_u32 w2
    have q3 := wf_i64 w3
    have q4 := wf_u64 w4
    have hk : s0.data.toList.length ≤ maxLen := by rw [Array.length_toList]; exact hs0
    refine ⟨⟨s0.data.toList, s1.data.toList, n2.toNat, n3, n4.toNat⟩, ⟨⟨by simp; omega, q3.1, q3.2, by simp; omega⟩, hk⟩, ?_⟩
    simp only [itCells, txt_data, List.cons.injEq, Value.int.injEq, true_and, and_true]
    exact ⟨by omega, by omega⟩
theorem item_param2 {H : Type} {enc : TypeId × Value → H} {W : World} {fuel : Nat} {cs : Array Value} {x : DataW H × List MemPlace} (h : DataW.trod enc Try.prog W 0 (fun _ => true) true fuel 36 (Value.agg cs).cells.toList = some x) (hl : cs.size = Try.prog.cellsOf 36) :
    ∃ t : It, (t.fits ∧ t.key.length ≤ maxLen) ∧ cs = (itCells t).toArray := by
  obtain ⟨t, h1, h2⟩ := item_open2 (cs := cs.toList) h (by rw [Array.length_toList, hl, cells30])
  exact ⟨t, h1, by rw [← h2, Array.toArray_toList]⟩

def Home (n : Nat) (f : Nat → List It) : Prop := ∀ k, k < n → ∀ x ∈ f k, bkt x.key n = k
variable {n : Nat} {f g : Nat → List It}
theorem Home.put (h : Home n f) (x : It) : Home n (putF n f x) := by
  intro k hk y hy
  unfold putF at hy
  split at hy
  · rename_i e
    rcases List.mem_append.1 (List.mem_of_mem_drop hy) with h1 | h1
    · rw [e]; exact h _ (by rw [← e]; exact hk) y (List.mem_filter.1 h1).1
    · simp at h1; rw [h1, e]
  · exact h k hk y hy
theorem Home.drop (h : Home n f) (key : List UInt8) : Home n (dropF n f key) := by
  intro k hk y hy
  unfold dropF at hy
  split at hy
  · exact h k hk y (List.mem_filter.1 hy).1
  · exact h k hk y hy
theorem bkt_mod (key : List UInt8) : Bl.hashK (txt key) % 4 = (bkt key 4 : Int) := by
  unfold bkt
  have := Int.emod_nonneg (Bl.hashK (txt key)) (show (4 : Int) ≠ 0 by omega)
  omega
theorem notAt_eq (key : List UInt8) (y : It) : notAt (Bl.hashK (txt key) % 4) y = decide (bkt y.key 4 ≠ bkt key 4) := by
  unfold notAt
  rw [bkt_mod, bkt_mod, decide_eq_decide]
  omega
theorem others_of (h : Home 4 f) (key : List UInt8) : (allF 4 f).filter (notAt (Bl.hashK (txt key) % 4)) = allF 4 (fun k => if k = bkt key 4 then [] else f k) := by
  unfold allF
  rw [List.filter_flatMap]
  apply flat_congr
  intro k hk
  have hk4 := List.mem_range.1 hk
  by_cases e : k = bkt key 4
  · rw [if_pos e, List.filter_eq_nil_iff]
    intro y hy
    rw [notAt_eq, h k hk4 y hy]
    simp [e]
  · rw [if_neg e, List.filter_eq_self]
    intro y hy
    rw [notAt_eq, h k hk4 y hy]
    simp [e]
theorem others_same (hf : Home 4 f) (hg : Home 4 g) (key : List UInt8) (h : ∀ k, k ≠ bkt key 4 → g k = f k) : (allF 4 g).filter (notAt (Bl.hashK (txt key) % 4)) = (allF 4 f).filter (notAt (Bl.hashK (txt key) % 4)) := by
  rw [others_of hf, others_of hg]
  apply flat_congr
  intro k _
  by_cases e : k = bkt key 4
  · rw [if_pos e, if_pos e]
  · rw [if_neg e, if_neg e, h k e]
theorem flat_le {α : Type} {l : List α} {p q : α → List It} (h : ∀ x ∈ l, (p x).length ≤ (q x).length) : (l.flatMap p).length ≤ (l.flatMap q).length := by
  induction l with
  | nil => simp
  | cons x r ih =>
    rw [List.flatMap_cons, List.flatMap_cons, List.length_append, List.length_append]
    have h1 := h x (by simp)
    have h2 := ih (fun y hy => h y (by simp [hy]))
    omega
theorem drop_le (key : List UInt8) : (allF n (dropF n f key)).length ≤ (allF n f).length := by
  apply flat_le
  intro k _
  unfold dropF
  split
  · exact List.length_filter_le _ _
  · exact Nat.le_refl _
theorem put_other (x : It) (k : Nat) (h : k ≠ bkt x.key n) : putF n f x k = f k := by unfold putF; rw [if_neg h]
theorem drop_other (key : List UInt8) (k : Nat) (h : k ≠ bkt key n) : dropF n f key k = f k := by unfold dropF; rw [if_neg h]
end Go.Proofs.Ytbccnfbombgdmaa
