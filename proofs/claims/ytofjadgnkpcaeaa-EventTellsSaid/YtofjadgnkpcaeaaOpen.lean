/-
  A row of texts as it comes in.
-/
import Derived.Test.YtofjadgnkpcaeaaR11
import Derived.Test.YtofjadgnkpcaeaaRow17
import Derived.SliceStrings
import Derived.SizedLaws
import Derived.OpenShut
set_option linter.unusedVariables false
set_option linter.unusedSimpArgs false
namespace Go.Proofs.Ytofjadgnkpcaeaa
open Go.RowKit Go.Deep Go.ChangeShapes Go.WideShapes


theorem weights_all {H : Type} {P : Program} {e : TypeId} : ∀ {ds : List (DataW H)} {d : DataW H}, d ∈ ds → ∀ n ∈ d.weights P e, n ∈ DataW.weightsAll P e ds
  | d' :: r, d, hd, n, hn => by
    simp only [DataW.weightsAll, List.mem_append]
    rcases List.mem_cons.1 hd with rfl | hd
    · exact .inl hn
    · exact .inr (weights_all hd n hn)
theorem strs_open {H : Type} {enc : TypeId × Value → H} {W : World} {fuel : Nat} {a0 : Option Addr} {len0 cap0 : Nat} {x : DataW H × List MemPlace} (h : DataW.trod enc Try.prog W 0 (fun _ => true) true fuel 24 [.slice a0 len0 cap0] = some x)
    (hw : ∀ n ∈ x.1.weights Try.prog 24, n ≤ reachBytes) : ∃ xs, StrsAt W a0 len0 xs := by
  rcases open_strings Try.underlying24 Try.underlying9 (by kernel_rfl) h with ⟨hcs, _⟩ | ⟨a, len, cap, ss, hcs, hb, hl, hm, hss, hx, hcell, hmx⟩
  · simp at hcs
    obtain ⟨rfl, rfl, rfl⟩ := hcs
    exact ⟨[], rfl, fun x hx => by simp at hx, fun i x hx => by simp at hx⟩
  · simp only [List.cons.injEq, Value.slice.injEq, and_true] at hcs
    obtain ⟨rfl, rfl, rfl⟩ := hcs
    have hss' : ss.length = cap0 := by simpa using hss
    refine ⟨ss.take len0, by rw [List.length_take]; omega, fun s hs => ?_, fun i s hs => ?_⟩
    · have hw2 := hw s.data.toList.length (by
        rw [hx]
        simp only [DataW.weights, Try.underlying24, List.mem_cons, List.mem_append]
        refine .inr (.inl (weights_all (d := .lit (.string s.data.toList)) ?_ _ (by simp [DataW.weights])))
        exact List.mem_map.2 ⟨s, hs, rfl⟩)
      have e : s.data.toList.length = s.size := by rw [Array.length_toList]; rfl
      rw [e] at hw2
      simpa [reachBytes] using hw2
    · have hi : i < len0 ∧ i < ss.length := by
        have := (List.getElem?_eq_some_iff.1 hs).1; rw [List.length_take] at this; omega
      have hc := hcell i hi.2
      have hsi : ss.getD i ByteArray.empty = s := by
        rw [List.getElem?_take, if_pos hi.1] at hs
        rw [List.getD_eq_getElem?_getD, hs]; rfl
      rw [hsi] at hc
      have hsp : a.spot = none := by
        have := World.cell?_spot (hcell 0 (by omega))
        simpa [Addr.add] using this
      obtain ⟨b, off, sp⟩ := a
      simp only at hsp
      subst hsp
      rw [Addr.add_lit] at hc
      exact ⟨b, off, rfl, block_lt_of_cell hc, hc⟩
end Go.Proofs.Ytofjadgnkpcaeaa
