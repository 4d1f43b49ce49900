/- A row of items as it comes in: any items, of whatever lengths. -/
import Derived.Test.YtbccnfbombgdmaaRItem
set_option linter.unusedVariables false
set_option linter.unusedSimpArgs false
set_option maxRecDepth 100000
namespace Go.Proofs.Ytbccnfbombgdmaa
open Go.RowKit Go.Deep Go.ChangeShapes Go.WideShapes Math

structure RawAt (w : World) (a : Option Addr) (len : Nat) (xs : List It) : Prop where
  len : len = xs.length
  fits : ∀ x ∈ xs, x.fits
  cell : ∀ i x, xs[i]? = some x → ∃ b o, a = some ⟨b, o, none⟩ ∧ b < w.heap.size ∧ OneIt w b (o + i * 5) x
theorem RawAt.below {w w' : World} {a : Option Addr} {len : Nat} {xs : List It} (h : RawAt w a len xs) (k : Below w.heap.size w w') : RawAt w' a len xs :=
  ⟨h.len, h.fits, fun i x hx => by
    obtain ⟨b, o, ha, hb, hc⟩ := h.cell i x hx
    exact ⟨b, o, ha, Nat.lt_of_lt_of_le hb k.size, hc.below k hb⟩⟩
theorem RawAt.its {w : World} {a : Option Addr} {len : Nat} {xs : List It} (h : RawAt w a len xs) (hs : ∀ x ∈ xs, x.key.length ≤ 140737488351232 ∧ x.value.length ≤ 140737488351232) : ItsAt w a len xs :=
  ⟨h.len, fun x hx => ⟨h.fits x hx, hs x hx⟩, h.cell⟩

theorem choose_lt {α : Type} [Inhabited α] {n : Nat} {p : Nat → α → Prop} (h : ∀ i, i < n → ∃ t, p i t) : ∃ T : Nat → α, ∀ i, i < n → p i (T i) :=
  ⟨fun i => if hi : i < n then Classical.choose (h i hi) else default, fun i hi => by simp only [hi, dif_pos]; exact Classical.choose_spec (h i hi)⟩

set_option maxHeartbeats 400000 in
theorem its_open {H : Type} {enc : TypeId × Value → H} {W : World} {fuel : Nat} {a0 : Option Addr} {len0 cap0 : Nat} {x : DataW H × List MemPlace} (h : DataW.trod enc Try.prog W 0 (fun _ => true) true fuel 30 [.slice a0 len0 cap0] = some x) :
    ∃ xs, RawAt W a0 len0 xs := by
  rcases open_slice Try.underlying30 h with ⟨hcs, _⟩ | ⟨a, len, cap, m, n, D, Pl, hcs, _, hl, hm, hmm, hx, hel⟩
  · simp at hcs
    obtain ⟨rfl, rfl, rfl⟩ := hcs
    exact ⟨[], rfl, fun x hx => by simp at hx, fun i x hx => by simp at hx⟩
  · simp only [List.cons.injEq, Value.slice.injEq, and_true] at hcs
    obtain ⟨rfl, rfl, rfl⟩ := hcs
    have hmc : m = cap0 := by simpa using hmm
    by_cases h0 : len0 = 0
    · subst h0; exact ⟨[], rfl, fun x hx => by simp at hx, fun i x hx => by simp at hx⟩
    have hspot : a.spot = none := by
      obtain ⟨cs', h1, h2⟩ := hel 0 (by omega)
      rw [cells30] at h1
      obtain ⟨_, hlen, hcell⟩ := World.cells?_some h1
      match cs', hlen with
      | [v0, v1, v2, v3, v4], _ =>
        have e0 := hcell 0 (by omega)
        have := World.cell?_spot (v := v0) (by simpa using e0)
        simpa [Addr.add] using this
    obtain ⟨b, off, sp⟩ := a
    simp only at hspot
    subst hspot
    have each : ∀ i, i < len0 → ∃ t : It, t.fits ∧ OneIt W b (off + i * 5) t := by
      intro i hi
      obtain ⟨cs', h1, h2⟩ := hel i (by omega)
      rw [cells30] at h1
      obtain ⟨_, hlen, hcell⟩ := World.cells?_some h1
      obtain ⟨t, ht, rfl⟩ := item_open h2 hlen
      have key : ∀ j v, j < 5 → (itCells t)[j]? = some v → W.cell? ⟨b, off + i * 5 + j, none⟩ = some v := fun j v hj hv => by
        have e := hcell j (by omega)
        rw [hv] at e
        rw [Addr.add_lit, Addr.add_lit] at e
        exact e
      exact ⟨t, ht, key 0 _ (by omega) rfl, key 1 _ (by omega) rfl, key 2 _ (by omega) rfl, key 3 _ (by omega) rfl, key 4 _ (by omega) rfl⟩
    obtain ⟨T, hT⟩ := @choose_lt _ ⟨It.zero⟩ _ _ each
    refine ⟨(List.range len0).map T, by simp, fun x hx => ?_, fun i t ht => ⟨b, off, rfl, ?_, ?_⟩⟩
    · obtain ⟨i, hi, rfl⟩ := List.mem_map.1 hx
      exact (hT i (List.mem_range.1 hi)).1
    · exact block_lt_of_cell (a := ⟨b, off + 0 * 5, none⟩) (hT 0 (by omega)).2.c0
    · have hi : i < len0 := by have := (List.getElem?_eq_some_iff.1 ht).1; simpa using this
      have : t = T i := by
        rw [List.getElem?_map, List.getElem?_range hi] at ht
        simpa using ht.symm
      rw [this]
      exact (hT i hi).2
end Go.Proofs.Ytbccnfbombgdmaa
