/- A region whose world turns at a few operations, one behind the other, and whose last operation writes a slot that others have read. -/
import Derived.Test.YtdkiegkgnimapabDoorAnyB
set_option linter.unusedVariables false
set_option linter.unusedSimpArgs false
set_option maxRecDepth 8000
namespace Go.Proofs.YtdkiegkgnimapabDoor
open Go.RowKit
variable {P : Program} {ops : Array Oper} {Q : Exit → Act → World → Prop}
theorem wp_region_chainp {id : Nat} {a0 : Act} {w : World} (hm : P.follows .mixedOrders = true) (hp : plainRegion ops = true) (V : Nat → Value) (zs : List Nat) (hz : chainOk ops zs = true) (C : Nat → World → Prop)
    (hC0 : C 0 { w with drawn := w.drawn + 1 })
    (hops : ∀ (i : Nat) (o : Oper), ops[i]? = some o → ∀ (s : Nat) (w' : World) (ev : Operand → Value), s ≤ lim ops zs i → (∀ k, zs[k]? = some i → s = k) → C s w' →
      (∀ t j e, ownOf ops t = some j → e ∈ o.after.toList → Region.binds .any e = true → e.on = j → t < a0.tmps.size → ev (.tmp t) = V j) →
      (∀ t, ownOf ops t = none → t < a0.tmps.size → ev (.tmp t) = a0.eval (.tmp t)) → (∀ t j, ownOf ops t = some j → edgeOf ops j i = true → t < a0.tmps.size → ev (.tmp t) = a0.eval (.tmp t)) → (∀ v, ev (.const v) = v) → (∀ f, ev (.func f) = .func (.func f) #[] #[]) →
      OpRuns P ev o (V i) w' (C (if i ∈ zs then s + 1 else s)))
    (hend : ∀ w', C zs.length w' → Q .normal (lexF V 0 ops.toList a0) w') : (Code.region id ops true).wp P Q a0 w := by
  simp only [chainOk, Bool.and_eq_true, decide_eq_true_eq] at hz
  obtain ⟨⟨hz1, hz2⟩, hnd⟩ := hz
  have hzlt : ∀ z ∈ zs, z < ops.size := fun z h => by simpa using List.all_eq_true.1 hz1 z h
  have er : ∀ j, (Array.replicate ops.size false).getD j false = false := fun j => by simp only [Array.getD_eq_getD_getElem?, Array.getElem?_replicate]; split <;> rfl
  refine wp_region_by hm hp V (fun listed W => (∀ j k, edgeOf ops j k = true → listed.getD j false = true → listed.getD k false = true) ∧ ∃ s, s ≤ zs.length ∧ (∀ k z, zs[k]? = some z → (listed.getD z false = true ↔ k < s)) ∧ C s W) ?_ ?_ ?_
  · refine ⟨fun j k _ hj => (by rw [er] at hj; cases hj), 0, Nat.zero_le _, fun k z _ => ?_, hC0⟩
    rw [er]
    simp
  · intro i o hi listed w' ev hs hc hfree hbind hev hcst hfn
    have hilt : i < ops.size := (Array.getElem?_eq_some_iff.1 hi).1
    have hff : listed.getD i false = false := by
      simp only [Array.getD_eq_getD_getElem?] at hfree ⊢
      rw [Array.getElem?_eq_getElem (by omega)] at hfree ⊢
      simpa using hfree
    obtain ⟨hcl, s, hsl, hst, hC⟩ := hc
    have hdir : ∀ k, edgeOf ops i k = true → listed.getD k false = true := fun k hk => by
      obtain ⟨e, he, hb, hon⟩ := edge_mem hi hk
      rw [← hon]
      exact hbind e he hb
    have hlim : s ≤ lim ops zs i := by
      unfold lim
      cases hf : zs.findIdx? (fun z => edgeOf ops z i || (List.range ops.size).any fun j => edgeOf ops z j && edgeOf ops j i) with
      | none => simpa using hsl
      | some k =>
        simp only [Option.getD_some]
        have hk := List.findIdx?_eq_some_iff_getElem.1 hf
        obtain ⟨hkl, hke, _⟩ := hk
        rcases Nat.lt_or_ge k s with h | h
        · have h1 := (hst k zs[k] (List.getElem?_eq_getElem hkl)).2 h
          have h2 : listed.getD i false = true := by
            simp only [Bool.or_eq_true] at hke
            rcases hke with hke | hke
            · exact hcl _ _ hke h1
            · obtain ⟨j, _, hj⟩ := List.any_eq_true.1 hke
              simp only [Bool.and_eq_true] at hj
              exact hcl _ _ hj.2 (hcl _ _ hj.1 h1)
          rw [hff] at h2; cases h2
        · exact h
    have hk : ∀ k, zs[k]? = some i → s = k := fun k hk => by
      have h1 : ¬ k < s := fun h => by
        have := (hst k i hk).2 h
        rw [hff] at this; cases this
      cases k with
      | zero => omega
      | succ k =>
        have hkl : k + 1 < zs.length := (List.getElem?_eq_some_iff.1 hk).1
        have h2 := List.all_eq_true.1 hz2 k (List.mem_range.2 (by omega))
        simp only [Bool.or_eq_true, beq_iff_eq] at h2
        rcases h2 with h2 | h2
        · omega
        · rw [List.getD_eq_getElem?_getD, hk, List.getD_eq_getElem?_getD, List.getElem?_eq_getElem (by omega : k < zs.length)] at h2
          simp only [Option.getD_some] at h2
          have h3 := hdir _ h2
          have h4 := (hst k _ (List.getElem?_eq_getElem (by omega : k < zs.length))).1 h3
          omega
    have hrun := hops i o hi s w' ev hlim hk hC
      (fun t j e hown he hb hej ht => by rw [hev t ht]; unfold pickSlot; rw [hown]; simp only; rw [if_pos (hej ▸ hbind e he hb)])
      (fun t hown ht => by rw [hev t ht]; unfold pickSlot; rw [hown])
      (fun t j hown hji ht => by
        have hnj : listed.getD j false = false := by
          cases hq : listed.getD j false with
          | false => rfl
          | true => have := hcl j i hji hq; rw [hff] at this; cases this
        rw [hev t ht]; unfold pickSlot; rw [hown]; simp only; rw [hnj]; rfl) hcst hfn
    have hcl' : ∀ j k, edgeOf ops j k = true → (listed.setIfInBounds i true).getD j false = true → (listed.setIfInBounds i true).getD k false = true := by
      intro j k hjk hj
      rw [getD_set _ _ _ (by omega)] at hj ⊢
      split
      · rfl
      · by_cases h : j = i
        · subst h; exact hdir k hjk
        · rw [if_neg h] at hj; exact hcl j k hjk hj
    have key : ∀ W, C (if i ∈ zs then s + 1 else s) W → (∀ j k, edgeOf ops j k = true → (listed.setIfInBounds i true).getD j false = true → (listed.setIfInBounds i true).getD k false = true) ∧ ∃ s, s ≤ zs.length ∧ (∀ k z, zs[k]? = some z → ((listed.setIfInBounds i true).getD z false = true ↔ k < s)) ∧ C s W := by
      intro W hW
      refine ⟨hcl', ?_⟩
      by_cases hmem : i ∈ zs
      · rw [if_pos hmem] at hW
        obtain ⟨k0, hk0⟩ := List.getElem?_of_mem hmem
        have hs0 := hk k0 hk0
        subst hs0
        have hk0l : s < zs.length := (List.getElem?_eq_some_iff.1 hk0).1
        refine ⟨s + 1, hk0l, fun k z hkz => ?_, hW⟩
        rw [getD_set _ _ _ (by omega)]
        by_cases hzi : z = i
        · subst hzi
          have := hk k hkz
          rw [if_pos rfl]
          constructor
          · intro _; omega
          · intro _; rfl
        · rw [if_neg hzi, hst k z hkz]
          constructor
          · intro h; omega
          · intro h
            rcases Nat.lt_or_ge k s with h1 | h1
            · exact h1
            · have e : k = s := by omega
              subst e
              rw [hk0] at hkz
              exact absurd (Option.some.inj hkz).symm hzi
      · rw [if_neg hmem] at hW
        refine ⟨s, hsl, fun k z hkz => ?_, hW⟩
        have hzi : z ≠ i := fun e => hmem (e ▸ List.mem_of_getElem? hkz)
        rw [getD_set _ _ _ (by omega), if_neg hzi]
        exact hst k z hkz
    rcases hrun with ⟨w2, h1, h2⟩ | ⟨hv, w2, h1, h2⟩ | ⟨f, args, h1, h2⟩
    · exact .inl ⟨w2, h1, key w2 h2⟩
    · exact .inr (.inl ⟨hv, w2, h1, key w2 h2⟩)
    · exact .inr (.inr ⟨f, args, h1, h2.mono fun e w3 h3 => ⟨h3.1, key w3 h3.2⟩⟩)
  · intro w' hc
    obtain ⟨_, s, hsl, hst, hC⟩ := hc
    have : s = zs.length := by
      rcases Nat.lt_or_ge s zs.length with h | h
      · have h1 := hst s zs[s] (List.getElem?_eq_getElem h)
        have h2 : (Array.replicate ops.size true).getD zs[s] false = true := by
          have := hzlt zs[s] (by simp)
          simp [Array.getD_eq_getD_getElem?, Array.getElem?_replicate, this]
        have := h1.1 h2
        omega
      · omega
    subst this
    exact hend w' hC
end Go.Proofs.YtdkiegkgnimapabDoor
