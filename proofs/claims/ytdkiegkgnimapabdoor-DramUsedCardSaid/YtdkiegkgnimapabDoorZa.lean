/- Joined texts: AnyC, AnyE. -/
import Derived.Test.YtdkiegkgnimapabDoorAnyB
/- A region of one call whose answer is not known ahead, and of operations that turn the world behind it. -/
set_option linter.unusedVariables false
set_option linter.unusedSimpArgs false
namespace Go.Proofs.YtdkiegkgnimapabDoor
open Go.RowKit
variable {P : Program} {ops : Array Oper} {Q : Exit → Act → World → Prop}

def OpRunsY (P : Program) (ev : Operand → Value) (o : Oper) (w : World) (C : Value → World → Prop) : Prop :=
  (∃ v w', (execOp ev o).run P w = .ok (.value v) w' ∧ C v w') ∨ (∃ w', (execOp ev o).run P w = .ok .skip w' ∧ C undef w') ∨
  (∃ f args, (execOp ev o).run P w = .ok (.enter f args) w ∧ Calls P f args w fun e w' => ∃ v, e = .returned v ∧ C v w')
theorem OpRunsY.mono {ev : Operand → Value} {o : Oper} {w : World} {C D : Value → World → Prop} (h : OpRunsY P ev o w C) (hcd : ∀ v w', C v w' → D v w') : OpRunsY P ev o w D := by
  rcases h with ⟨v, w', h1, h2⟩ | ⟨w', h1, h2⟩ | ⟨f, args, h1, h2⟩
  · exact .inl ⟨v, w', h1, hcd _ _ h2⟩
  · exact .inr (.inl ⟨w', h1, hcd _ _ h2⟩)
  · exact .inr (.inr ⟨f, args, h1, h2.mono fun e w3 ⟨v, h3, h4⟩ => ⟨v, h3, hcd _ _ h4⟩⟩)
theorem wp_region_ey {id : Nat} {a0 : Act} {w : World} (hm : P.follows .mixedOrders = true) (hp : plainRegion ops = true) (J : Array Bool → (Nat → Value) → World → Prop)
    (hJ0 : J (Array.replicate ops.size false) (fun _ => undef) { w with drawn := w.drawn + 1 })
    (hops : ∀ i o, ops[i]? = some o → ∀ (listed : Array Bool) (V : Nat → Value) (w' : World) (ev : Operand → Value), listed.size = ops.size → J listed V w' → listed.getD i false = false → (∀ k, edgeOf ops i k = true → listed.getD k false = true) →
      (∀ t j e, ownOf ops t = some j → e ∈ o.after.toList → Region.binds .any e = true → e.on = j → t < a0.tmps.size → ev (.tmp t) = V j) →
      (∀ t, ownOf ops t = none → t < a0.tmps.size → ev (.tmp t) = a0.eval (.tmp t)) → (∀ t j, ownOf ops t = some j → listed.getD j false = false → t < a0.tmps.size → ev (.tmp t) = a0.eval (.tmp t)) → (∀ v, ev (.const v) = v) → (∀ f, ev (.func f) = .func (.func f) #[] #[]) →
      OpRunsY P ev o w' fun v w'' => J (listed.setIfInBounds i true) (setV V i v) w'')
    (hend : ∀ V w', J (Array.replicate ops.size true) V w' → Q .normal (lexF V 0 ops.toList a0) w') : (Code.region id ops true).wp P Q a0 w := by
  refine wp_region_any hm ?_
  refine wpAny_by (fun listed a w' => listed.size = ops.size ∧ ∃ V, a = frameOf (ownOf ops) V a0 listed ∧ J listed V w') ?_ ?_ _ _ _ _ ⟨by simp, _, (frame_none _ _ _ _).symm, hJ0⟩ ?_
  · rintro listed a w' ⟨hs, V, rfl, hc⟩ hr
    have := all_listed hs hp hr
    subst this
    rw [frame_lex hp]
    exact hend V w' hc
  · rintro listed a w' ⟨hs, V, rfl, hc⟩ i hi
    obtain ⟨hlt, hfree, haft⟩ := ready_free hi
    have ho : ops[i]? = some ops[i] := Array.getElem?_eq_getElem hlt
    have hpi := List.all_eq_true.1 hp i (List.mem_range.2 hlt)
    rw [ho] at hpi
    simp only [Bool.and_eq_true] at hpi
    rw [ho] at haft
    simp only [Option.map_some, Option.getD_some] at haft
    have hbind : ∀ e ∈ (ops[i]).after.toList, Region.binds .any e = true → listed.getD e.on false = true := by
      intro e he hb
      obtain ⟨j, hj, hje⟩ := List.getElem_of_mem he
      have hx := (Array.all_eq_true.1 haft) j (by simpa using hj)
      have hje' : (ops[i]).after[j]'(by simpa using hj) = e := by simpa using hje
      rw [hje', hb] at hx
      simpa using hx
    have hdir : ∀ k, edgeOf ops i k = true → listed.getD k false = true := by
      intro k hk
      unfold edgeOf at hk
      rw [ho] at hk
      obtain ⟨x, hx, hxe⟩ := Array.any_eq_true.1 hk
      simp only [Bool.and_eq_true, beq_iff_eq] at hxe
      have := hbind ((ops[i]).after[x]) (by simp) hxe.2
      rw [hxe.1] at this
      exact this
    have hfr : listed.getD i false = false := by
      simp only [Array.getD_eq_getD_getElem?] at hfree ⊢
      rw [Array.getElem?_eq_getElem (by omega)] at hfree ⊢
      simpa using hfree
    have hrun := hops i ops[i] ho listed V w' (frameOf (ownOf ops) V a0 listed).eval hs hc hfr hdir
      (fun t j e hown he hb hej ht => by rw [frame_eval _ _ _ _ _ ht]; unfold pickSlot; rw [hown]; simp only; rw [if_pos (hej ▸ hbind e he hb)])
      (fun t hown ht => by rw [frame_eval _ _ _ _ _ ht]; unfold pickSlot; rw [hown]) (fun t j hown hj ht => by rw [frame_eval _ _ _ _ _ ht]; unfold pickSlot; rw [hown]; simp only; rw [if_neg (by rw [hj]; decide)]) (fun v => rfl) (fun f => rfl)
    have hw : Region.wanted ops[i] (yielded ops (frameOf (ownOf ops) V a0 listed).tmps) = true := by
      have hg : ops[i].guard = none := by simpa using hpi.1.2
      simp [Region.wanted, hg]
    have hput : ∀ v, (frameOf (ownOf ops) V a0 listed).put ops[i].dst v = frameOf (ownOf ops) (setV V i v) a0 (listed.setIfInBounds i true) := fun v => by
      have e : frameOf (ownOf ops) V a0 listed = frameOf (ownOf ops) (setV V i v) a0 listed := frame_congr (fun j hj => by
        rw [setV_other]
        rintro rfl
        rw [hfr] at hj; cases hj)
      rw [e]
      have := frame_step (V := setV V i v) (a0 := a0) hp hs ho
      rw [setV_same] at this
      exact this
    unfold wpOp
    rw [ho]
    simp only [hw, if_true]
    left
    unfold Oper.wp
    rcases hrun with ⟨v, w2, hr, hc2⟩ | ⟨w2, hr, hc2⟩ | ⟨f, args, hr, hcalls⟩
    · rw [hr]
      exact ⟨by simpa using hs, _, hput v, hc2⟩
    · rw [hr]
      exact ⟨by simpa using hs, _, hput undef, hc2⟩
    · rw [hr]
      refine hcalls.mono ?_
      rintro e w2 ⟨v, rfl, hc2⟩
      exact ⟨by simpa using hs, _, hput v, hc2⟩
  · unfold todo
    simp
def depOk (ops : Array Oper) (z0 : Nat) (ds : List Nat) : Bool := ds.all fun i => edgeOf ops i z0 || ds.any fun k => edgeOf ops i k
theorem wp_region_cx {id : Nat} {a0 : Act} {w : World} (hm : P.follows .mixedOrders = true) (hp : plainRegion ops = true) (V : Value → Nat → Value) (z0 : Nat) (zs ds : List Nat) (hz : chainOk ops zs = true) (hd : depOk ops z0 ds = true) (hz0 : zs[0]? = some z0) (hV0 : ∀ v, V v z0 = v) (hVc : ∀ v v' i, i ∉ ds → i ≠ z0 → V v i = V v' i) (C : Nat → Value → World → Prop)
    (hC0 : C 0 undef { w with drawn := w.drawn + 1 })
    (hops : ∀ (i : Nat) (o : Oper), ops[i]? = some o → ∀ (s : Nat) (v : Value) (w' : World) (ev : Operand → Value), s ≤ lim ops zs i → (∀ k, zs[k]? = some i → s = k) → (i ∈ ds → 0 < s) → C s v w' →
      (∀ t j e, ownOf ops t = some j → e ∈ o.after.toList → Region.binds .any e = true → e.on = j → t < a0.tmps.size → ev (.tmp t) = V v j) →
      (∀ t, ownOf ops t = none → t < a0.tmps.size → ev (.tmp t) = a0.eval (.tmp t)) → (∀ v, ev (.const v) = v) → (∀ f, ev (.func f) = .func (.func f) #[] #[]) →
      OpRunsY P ev o w' (fun u w'' => if i = z0 then C 1 u w'' else u = V v i ∧ C (if i ∈ zs then s + 1 else s) v w''))
    (hend : ∀ v w', C zs.length v w' → Q .normal (lexF (V v) 0 ops.toList a0) w') : (Code.region id ops true).wp P Q a0 w := by
  simp only [chainOk, Bool.and_eq_true, decide_eq_true_eq] at hz
  obtain ⟨⟨hz1, hz2⟩, hnd⟩ := hz
  have hzlt : ∀ z ∈ zs, z < ops.size := fun z h => by simpa using List.all_eq_true.1 hz1 z h
  have er : ∀ j, (Array.replicate ops.size false).getD j false = false := fun j => by simp only [Array.getD_eq_getD_getElem?, Array.getElem?_replicate]; split <;> rfl
  have hlen0 : 0 < zs.length := (List.getElem?_eq_some_iff.1 hz0).1
  refine wp_region_ey hm hp (fun listed V' W => (∀ j k, edgeOf ops j k = true → listed.getD j false = true → listed.getD k false = true) ∧ ∃ s v, s ≤ zs.length ∧ (∀ k z, zs[k]? = some z → (listed.getD z false = true ↔ k < s)) ∧ C s v W ∧ (∀ k, listed.getD k false = true → V' k = V v k) ∧ (∀ k ∈ ds, listed.getD k false = true → 0 < s)) ?_ ?_ ?_
  · refine ⟨fun j k _ hj => (by rw [er] at hj; cases hj), 0, undef, Nat.zero_le _, fun k z _ => ?_, hC0, fun k hk => (by rw [er] at hk; cases hk), fun k _ hk => (by rw [er] at hk; cases hk)⟩
    rw [er]
    simp
  · intro i o hi listed V' w' ev hs hc hff hdir hin hout _ hcst hfn
    have hilt : i < ops.size := (Array.getElem?_eq_some_iff.1 hi).1
    obtain ⟨hcl, s, v, hsl, hst, hC, hVl, hds⟩ := hc
    have hlim : s ≤ lim ops zs i := by
      unfold lim
      cases hf : zs.findIdx? (fun z => edgeOf ops z i || (List.range ops.size).any fun j => edgeOf ops z j && edgeOf ops j i) with
      | none => simpa using hsl
      | some k =>
        simp only [Option.getD_some]
        have hk := List.findIdx?_eq_some_iff_getElem.1 hf
        obtain ⟨hkl, hke, _⟩ := hk
        rcases Nat.lt_or_ge k s with h | h
        · have h1 := (hst k zs[k] (List.getElem?_eq_getElem hkl)).2 h
          have h2 : listed.getD i false = true := by
            simp only [Bool.or_eq_true] at hke
            rcases hke with hke | hke
            · exact hcl _ _ hke h1
            · obtain ⟨j, _, hj⟩ := List.any_eq_true.1 hke
              simp only [Bool.and_eq_true] at hj
              exact hcl _ _ hj.2 (hcl _ _ hj.1 h1)
          rw [hff] at h2; cases h2
        · exact h
    have hk : ∀ k, zs[k]? = some i → s = k := fun k hk => by
      have h1 : ¬ k < s := fun h => by
        have := (hst k i hk).2 h
        rw [hff] at this; cases this
      cases k with
      | zero => omega
      | succ k =>
        have hkl : k + 1 < zs.length := (List.getElem?_eq_some_iff.1 hk).1
        have h2 := List.all_eq_true.1 hz2 k (List.mem_range.2 (by omega))
        simp only [Bool.or_eq_true, beq_iff_eq] at h2
        rcases h2 with h2 | h2
        · omega
        · rw [List.getD_eq_getElem?_getD, hk, List.getD_eq_getElem?_getD, List.getElem?_eq_getElem (by omega : k < zs.length)] at h2
          simp only [Option.getD_some] at h2
          have h3 := hdir _ h2
          have h4 := (hst k _ (List.getElem?_eq_getElem (by omega : k < zs.length))).1 h3
          omega
    have hdep : i ∈ ds → 0 < s := fun hid => by
      have h1 := List.all_eq_true.1 hd i hid
      simp only [Bool.or_eq_true] at h1
      rcases h1 with h1 | h1
      · exact (hst 0 z0 hz0).1 (hdir _ h1)
      · obtain ⟨k, hkd, hke⟩ := List.any_eq_true.1 h1
        exact hds k hkd (hdir _ hke)
    have hrun := hops i o hi s v w' ev hlim hk hdep hC (fun t j e hown he hb hej ht => by
      rw [hin t j e hown he hb hej ht]
      refine hVl j (hdir j ?_)
      unfold edgeOf
      rw [hi]
      simp only [Option.map_some, Option.getD_some]
      obtain ⟨q, hq, hqe⟩ := List.getElem_of_mem he
      exact Array.any_eq_true.2 ⟨q, by simpa using hq, by
        have : o.after[q]'(by simpa using hq) = e := by simpa using hqe
        rw [this, hej, hb]; simp⟩) hout hcst hfn
    have hcl' : ∀ j k, edgeOf ops j k = true → (listed.setIfInBounds i true).getD j false = true → (listed.setIfInBounds i true).getD k false = true := by
      intro j k hjk hj
      rw [getD_set _ _ _ (by omega)] at hj ⊢
      split
      · rfl
      · by_cases h : j = i
        · subst h; exact hdir k hjk
        · rw [if_neg h] at hj; exact hcl j k hjk hj
    refine hrun.mono ?_
    intro u W hW
    refine ⟨hcl', ?_⟩
    by_cases hi0 : i = z0
    · subst hi0
      rw [if_pos rfl] at hW
      have hs0 : s = 0 := hk 0 hz0
      subst hs0
      refine ⟨1, u, hlen0, fun k z hkz => ?_, hW, fun k hkl => ?_, fun _ _ _ => Nat.one_pos⟩
      · rw [getD_set _ _ _ (by omega)]
        by_cases hzi : z = i
        · subst hzi
          have := hk k hkz
          rw [if_pos rfl]
          constructor
          · intro _; omega
          · intro _; rfl
        · rw [if_neg hzi, hst k z hkz]
          constructor
          · intro h; omega
          · intro h
            have e : k = 0 := by omega
            subst e
            rw [hz0] at hkz
            exact absurd (Option.some.inj hkz).symm hzi
      · rw [getD_set _ _ _ (by omega)] at hkl
        by_cases hki : k = i
        · subst hki; rw [setV_same, hV0]
        · rw [if_neg hki] at hkl
          rw [setV_other _ _ _ _ hki, hVl k hkl]
          exact hVc _ _ k (fun hkd => absurd (hds k hkd hkl) (by omega)) hki
    · rw [if_neg hi0] at hW
      obtain ⟨hu, hW⟩ := hW
      have hval : ∀ k, (listed.setIfInBounds i true).getD k false = true → setV V' i u k = V v k := fun k hkl => by
        rw [getD_set _ _ _ (by omega)] at hkl
        by_cases hki : k = i
        · subst hki; rw [setV_same, hu]
        · rw [if_neg hki] at hkl
          rw [setV_other _ _ _ _ hki, hVl k hkl]
      have hdn : ∀ k ∈ ds, (listed.setIfInBounds i true).getD k false = true → 0 < s := fun k hkd hkl => by
        rw [getD_set _ _ _ (by omega)] at hkl
        by_cases hki : k = i
        · subst hki; exact hdep hkd
        · rw [if_neg hki] at hkl; exact hds k hkd hkl
      by_cases hmem : i ∈ zs
      · rw [if_pos hmem] at hW
        obtain ⟨k0, hk0⟩ := List.getElem?_of_mem hmem
        have hs0 := hk k0 hk0
        subst hs0
        have hk0l : s < zs.length := (List.getElem?_eq_some_iff.1 hk0).1
        refine ⟨s + 1, v, hk0l, fun k z hkz => ?_, hW, hval, fun _ _ _ => Nat.succ_pos _⟩
        rw [getD_set _ _ _ (by omega)]
        by_cases hzi : z = i
        · subst hzi
          have := hk k hkz
          rw [if_pos rfl]
          constructor
          · intro _; omega
          · intro _; rfl
        · rw [if_neg hzi, hst k z hkz]
          constructor
          · intro h; omega
          · intro h
            rcases Nat.lt_or_ge k s with h1 | h1
            · exact h1
            · have e : k = s := by omega
              subst e
              rw [hk0] at hkz
              exact absurd (Option.some.inj hkz).symm hzi
      · rw [if_neg hmem] at hW
        refine ⟨s, v, hsl, fun k z hkz => ?_, hW, hval, hdn⟩
        have hzi : z ≠ i := fun e => hmem (e ▸ List.mem_of_getElem? hkz)
        rw [getD_set _ _ _ (by omega), if_neg hzi]
        exact hst k z hkz
  · intro V' w' hc
    obtain ⟨_, s, v, hsl, hst, hC, hVl, _⟩ := hc
    have : s = zs.length := by
      rcases Nat.lt_or_ge s zs.length with h | h
      · have h1 := hst s zs[s] (List.getElem?_eq_getElem h)
        have h2 : (Array.replicate ops.size true).getD zs[s] false = true := by
          have := hzlt zs[s] (by simp)
          simp [Array.getD_eq_getD_getElem?, Array.getElem?_replicate, this]
        have := h1.1 h2
        omega
      · omega
    subst this
    have e : lexF V' 0 ops.toList a0 = lexF (V v) 0 ops.toList a0 := by
      rw [← frame_lex hp V' a0, ← frame_lex hp (V v) a0]
      exact frame_congr hVl
    rw [e]
    exact hend v w' hC
end Go.Proofs.YtdkiegkgnimapabDoor

/- A region of operations that turn the world one behind the other; the answer of one of them is not known ahead. -/
set_option linter.unusedVariables false
set_option linter.unusedSimpArgs false
namespace Go.Proofs.YtdkiegkgnimapabDoor
open Go.RowKit
variable {P : Program} {ops : Array Oper} {Q : Exit → Act → World → Prop}
theorem wp_region_cq {id : Nat} {a0 : Act} {w : World} (hm : P.follows .mixedOrders = true) (hp : plainRegion ops = true) (V : Value → Nat → Value) (z0 q : Nat) (zs ds : List Nat) (hz : chainOk ops zs = true) (hd : depOk ops z0 ds = true) (hz0 : zs[q]? = some z0) (hV0 : ∀ v, V v z0 = v) (hVc : ∀ v v' i, i ∉ ds → i ≠ z0 → V v i = V v' i) (C : Nat → Value → World → Prop)
    (hC0 : C 0 undef { w with drawn := w.drawn + 1 })
    (hops : ∀ (i : Nat) (o : Oper), ops[i]? = some o → ∀ (s : Nat) (v : Value) (w' : World) (ev : Operand → Value), s ≤ lim ops zs i → (∀ k, zs[k]? = some i → s = k) → (i ∈ ds → q < s) → C s v w' →
      (∀ t j e, ownOf ops t = some j → e ∈ o.after.toList → Region.binds .any e = true → e.on = j → t < a0.tmps.size → ev (.tmp t) = V v j) →
      (∀ t, ownOf ops t = none → t < a0.tmps.size → ev (.tmp t) = a0.eval (.tmp t)) → (∀ v, ev (.const v) = v) → (∀ f, ev (.func f) = .func (.func f) #[] #[]) →
      OpRunsY P ev o w' (fun u w'' => if i = z0 then C (q + 1) u w'' else u = V v i ∧ C (if i ∈ zs then s + 1 else s) v w''))
    (hend : ∀ v w', C zs.length v w' → Q .normal (lexF (V v) 0 ops.toList a0) w') : (Code.region id ops true).wp P Q a0 w := by
  simp only [chainOk, Bool.and_eq_true, decide_eq_true_eq] at hz
  obtain ⟨⟨hz1, hz2⟩, hnd⟩ := hz
  have hzlt : ∀ z ∈ zs, z < ops.size := fun z h => by simpa using List.all_eq_true.1 hz1 z h
  have er : ∀ j, (Array.replicate ops.size false).getD j false = false := fun j => by simp only [Array.getD_eq_getD_getElem?, Array.getElem?_replicate]; split <;> rfl
  have hlen0 : q < zs.length := (List.getElem?_eq_some_iff.1 hz0).1
  refine wp_region_ey hm hp (fun listed V' W => (∀ j k, edgeOf ops j k = true → listed.getD j false = true → listed.getD k false = true) ∧ ∃ s v, s ≤ zs.length ∧ (∀ k z, zs[k]? = some z → (listed.getD z false = true ↔ k < s)) ∧ C s v W ∧ (∀ k, listed.getD k false = true → V' k = V v k) ∧ (∀ k ∈ ds, listed.getD k false = true → q < s)) ?_ ?_ ?_
  · refine ⟨fun j k _ hj => (by rw [er] at hj; cases hj), 0, undef, Nat.zero_le _, fun k z _ => ?_, hC0, fun k hk => (by rw [er] at hk; cases hk), fun k _ hk => (by rw [er] at hk; cases hk)⟩
    rw [er]
    simp
  · intro i o hi listed V' w' ev hs hc hff hdir hin hout _ hcst hfn
    have hilt : i < ops.size := (Array.getElem?_eq_some_iff.1 hi).1
    obtain ⟨hcl, s, v, hsl, hst, hC, hVl, hds⟩ := hc
    have hlim : s ≤ lim ops zs i := by
      unfold lim
      cases hf : zs.findIdx? (fun z => edgeOf ops z i || (List.range ops.size).any fun j => edgeOf ops z j && edgeOf ops j i) with
      | none => simpa using hsl
      | some k =>
        simp only [Option.getD_some]
        have hk := List.findIdx?_eq_some_iff_getElem.1 hf
        obtain ⟨hkl, hke, _⟩ := hk
        rcases Nat.lt_or_ge k s with h | h
        · have h1 := (hst k zs[k] (List.getElem?_eq_getElem hkl)).2 h
          have h2 : listed.getD i false = true := by
            simp only [Bool.or_eq_true] at hke
            rcases hke with hke | hke
            · exact hcl _ _ hke h1
            · obtain ⟨j, _, hj⟩ := List.any_eq_true.1 hke
              simp only [Bool.and_eq_true] at hj
              exact hcl _ _ hj.2 (hcl _ _ hj.1 h1)
          rw [hff] at h2; cases h2
        · exact h
    have hk : ∀ k, zs[k]? = some i → s = k := fun k hk => by
      have h1 : ¬ k < s := fun h => by
        have := (hst k i hk).2 h
        rw [hff] at this; cases this
      cases k with
      | zero => omega
      | succ k =>
        have hkl : k + 1 < zs.length := (List.getElem?_eq_some_iff.1 hk).1
        have h2 := List.all_eq_true.1 hz2 k (List.mem_range.2 (by omega))
        simp only [Bool.or_eq_true, beq_iff_eq] at h2
        rcases h2 with h2 | h2
        · omega
        · rw [List.getD_eq_getElem?_getD, hk, List.getD_eq_getElem?_getD, List.getElem?_eq_getElem (by omega : k < zs.length)] at h2
          simp only [Option.getD_some] at h2
          have h3 := hdir _ h2
          have h4 := (hst k _ (List.getElem?_eq_getElem (by omega : k < zs.length))).1 h3
          omega
    have hdep : i ∈ ds → q < s := fun hid => by
      have h1 := List.all_eq_true.1 hd i hid
      simp only [Bool.or_eq_true] at h1
      rcases h1 with h1 | h1
      · exact (hst q z0 hz0).1 (hdir _ h1)
      · obtain ⟨k, hkd, hke⟩ := List.any_eq_true.1 h1
        exact hds k hkd (hdir _ hke)
    have hrun := hops i o hi s v w' ev hlim hk hdep hC (fun t j e hown he hb hej ht => by
      rw [hin t j e hown he hb hej ht]
      refine hVl j (hdir j ?_)
      unfold edgeOf
      rw [hi]
      simp only [Option.map_some, Option.getD_some]
      obtain ⟨q, hq, hqe⟩ := List.getElem_of_mem he
      exact Array.any_eq_true.2 ⟨q, by simpa using hq, by
        have : o.after[q]'(by simpa using hq) = e := by simpa using hqe
        rw [this, hej, hb]; simp⟩) hout hcst hfn
    have hcl' : ∀ j k, edgeOf ops j k = true → (listed.setIfInBounds i true).getD j false = true → (listed.setIfInBounds i true).getD k false = true := by
      intro j k hjk hj
      rw [getD_set _ _ _ (by omega)] at hj ⊢
      split
      · rfl
      · by_cases h : j = i
        · subst h; exact hdir k hjk
        · rw [if_neg h] at hj; exact hcl j k hjk hj
    refine hrun.mono ?_
    intro u W hW
    refine ⟨hcl', ?_⟩
    by_cases hi0 : i = z0
    · subst hi0
      rw [if_pos rfl] at hW
      have hs0 : s = q := hk q hz0
      subst hs0
      refine ⟨s + 1, u, hlen0, fun k z hkz => ?_, hW, fun k hkl => ?_, fun _ _ _ => Nat.lt_succ_self _⟩
      · rw [getD_set _ _ _ (by omega)]
        by_cases hzi : z = i
        · subst hzi
          have := hk k hkz
          rw [if_pos rfl]
          constructor
          · intro _; omega
          · intro _; rfl
        · rw [if_neg hzi, hst k z hkz]
          constructor
          · intro h; omega
          · intro h
            rcases Nat.lt_or_ge k s with h1 | h1
            · exact h1
            · have e : k = s := by omega
              subst e
              rw [hz0] at hkz
              exact absurd (Option.some.inj hkz).symm hzi
      · rw [getD_set _ _ _ (by omega)] at hkl
        by_cases hki : k = i
        · subst hki; rw [setV_same, hV0]
        · rw [if_neg hki] at hkl
          rw [setV_other _ _ _ _ hki, hVl k hkl]
          exact hVc _ _ k (fun hkd => absurd (hds k hkd hkl) (by omega)) hki
    · rw [if_neg hi0] at hW
      obtain ⟨hu, hW⟩ := hW
      have hval : ∀ k, (listed.setIfInBounds i true).getD k false = true → setV V' i u k = V v k := fun k hkl => by
        rw [getD_set _ _ _ (by omega)] at hkl
        by_cases hki : k = i
        · subst hki; rw [setV_same, hu]
        · rw [if_neg hki] at hkl
          rw [setV_other _ _ _ _ hki, hVl k hkl]
      have hdn : ∀ k ∈ ds, (listed.setIfInBounds i true).getD k false = true → q < s := fun k hkd hkl => by
        rw [getD_set _ _ _ (by omega)] at hkl
        by_cases hki : k = i
        · subst hki; exact hdep hkd
        · rw [if_neg hki] at hkl; exact hds k hkd hkl
      by_cases hmem : i ∈ zs
      · rw [if_pos hmem] at hW
        obtain ⟨k0, hk0⟩ := List.getElem?_of_mem hmem
        have hs0 := hk k0 hk0
        subst hs0
        have hk0l : s < zs.length := (List.getElem?_eq_some_iff.1 hk0).1
        refine ⟨s + 1, v, hk0l, fun k z hkz => ?_, hW, hval, fun k hkd hkl => Nat.lt_succ_of_lt (hdn k hkd hkl)⟩
        rw [getD_set _ _ _ (by omega)]
        by_cases hzi : z = i
        · subst hzi
          have := hk k hkz
          rw [if_pos rfl]
          constructor
          · intro _; omega
          · intro _; rfl
        · rw [if_neg hzi, hst k z hkz]
          constructor
          · intro h; omega
          · intro h
            rcases Nat.lt_or_ge k s with h1 | h1
            · exact h1
            · have e : k = s := by omega
              subst e
              rw [hk0] at hkz
              exact absurd (Option.some.inj hkz).symm hzi
      · rw [if_neg hmem] at hW
        refine ⟨s, v, hsl, fun k z hkz => ?_, hW, hval, hdn⟩
        have hzi : z ≠ i := fun e => hmem (e ▸ List.mem_of_getElem? hkz)
        rw [getD_set _ _ _ (by omega), if_neg hzi]
        exact hst k z hkz
  · intro V' w' hc
    obtain ⟨_, s, v, hsl, hst, hC, hVl, _⟩ := hc
    have : s = zs.length := by
      rcases Nat.lt_or_ge s zs.length with h | h
      · have h1 := hst s zs[s] (List.getElem?_eq_getElem h)
        have h2 : (Array.replicate ops.size true).getD zs[s] false = true := by
          have := hzlt zs[s] (by simp)
          simp [Array.getD_eq_getD_getElem?, Array.getElem?_replicate, this]
        have := h1.1 h2
        omega
      · omega
    subst this
    have e : lexF V' 0 ops.toList a0 = lexF (V v) 0 ops.toList a0 := by
      rw [← frame_lex hp V' a0, ← frame_lex hp (V v) a0]
      exact frame_congr hVl
    rw [e]
    exact hend v w' hC
end Go.Proofs.YtdkiegkgnimapabDoor

