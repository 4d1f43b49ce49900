/- Joined texts: AnyG, AnyX. -/
import Derived.Test.YtbccnfbombgdmaaAny
/- A guarded region whose world turns at several operations. -/
set_option linter.unusedVariables false
set_option linter.unusedSimpArgs false
namespace Go.Proofs.Ytbccnfbombgdmaa
open Go.RowKit
variable {P : Program} {ops : Array Oper} {Q : Exit → Act → World → Prop} {md : Region.Mode}
/-- Does an operation wait for another one? -/
def edgeOf (ops : Array Oper) (j k : Nat) : Bool := match ops[j]? with
  | some o => o.after.any fun e => e.on == k && Region.binds .any e
  | none => false
/-- A guarded region; what is known of the world hangs on what has been done. -/
theorem wp_region_gl {id : Nat} {a0 : Act} {w : World} (hm : P.follows .mixedOrders = true) (hp : guardRegion ops = true) (V : Nat → Value) (C : Array Bool → World → Prop)
    (hsz : ∀ (i : Nat) (o : Oper) (t : Nat), ops[i]? = some o → o.dst = some t → t < a0.tmps.size)
    (hC0 : C (Array.replicate ops.size false) { w with drawn := w.drawn + 1 })
    (hops : ∀ (i : Nat) (o : Oper), ops[i]? = some o → ∀ (listed : Array Bool) (w' : World) (ev : Operand → Value), listed.size = ops.size → C listed w' → listed.getD i false = false → (∀ k, edgeOf ops i k = true → listed.getD k false = true) → (∀ j k, edgeOf ops j k = true → listed.getD j false = true → listed.getD k false = true) →
      (∀ t j e, ownOf ops t = some j → e ∈ o.after.toList → Region.binds .any e = true → e.on = j → t < a0.tmps.size → ev (.tmp t) = V j) →
      (∀ t, ownOf ops t = none → t < a0.tmps.size → ev (.tmp t) = a0.eval (.tmp t)) → (∀ v, ev (.const v) = v) → (∀ f, ev (.func f) = .func (.func f) #[] #[]) →
      if wantV V o = true then OpRuns P ev o (V i) w' (C (listed.setIfInBounds i true)) else V i = undef ∧ C (listed.setIfInBounds i true) w')
    (hend : ∀ w', C (Array.replicate ops.size true) w' → Q .normal (lexF V 0 ops.toList a0) w') : (Code.region id ops true).wp P Q a0 w := by
  refine wp_region_any hm ?_
  refine wpAny_by (fun listed a w' => listed.size = ops.size ∧ a = frameOf (ownOf ops) V a0 listed ∧ (∀ j k, edgeOf ops j k = true → listed.getD j false = true → listed.getD k false = true) ∧ C listed w') ?_ ?_ _ _ _ _ ⟨by simp, (frame_none _ _ _ _).symm, fun j k _ hj => by simp only [Array.getD_eq_getD_getElem?, Array.getElem?_replicate] at hj; split at hj <;> simp at hj, hC0⟩ ?_
  · rintro listed a w' ⟨hs, rfl, hcl, hc⟩ hr
    have := all_listed_g hs hp hr
    subst this
    rw [frame_lex_g hp]
    exact hend w' hc
  · rintro listed a w' ⟨hs, rfl, hcl, hc⟩ i hi
    obtain ⟨hlt, hfree, haft⟩ := ready_free hi
    have ho : ops[i]? = some ops[i] := Array.getElem?_eq_getElem hlt
    have hpi := List.all_eq_true.1 hp i (List.mem_range.2 hlt)
    rw [ho] at hpi
    simp only [Bool.and_eq_true] at hpi
    rw [ho] at haft
    simp only [Option.map_some, Option.getD_some] at haft
    have hbind : ∀ e ∈ (ops[i]).after.toList, Region.binds .any e = true → listed.getD e.on false = true := by
      intro e he hb
      obtain ⟨j, hj, hje⟩ := List.getElem_of_mem he
      have hx := (Array.all_eq_true.1 haft) j (by simpa using hj)
      have hje' : (ops[i]).after[j]'(by simpa using hj) = e := by simpa using hje
      rw [hje', hb] at hx
      simpa using hx
    have hdir : ∀ k, edgeOf ops i k = true → listed.getD k false = true := by
      intro k hk
      unfold edgeOf at hk
      rw [ho] at hk
      obtain ⟨x, hx, hxe⟩ := Array.any_eq_true.1 hk
      simp only [Bool.and_eq_true, beq_iff_eq] at hxe
      have := hbind ((ops[i]).after[x]) (by simp) hxe.2
      rw [hxe.1] at this
      exact this
    have hcl' : ∀ j k, edgeOf ops j k = true → (listed.setIfInBounds i true).getD j false = true → (listed.setIfInBounds i true).getD k false = true := by
      intro j k hjk hj
      rw [getD_set _ _ _ (by omega)] at hj ⊢
      split
      · rfl
      · by_cases h : j = i
        · subst h; exact hdir k hjk
        · rw [if_neg h] at hj; exact hcl j k hjk hj
    have hrun := hops i ops[i] ho listed w' (frameOf (ownOf ops) V a0 listed).eval hs hc (by
      simp only [Array.getD_eq_getD_getElem?] at hfree ⊢
      rw [Array.getElem?_eq_getElem (by omega)] at hfree ⊢
      simpa using hfree) hdir hcl
      (fun t j e hown he hb hej ht => by rw [frame_eval _ _ _ _ _ ht]; unfold pickSlot; rw [hown]; simp only; rw [if_pos (hej ▸ hbind e he hb)])
      (fun t hown ht => by rw [frame_eval _ _ _ _ _ ht]; unfold pickSlot; rw [hown]) (fun v => rfl) (fun f => rfl)
    have hw : Region.wanted ops[i] (yielded ops (frameOf (ownOf ops) V a0 listed).tmps) = wantV V ops[i] := by
      have hg := hpi.1.2
      unfold Region.wanted wantV
      cases hgd : ops[i].guard with
      | none => rfl
      | some p =>
        obtain ⟨j, b⟩ := p
        rw [hgd] at hg
        simp only [Bool.and_eq_true] at hg
        obtain ⟨hany, hdst⟩ := hg
        obtain ⟨x, hx, hxe⟩ := Array.any_eq_true.1 hany
        simp only [Bool.and_eq_true, beq_iff_eq] at hxe
        have hl : listed.getD j false = true := by
          have := hbind ((ops[i]).after[x]) (by simp) hxe.2
          rw [hxe.1] at this
          exact this
        obtain ⟨t, ht⟩ := Option.isSome_iff_exists.1 hdst
        have hoj : ∃ oj, ops[j]? = some oj := by
          cases h : ops[j]? with
          | none => rw [h] at ht; cases ht
          | some oj => exact ⟨oj, rfl⟩
        obtain ⟨oj, hoj⟩ := hoj
        have hdj : oj.dst = some t := by rw [hoj] at ht; exact ht
        have hjlt : j < ops.size := (Array.getElem?_eq_some_iff.1 hoj).1
        have hpj := List.all_eq_true.1 hp j (List.mem_range.2 hjlt)
        rw [hoj] at hpj
        simp only [Bool.and_eq_true] at hpj
        have hown : ownOf ops t = some j := by
          have := hpj.2
          rw [hdj] at this
          simpa using this
        have htl := hsz j oj t hoj hdj
        have hy : yielded ops (frameOf (ownOf ops) V a0 listed).tmps j = match V j with | .bool c => some c | _ => none := by
          unfold yielded
          rw [hoj]
          simp only [Option.bind_some, hdj]
          rw [frame_get, Array.getElem?_eq_getElem htl]
          simp only [Option.map_some]
          unfold pickSlot
          rw [hown]
          simp only [hl, if_true]
          cases V j <;> rfl
        simp only [hy]
        cases V j <;> simp
    have hput : (frameOf (ownOf ops) V a0 listed).put ops[i].dst (V i) = frameOf (ownOf ops) V a0 (listed.setIfInBounds i true) := by
      cases hd : ops[i].dst with
      | none =>
        exact frame_skip (by omega) (fun s hs' => by
          have := ownOf_back hs'
          rw [ho] at this
          simp [hd] at this)
      | some t =>
        have hown : ownOf ops t = some i := by
          have := hpi.2
          rw [hd] at this
          simpa using this
        exact frame_put (by omega) hown (fun s hs' => by
          have := ownOf_back hs'
          rw [ho] at this
          simp [hd] at this
          exact this.symm)
    unfold wpOp
    rw [ho]
    simp only [hw]
    by_cases hwv : wantV V ops[i] = true
    · rw [if_pos hwv] at hrun
      rw [hwv]
      simp only [if_true]
      left
      unfold Oper.wp
      rcases hrun with ⟨w2, hr, hc2⟩ | ⟨hv, w2, hr, hc2⟩ | ⟨f, args, hr, hcalls⟩
      · rw [hr]
        exact ⟨by simpa using hs, hput, hcl', hc2⟩
      · rw [hr]
        rw [hv] at hput
        exact ⟨by simpa using hs, hput, hcl', hc2⟩
      · rw [hr]
        refine hcalls.mono ?_
        rintro e w2 ⟨rfl, hc2⟩
        exact ⟨by simpa using hs, hput, hcl', hc2⟩
    · rw [if_neg hwv] at hrun
      have hwf : wantV V ops[i] = false := by simpa using hwv
      rw [hwf]
      rw [hrun.1] at hput
      simp only [Bool.false_eq_true, if_false]
      exact ⟨by simpa using hs, hput, hcl', hrun.2⟩
  · unfold todo
    simp

end Go.Proofs.Ytbccnfbombgdmaa

/- A region some of whose values are known only when they come up. -/
set_option linter.unusedVariables false
set_option linter.unusedSimpArgs false
namespace Go.Proofs.Ytbccnfbombgdmaa
open Go.RowKit
variable {P : Program} {ops : Array Oper} {Q : Exit → Act → World → Prop}

theorem upd_congr {own : Nat → Option Nat} {V V' : Nat → Value} {listed : Array Bool} (h : ∀ i, listed.getD i false = true → V i = V' i) : ∀ (l : List Value) (t : Nat), upd own V listed t l = upd own V' listed t l
  | [], _ => rfl
  | v :: r, t => by
    simp only [upd]
    rw [upd_congr h r]
    congr 1
    unfold pickSlot
    cases own t with
    | none => rfl
    | some i =>
      simp only
      split
      · rename_i hi; exact h i hi
      · rfl
theorem frame_congr {own : Nat → Option Nat} {V V' : Nat → Value} {a0 : Act} {listed : Array Bool} (h : ∀ i, listed.getD i false = true → V i = V' i) : frameOf own V a0 listed = frameOf own V' a0 listed := by
  unfold frameOf
  rw [upd_congr h]
def setV (V : Nat → Value) (i : Nat) (v : Value) : Nat → Value := fun j => if j = i then v else V j
theorem setV_same (V : Nat → Value) (i : Nat) (v : Value) : setV V i v i = v := by simp [setV]
theorem setV_other (V : Nat → Value) (i j : Nat) (v : Value) (h : j ≠ i) : setV V i v j = V j := by simp [setV, h]
/-- What an operation yields, whatever value it is. -/
def OpRunsX (P : Program) (ev : Operand → Value) (o : Oper) (w : World) (C : Value → World → Prop) : Prop :=
  (∃ v w', (execOp ev o).run P w = .ok (.value v) w' ∧ C v w') ∨
  (∃ f args, (execOp ev o).run P w = .ok (.enter f args) w ∧ Calls P f args w fun e w' => ∃ v, e = .returned v ∧ C v w')
theorem wp_region_ex {id : Nat} {a0 : Act} {w : World} (hm : P.follows .mixedOrders = true) (hp : plainRegion ops = true) (J : Array Bool → (Nat → Value) → World → Prop)
    (hJ0 : J (Array.replicate ops.size false) (fun _ => undef) { w with drawn := w.drawn + 1 })
    (hops : ∀ i o, ops[i]? = some o → ∀ (listed : Array Bool) (V : Nat → Value) (w' : World) (ev : Operand → Value), listed.size = ops.size → J listed V w' → listed.getD i false = false → (∀ k, edgeOf ops i k = true → listed.getD k false = true) →
      (∀ t j e, ownOf ops t = some j → e ∈ o.after.toList → Region.binds .any e = true → e.on = j → t < a0.tmps.size → ev (.tmp t) = V j) →
      (∀ t, ownOf ops t = none → t < a0.tmps.size → ev (.tmp t) = a0.eval (.tmp t)) → (∀ t j, ownOf ops t = some j → listed.getD j false = false → t < a0.tmps.size → ev (.tmp t) = a0.eval (.tmp t)) → (∀ v, ev (.const v) = v) → (∀ f, ev (.func f) = .func (.func f) #[] #[]) →
      OpRunsX P ev o w' fun v w'' => J (listed.setIfInBounds i true) (setV V i v) w'')
    (hend : ∀ V w', J (Array.replicate ops.size true) V w' → Q .normal (lexF V 0 ops.toList a0) w') : (Code.region id ops true).wp P Q a0 w := by
  refine wp_region_any hm ?_
  refine wpAny_by (fun listed a w' => listed.size = ops.size ∧ ∃ V, a = frameOf (ownOf ops) V a0 listed ∧ J listed V w') ?_ ?_ _ _ _ _ ⟨by simp, _, (frame_none _ _ _ _).symm, hJ0⟩ ?_
  · rintro listed a w' ⟨hs, V, rfl, hc⟩ hr
    have := all_listed hs hp hr
    subst this
    rw [frame_lex hp]
    exact hend V w' hc
  · rintro listed a w' ⟨hs, V, rfl, hc⟩ i hi
    obtain ⟨hlt, hfree, haft⟩ := ready_free hi
    have ho : ops[i]? = some ops[i] := Array.getElem?_eq_getElem hlt
    have hpi := List.all_eq_true.1 hp i (List.mem_range.2 hlt)
    rw [ho] at hpi
    simp only [Bool.and_eq_true] at hpi
    rw [ho] at haft
    simp only [Option.map_some, Option.getD_some] at haft
    have hbind : ∀ e ∈ (ops[i]).after.toList, Region.binds .any e = true → listed.getD e.on false = true := by
      intro e he hb
      obtain ⟨j, hj, hje⟩ := List.getElem_of_mem he
      have hx := (Array.all_eq_true.1 haft) j (by simpa using hj)
      have hje' : (ops[i]).after[j]'(by simpa using hj) = e := by simpa using hje
      rw [hje', hb] at hx
      simpa using hx
    have hdir : ∀ k, edgeOf ops i k = true → listed.getD k false = true := by
      intro k hk
      unfold edgeOf at hk
      rw [ho] at hk
      obtain ⟨x, hx, hxe⟩ := Array.any_eq_true.1 hk
      simp only [Bool.and_eq_true, beq_iff_eq] at hxe
      have := hbind ((ops[i]).after[x]) (by simp) hxe.2
      rw [hxe.1] at this
      exact this
    have hfr : listed.getD i false = false := by
      simp only [Array.getD_eq_getD_getElem?] at hfree ⊢
      rw [Array.getElem?_eq_getElem (by omega)] at hfree ⊢
      simpa using hfree
    have hrun := hops i ops[i] ho listed V w' (frameOf (ownOf ops) V a0 listed).eval hs hc hfr hdir
      (fun t j e hown he hb hej ht => by rw [frame_eval _ _ _ _ _ ht]; unfold pickSlot; rw [hown]; simp only; rw [if_pos (hej ▸ hbind e he hb)])
      (fun t hown ht => by rw [frame_eval _ _ _ _ _ ht]; unfold pickSlot; rw [hown]) (fun t j hown hj ht => by rw [frame_eval _ _ _ _ _ ht]; unfold pickSlot; rw [hown]; simp only; rw [if_neg (by rw [hj]; decide)]) (fun v => rfl) (fun f => rfl)
    have hw : Region.wanted ops[i] (yielded ops (frameOf (ownOf ops) V a0 listed).tmps) = true := by
      have hg : ops[i].guard = none := by simpa using hpi.1.2
      simp [Region.wanted, hg]
    have hput : ∀ v, (frameOf (ownOf ops) V a0 listed).put ops[i].dst v = frameOf (ownOf ops) (setV V i v) a0 (listed.setIfInBounds i true) := fun v => by
      have e : frameOf (ownOf ops) V a0 listed = frameOf (ownOf ops) (setV V i v) a0 listed := frame_congr (fun j hj => by
        rw [setV_other]
        rintro rfl
        rw [hfr] at hj; cases hj)
      rw [e]
      have := frame_step (V := setV V i v) (a0 := a0) hp hs ho
      rw [setV_same] at this
      exact this
    unfold wpOp
    rw [ho]
    simp only [hw, if_true]
    left
    unfold Oper.wp
    rcases hrun with ⟨v, w2, hr, hc2⟩ | ⟨f, args, hr, hcalls⟩
    · rw [hr]
      exact ⟨by simpa using hs, _, hput v, hc2⟩
    · rw [hr]
      refine hcalls.mono ?_
      rintro e w2 ⟨v, rfl, hc2⟩
      exact ⟨by simpa using hs, _, hput v, hc2⟩
  · unfold todo
    simp
end Go.Proofs.Ytbccnfbombgdmaa

