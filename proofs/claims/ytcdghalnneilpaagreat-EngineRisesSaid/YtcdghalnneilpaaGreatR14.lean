/- Joined texts. -/
import Derived.Test.YtcdghalnneilpaaGreatR13
set_option linter.unusedVariables false
set_option linter.unusedSimpArgs false
set_option maxRecDepth 8000
set_option maxHeartbeats 8000000
namespace Go.Proofs.YtcdghalnneilpaaGreat
open Go.RowKit
variable {P : Program} {ops : Array Oper} {Q : Exit -> Act -> World -> Prop} {md : Region.Mode}
def edgeOf (ops : Array Oper) (j k : Nat) : Bool := match ops[j]? with
 | some o => o.after.any fun e => e.on == k && Region.binds .any e
 | none => false
theorem wp_region_gl {id : Nat} {a0 : Act} {w : World} (hm : P.follows .mixedOrders = true) (hp : guardRegion ops = true) (V : Nat -> Value) (C : Array Bool -> World -> Prop)
  (hsz : ∀ (i : Nat) (o : Oper) (t : Nat), ops[i]? = some o -> o.dst = some t -> t < a0.tmps.size)
  (hC0 : C (Array.replicate ops.size false) { w with drawn := w.drawn + 1 })
  (hops : ∀ (i : Nat) (o : Oper), ops[i]? = some o -> ∀ (listed : Array Bool) (w' : World) (ev : Operand -> Value), listed.size = ops.size -> C listed w' -> listed.getD i false = false -> (∀ k, edgeOf ops i k = true -> listed.getD k false = true) -> (∀ j k, edgeOf ops j k = true -> listed.getD j false = true -> listed.getD k false = true) ->
   (∀ t j e, (_ : ownOf ops t = some j := by kernel_rfl) -> (_ : e ∈ o.after.toList := by simp) -> (_ : Region.binds .any e = true := by rfl) -> (_ : e.on = j := by rfl) -> (_ : t < a0.tmps.size := by simp) -> ev (.tmp t) = V j) ->
   (∀ t, (_ : ownOf ops t = none := by kernel_rfl) -> (_ : t < a0.tmps.size := by simp) -> ev (.tmp t) = a0.eval (.tmp t)) -> (∀ v, ev (.const v) = v) -> (∀ f, ev (.func f) = .func (.func f) #[] #[]) ->
   if wantV V o = true then OpRuns P ev o (V i) w' (C (listed.setIfInBounds i true)) else V i = undef /\ C (listed.setIfInBounds i true) w')
  (hend : ∀ w', C (Array.replicate ops.size true) w' -> Q .normal (lexF V 0 ops.toList a0) w') : (Code.region id ops true).wp P Q a0 w := by
 refine wp_region_any hm ?_
 refine wpAny_by (fun listed a w' => listed.size = ops.size /\ a = frameOf (ownOf ops) V a0 listed /\ (∀ j k, edgeOf ops j k = true -> listed.getD j false = true -> listed.getD k false = true) /\ C listed w') ?_ ?_ _ _ _ _ ⟨by simp, (frame_none _ _ _ _).symm, fun j k _ hj => by simp only [Array.getD_eq_getD_getElem?, Array.getElem?_replicate] at hj; split at hj <;> simp at hj, hC0⟩ ?_
 ·rintro listed a w' ⟨hs, rfl, hcl, hc⟩ hr
  have := all_listed_g hs hp hr
  subst this
  rw [frame_lex_g hp]
  exact hend w' hc
 ·rintro listed a w' ⟨hs, rfl, hcl, hc⟩ i hi
  obtain ⟨hlt, hfree, haft⟩ := ready_free hi
  have ho : ops[i]? = some ops[i] := Array.getElem?_eq_getElem hlt
  have hpi := List.all_eq_true.1 hp i (List.mem_range.2 hlt)
  rw [ho] at hpi
  simp only [Bool.and_eq_true] at hpi
  rw [ho] at haft
  simp only [Option.map_some, Option.getD_some] at haft
  have hbind : ∀ e ∈ (ops[i]).after.toList, Region.binds .any e = true -> listed.getD e.on false = true := by
   intro e he hb
   obtain ⟨j, hj, hje⟩ := List.getElem_of_mem he
   have hx := (Array.all_eq_true.1 haft) j (by simpa using hj)
   have hje' : (ops[i]).after[j]'(by simpa using hj) = e := by simpa using hje
   rw [hje', hb] at hx
   simpa using hx
  have hdir : ∀ k, edgeOf ops i k = true -> listed.getD k false = true := by
   intro k hk
   unfold edgeOf at hk
   rw [ho] at hk
   obtain ⟨x, hx, hxe⟩ := Array.any_eq_true.1 hk
   simp only [Bool.and_eq_true, beq_iff_eq] at hxe
   have := hbind ((ops[i]).after[x]) (by simp) hxe.2
   rw [hxe.1] at this
   exact this
  have hcl' : ∀ j k, edgeOf ops j k = true -> (listed.setIfInBounds i true).getD j false = true -> (listed.setIfInBounds i true).getD k false = true := by
   intro j k hjk hj
   rw [getD_set _ _ _ (by omega)] at hj ⊢
   split
   ·rfl
   ·by_cases h : j = i
    ·subst h; exact hdir k hjk
    ·rw [if_neg h] at hj; exact hcl j k hjk hj
  have hrun := hops i ops[i] ho listed w' (frameOf (ownOf ops) V a0 listed).eval hs hc (by
   simp only [Array.getD_eq_getD_getElem?] at hfree ⊢
   rw [Array.getElem?_eq_getElem (by omega)] at hfree ⊢
   simpa using hfree) hdir hcl
   (fun t j e hown he hb hej ht => by rw [frame_eval _ _ _ _ _ ht]; unfold pickSlot; rw [hown]; simp only; rw [if_pos (hej ▸ hbind e he hb)])
   (fun t hown ht => by rw [frame_eval _ _ _ _ _ ht]; unfold pickSlot; rw [hown]) (fun v => rfl) (fun f => rfl)
  have hw : Region.wanted ops[i] (yielded ops (frameOf (ownOf ops) V a0 listed).tmps) = wantV V ops[i] := by
   have hg := hpi.1.2
   unfold Region.wanted wantV
   cases hgd : ops[i].guard with
   | none => rfl
   | some p =>
    obtain ⟨j, b⟩ := p
    rw [hgd] at hg
    simp only [Bool.and_eq_true] at hg
    obtain ⟨hany, hdst⟩ := hg
    obtain ⟨x, hx, hxe⟩ := Array.any_eq_true.1 hany
    simp only [Bool.and_eq_true, beq_iff_eq] at hxe
    have hl : listed.getD j false = true := by
     have := hbind ((ops[i]).after[x]) (by simp) hxe.2
     rw [hxe.1] at this
     exact this
    obtain ⟨t, ht⟩ := Option.isSome_iff_exists.1 hdst
    have hoj : ∃ oj, ops[j]? = some oj := by
     cases h : ops[j]? with
     | none => rw [h] at ht; cases ht
     | some oj => exact ⟨oj, rfl⟩
    obtain ⟨oj, hoj⟩ := hoj
    have hdj : oj.dst = some t := by rw [hoj] at ht; exact ht
    have hjlt : j < ops.size := (Array.getElem?_eq_some_iff.1 hoj).1
    have hpj := List.all_eq_true.1 hp j (List.mem_range.2 hjlt)
    rw [hoj] at hpj
    simp only [Bool.and_eq_true] at hpj
    have hown : ownOf ops t = some j := by
     have := hpj.2
     rw [hdj] at this
     simpa using this
    have htl := hsz j oj t hoj hdj
    have hy : yielded ops (frameOf (ownOf ops) V a0 listed).tmps j = match V j with | .bool c => some c | _ => none := by
     unfold yielded
     rw [hoj]
     simp only [Option.bind_some, hdj]
     rw [frame_get, Array.getElem?_eq_getElem htl]
     simp only [Option.map_some]
     unfold pickSlot
     rw [hown]
     simp only [hl, if_true]
     cases V j <;> rfl
    simp only [hy]
    cases V j <;> simp
  have hput : (frameOf (ownOf ops) V a0 listed).put ops[i].dst (V i) = frameOf (ownOf ops) V a0 (listed.setIfInBounds i true) := by
   cases hd : ops[i].dst with
   | none =>
    exact frame_skip (by omega) (fun s hs' => by
     have := ownOf_back hs'
     rw [ho] at this
     simp [hd] at this)
   | some t =>
    have hown : ownOf ops t = some i := by
     have := hpi.2
     rw [hd] at this
     simpa using this
    exact frame_put (by omega) hown (fun s hs' => by
     have := ownOf_back hs'
     rw [ho] at this
     simp [hd] at this
     exact this.symm)
  unfold wpOp
  rw [ho]
  simp only [hw]
  by_cases hwv : wantV V ops[i] = true
  ·rw [if_pos hwv] at hrun
   rw [hwv]
   simp only [if_true]
   left
   unfold Oper.wp
   rcases hrun with ⟨w2, hr, hc2⟩ | ⟨hv, w2, hr, hc2⟩ | ⟨f, args, hr, hcalls⟩
   ·rw [hr]
    exact ⟨by simpa using hs, hput, hcl', hc2⟩
   ·rw [hr]
    rw [hv] at hput
    exact ⟨by simpa using hs, hput, hcl', hc2⟩
   ·rw [hr]
    refine hcalls.mono ?_
    rintro e w2 ⟨rfl, hc2⟩
    exact ⟨by simpa using hs, hput, hcl', hc2⟩
  ·rw [if_neg hwv] at hrun
   have hwf : wantV V ops[i] = false := by simpa using hwv
   rw [hwf]
   rw [hrun.1] at hput
   simp only [Bool.false_eq_true, if_false]
   exact ⟨by simpa using hs, hput, hcl', hrun.2⟩
 ·unfold todo
  simp
end Go.Proofs.YtcdghalnneilpaaGreat
namespace Go.Proofs.YtcdghalnneilpaaGreat
open Go.RowKit
variable {P : Program} {ops : Array Oper} {Q : Exit -> Act -> World -> Prop}
theorem upd_congr {own : Nat -> Option Nat} {V V' : Nat -> Value} {listed : Array Bool} (h : ∀ i, listed.getD i false = true -> V i = V' i) : ∀ (l : List Value) (t : Nat), upd own V listed t l = upd own V' listed t l
 | [], _ => rfl
 | v :: r, t => by
  simp only [upd]
  rw [upd_congr h r]
  congr 1
  unfold pickSlot
  cases own t with
  | none => rfl
  | some i =>
   simp only
   split
   ·rename_i hi; exact h i hi
   ·rfl
theorem frame_congr {own : Nat -> Option Nat} {V V' : Nat -> Value} {a0 : Act} {listed : Array Bool} (h : ∀ i, listed.getD i false = true -> V i = V' i) : frameOf own V a0 listed = frameOf own V' a0 listed := by
 unfold frameOf
 rw [upd_congr h]
def setV (V : Nat -> Value) (i : Nat) (v : Value) : Nat -> Value := fun j => if j = i then v else V j
theorem setV_same (V : Nat -> Value) (i : Nat) (v : Value) : setV V i v i = v := by simp [setV]
theorem setV_other (V : Nat -> Value) (i j : Nat) (v : Value) (h : j ≠ i) : setV V i v j = V j := by simp [setV, h]
def OpRunsX (P : Program) (ev : Operand -> Value) (o : Oper) (w : World) (C : Value -> World -> Prop) : Prop :=
 (∃ v w', (execOp ev o).run P w = .ok (.value v) w' /\ C v w') \/
 (∃ f args, (execOp ev o).run P w = .ok (.enter f args) w /\ Calls P f args w fun e w' => ∃ v, e = .returned v /\ C v w')
theorem wp_region_ex {id : Nat} {a0 : Act} {w : World} (hm : P.follows .mixedOrders = true) (hp : plainRegion ops = true) (J : Array Bool -> (Nat -> Value) -> World -> Prop)
  (hJ0 : J (Array.replicate ops.size false) (fun _ => undef) { w with drawn := w.drawn + 1 })
  (hops : ∀ i o, ops[i]? = some o -> ∀ (listed : Array Bool) (V : Nat -> Value) (w' : World) (ev : Operand -> Value), listed.size = ops.size -> J listed V w' -> listed.getD i false = false -> (∀ k, edgeOf ops i k = true -> listed.getD k false = true) ->
   (∀ t j e, (_ : ownOf ops t = some j := by kernel_rfl) -> (_ : e ∈ o.after.toList := by simp) -> (_ : Region.binds .any e = true := by rfl) -> (_ : e.on = j := by rfl) -> (_ : t < a0.tmps.size := by simp) -> ev (.tmp t) = V j) ->
   (∀ t, (_ : ownOf ops t = none := by kernel_rfl) -> (_ : t < a0.tmps.size := by simp) -> ev (.tmp t) = a0.eval (.tmp t)) -> (∀ t j, ownOf ops t = some j -> listed.getD j false = false -> t < a0.tmps.size -> ev (.tmp t) = a0.eval (.tmp t)) -> (∀ v, ev (.const v) = v) -> (∀ f, ev (.func f) = .func (.func f) #[] #[]) ->
   OpRunsX P ev o w' fun v w'' => J (listed.setIfInBounds i true) (setV V i v) w'')
  (hend : ∀ V w', J (Array.replicate ops.size true) V w' -> Q .normal (lexF V 0 ops.toList a0) w') : (Code.region id ops true).wp P Q a0 w := by
 refine wp_region_any hm ?_
 refine wpAny_by (fun listed a w' => listed.size = ops.size /\ ∃ V, a = frameOf (ownOf ops) V a0 listed /\ J listed V w') ?_ ?_ _ _ _ _ ⟨by simp, _, (frame_none _ _ _ _).symm, hJ0⟩ ?_
 ·rintro listed a w' ⟨hs, V, rfl, hc⟩ hr
  have := all_listed hs hp hr
  subst this
  rw [frame_lex hp]
  exact hend V w' hc
 ·rintro listed a w' ⟨hs, V, rfl, hc⟩ i hi
  obtain ⟨hlt, hfree, haft⟩ := ready_free hi
  have ho : ops[i]? = some ops[i] := Array.getElem?_eq_getElem hlt
  have hpi := List.all_eq_true.1 hp i (List.mem_range.2 hlt)
  rw [ho] at hpi
  simp only [Bool.and_eq_true] at hpi
  rw [ho] at haft
  simp only [Option.map_some, Option.getD_some] at haft
  have hbind : ∀ e ∈ (ops[i]).after.toList, Region.binds .any e = true -> listed.getD e.on false = true := by
   intro e he hb
   obtain ⟨j, hj, hje⟩ := List.getElem_of_mem he
   have hx := (Array.all_eq_true.1 haft) j (by simpa using hj)
   have hje' : (ops[i]).after[j]'(by simpa using hj) = e := by simpa using hje
   rw [hje', hb] at hx
   simpa using hx
  have hdir : ∀ k, edgeOf ops i k = true -> listed.getD k false = true := by
   intro k hk
   unfold edgeOf at hk
   rw [ho] at hk
   obtain ⟨x, hx, hxe⟩ := Array.any_eq_true.1 hk
   simp only [Bool.and_eq_true, beq_iff_eq] at hxe
   have := hbind ((ops[i]).after[x]) (by simp) hxe.2
   rw [hxe.1] at this
   exact this
  have hfr : listed.getD i false = false := by
   simp only [Array.getD_eq_getD_getElem?] at hfree ⊢
   rw [Array.getElem?_eq_getElem (by omega)] at hfree ⊢
   simpa using hfree
  have hrun := hops i ops[i] ho listed V w' (frameOf (ownOf ops) V a0 listed).eval hs hc hfr hdir
   (fun t j e hown he hb hej ht => by rw [frame_eval _ _ _ _ _ ht]; unfold pickSlot; rw [hown]; simp only; rw [if_pos (hej ▸ hbind e he hb)])
   (fun t hown ht => by rw [frame_eval _ _ _ _ _ ht]; unfold pickSlot; rw [hown]) (fun t j hown hj ht => by rw [frame_eval _ _ _ _ _ ht]; unfold pickSlot; rw [hown]; simp only; rw [if_neg (by rw [hj]; decide)]) (fun v => rfl) (fun f => rfl)
  have hw : Region.wanted ops[i] (yielded ops (frameOf (ownOf ops) V a0 listed).tmps) = true := by
   have hg : ops[i].guard = none := by simpa using hpi.1.2
   simp [Region.wanted, hg]
  have hput : ∀ v, (frameOf (ownOf ops) V a0 listed).put ops[i].dst v = frameOf (ownOf ops) (setV V i v) a0 (listed.setIfInBounds i true) := fun v => by
   have e : frameOf (ownOf ops) V a0 listed = frameOf (ownOf ops) (setV V i v) a0 listed := frame_congr (fun j hj => by
    rw [setV_other]
    rintro rfl
    rw [hfr] at hj; cases hj)
   rw [e]
   have := frame_step (V := setV V i v) (a0 := a0) hp hs ho
   rw [setV_same] at this
   exact this
  unfold wpOp
  rw [ho]
  simp only [hw, if_true]
  left
  unfold Oper.wp
  rcases hrun with ⟨v, w2, hr, hc2⟩ | ⟨f, args, hr, hcalls⟩
  ·rw [hr]
   exact ⟨by simpa using hs, _, hput v, hc2⟩
  ·rw [hr]
   refine hcalls.mono ?_
   rintro e w2 ⟨v, rfl, hc2⟩
   exact ⟨by simpa using hs, _, hput v, hc2⟩
 ·unfold todo
  simp
end Go.Proofs.YtcdghalnneilpaaGreat
namespace Go.Proofs.YtcdghalnneilpaaGreat
open Go.RowKit
variable {P : Program} {ops : Array Oper} {Q : Exit -> Act -> World -> Prop}
theorem edge_mem {i k : Nat} {o : Oper} (ho : ops[i]? = some o) (h : edgeOf ops i k = true) : ∃ e ∈ o.after.toList, Region.binds .any e = true /\ e.on = k := by
 unfold edgeOf at h
 rw [ho] at h
 obtain ⟨x, hx, hxe⟩ := Array.any_eq_true.1 h
 simp only [Bool.and_eq_true, beq_iff_eq] at hxe
 exact ⟨_, by simp, hxe.2, hxe.1⟩
theorem wp_region_last {id : Nat} {a0 : Act} {w : World} (hm : P.follows .mixedOrders = true) (hp : plainRegion ops = true) (V : Nat -> Value) (z : Nat) (hz : z < ops.size)
  (hl : ((List.range ops.size).all fun i => i == z || edgeOf ops z i || (List.range ops.size).any fun j => edgeOf ops z j && edgeOf ops j i) = true) (C0 C1 : World -> Prop)
  (hC0 : C0 { w with drawn := w.drawn + 1 })
  (hops : ∀ (i : Nat) (o : Oper), ops[i]? = some o -> ∀ (w' : World) (ev : Operand -> Value), C0 w' ->
   (∀ t j e, (_ : ownOf ops t = some j := by kernel_rfl) -> (_ : e ∈ o.after.toList := by simp) -> (_ : Region.binds .any e = true := by rfl) -> (_ : e.on = j := by rfl) -> (_ : t < a0.tmps.size := by simp) -> ev (.tmp t) = V j) ->
   (∀ t, (_ : ownOf ops t = none := by kernel_rfl) -> (_ : t < a0.tmps.size := by simp) -> ev (.tmp t) = a0.eval (.tmp t)) -> (∀ v, ev (.const v) = v) -> (∀ f, ev (.func f) = .func (.func f) #[] #[]) ->
   OpRuns P ev o (V i) w' (if i = z then C1 else C0))
  (hend : ∀ w', C1 w' -> Q .normal (lexF V 0 ops.toList a0) w') : (Code.region id ops true).wp P Q a0 w := by
 refine wp_region_by hm hp V (fun listed W => (∀ j k, edgeOf ops j k = true -> listed.getD j false = true -> listed.getD k false = true) /\ (listed.getD z false = true -> ∀ k, k < ops.size -> k ≠ z -> listed.getD k false = true) /\ if listed.getD z false = true then C1 W else C0 W) ?_ ?_ ?_
 ·have e : (Array.replicate ops.size false).getD z false = false := by simp [Array.getD_eq_getD_getElem?, Array.getElem?_replicate, hz]
  have er : ∀ j, (Array.replicate ops.size false).getD j false = false := fun j => by simp only [Array.getD_eq_getD_getElem?, Array.getElem?_replicate]; split <;> rfl
  refine ⟨fun j k _ hj => (by rw [er] at hj; cases hj), fun h => (by rw [e] at h; cases h), ?_⟩
  rw [e]
  exact hC0
 ·intro i o hi listed w' ev hs hc hfree hbind hev hcst hfn
  have hilt : i < ops.size := (Array.getElem?_eq_some_iff.1 hi).1
  have hff : listed.getD i false = false := by
   simp only [Array.getD_eq_getD_getElem?] at hfree ⊢
   rw [Array.getElem?_eq_getElem (by omega)] at hfree ⊢
   simpa using hfree
  have hzf : listed.getD z false = false := by
   cases h : listed.getD z false with
   | false => rfl
   | true =>
    by_cases hiz : i = z
    ·subst hiz; rw [hff] at h; cases h
    ·have := hc.2.1 h i hilt hiz
     rw [hff] at this; cases this
  have hc0 : C0 w' := by have := hc.2.2; rw [hzf] at this; exact this
  have hrun := hops i o hi w' ev hc0
   (fun t j e hown he hb hej ht => by rw [hev t ht]; unfold pickSlot; rw [hown]; simp only; rw [if_pos (hej ▸ hbind e he hb)])
   (fun t hown ht => by rw [hev t ht]; unfold pickSlot; rw [hown]) hcst hfn
  have hdir : ∀ k, edgeOf ops i k = true -> listed.getD k false = true := fun k hk => by
   obtain ⟨e, he, hb, hon⟩ := edge_mem hi hk
   rw [<- hon]
   exact hbind e he hb
  have hcl' : ∀ j k, edgeOf ops j k = true -> (listed.setIfInBounds i true).getD j false = true -> (listed.setIfInBounds i true).getD k false = true := by
   intro j k hjk hj
   rw [getD_set _ _ _ (by omega)] at hj ⊢
   split
   ·rfl
   ·by_cases h : j = i
    ·subst h; exact hdir k hjk
    ·rw [if_neg h] at hj; exact hc.1 j k hjk hj
  have key : ∀ W, (if i = z then C1 else C0) W -> (∀ j k, edgeOf ops j k = true -> (listed.setIfInBounds i true).getD j false = true -> (listed.setIfInBounds i true).getD k false = true) /\ ((listed.setIfInBounds i true).getD z false = true -> ∀ k, k < ops.size -> k ≠ z -> (listed.setIfInBounds i true).getD k false = true) /\ if (listed.setIfInBounds i true).getD z false = true then C1 W else C0 W := by
   intro W hW
   refine ⟨hcl', ?_⟩
   rw [getD_set _ _ _ (by omega)]
   by_cases hiz : i = z
   ·subst hiz
    rw [if_pos rfl] at hW
    refine ⟨fun _ k hk hkz => ?_, by simpa using hW⟩
    rw [getD_set _ _ _ (by omega), if_neg hkz]
    have h1 := List.all_eq_true.1 hl k (List.mem_range.2 hk)
    simp only [Bool.or_eq_true, beq_iff_eq] at h1
    rcases h1 with (h1 | h1) | h1
    ·exact absurd h1 hkz
    ·exact hdir k h1
    ·obtain ⟨j, _, hj⟩ := List.any_eq_true.1 h1
     simp only [Bool.and_eq_true] at hj
     exact hc.1 j k hj.2 (hdir j hj.1)
   ·rw [if_neg hiz] at hW
    rw [if_neg (Ne.symm hiz), hzf]
    exact ⟨fun h => (by cases h), hW⟩
  rcases hrun with ⟨w2, h1, h2⟩ | ⟨hv, w2, h1, h2⟩ | ⟨f, args, h1, h2⟩
  ·exact .inl ⟨w2, h1, key w2 h2⟩
  ·exact .inr (.inl ⟨hv, w2, h1, key w2 h2⟩)
  ·exact .inr (.inr ⟨f, args, h1, h2.mono fun e w3 h3 => ⟨h3.1, key w3 h3.2⟩⟩)
 ·intro w' hc
  have e : (Array.replicate ops.size true).getD z false = true := by simp [Array.getD_eq_getD_getElem?, Array.getElem?_replicate, hz]
  have := hc.2.2
  rw [e] at this
  exact hend w' this
end Go.Proofs.YtcdghalnneilpaaGreat
namespace Go.Proofs.YtcdghalnneilpaaGreat
open Go.RowKit
variable {P : Program} {ops : Array Oper} {Q : Exit -> Act -> World -> Prop}
def lim (ops : Array Oper) (zs : List Nat) (i : Nat) : Nat := (zs.findIdx? fun z => edgeOf ops z i || (List.range ops.size).any fun j => edgeOf ops z j && edgeOf ops j i).getD zs.length
def chainOk (ops : Array Oper) (zs : List Nat) : Bool := (zs.all fun z => decide (z < ops.size)) && ((List.range zs.length).all fun k => k + 1 == zs.length || edgeOf ops (zs.getD (k + 1) 0) (zs.getD k 0)) && decide zs.Nodup
theorem wp_region_chain {id : Nat} {a0 : Act} {w : World} (hm : P.follows .mixedOrders = true) (hp : plainRegion ops = true) (V : Nat -> Value) (zs : List Nat) (hz : chainOk ops zs = true) (C : Nat -> World -> Prop)
  (hC0 : C 0 { w with drawn := w.drawn + 1 })
  (hops : ∀ (i : Nat) (o : Oper), ops[i]? = some o -> ∀ (s : Nat) (w' : World) (ev : Operand -> Value), s <= lim ops zs i -> (∀ k, zs[k]? = some i -> s = k) -> C s w' ->
   (∀ t j e, (_ : ownOf ops t = some j := by kernel_rfl) -> (_ : e ∈ o.after.toList := by simp) -> (_ : Region.binds .any e = true := by rfl) -> (_ : e.on = j := by rfl) -> (_ : t < a0.tmps.size := by simp) -> ev (.tmp t) = V j) ->
   (∀ t, (_ : ownOf ops t = none := by kernel_rfl) -> (_ : t < a0.tmps.size := by simp) -> ev (.tmp t) = a0.eval (.tmp t)) -> (∀ v, ev (.const v) = v) -> (∀ f, ev (.func f) = .func (.func f) #[] #[]) ->
   OpRuns P ev o (V i) w' (C (if i ∈ zs then s + 1 else s)))
  (hend : ∀ w', C zs.length w' -> Q .normal (lexF V 0 ops.toList a0) w') : (Code.region id ops true).wp P Q a0 w := by
 simp only [chainOk, Bool.and_eq_true, decide_eq_true_eq] at hz
 obtain ⟨⟨hz1, hz2⟩, hnd⟩ := hz
 have hzlt : ∀ z ∈ zs, z < ops.size := fun z h => by simpa using List.all_eq_true.1 hz1 z h
 have er : ∀ j, (Array.replicate ops.size false).getD j false = false := fun j => by simp only [Array.getD_eq_getD_getElem?, Array.getElem?_replicate]; split <;> rfl
 refine wp_region_by hm hp V (fun listed W => (∀ j k, edgeOf ops j k = true -> listed.getD j false = true -> listed.getD k false = true) /\ ∃ s, s <= zs.length /\ (∀ k z, zs[k]? = some z -> (listed.getD z false = true ↔ k < s)) /\ C s W) ?_ ?_ ?_
 ·refine ⟨fun j k _ hj => (by rw [er] at hj; cases hj), 0, Nat.zero_le _, fun k z _ => ?_, hC0⟩
  rw [er]
  simp
 ·intro i o hi listed w' ev hs hc hfree hbind hev hcst hfn
  have hilt : i < ops.size := (Array.getElem?_eq_some_iff.1 hi).1
  have hff : listed.getD i false = false := by
   simp only [Array.getD_eq_getD_getElem?] at hfree ⊢
   rw [Array.getElem?_eq_getElem (by omega)] at hfree ⊢
   simpa using hfree
  obtain ⟨hcl, s, hsl, hst, hC⟩ := hc
  have hdir : ∀ k, edgeOf ops i k = true -> listed.getD k false = true := fun k hk => by
   obtain ⟨e, he, hb, hon⟩ := edge_mem hi hk
   rw [<- hon]
   exact hbind e he hb
  have hlim : s <= lim ops zs i := by
   unfold lim
   cases hf : zs.findIdx? (fun z => edgeOf ops z i || (List.range ops.size).any fun j => edgeOf ops z j && edgeOf ops j i) with
   | none => simpa using hsl
   | some k =>
    simp only [Option.getD_some]
    have hk := List.findIdx?_eq_some_iff_getElem.1 hf
    obtain ⟨hkl, hke, _⟩ := hk
    rcases Nat.lt_or_ge k s with h | h
    ·have h1 := (hst k zs[k] (List.getElem?_eq_getElem hkl)).2 h
     have h2 : listed.getD i false = true := by
      simp only [Bool.or_eq_true] at hke
      rcases hke with hke | hke
      ·exact hcl _ _ hke h1
      ·obtain ⟨j, _, hj⟩ := List.any_eq_true.1 hke
       simp only [Bool.and_eq_true] at hj
       exact hcl _ _ hj.2 (hcl _ _ hj.1 h1)
     rw [hff] at h2; cases h2
    ·exact h
  have hk : ∀ k, zs[k]? = some i -> s = k := fun k hk => by
   have h1 : ¬ k < s := fun h => by
    have := (hst k i hk).2 h
    rw [hff] at this; cases this
   cases k with
   | zero => omega
   | succ k =>
    have hkl : k + 1 < zs.length := (List.getElem?_eq_some_iff.1 hk).1
    have h2 := List.all_eq_true.1 hz2 k (List.mem_range.2 (by omega))
    simp only [Bool.or_eq_true, beq_iff_eq] at h2
    rcases h2 with h2 | h2
    ·omega
    ·rw [List.getD_eq_getElem?_getD, hk, List.getD_eq_getElem?_getD, List.getElem?_eq_getElem (by omega : k < zs.length)] at h2
     simp only [Option.getD_some] at h2
     have h3 := hdir _ h2
     have h4 := (hst k _ (List.getElem?_eq_getElem (by omega : k < zs.length))).1 h3
     omega
  have hrun := hops i o hi s w' ev hlim hk hC
   (fun t j e hown he hb hej ht => by rw [hev t ht]; unfold pickSlot; rw [hown]; simp only; rw [if_pos (hej ▸ hbind e he hb)])
   (fun t hown ht => by rw [hev t ht]; unfold pickSlot; rw [hown]) hcst hfn
  have hcl' : ∀ j k, edgeOf ops j k = true -> (listed.setIfInBounds i true).getD j false = true -> (listed.setIfInBounds i true).getD k false = true := by
   intro j k hjk hj
   rw [getD_set _ _ _ (by omega)] at hj ⊢
   split
   ·rfl
   ·by_cases h : j = i
    ·subst h; exact hdir k hjk
    ·rw [if_neg h] at hj; exact hcl j k hjk hj
  have key : ∀ W, C (if i ∈ zs then s + 1 else s) W -> (∀ j k, edgeOf ops j k = true -> (listed.setIfInBounds i true).getD j false = true -> (listed.setIfInBounds i true).getD k false = true) /\ ∃ s, s <= zs.length /\ (∀ k z, zs[k]? = some z -> ((listed.setIfInBounds i true).getD z false = true ↔ k < s)) /\ C s W := by
   intro W hW
   refine ⟨hcl', ?_⟩
   by_cases hmem : i ∈ zs
   ·rw [if_pos hmem] at hW
    obtain ⟨k0, hk0⟩ := List.getElem?_of_mem hmem
    have hs0 := hk k0 hk0
    subst hs0
    have hk0l : s < zs.length := (List.getElem?_eq_some_iff.1 hk0).1
    refine ⟨s + 1, hk0l, fun k z hkz => ?_, hW⟩
    rw [getD_set _ _ _ (by omega)]
    by_cases hzi : z = i
    ·subst hzi
     have := hk k hkz
     rw [if_pos rfl]
     constructor
     ·intro _; omega
     ·intro _; rfl
    ·rw [if_neg hzi, hst k z hkz]
     constructor
     ·intro h; omega
     ·intro h
      rcases Nat.lt_or_ge k s with h1 | h1
      ·exact h1
      ·have e : k = s := by omega
       subst e
       rw [hk0] at hkz
       exact absurd (Option.some.inj hkz).symm hzi
   ·rw [if_neg hmem] at hW
    refine ⟨s, hsl, fun k z hkz => ?_, hW⟩
    have hzi : z ≠ i := fun e => hmem (e ▸ List.mem_of_getElem? hkz)
    rw [getD_set _ _ _ (by omega), if_neg hzi]
    exact hst k z hkz
  rcases hrun with ⟨w2, h1, h2⟩ | ⟨hv, w2, h1, h2⟩ | ⟨f, args, h1, h2⟩
  ·exact .inl ⟨w2, h1, key w2 h2⟩
  ·exact .inr (.inl ⟨hv, w2, h1, key w2 h2⟩)
  ·exact .inr (.inr ⟨f, args, h1, h2.mono fun e w3 h3 => ⟨h3.1, key w3 h3.2⟩⟩)
 ·intro w' hc
  obtain ⟨_, s, hsl, hst, hC⟩ := hc
  have : s = zs.length := by
   rcases Nat.lt_or_ge s zs.length with h | h
   ·have h1 := hst s zs[s] (List.getElem?_eq_getElem h)
    have h2 : (Array.replicate ops.size true).getD zs[s] false = true := by
     have := hzlt zs[s] (by simp)
     simp [Array.getD_eq_getD_getElem?, Array.getElem?_replicate, this]
    have := h1.1 h2
    omega
   ·omega
  subst this
  exact hend w' hC
end Go.Proofs.YtcdghalnneilpaaGreat
