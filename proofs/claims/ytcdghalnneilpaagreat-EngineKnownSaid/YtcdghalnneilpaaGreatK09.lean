/- Joined texts. -/
import Derived.Test.YtcdghalnneilpaaGreatK08
set_option linter.unusedVariables false
set_option linter.unusedSimpArgs false
set_option maxRecDepth 8000
set_option maxHeartbeats 8000000
namespace Go.Proofs.YtcdghalnneilpaaGreat
open Go.RowKit
variable {P : Program} {ops : Array Oper} {Q : Exit -> Act -> World -> Prop} {md : Region.Mode}
def edgeOf (ops : Array Oper) (j k : Nat) : Bool := match ops[j]? with
 | some o => o.after.any fun e => e.on == k && Region.binds .any e
 | none => false
theorem wp_region_gl {id : Nat} {a0 : Act} {w : World} (hm : P.follows .mixedOrders = true) (hp : guardRegion ops = true) (V : Nat -> Value) (C : Array Bool -> World -> Prop)
  (hsz : ∀ (i : Nat) (o : Oper) (t : Nat), ops[i]? = some o -> o.dst = some t -> t < a0.tmps.size)
  (hC0 : C (Array.replicate ops.size false) { w with drawn := w.drawn + 1 })
  (hops : ∀ (i : Nat) (o : Oper), ops[i]? = some o -> ∀ (listed : Array Bool) (w' : World) (ev : Operand -> Value), listed.size = ops.size -> C listed w' -> listed.getD i false = false -> (∀ k, edgeOf ops i k = true -> listed.getD k false = true) -> (∀ j k, edgeOf ops j k = true -> listed.getD j false = true -> listed.getD k false = true) ->
   (∀ t j e, (_ : ownOf ops t = some j := by kernel_rfl) -> (_ : e ∈ o.after.toList := by simp) -> (_ : Region.binds .any e = true := by rfl) -> (_ : e.on = j := by rfl) -> (_ : t < a0.tmps.size := by simp) -> ev (.tmp t) = V j) ->
   (∀ t, (_ : ownOf ops t = none := by kernel_rfl) -> (_ : t < a0.tmps.size := by simp) -> ev (.tmp t) = a0.eval (.tmp t)) -> (∀ v, ev (.const v) = v) -> (∀ f, ev (.func f) = .func (.func f) #[] #[]) ->
   if wantV V o = true then OpRuns P ev o (V i) w' (C (listed.setIfInBounds i true)) else V i = undef /\ C (listed.setIfInBounds i true) w')
  (hend : ∀ w', C (Array.replicate ops.size true) w' -> Q .normal (lexF V 0 ops.toList a0) w') : (Code.region id ops true).wp P Q a0 w := by
 refine wp_region_any hm ?_
 refine wpAny_by (fun listed a w' => listed.size = ops.size /\ a = frameOf (ownOf ops) V a0 listed /\ (∀ j k, edgeOf ops j k = true -> listed.getD j false = true -> listed.getD k false = true) /\ C listed w') ?_ ?_ _ _ _ _ ⟨by simp, (frame_none _ _ _ _).symm, fun j k _ hj => by simp only [Array.getD_eq_getD_getElem?, Array.getElem?_replicate] at hj; split at hj <;> simp at hj, hC0⟩ ?_
 ·rintro listed a w' ⟨hs, rfl, hcl, hc⟩ hr
  have := all_listed_g hs hp hr
  subst this
  rw [frame_lex_g hp]
  exact hend w' hc
 ·rintro listed a w' ⟨hs, rfl, hcl, hc⟩ i hi
  obtain ⟨hlt, hfree, haft⟩ := ready_free hi
  have ho : ops[i]? = some ops[i] := Array.getElem?_eq_getElem hlt
  have hpi := List.all_eq_true.1 hp i (List.mem_range.2 hlt)
  rw [ho] at hpi
  simp only [Bool.and_eq_true] at hpi
  rw [ho] at haft
  simp only [Option.map_some, Option.getD_some] at haft
  have hbind : ∀ e ∈ (ops[i]).after.toList, Region.binds .any e = true -> listed.getD e.on false = true := by
   intro e he hb
   obtain ⟨j, hj, hje⟩ := List.getElem_of_mem he
   have hx := (Array.all_eq_true.1 haft) j (by simpa using hj)
   have hje' : (ops[i]).after[j]'(by simpa using hj) = e := by simpa using hje
   rw [hje', hb] at hx
   simpa using hx
  have hdir : ∀ k, edgeOf ops i k = true -> listed.getD k false = true := by
   intro k hk
   unfold edgeOf at hk
   rw [ho] at hk
   obtain ⟨x, hx, hxe⟩ := Array.any_eq_true.1 hk
   simp only [Bool.and_eq_true, beq_iff_eq] at hxe
   have := hbind ((ops[i]).after[x]) (by simp) hxe.2
   rw [hxe.1] at this
   exact this
  have hcl' : ∀ j k, edgeOf ops j k = true -> (listed.setIfInBounds i true).getD j false = true -> (listed.setIfInBounds i true).getD k false = true := by
   intro j k hjk hj
   rw [getD_set _ _ _ (by omega)] at hj ⊢
   split
   ·rfl
   ·by_cases h : j = i
    ·subst h; exact hdir k hjk
    ·rw [if_neg h] at hj; exact hcl j k hjk hj
  have hrun := hops i ops[i] ho listed w' (frameOf (ownOf ops) V a0 listed).eval hs hc (by
   simp only [Array.getD_eq_getD_getElem?] at hfree ⊢
   rw [Array.getElem?_eq_getElem (by omega)] at hfree ⊢
   simpa using hfree) hdir hcl
   (fun t j e hown he hb hej ht => by rw [frame_eval _ _ _ _ _ ht]; unfold pickSlot; rw [hown]; simp only; rw [if_pos (hej ▸ hbind e he hb)])
   (fun t hown ht => by rw [frame_eval _ _ _ _ _ ht]; unfold pickSlot; rw [hown]) (fun v => rfl) (fun f => rfl)
  have hw : Region.wanted ops[i] (yielded ops (frameOf (ownOf ops) V a0 listed).tmps) = wantV V ops[i] := by
   have hg := hpi.1.2
   unfold Region.wanted wantV
   cases hgd : ops[i].guard with
   | none => rfl
   | some p =>
    obtain ⟨j, b⟩ := p
    rw [hgd] at hg
    simp only [Bool.and_eq_true] at hg
    obtain ⟨hany, hdst⟩ := hg
    obtain ⟨x, hx, hxe⟩ := Array.any_eq_true.1 hany
    simp only [Bool.and_eq_true, beq_iff_eq] at hxe
    have hl : listed.getD j false = true := by
     have := hbind ((ops[i]).after[x]) (by simp) hxe.2
     rw [hxe.1] at this
     exact this
    obtain ⟨t, ht⟩ := Option.isSome_iff_exists.1 hdst
    have hoj : ∃ oj, ops[j]? = some oj := by
     cases h : ops[j]? with
     | none => rw [h] at ht; cases ht
     | some oj => exact ⟨oj, rfl⟩
    obtain ⟨oj, hoj⟩ := hoj
    have hdj : oj.dst = some t := by rw [hoj] at ht; exact ht
    have hjlt : j < ops.size := (Array.getElem?_eq_some_iff.1 hoj).1
    have hpj := List.all_eq_true.1 hp j (List.mem_range.2 hjlt)
    rw [hoj] at hpj
    simp only [Bool.and_eq_true] at hpj
    have hown : ownOf ops t = some j := by
     have := hpj.2
     rw [hdj] at this
     simpa using this
    have htl := hsz j oj t hoj hdj
    have hy : yielded ops (frameOf (ownOf ops) V a0 listed).tmps j = match V j with | .bool c => some c | _ => none := by
     unfold yielded
     rw [hoj]
     simp only [Option.bind_some, hdj]
     rw [frame_get, Array.getElem?_eq_getElem htl]
     simp only [Option.map_some]
     unfold pickSlot
     rw [hown]
     simp only [hl, if_true]
     cases V j <;> rfl
    simp only [hy]
    cases V j <;> simp
  have hput : (frameOf (ownOf ops) V a0 listed).put ops[i].dst (V i) = frameOf (ownOf ops) V a0 (listed.setIfInBounds i true) := by
   cases hd : ops[i].dst with
   | none =>
    exact frame_skip (by omega) (fun s hs' => by
     have := ownOf_back hs'
     rw [ho] at this
     simp [hd] at this)
   | some t =>
    have hown : ownOf ops t = some i := by
     have := hpi.2
     rw [hd] at this
     simpa using this
    exact frame_put (by omega) hown (fun s hs' => by
     have := ownOf_back hs'
     rw [ho] at this
     simp [hd] at this
     exact this.symm)
  unfold wpOp
  rw [ho]
  simp only [hw]
  by_cases hwv : wantV V ops[i] = true
  ·rw [if_pos hwv] at hrun
   rw [hwv]
   simp only [if_true]
   left
   unfold Oper.wp
   rcases hrun with ⟨w2, hr, hc2⟩ | ⟨hv, w2, hr, hc2⟩ | ⟨f, args, hr, hcalls⟩
   ·rw [hr]
    exact ⟨by simpa using hs, hput, hcl', hc2⟩
   ·rw [hr]
    rw [hv] at hput
    exact ⟨by simpa using hs, hput, hcl', hc2⟩
   ·rw [hr]
    refine hcalls.mono ?_
    rintro e w2 ⟨rfl, hc2⟩
    exact ⟨by simpa using hs, hput, hcl', hc2⟩
  ·rw [if_neg hwv] at hrun
   have hwf : wantV V ops[i] = false := by simpa using hwv
   rw [hwf]
   rw [hrun.1] at hput
   simp only [Bool.false_eq_true, if_false]
   exact ⟨by simpa using hs, hput, hcl', hrun.2⟩
 ·unfold todo
  simp
end Go.Proofs.YtcdghalnneilpaaGreat
namespace Go.Proofs.YtcdghalnneilpaaGreat
open Go.RowKit
variable {P : Program} {ops : Array Oper} {Q : Exit -> Act -> World -> Prop}
theorem upd_congr {own : Nat -> Option Nat} {V V' : Nat -> Value} {listed : Array Bool} (h : ∀ i, listed.getD i false = true -> V i = V' i) : ∀ (l : List Value) (t : Nat), upd own V listed t l = upd own V' listed t l
 | [], _ => rfl
 | v :: r, t => by
  simp only [upd]
  rw [upd_congr h r]
  congr 1
  unfold pickSlot
  cases own t with
  | none => rfl
  | some i =>
   simp only
   split
   ·rename_i hi; exact h i hi
   ·rfl
theorem frame_congr {own : Nat -> Option Nat} {V V' : Nat -> Value} {a0 : Act} {listed : Array Bool} (h : ∀ i, listed.getD i false = true -> V i = V' i) : frameOf own V a0 listed = frameOf own V' a0 listed := by
 unfold frameOf
 rw [upd_congr h]
def setV (V : Nat -> Value) (i : Nat) (v : Value) : Nat -> Value := fun j => if j = i then v else V j
theorem setV_same (V : Nat -> Value) (i : Nat) (v : Value) : setV V i v i = v := by simp [setV]
theorem setV_other (V : Nat -> Value) (i j : Nat) (v : Value) (h : j ≠ i) : setV V i v j = V j := by simp [setV, h]
def OpRunsX (P : Program) (ev : Operand -> Value) (o : Oper) (w : World) (C : Value -> World -> Prop) : Prop :=
 (∃ v w', (execOp ev o).run P w = .ok (.value v) w' /\ C v w') \/
 (∃ f args, (execOp ev o).run P w = .ok (.enter f args) w /\ Calls P f args w fun e w' => ∃ v, e = .returned v /\ C v w')
theorem wp_region_ex {id : Nat} {a0 : Act} {w : World} (hm : P.follows .mixedOrders = true) (hp : plainRegion ops = true) (J : Array Bool -> (Nat -> Value) -> World -> Prop)
  (hJ0 : J (Array.replicate ops.size false) (fun _ => undef) { w with drawn := w.drawn + 1 })
  (hops : ∀ i o, ops[i]? = some o -> ∀ (listed : Array Bool) (V : Nat -> Value) (w' : World) (ev : Operand -> Value), listed.size = ops.size -> J listed V w' -> listed.getD i false = false -> (∀ k, edgeOf ops i k = true -> listed.getD k false = true) ->
   (∀ t j e, (_ : ownOf ops t = some j := by kernel_rfl) -> (_ : e ∈ o.after.toList := by simp) -> (_ : Region.binds .any e = true := by rfl) -> (_ : e.on = j := by rfl) -> (_ : t < a0.tmps.size := by simp) -> ev (.tmp t) = V j) ->
   (∀ t, (_ : ownOf ops t = none := by kernel_rfl) -> (_ : t < a0.tmps.size := by simp) -> ev (.tmp t) = a0.eval (.tmp t)) -> (∀ t j, ownOf ops t = some j -> listed.getD j false = false -> t < a0.tmps.size -> ev (.tmp t) = a0.eval (.tmp t)) -> (∀ v, ev (.const v) = v) -> (∀ f, ev (.func f) = .func (.func f) #[] #[]) ->
   OpRunsX P ev o w' fun v w'' => J (listed.setIfInBounds i true) (setV V i v) w'')
  (hend : ∀ V w', J (Array.replicate ops.size true) V w' -> Q .normal (lexF V 0 ops.toList a0) w') : (Code.region id ops true).wp P Q a0 w := by
 refine wp_region_any hm ?_
 refine wpAny_by (fun listed a w' => listed.size = ops.size /\ ∃ V, a = frameOf (ownOf ops) V a0 listed /\ J listed V w') ?_ ?_ _ _ _ _ ⟨by simp, _, (frame_none _ _ _ _).symm, hJ0⟩ ?_
 ·rintro listed a w' ⟨hs, V, rfl, hc⟩ hr
  have := all_listed hs hp hr
  subst this
  rw [frame_lex hp]
  exact hend V w' hc
 ·rintro listed a w' ⟨hs, V, rfl, hc⟩ i hi
  obtain ⟨hlt, hfree, haft⟩ := ready_free hi
  have ho : ops[i]? = some ops[i] := Array.getElem?_eq_getElem hlt
  have hpi := List.all_eq_true.1 hp i (List.mem_range.2 hlt)
  rw [ho] at hpi
  simp only [Bool.and_eq_true] at hpi
  rw [ho] at haft
  simp only [Option.map_some, Option.getD_some] at haft
  have hbind : ∀ e ∈ (ops[i]).after.toList, Region.binds .any e = true -> listed.getD e.on false = true := by
   intro e he hb
   obtain ⟨j, hj, hje⟩ := List.getElem_of_mem he
   have hx := (Array.all_eq_true.1 haft) j (by simpa using hj)
   have hje' : (ops[i]).after[j]'(by simpa using hj) = e := by simpa using hje
   rw [hje', hb] at hx
   simpa using hx
  have hdir : ∀ k, edgeOf ops i k = true -> listed.getD k false = true := by
   intro k hk
   unfold edgeOf at hk
   rw [ho] at hk
   obtain ⟨x, hx, hxe⟩ := Array.any_eq_true.1 hk
   simp only [Bool.and_eq_true, beq_iff_eq] at hxe
   have := hbind ((ops[i]).after[x]) (by simp) hxe.2
   rw [hxe.1] at this
   exact this
  have hfr : listed.getD i false = false := by
   simp only [Array.getD_eq_getD_getElem?] at hfree ⊢
   rw [Array.getElem?_eq_getElem (by omega)] at hfree ⊢
   simpa using hfree
  have hrun := hops i ops[i] ho listed V w' (frameOf (ownOf ops) V a0 listed).eval hs hc hfr hdir
   (fun t j e hown he hb hej ht => by rw [frame_eval _ _ _ _ _ ht]; unfold pickSlot; rw [hown]; simp only; rw [if_pos (hej ▸ hbind e he hb)])
   (fun t hown ht => by rw [frame_eval _ _ _ _ _ ht]; unfold pickSlot; rw [hown]) (fun t j hown hj ht => by rw [frame_eval _ _ _ _ _ ht]; unfold pickSlot; rw [hown]; simp only; rw [if_neg (by rw [hj]; decide)]) (fun v => rfl) (fun f => rfl)
  have hw : Region.wanted ops[i] (yielded ops (frameOf (ownOf ops) V a0 listed).tmps) = true := by
   have hg : ops[i].guard = none := by simpa using hpi.1.2
   simp [Region.wanted, hg]
  have hput : ∀ v, (frameOf (ownOf ops) V a0 listed).put ops[i].dst v = frameOf (ownOf ops) (setV V i v) a0 (listed.setIfInBounds i true) := fun v => by
   have e : frameOf (ownOf ops) V a0 listed = frameOf (ownOf ops) (setV V i v) a0 listed := frame_congr (fun j hj => by
    rw [setV_other]
    rintro rfl
    rw [hfr] at hj; cases hj)
   rw [e]
   have := frame_step (V := setV V i v) (a0 := a0) hp hs ho
   rw [setV_same] at this
   exact this
  unfold wpOp
  rw [ho]
  simp only [hw, if_true]
  left
  unfold Oper.wp
  rcases hrun with ⟨v, w2, hr, hc2⟩ | ⟨f, args, hr, hcalls⟩
  ·rw [hr]
   exact ⟨by simpa using hs, _, hput v, hc2⟩
  ·rw [hr]
   refine hcalls.mono ?_
   rintro e w2 ⟨v, rfl, hc2⟩
   exact ⟨by simpa using hs, _, hput v, hc2⟩
 ·unfold todo
  simp
end Go.Proofs.YtcdghalnneilpaaGreat
namespace Go.Proofs.YtcdghalnneilpaaGreat
open Go.RowKit
variable {P : Program} {ops : Array Oper} {Q : Exit -> Act -> World -> Prop}
theorem edge_mem {i k : Nat} {o : Oper} (ho : ops[i]? = some o) (h : edgeOf ops i k = true) : ∃ e ∈ o.after.toList, Region.binds .any e = true /\ e.on = k := by
 unfold edgeOf at h
 rw [ho] at h
 obtain ⟨x, hx, hxe⟩ := Array.any_eq_true.1 h
 simp only [Bool.and_eq_true, beq_iff_eq] at hxe
 exact ⟨_, by simp, hxe.2, hxe.1⟩
theorem wp_region_last {id : Nat} {a0 : Act} {w : World} (hm : P.follows .mixedOrders = true) (hp : plainRegion ops = true) (V : Nat -> Value) (z : Nat) (hz : z < ops.size)
  (hl : ((List.range ops.size).all fun i => i == z || edgeOf ops z i || (List.range ops.size).any fun j => edgeOf ops z j && edgeOf ops j i) = true) (C0 C1 : World -> Prop)
  (hC0 : C0 { w with drawn := w.drawn + 1 })
  (hops : ∀ (i : Nat) (o : Oper), ops[i]? = some o -> ∀ (w' : World) (ev : Operand -> Value), C0 w' ->
   (∀ t j e, (_ : ownOf ops t = some j := by kernel_rfl) -> (_ : e ∈ o.after.toList := by simp) -> (_ : Region.binds .any e = true := by rfl) -> (_ : e.on = j := by rfl) -> (_ : t < a0.tmps.size := by simp) -> ev (.tmp t) = V j) ->
   (∀ t, (_ : ownOf ops t = none := by kernel_rfl) -> (_ : t < a0.tmps.size := by simp) -> ev (.tmp t) = a0.eval (.tmp t)) -> (∀ v, ev (.const v) = v) -> (∀ f, ev (.func f) = .func (.func f) #[] #[]) ->
   OpRuns P ev o (V i) w' (if i = z then C1 else C0))
  (hend : ∀ w', C1 w' -> Q .normal (lexF V 0 ops.toList a0) w') : (Code.region id ops true).wp P Q a0 w := by
 refine wp_region_by hm hp V (fun listed W => (∀ j k, edgeOf ops j k = true -> listed.getD j false = true -> listed.getD k false = true) /\ (listed.getD z false = true -> ∀ k, k < ops.size -> k ≠ z -> listed.getD k false = true) /\ if listed.getD z false = true then C1 W else C0 W) ?_ ?_ ?_
 ·have e : (Array.replicate ops.size false).getD z false = false := by simp [Array.getD_eq_getD_getElem?, Array.getElem?_replicate, hz]
  have er : ∀ j, (Array.replicate ops.size false).getD j false = false := fun j => by simp only [Array.getD_eq_getD_getElem?, Array.getElem?_replicate]; split <;> rfl
  refine ⟨fun j k _ hj => (by rw [er] at hj; cases hj), fun h => (by rw [e] at h; cases h), ?_⟩
  rw [e]
  exact hC0
 ·intro i o hi listed w' ev hs hc hfree hbind hev hcst hfn
  have hilt : i < ops.size := (Array.getElem?_eq_some_iff.1 hi).1
  have hff : listed.getD i false = false := by
   simp only [Array.getD_eq_getD_getElem?] at hfree ⊢
   rw [Array.getElem?_eq_getElem (by omega)] at hfree ⊢
   simpa using hfree
  have hzf : listed.getD z false = false := by
   cases h : listed.getD z false with
   | false => rfl
   | true =>
    by_cases hiz : i = z
    ·subst hiz; rw [hff] at h; cases h
    ·have := hc.2.1 h i hilt hiz
     rw [hff] at this; cases this
  have hc0 : C0 w' := by have := hc.2.2; rw [hzf] at this; exact this
  have hrun := hops i o hi w' ev hc0
   (fun t j e hown he hb hej ht => by rw [hev t ht]; unfold pickSlot; rw [hown]; simp only; rw [if_pos (hej ▸ hbind e he hb)])
   (fun t hown ht => by rw [hev t ht]; unfold pickSlot; rw [hown]) hcst hfn
  have hdir : ∀ k, edgeOf ops i k = true -> listed.getD k false = true := fun k hk => by
   obtain ⟨e, he, hb, hon⟩ := edge_mem hi hk
   rw [<- hon]
   exact hbind e he hb
  have hcl' : ∀ j k, edgeOf ops j k = true -> (listed.setIfInBounds i true).getD j false = true -> (listed.setIfInBounds i true).getD k false = true := by
   intro j k hjk hj
   rw [getD_set _ _ _ (by omega)] at hj ⊢
   split
   ·rfl
   ·by_cases h : j = i
    ·subst h; exact hdir k hjk
    ·rw [if_neg h] at hj; exact hc.1 j k hjk hj
  have key : ∀ W, (if i = z then C1 else C0) W -> (∀ j k, edgeOf ops j k = true -> (listed.setIfInBounds i true).getD j false = true -> (listed.setIfInBounds i true).getD k false = true) /\ ((listed.setIfInBounds i true).getD z false = true -> ∀ k, k < ops.size -> k ≠ z -> (listed.setIfInBounds i true).getD k false = true) /\ if (listed.setIfInBounds i true).getD z false = true then C1 W else C0 W := by
   intro W hW
   refine ⟨hcl', ?_⟩
   rw [getD_set _ _ _ (by omega)]
   by_cases hiz : i = z
   ·subst hiz
    rw [if_pos rfl] at hW
    refine ⟨fun _ k hk hkz => ?_, by simpa using hW⟩
    rw [getD_set _ _ _ (by omega), if_neg hkz]
    have h1 := List.all_eq_true.1 hl k (List.mem_range.2 hk)
    simp only [Bool.or_eq_true, beq_iff_eq] at h1
    rcases h1 with (h1 | h1) | h1
    ·exact absurd h1 hkz
    ·exact hdir k h1
    ·obtain ⟨j, _, hj⟩ := List.any_eq_true.1 h1
     simp only [Bool.and_eq_true] at hj
     exact hc.1 j k hj.2 (hdir j hj.1)
   ·rw [if_neg hiz] at hW
    rw [if_neg (Ne.symm hiz), hzf]
    exact ⟨fun h => (by cases h), hW⟩
  rcases hrun with ⟨w2, h1, h2⟩ | ⟨hv, w2, h1, h2⟩ | ⟨f, args, h1, h2⟩
  ·exact .inl ⟨w2, h1, key w2 h2⟩
  ·exact .inr (.inl ⟨hv, w2, h1, key w2 h2⟩)
  ·exact .inr (.inr ⟨f, args, h1, h2.mono fun e w3 h3 => ⟨h3.1, key w3 h3.2⟩⟩)
 ·intro w' hc
  have e : (Array.replicate ops.size true).getD z false = true := by simp [Array.getD_eq_getD_getElem?, Array.getElem?_replicate, hz]
  have := hc.2.2
  rw [e] at this
  exact hend w' this
end Go.Proofs.YtcdghalnneilpaaGreat
namespace Go.Proofs.YtcdghalnneilpaaGreat
open Go.RowKit
variable {P : Program} {ops : Array Oper} {Q : Exit -> Act -> World -> Prop}
def lim (ops : Array Oper) (zs : List Nat) (i : Nat) : Nat := (zs.findIdx? fun z => edgeOf ops z i || (List.range ops.size).any fun j => edgeOf ops z j && edgeOf ops j i).getD zs.length
def chainOk (ops : Array Oper) (zs : List Nat) : Bool := (zs.all fun z => decide (z < ops.size)) && ((List.range zs.length).all fun k => k + 1 == zs.length || edgeOf ops (zs.getD (k + 1) 0) (zs.getD k 0)) && decide zs.Nodup
theorem wp_region_chain {id : Nat} {a0 : Act} {w : World} (hm : P.follows .mixedOrders = true) (hp : plainRegion ops = true) (V : Nat -> Value) (zs : List Nat) (hz : chainOk ops zs = true) (C : Nat -> World -> Prop)
  (hC0 : C 0 { w with drawn := w.drawn + 1 })
  (hops : ∀ (i : Nat) (o : Oper), ops[i]? = some o -> ∀ (s : Nat) (w' : World) (ev : Operand -> Value), s <= lim ops zs i -> (∀ k, zs[k]? = some i -> s = k) -> C s w' ->
   (∀ t j e, (_ : ownOf ops t = some j := by kernel_rfl) -> (_ : e ∈ o.after.toList := by simp) -> (_ : Region.binds .any e = true := by rfl) -> (_ : e.on = j := by rfl) -> (_ : t < a0.tmps.size := by simp) -> ev (.tmp t) = V j) ->
   (∀ t, (_ : ownOf ops t = none := by kernel_rfl) -> (_ : t < a0.tmps.size := by simp) -> ev (.tmp t) = a0.eval (.tmp t)) -> (∀ v, ev (.const v) = v) -> (∀ f, ev (.func f) = .func (.func f) #[] #[]) ->
   OpRuns P ev o (V i) w' (C (if i ∈ zs then s + 1 else s)))
  (hend : ∀ w', C zs.length w' -> Q .normal (lexF V 0 ops.toList a0) w') : (Code.region id ops true).wp P Q a0 w := by
 simp only [chainOk, Bool.and_eq_true, decide_eq_true_eq] at hz
 obtain ⟨⟨hz1, hz2⟩, hnd⟩ := hz
 have hzlt : ∀ z ∈ zs, z < ops.size := fun z h => by simpa using List.all_eq_true.1 hz1 z h
 have er : ∀ j, (Array.replicate ops.size false).getD j false = false := fun j => by simp only [Array.getD_eq_getD_getElem?, Array.getElem?_replicate]; split <;> rfl
 refine wp_region_by hm hp V (fun listed W => (∀ j k, edgeOf ops j k = true -> listed.getD j false = true -> listed.getD k false = true) /\ ∃ s, s <= zs.length /\ (∀ k z, zs[k]? = some z -> (listed.getD z false = true ↔ k < s)) /\ C s W) ?_ ?_ ?_
 ·refine ⟨fun j k _ hj => (by rw [er] at hj; cases hj), 0, Nat.zero_le _, fun k z _ => ?_, hC0⟩
  rw [er]
  simp
 ·intro i o hi listed w' ev hs hc hfree hbind hev hcst hfn
  have hilt : i < ops.size := (Array.getElem?_eq_some_iff.1 hi).1
  have hff : listed.getD i false = false := by
   simp only [Array.getD_eq_getD_getElem?] at hfree ⊢
   rw [Array.getElem?_eq_getElem (by omega)] at hfree ⊢
   simpa using hfree
  obtain ⟨hcl, s, hsl, hst, hC⟩ := hc
  have hdir : ∀ k, edgeOf ops i k = true -> listed.getD k false = true := fun k hk => by
   obtain ⟨e, he, hb, hon⟩ := edge_mem hi hk
   rw [<- hon]
   exact hbind e he hb
  have hlim : s <= lim ops zs i := by
   unfold lim
   cases hf : zs.findIdx? (fun z => edgeOf ops z i || (List.range ops.size).any fun j => edgeOf ops z j && edgeOf ops j i) with
   | none => simpa using hsl
   | some k =>
    simp only [Option.getD_some]
    have hk := List.findIdx?_eq_some_iff_getElem.1 hf
    obtain ⟨hkl, hke, _⟩ := hk
    rcases Nat.lt_or_ge k s with h | h
    ·have h1 := (hst k zs[k] (List.getElem?_eq_getElem hkl)).2 h
     have h2 : listed.getD i false = true := by
      simp only [Bool.or_eq_true] at hke
      rcases hke with hke | hke
      ·exact hcl _ _ hke h1
      ·obtain ⟨j, _, hj⟩ := List.any_eq_true.1 hke
       simp only [Bool.and_eq_true] at hj
       exact hcl _ _ hj.2 (hcl _ _ hj.1 h1)
     rw [hff] at h2; cases h2
    ·exact h
  have hk : ∀ k, zs[k]? = some i -> s = k := fun k hk => by
   have h1 : ¬ k < s := fun h => by
    have := (hst k i hk).2 h
    rw [hff] at this; cases this
   cases k with
   | zero => omega
   | succ k =>
    have hkl : k + 1 < zs.length := (List.getElem?_eq_some_iff.1 hk).1
    have h2 := List.all_eq_true.1 hz2 k (List.mem_range.2 (by omega))
    simp only [Bool.or_eq_true, beq_iff_eq] at h2
    rcases h2 with h2 | h2
    ·omega
    ·rw [List.getD_eq_getElem?_getD, hk, List.getD_eq_getElem?_getD, List.getElem?_eq_getElem (by omega : k < zs.length)] at h2
     simp only [Option.getD_some] at h2
     have h3 := hdir _ h2
     have h4 := (hst k _ (List.getElem?_eq_getElem (by omega : k < zs.length))).1 h3
     omega
  have hrun := hops i o hi s w' ev hlim hk hC
   (fun t j e hown he hb hej ht => by rw [hev t ht]; unfold pickSlot; rw [hown]; simp only; rw [if_pos (hej ▸ hbind e he hb)])
   (fun t hown ht => by rw [hev t ht]; unfold pickSlot; rw [hown]) hcst hfn
  have hcl' : ∀ j k, edgeOf ops j k = true -> (listed.setIfInBounds i true).getD j false = true -> (listed.setIfInBounds i true).getD k false = true := by
   intro j k hjk hj
   rw [getD_set _ _ _ (by omega)] at hj ⊢
   split
   ·rfl
   ·by_cases h : j = i
    ·subst h; exact hdir k hjk
    ·rw [if_neg h] at hj; exact hcl j k hjk hj
  have key : ∀ W, C (if i ∈ zs then s + 1 else s) W -> (∀ j k, edgeOf ops j k = true -> (listed.setIfInBounds i true).getD j false = true -> (listed.setIfInBounds i true).getD k false = true) /\ ∃ s, s <= zs.length /\ (∀ k z, zs[k]? = some z -> ((listed.setIfInBounds i true).getD z false = true ↔ k < s)) /\ C s W := by
   intro W hW
   refine ⟨hcl', ?_⟩
   by_cases hmem : i ∈ zs
   ·rw [if_pos hmem] at hW
    obtain ⟨k0, hk0⟩ := List.getElem?_of_mem hmem
    have hs0 := hk k0 hk0
    subst hs0
    have hk0l : s < zs.length := (List.getElem?_eq_some_iff.1 hk0).1
    refine ⟨s + 1, hk0l, fun k z hkz => ?_, hW⟩
    rw [getD_set _ _ _ (by omega)]
    by_cases hzi : z = i
    ·subst hzi
     have := hk k hkz
     rw [if_pos rfl]
     constructor
     ·intro _; omega
     ·intro _; rfl
    ·rw [if_neg hzi, hst k z hkz]
     constructor
     ·intro h; omega
     ·intro h
      rcases Nat.lt_or_ge k s with h1 | h1
      ·exact h1
      ·have e : k = s := by omega
       subst e
       rw [hk0] at hkz
       exact absurd (Option.some.inj hkz).symm hzi
   ·rw [if_neg hmem] at hW
    refine ⟨s, hsl, fun k z hkz => ?_, hW⟩
    have hzi : z ≠ i := fun e => hmem (e ▸ List.mem_of_getElem? hkz)
    rw [getD_set _ _ _ (by omega), if_neg hzi]
    exact hst k z hkz
  rcases hrun with ⟨w2, h1, h2⟩ | ⟨hv, w2, h1, h2⟩ | ⟨f, args, h1, h2⟩
  ·exact .inl ⟨w2, h1, key w2 h2⟩
  ·exact .inr (.inl ⟨hv, w2, h1, key w2 h2⟩)
  ·exact .inr (.inr ⟨f, args, h1, h2.mono fun e w3 h3 => ⟨h3.1, key w3 h3.2⟩⟩)
 ·intro w' hc
  obtain ⟨_, s, hsl, hst, hC⟩ := hc
  have : s = zs.length := by
   rcases Nat.lt_or_ge s zs.length with h | h
   ·have h1 := hst s zs[s] (List.getElem?_eq_getElem h)
    have h2 : (Array.replicate ops.size true).getD zs[s] false = true := by
     have := hzlt zs[s] (by simp)
     simp [Array.getD_eq_getD_getElem?, Array.getElem?_replicate, this]
    have := h1.1 h2
    omega
   ·omega
  subst this
  exact hend w' hC
end Go.Proofs.YtcdghalnneilpaaGreat
namespace Go.Proofs.YtcdghalnneilpaaGreat
open Go.RowKit Go.Deep Math
theorem size_of {ops : Array Oper} {a0 : Act} {n : Nat} (h : ((List.range ops.size).all fun i => match (ops[i]?).bind (·.dst) with | some t => decide (t < n) | none => true) = true) (hn : a0.tmps.size = n) : ∀ (i : Nat) (o : Oper) (t : Nat), ops[i]? = some o -> o.dst = some t -> t < a0.tmps.size := fun i o t ho hd => by
 have hi : i < ops.size := (Array.getElem?_eq_some_iff.1 ho).1
 have := List.all_eq_true.1 h i (List.mem_range.2 hi)
 rw [ho] at this
 simp only [Option.bind_some, hd, decide_eq_true_eq] at this
 rw [hn]
 exact this
theorem app_bytes {w : World} {base : Nat} {v : Value} {n : Nat} {xs ys : List UInt8} (h : w.ownsRow base 5 1 v n (bCells xs)) {b o m c : Nat} (hs : BS w (some ⟨b, o, none⟩) m c ys) (hn : n + m <= 1048576) (hb : base <= w.heap.size) :
  ∃ va vc w', (∀ ty, (Builtin.append_ #[40, 40] ty #[v, .slice (some ⟨b, o, none⟩) m c]).run Tryz.prog w = .ok (.slice va (n + m) vc) w') /\
   w'.ownsRow base 5 1 (.slice va (n + m) vc) (n + m) (bCells (xs ++ ys)) /\ Keep (own v) w w' /\ (∀ q ∈ own (.slice va (n + m) vc), q ∈ own v \/ w.heap.size <= q) := by
 obtain ⟨i0, hi0, hp0⟩ := Option.map_eq_some_iff.1 info5
 simp only [Prod.mk.injEq] at hp0
 have hnews : ∀ j u, (bCells ys)[j]? = some u -> w.cell? ((⟨b, o, none⟩ : Addr).add j) = some u := fun j u hu => by
  have hj : j < m := by have := (List.getElem?_eq_some_iff.1 hu).1; rw [bCells_length, <- hs.len] at this; exact this
  obtain ⟨b', o', he, _, hc⟩ := hs.cell j hj
  cases he
  rw [Addr.add_lit, hc, <- hu]
  have hj2 : j < ys.length := by rw [<- hs.len]; exact hj
  simp [bCells, List.getD_eq_getElem?_getD, List.getElem?_eq_getElem hj2]
 obtain ⟨v', w', hrun, ho, hg, hnil, hblk⟩ := run_append_own_at (P := Tryz.prog) w base 40 0 5 i0 _ 1 1 Tryz.underlying40 hi0 hp0.1 hp0.2.1 hp0.2.2 rfl (by decide) v n (bCells xs) h ⟨b, o, none⟩ m c (bCells ys) (by rw [bCells_length, hs.len, Nat.mul_one]) hnews (bCells_one ys) (by unfold maxLen; omega) (by omega) hb
 obtain ⟨va, vc, rfl⟩ := own_slice ho
 refine ⟨va, vc, w', fun ty => hrun, by rw [bCells_append]; exact ho, (Keep.refl _ w).grown hg (fun q hq => .inl (mem_own.2 hq)), fun q hq => ?_⟩
 rcases hblk with h2 | h2
 ·exact .inl (mem_own.2 (h2 ▸ mem_own.1 hq))
 ·have := mem_own.1 hq
  rw [h2] at this
  exact .inr (Nat.le_of_eq (Option.some.inj this))
structure Fp where
 g : Nat
 l : List UInt8
def fpCells (p : Fp) : List Value := [.int .u8 (fmPlace p.l), .int .u64 (fmNum p.l), .slice (some ⟨p.g, 16, none⟩) (fmLen p.l) 368]
def fpRow (ps : List Fp) : List Value := ps.flatMap fpCells
theorem fpRow_length (ps : List Fp) : (fpRow ps).length = ps.length * 3 := flat_length fpCells 3 (fun _ => rfl) ps
structure FpAt (w : World) (p : Fp) : Prop where
 blk : Blk w p.g (bCells p.l) 5
 all : p.l.length = 384
 form : isForm p.l = true
theorem blk_bs {w : World} {g : Nat} {l : List UInt8} (h : Blk w g (bCells l) 5) (hl : l.length = 384) : BS w (some ⟨g, 0, none⟩) 384 384 l := by
 refine buf_bs ?_ hl.symm (Nat.le_refl _)
 unfold Buf
 rw [show zc 0 = [] from rfl, List.append_nil]
 exact h
theorem FpAt.bs {w : World} {p : Fp} (h : FpAt w p) : BS w (some ⟨p.g, 0, none⟩) 384 384 p.l := blk_bs h.blk h.all
theorem FpAt.same {w w' : World} {p : Fp} (h : FpAt w p) (e : w'.heap[p.g]? = w.heap[p.g]?) : FpAt w' p := ⟨h.blk.same e, h.all, h.form⟩
theorem FpAt.glt {w : World} {p : Fp} (h : FpAt w p) : p.g < w.heap.size := h.blk.lt
theorem FpAt.below {w w' : World} {p : Fp} (h : FpAt w p) (b : Below w.heap.size w w') : FpAt w' p := h.same (b.block _ h.glt)
theorem FpAt.len {w : World} {p : Fp} (h : FpAt w p) : fmLen p.l <= 368 := by
 have := h.form
 simp only [isForm, Bool.and_eq_true, decide_eq_true_eq] at this
 exact this.2.2
def fmPart (l : List UInt8) : List UInt8 := sl l 16 (16 + fmLen l)
theorem FpAt.part {w : World} {p : Fp} (h : FpAt w p) : BS w (some ⟨p.g, 16, none⟩) (fmLen p.l) 368 (fmPart p.l) := by
 have := h.len
 exact h.bs.sub 16 (16 + fmLen p.l) 16 (fmLen p.l) 368 rfl (by omega) (by omega) (by omega) (by omega)
theorem fp_cell {w : World} {base : Nat} {v : Value} {n : Nat} {ps : List Fp} (h : w.ownsRow base 259 3 v n (fpRow ps)) {i : Nat} {p : Fp} (hp : ps[i]? = some p) : ∃ g c, v = .slice (some ⟨g, 0, none⟩) n c /\ w.cell? ⟨g, i * 3, none⟩ = some (.int .u8 (fmPlace p.l)) /\ w.cell? ⟨g, i * 3 + 1, none⟩ = some (.int .u64 (fmNum p.l)) /\ w.cell? ⟨g, i * 3 + 2, none⟩ = some (.slice (some ⟨p.g, 16, none⟩) (fmLen p.l) 368) /\ g < w.heap.size := by
 have hi : i < ps.length := (List.getElem?_eq_some_iff.1 hp).1
 have hn : n = ps.length := by have := h.1; rw [fpRow_length] at this; omega
 rcases h.2 with ⟨_, h0⟩ | ⟨g, cap, cur, rfl, hb, hh, hc, hm, hs, htk⟩
 ·omega
 ·obtain ⟨A, B, e, hA⟩ : ∃ A B, ps = A ++ p :: B /\ A.length = i := by
   obtain ⟨hi, he⟩ := List.getElem?_eq_some_iff.1 hp
   refine ⟨ps.take i, ps.drop (i + 1), ?_, by simp; omega⟩
   rw [<- he, <- List.drop_eq_getElem_cons hi, List.take_append_drop]
  have key : ∀ j v, j < 3 -> (fpCells p)[j]? = some v -> w.cell? ⟨g, i * 3 + j, none⟩ = some v := fun j v hj hv => by
   have h1 : (cur.toList.take (n * 3))[i * 3 + j]? = some v := by
    rw [htk, e, <- hA, <- hv]
    exact flat_get fpCells 3 (fun _ => rfl) A p B j hj
   rw [List.getElem?_take] at h1
   split at h1
   ·simp [World.cell?, hh, <- Array.getElem?_toList, h1]
   ·cases h1
  exact ⟨g, cap, rfl, key 0 _ (by omega) rfl, key 1 _ (by omega) rfl, key 2 _ (by omega) rfl, (Array.getElem?_eq_some_iff.1 hh).1⟩
def run9 (n : Nat) : Nat -> List (List UInt8) -> Bool
 | _, [] => true
 | i, l :: r => decide (fmPlace l = i) && (decide (fmNum l = n) && run9 n (i + 1) r)
def headNum (ls : List (List UInt8)) : Nat := fmNum (ls.headD [])
def isWhole (ls : List (List UInt8)) : Bool := decide (4 <= ls.length) && (decide (headNum ls ≠ 0) && run9 (headNum ls) 0 ls)
def content (ls : List (List UInt8)) : List UInt8 := ls.flatMap fmPart
theorem run9_snoc (n : Nat) : ∀ (ls : List (List UInt8)) (i : Nat) (l : List UInt8), run9 n i (ls ++ [l]) = (run9 n i ls && (decide (fmPlace l = i + ls.length) && decide (fmNum l = n)))
 | [], i, l => by simp [run9]
 | a :: r, i, l => by
  rw [List.cons_append, run9, run9, run9_snoc n r (i + 1) l]
  simp only [List.length_cons, show i + 1 + r.length = i + (r.length + 1) by omega, Bool.and_assoc]
theorem run9_false (n : Nat) (ls : List (List UInt8)) (k : Nat) (i : Nat) (h : run9 n i (ls.take k) = false) : run9 n i ls = false := by
 induction ls generalizing k i with
 | nil => simp [run9] at h
 | cons a r ih =>
  cases k with
  | zero => simp [run9] at h
  | succ k =>
   rw [List.take_succ_cons, run9] at h
   rw [run9]
   cases h1 : decide (fmPlace a = i) with
   | false => rfl
   | true =>
    cases h2 : decide (fmNum a = n) with
    | false => rfl
    | true =>
     rw [h1, h2] at h
     simp only [Bool.true_and] at h ⊢
     exact ih k (i + 1) h
def fpLs (ps : List Fp) : List (List UInt8) := ps.map Fp.l
def WholePost (w : World) (ls : List (List UInt8)) (e : Ending) (w' : World) : Prop := Below w.heap.size w w' /\
 ((isWhole ls = false /\ e = .returned (.tuple #[.slice none 0 0, .bool false])) \/
  (isWhole ls = true /\ ∃ va vn vc, e = .returned (.tuple #[.slice va vn vc, .bool true]) /\ vn = (content ls).length /\ w'.ownsRow w.heap.size 5 1 (.slice va vn vc) vn (bCells (content ls))))
theorem content_snoc (ls : List (List UInt8)) (l : List UInt8) : content (ls ++ [l]) = content ls ++ fmPart l := by simp [content]
theorem content_le {w : World} : ∀ (ps : List Fp), (∀ p ∈ ps, FpAt w p) -> (content (fpLs ps)).length <= 368 * ps.length
 | [], _ => by simp [content, fpLs]
 | p :: r, h => by
  have h1 := content_le r (fun q hq => h q (by simp [hq]))
  have h2 := (h p (by simp)).part.len
  have h3 := (h p (by simp)).len
  have e : content (fpLs (p :: r)) = fmPart p.l ++ content (fpLs r) := by simp [content, fpLs]
  rw [e, List.length_append, <- h2, List.length_cons]
  omega
theorem whole_any (a : Option Addr) (n c : Nat) (ps : List Fp) (w : World) (hrow : w.ownsRow 0 259 3 (.slice a n c) n (fpRow ps)) (hps : ∀ p ∈ ps, FpAt w p) (hn4 : n <= 4) :
  Calls Tryz.prog 186 #[.slice a n c] w (WholePost w (fpLs ps)) := by
 have hn : n = ps.length := by have := hrow.1; rw [fpRow_length] at this; omega
 have HN := hide hn
 have HR := hide hrow
 have HP := hide hps
 have HLN : Hid ((fpLs ps).length = ps.length) := by show _ = _; simp [fpLs]
 by_cases h4 : n < 4
 ·have E : Hid (isWhole (fpLs ps) = false) := by
   show _ = _
   have : ¬ 4 <= (fpLs ps).length := by rw [HLN.out]; omega
   simp only [isWhole, decide_eq_false this, Bool.false_and]
  have h4i : (n : Int) < 4 := by omega
  clear hn hrow hps h4
  go_enter Tryz.func186, Tryz.ntmps186
  go_wp2
  go_ret2
  exact ⟨Below.refl _ _, .inl ⟨E.out, rfl⟩⟩
 ·obtain ⟨p0, hp0⟩ : ∃ p0, ps[0]? = some p0 := ⟨_, List.getElem?_eq_getElem (by omega)⟩
  obtain ⟨g, c', hv, k0, k1, k2, hgl⟩ := fp_cell hrow hp0
  simp only [Value.slice.injEq, true_and] at hv
  obtain ⟨rfl, rfl⟩ := hv
  rw [Nat.zero_mul, Nat.zero_add] at k1
  have HH : Hid (headNum (fpLs ps) = fmNum p0.l) := by
   show _ = _
   cases ps with
   | nil => simp at hp0
   | cons x r => simp at hp0; subst hp0; rfl
  by_cases h0 : fmNum p0.l = 0
  ·have E : Hid (isWhole (fpLs ps) = false) := by
    show _ = _
    have : ¬ headNum (fpLs ps) ≠ 0 := by rw [HH.out, h0]; simp
    simp only [isWhole, decide_eq_false this, Bool.false_and, Bool.and_false]
   rw [h0] at k1
   have h4i : ¬ (n : Int) < 4 := by omega
   clear hn hrow hps h4 hp0 k0 k2 h0 HH
   go_enter Tryz.func186, Tryz.ntmps186
   go_wp2
   go_ret2
   exact ⟨Below.refl _ _, .inl ⟨E.out, rfl⟩⟩
  ·have h4i : ¬ (n : Int) < 4 := by omega
   have h0i : ¬ ((fmNum p0.l : Nat) : Int) = 0 := by omega
   have HK1 := hide k1
   have H0 := hide h0
   have HGL := hide hgl
   have H4 := hide h4
   clear hn hrow hps hp0 k0 k2 h0 hgl h4
   generalize hx0 : fmNum p0.l = x0 at *
   have HX0 := hide hx0
   clear hx0
   go_enter Tryz.func186, Tryz.ntmps186
   go_wp2_with fail
   go_loopg [4, 19] n (fun kx s4 s19 wr => ∃ (i : Nat) (va : Option Addr) (vn vc : Nat), s4 = .slice va vn vc /\ s19 = .int .i64 i /\ i <= n /\ n - i <= kx /\ Hid (run9 x0 0 ((fpLs ps).take i) = true /\ vn = (content ((fpLs ps).take i)).length /\ wr.ownsRow w.heap.size 5 1 (.slice va vn vc) vn (bCells (content ((fpLs ps).take i))) /\ Below w.heap.size w wr))
   case atStart => exact ⟨0, none, 0, 0, rfl, rfl, Nat.zero_le _, by omega, rfl, rfl, World.ownsRow_nil _ _ _ _, Below.refl _ _⟩
   case round =>
    obtain ⟨i, va, vn, vc, rfl, rfl, hin, hg, I⟩ := hrel
    by_cases hlt : i < n
    ·have hlt2 : (i : Int) < (n : Int) := by omega
     obtain ⟨p, hp⟩ : ∃ p, ps[i]? = some p := ⟨_, List.getElem?_eq_getElem (by rw [<- HN.out]; exact hlt)⟩
     have hb := I.out.2.2.2
     obtain ⟨g', c'', hv, k0, k1, k2, hgl⟩ := fp_cell (rown_below HR.out hb) hp
     simp only [Value.slice.injEq, true_and, Option.some.injEq, Addr.mk.injEq, and_true] at hv
     obtain ⟨rfl, rfl⟩ := hv
     have hFP := (HP.out p (List.mem_of_getElem? hp)).below hb
     have ET : Hid ((fpLs ps).take (i + 1) = (fpLs ps).take i ++ [p.l]) := by
      show _ = _
      rw [List.take_add_one]
      have : (fpLs ps)[i]? = some p.l := by simp [fpLs, hp]
      rw [this]; rfl
     have hlen : ((fpLs ps).take i).length = i := by rw [List.length_take, HLN.out, <- HN.out]; omega
     have ER : Hid (run9 x0 0 ((fpLs ps).take (i + 1)) = (decide (fmPlace p.l = i) && decide (fmNum p.l = x0))) := by
      show _ = _
      rw [ET.out, run9_snoc, I.out.1, hlen]
      simp
     have kk1 : ∀ o, ((wr.alloc o).drew).cell? ⟨g, 1, none⟩ = some (.int .u64 (x0 : Int)) := fun o => by
      have hz := ((hb.trans (((Below.refl wr.heap.size wr).alloc (Nat.le_refl _) o).mono hb.size)).cell (p := ⟨g, 1, none⟩) HGL.out).trans HK1.out
      exact hz
     have hP : fmPlace p.l < 256 := (p.l.getD 2 0).toNat_lt
     have hps := hFP.part
     have hpl := hFP.len
     have hcl := content_le (w := w) (ps.take i) (fun q hq => HP.out q (List.mem_of_mem_take hq))
     have etk : fpLs (ps.take i) = (fpLs ps).take i := by simp [fpLs, List.map_take]
     rw [etk] at hcl
     have hi4 : (ps.take i).length <= 4 := by rw [List.length_take]; omega
     have hvn : vn <= 1472 := by rw [I.out.2.1]; omega
     obtain ⟨pg, pl⟩ := p
     simp only at k0 k1 k2 hps hpl ET ER hP
     have hbA := hb.trans (((Below.refl wr.heap.size wr).alloc (Nat.le_refl _) (.cells #[.int .u8 ((fmPlace pl : Nat) : Int), .int .u64 ((fmNum pl : Nat) : Int), .slice (some ⟨pg, 16, none⟩) (fmLen pl) 368] 259)).mono hb.size)
     have hownA : ((wr.alloc (.cells #[.int .u8 ((fmPlace pl : Nat) : Int), .int .u64 ((fmNum pl : Nat) : Int), .slice (some ⟨pg, 16, none⟩) (fmLen pl) 368] 259)).drew).ownsRow w.heap.size 5 1 (.slice va vn vc) vn (bCells (content ((fpLs ps).take i))) := rown_below I.out.2.2.1 (((Below.refl wr.heap.size wr).alloc (Nat.le_refl _) _).drew)
     have hpsA : BS ((wr.alloc (.cells #[.int .u8 ((fmPlace pl : Nat) : Int), .int .u64 ((fmNum pl : Nat) : Int), .slice (some ⟨pg, 16, none⟩) (fmLen pl) 368] 259)).drew) (some ⟨pg, 16, none⟩) (fmLen pl) 368 (fmPart pl) := hps.later (((Below.refl wr.heap.size wr).alloc (Nat.le_refl _) _).drew)
     obtain ⟨ua, uc, w2, hrun, hrow2, hkp, hblk⟩ := app_bytes hownA hpsA (by omega) hbA.size
     have HRUN := hide hrun
     have TT : Hid (vn + fmLen pl = (content ((fpLs ps).take (i + 1))).length /\ w2.ownsRow w.heap.size 5 1 (.slice ua (vn + fmLen pl) uc) (vn + fmLen pl) (bCells (content ((fpLs ps).take (i + 1)))) /\ Below w.heap.size w w2) := by
      rw [ET.out, content_snoc]
      refine ⟨by rw [List.length_append, <- I.out.2.1, <- hps.len], hrow2, hbA.drew.trans (hkp.below (fun q hq => ?_) hbA.size)⟩
      rcases I.out.2.2.1.2 with ⟨h1, _⟩ | ⟨g1, cap, cur, h1, h2, _⟩
      ·rw [h1] at hq; simp [own, Value.ownBlock] at hq
      ·rw [h1] at hq; simp [own, Value.ownBlock] at hq; subst hq; exact h2
     have HBA := hide hbA
     clear hFP hps hpl hcl etk hi4 hvn hownA hpsA hrun hrow2 hkp hblk hbA hb hp hlen
     generalize hpp : fmPlace pl = pp at *
     generalize hnn : fmNum pl = nn at *
     generalize hll : fmLen pl = ll at *
     clear hpp hnn hll
     have kk := kk1 (.cells #[.int .u8 (pp : Int), .int .u64 (nn : Int), .slice (some ⟨pg, 16, none⟩) ll 368] 259)
     have KK := hide kk1
     clear kk1
     by_cases q1 : pp = i
     ·subst q1
      by_cases q2 : nn = x0
      ·subst q2
       have ER2 : Hid (run9 nn 0 ((fpLs ps).take (pp + 1)) = true) := by show _ = _; rw [ER.out]; simp
       clear ER
       go_wp2_with fail
       go_region
       all_goals go_wp2_with (at_builtin; refine Lib.wpList_append_run _ rfl _ _ _ _ rfl _ _ rfl rfl _ _ (HRUN.out _) ?_)
       all_goals go_roundg (n - (pp + 1))
       all_goals first
        | omega
        | exact ⟨pp + 1, ua, _, uc, rfl, rfl, by omega, by omega, ER2.out, TT.out⟩
      ·have q2i : ¬ ((nn : Int) = (x0 : Int)) := by omega
       have E : Hid (isWhole (fpLs ps) = false) := by
        show _ = _
        have h1 : run9 x0 0 ((fpLs ps).take (pp + 1)) = false := by rw [ER.out]; simp [q2]
        have h2 := run9_false x0 (fpLs ps) (pp + 1) 0 h1
        simp only [isWhole, HH.out, h2, Bool.and_false]
       clear ER q2 TT HRUN
       go_wp2_with fail
       go_region
       all_goals go_wp2
       all_goals go_ret2
       all_goals exact ⟨HBA.out.drew, .inl ⟨E.out, rfl⟩⟩
     ·have q1w : (IntKind.i64.wrap (pp : Int) != (i : Int)) = true := by
       have : IntKind.i64.wrap (pp : Int) = (pp : Int) := by rw [IntKind.wrap_i64]; omega
       rw [this, bne_iff_ne]
       omega
      have E : Hid (isWhole (fpLs ps) = false) := by
       show _ = _
       have h1 : run9 x0 0 ((fpLs ps).take (i + 1)) = false := by rw [ER.out]; simp [q1]
       have h2 := run9_false x0 (fpLs ps) (i + 1) 0 h1
       simp only [isWhole, HH.out, h2, Bool.and_false]
      clear ER q1 TT HRUN
      go_wp2_with fail
      have kb0 : ((wr.alloc (.cells #[.int .u8 (pp : Int), .int .u64 (nn : Int), .slice (some ⟨pg, 16, none⟩) ll 368] 259)).drew).cell? ⟨wr.heap.size, 0, none⟩ = some (.int .u8 (pp : Int)) := (Blk.new wr [.int .u8 (pp : Int), .int .u64 (nn : Int), .slice (some ⟨pg, 16, none⟩) ll 368] 259).cell (i := 0) rfl
      refine wp_region_guard (by kernel_rfl) (by kernel_rfl) (fun jx => ([.pointer (some ⟨wr.heap.size, 0, none⟩), .int .u8 (pp : Int), .int .i64 (IntKind.i64.wrap (pp : Int)), .int .i64 (i : Int), .bool true, .bool true, undef, undef, undef, undef, undef, undef, undef, .bool true] : List Value).getD jx undef) (fun w' => w' = (wr.alloc (.cells #[.int .u8 (pp : Int), .int .u64 (nn : Int), .slice (some ⟨pg, 16, none⟩) ll 368] 259)).drew) (size_of (n := 44) (by kernel_rfl) rfl) (rfl) ?_ ?_
      ·intro jx ox hi w' ev hc hin hout hcst hfn
       have hltx : jx < 14 := by
        have := (Array.getElem?_eq_some_iff.1 hi).1
        simpa using this
       match jx, hltx with
       | 0, _ =>
        cases hi
        rw [if_pos (by first | rfl | simp [wantV])]
        have e0 : ev (.tmp 6) = .pointer (some ⟨wr.heap.size, 0, none⟩) := hout 6
        refine .inl ⟨w', ?_, hc⟩
        simp [execOp, e0, hcst, go_sem]
       | 1, _ =>
        cases hi
        rw [if_pos (by first | rfl | simp [wantV])]
        have e0 : ev (.tmp 24) = .pointer (some ⟨wr.heap.size, 0, none⟩) := hin 24 0 ⟨0, .data⟩
        refine .inl ⟨w', ?_, hc⟩
        show _ = Result.ok (Next.value (.int .u8 (pp : Int))) w'
        rw [hc]
        simp [execOp, e0, hcst, go_sem, kb0]
       | 2, _ =>
        cases hi
        rw [if_pos (by first | rfl | simp [wantV])]
        have e0 : ev (.tmp 25) = .int .u8 (pp : Int) := hin 25 1 ⟨1, .data⟩
        refine .inl ⟨w', ?_, hc⟩
        simp [execOp, e0, hcst, go_sem]
       | 3, _ =>
        cases hi
        rw [if_pos (by first | rfl | simp [wantV])]
        have e0 : ev (.tmp 5) = .int .i64 (i : Int) := hout 5
        refine .inl ⟨w', ?_, hc⟩
        simp [execOp, e0, hcst, go_sem]
       | 4, _ =>
        cases hi
        rw [if_pos (by first | rfl | simp [wantV])]
        have e0 : ev (.tmp 26) = .int .i64 (IntKind.i64.wrap (pp : Int)) := hin 26 2 ⟨2, .data⟩
        have e1 : ev (.tmp 27) = .int .i64 (i : Int) := hin 27 3 ⟨3, .data⟩
        refine .inl ⟨w', ?_, hc⟩
        simp [execOp, e0, e1, hcst, go_sem, q1w]
       | 5, _ =>
        cases hi
        rw [if_pos (by first | rfl | simp [wantV])]
        have e0 : ev (.tmp 28) = .bool true := hin 28 4 ⟨4, .data⟩
        refine .inl ⟨w', ?_, hc⟩
        simp [execOp, e0, hcst, go_sem]
       | 6, _ =>
        cases hi
        rw [if_neg (by first | (simp [wantV]; done) | (simp [wantV]; rfl))]
        rfl
       | 7, _ =>
        cases hi
        rw [if_neg (by first | (simp [wantV]; done) | (simp [wantV]; rfl))]
        rfl
       | 8, _ =>
        cases hi
        rw [if_neg (by first | (simp [wantV]; done) | (simp [wantV]; rfl))]
        rfl
       | 9, _ =>
        cases hi
        rw [if_neg (by first | (simp [wantV]; done) | (simp [wantV]; rfl))]
        rfl
       | 10, _ =>
        cases hi
        rw [if_neg (by first | (simp [wantV]; done) | (simp [wantV]; rfl))]
        rfl
       | 11, _ =>
        cases hi
        rw [if_neg (by first | (simp [wantV]; done) | (simp [wantV]; rfl))]
        rfl
       | 12, _ =>
        cases hi
        rw [if_neg (by first | (simp [wantV]; done) | (simp [wantV]; rfl))]
        rfl
       | 13, _ =>
        cases hi
        rw [if_pos (by first | rfl | simp [wantV])]
        have e0 : ev (.tmp 29) = .bool true := hin 29 5 ⟨5, .data⟩
        have e1 : ev (.tmp 36) = undef := hin 36 12 ⟨12, .data⟩
        refine .inl ⟨w', ?_, hc⟩
        simp [execOp, e0, e1, hcst, go_sem]
      ·intro w7 hc
       simp only [lexF, Act.put, List.setIfInBounds_toArray, List.set_cons_succ, List.set_cons_zero, List.getD_cons_succ, List.getD_cons_zero]
       subst hc
       go_wp2
       go_ret2
       exact ⟨HBA.out.drew, .inl ⟨E.out, rfl⟩⟩
    ·obtain rfl : i = n := by omega
     have hlt3 : ¬ (i : Int) < (i : Int) := by omega
     have I' := I.out
     rw [HN.out, <- HLN.out, List.take_length] at I'
     have E : Hid (isWhole (fpLs ps) = true) := by
      show _ = _
      have h1 : 4 <= (fpLs ps).length := by rw [HLN.out, <- HN.out]; have := H4.out; omega
      have h2 : x0 ≠ 0 := H0.out
      simp only [isWhole, decide_eq_true h1, HH.out, I'.1, decide_eq_true h2, Bool.and_self]
     have II := hide I'
     clear I'
     go_wp2
     go_ret2
     exact ⟨II.out.2.2.2, .inr ⟨E.out, va, vn, vc, rfl, II.out.2.1, II.out.2.2.1⟩⟩
structure Like (S S' : Dv) : Prop where
 cs : S'.cs = S.cs
 armed : S'.armed = S.armed
 off : S'.off = S.off
 losses : S'.losses = S.losses
theorem Like.refl (S : Dv) : Like S S := ⟨rfl, rfl, rfl, rfl⟩
theorem Like.trans {a b c : Dv} (h : Like a b) (k : Like b c) : Like a c := ⟨k.cs.trans h.cs, k.armed.trans h.armed, k.off.trans h.off, k.losses.trans h.losses⟩
theorem like_read (S : Dv) (k : Int) : Like S (S.readDo k) := by
 unfold Dv.readDo
 split
 ·exact Like.refl S
 ·split
  ·exact Like.refl S
  ·exact ⟨rfl, rfl, rfl, rfl⟩
def pgText : Pg -> Option (List UInt8)
 | ⟨some (some b)⟩ => some (full b).data.toList
 | _ => none
def fmPg (p : Pg) : Option (List UInt8) := (pgText p).bind fun l => if isForm l = true then some l else none
def fmAt (cs : List Cl) (k : Nat) : Option (List UInt8) := (cs[k]?).bind fun c => fmPg c.now
def forms (cs : List Cl) (base : Nat) : Nat -> List (List UInt8)
 | 0 => []
 | k + 1 => forms cs base k ++ (fmAt cs (base + k)).toList
def maxNum (n : Nat) (ls : List (List UInt8)) : Nat := ls.foldl (fun m l => max m (fmNum l)) n
def cnt (cs : List Cl) (base : Nat) : Option (Nat × List It) :=
 if isWhole (forms cs base 4) = true then (lst (content (forms cs base 4))).map fun xs => (headNum (forms cs base 4), xs) else none
theorem forms_len (cs : List Cl) (base : Nat) : ∀ k, (forms cs base k).length <= k
 | 0 => by simp [forms]
 | k + 1 => by
  have := forms_len cs base k
  rw [forms, List.length_append]
  cases fmAt cs (base + k) <;> simp <;> omega
theorem maxNum_snoc (n : Nat) (ls : List (List UInt8)) (l : List UInt8) : maxNum n (ls ++ [l]) = max (maxNum n ls) (fmNum l) := by simp [maxNum]
theorem read_page {d : Nat} {F : List Nat} {S : Dv} {k : Nat} {c : Cl} (hk : S.cs[k]? = some c) (hoff : S.off = false) :
  ∃ (rv : Nat -> Value) (er : Int), (∀ w, DvAt w d F S -> Calls Tryz.prog 99 #[.pointer (some ⟨d, 0, none⟩), .int .i64 (k : Nat)] w fun e w' => e = .returned (.tuple #[rv w.heap.size, .int .i64 er]) /\ DvAt w' d F (S.readDo (k : Nat)) /\ Keep F w w' /\
    (∀ l, pgText c.now = some l -> Blk w' (w.heap.size + 1) (bCells l) 5 /\ l.length = 384)) /\
   ((er ≠ 0 /\ (∀ n, rv n = .slice none 0 0) /\ pgText c.now = none) \/ (er = 0 /\ (∀ n, rv n = .slice (some ⟨n + 1, 0, none⟩) 384 384) /\ ∃ l, pgText c.now = some l)) := by
 rcases hp : c.now with ⟨_ | _ | b⟩
 ·refine ⟨fun _ => .slice none 0 0, 5, fun w h => (read_bare hk hoff hp (e0 := 5) rfl (by omega) w h).mono ?_, .inl ⟨by omega, fun _ => rfl, rfl⟩⟩
  rintro e w2 ⟨rfl, h2, k2⟩
  exact ⟨rfl, h2, k2, fun l hl => by cases hl⟩
 ·refine ⟨fun _ => .slice none 0 0, 6, fun w h => (read_bare hk hoff hp (e0 := 6) rfl (by omega) w h).mono ?_, .inl ⟨by omega, fun _ => rfl, rfl⟩⟩
  rintro e w2 ⟨rfl, h2, k2⟩
  exact ⟨rfl, h2, k2, fun l hl => by cases hl⟩
 ·obtain ⟨e1, e2⟩ := read_facts hk hoff
  rw [hp] at e1 e2
  refine ⟨fun n => .slice (some ⟨n + 1, 0, none⟩) 384 384, 0, fun w h => (read_at d F S k w h).mono ?_, .inr ⟨rfl, fun _ => rfl, _, rfl⟩⟩
  rintro r w1 ⟨v, rfl, hr, hd1, kp1⟩
  rw [e1, e2] at hr
  rw [e1]
  rcases hr with ⟨h0, _⟩ | ⟨_, hsz, g, rfl, rfl, hb⟩
  ·exact absurd rfl h0
  ·refine ⟨rfl, hd1, kp1, fun l hl => ?_⟩
   cases hl
   exact ⟨hb, by rw [Array.length_toList]; exact hsz⟩
end Go.Proofs.YtcdghalnneilpaaGreat
