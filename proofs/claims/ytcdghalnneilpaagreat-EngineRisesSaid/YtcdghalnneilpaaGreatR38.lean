/- Joined texts. -/
import Derived.Test.YtcdghalnneilpaaGreatR37
set_option linter.unusedVariables false
set_option linter.unusedSimpArgs false
set_option maxRecDepth 8000
set_option maxHeartbeats 8000000
namespace Go.Proofs.YtcdghalnneilpaaGreat
open Go.RowKit Go.Deep Math
section
variable {w0 w w' : World} {x d : Nat} {E : En} {j m nj : Nat} {J : Jr} {s first n : Nat} {S S' : Dv} {f : Nat -> List It} {bs : List (List Bool)} {G : List Nat} {l ml : Nat} {v5 v6 v7 : Value} {T : Lg}
def En.gets (E : En) (J : Jr) (y z : It) : Option It := if E.counts J (fndI y z) = true then some (fndI y z) else none
def En.fndB (E : En) (J : Jr) (y z : It) : Bool := E.counts J (fndI y z) && decide (y.ver < z.ver)
theorem fnd_is (E : En) (J : Jr) (y z : It) : E.fnd J y z = .tuple #[.agg #[.string (txt ((E.gets J y z).getD It.zero).key), .string (txt ((E.gets J y z).getD It.zero).value), .int .u32 ((E.gets J y z).getD It.zero).flags, .int .i64 ((E.gets J y z).getD It.zero).exp, .int .u64 ((E.gets J y z).getD It.zero).ver], .bool (E.fndB J y z), .int .i64 (if (E.gets J y z).isSome then 0 else 5)] := by
 unfold En.fnd En.gets En.fndB
 cases E.counts J (fndI y z) <;> rfl
theorem get_any (h : EnAt w0 w x d E j m nj J s first n S f bs G l ml v5 v6 v7 T) (key : List UInt8) (hk : key.length <= maxLen) (hk2 : key.length <= 140737488351232) (sm gr : Option It) (hsm : (f (bkt key n)).find? (isKey key) = sm) (hgr : T.hasIt key gr) (hy : (sm.getD It.zero).key.length <= maxLen) (hz : (gr.getD It.zero).key.length <= maxLen) :
  Calls Tryz.prog 14 #[.pointer (some ⟨x, 0, none⟩), .string (txt key)] w fun e w' => e = .returned (getV (E.gets J (sm.getD It.zero) (gr.getD It.zero))) /\ ∃ S', EnAt w0 w' x d E j m nj J s first n S' f bs G l ml v5 v6 v7 T /\ LikeB S S' /\ Moves G G w w' := by
 have BA := (Below.refl w.heap.size w).alloc (Nat.le_refl _) (.cells #[.string ⟨#[]⟩, .string ⟨#[]⟩, .int .u32 0, .int .i64 0, .int .u64 0] 39)
 have hA := h.below BA
 have cF := find_any hA key hk hk2 sm gr hsm hgr hy hz
 rw [fnd_is] at cF
 rw [getV_is]
 unfold itV
 have CF := hide cF
 have HBA := hide BA
 have HLT := hide h.lt
 have HW0 : Hid (w0.heap.size <= w.heap.size) := h.bu.bel.size
 have hN0 : Hid (Blk (w.alloc (.cells #[.string ⟨#[]⟩, .string ⟨#[]⟩, .int .u32 0, .int .i64 0, .int .u64 0] 39)) w.heap.size (itL It.zero) 39) := Blk.new w _ 39
 have hNG : Hid (w.heap.size ∉ G) := fun hq => by have := (h.bu.lt _ hq).1; omega
 clear h hA BA cF hk hk2 hsm hgr hy hz
 generalize (E.gets J (sm.getD It.zero) (gr.getD It.zero)).getD It.zero = c at *
 generalize E.fndB J (sm.getD It.zero) (gr.getD It.zero) = fb at *
 generalize (if (E.gets J (sm.getD It.zero) (gr.getD It.zero)).isSome = true then (0 : Int) else 5) = er at *
 go_enter Tryz.func14, Tryz.ntmps14
 go_wp2_with fail
 refine CF.out.mono ?_
 rintro r w1 ⟨rfl, S1, h1, hlk1, hm1⟩
 have hN1 : Blk w1 w.heap.size (itL It.zero) 39 := hN0.out.same (hm1.keep.block _ (by rw [nblk_alloc]; omega) hNG.out)
 have hN2 : Blk (w1.alloc (.cells #[.string (txt c.key), .string (txt c.value), .int .u32 c.flags, .int .i64 c.exp, .int .u64 c.ver] 39)) w.heap.size (itL It.zero) 39 := hN1.same (blk_alloc_lt _ _ _ hN1.lt)
 have b2 := (Below.refl w1.heap.size w1).alloc (Nat.le_refl _) (.cells #[.string (txt c.key), .string (txt c.value), .int .u32 c.flags, .int .i64 c.exp, .int .u64 c.ver] 39)
 have H2 := hide (h1.below b2)
 have HM : Hid (Moves G G w (w1.alloc (.cells #[.string (txt c.key), .string (txt c.value), .int .u32 c.flags, .int .i64 c.exp, .int .u64 c.ver] 39))) := ((Moves.of_keep (Keep.of_below HBA.out)).trans hm1).trans (Moves.of_keep (Keep.of_below b2))
 have HLK := hide hlk1
 obtain ⟨N0, hN0e⟩ : ∃ N0, w.heap.size = N0 := ⟨_, rfl⟩
 rw [hN0e] at hN2
 obtain ⟨a0, a1, a2, a3, a4, k0, k1, k2, k3, k4⟩ := cells5 hN2
 simp only [It.zero] at a0 a1 a2 a3 a4
 have HLT7 : Hid (∀ q, (q = x \/ q = j \/ q = m \/ q ∈ G \/ q ∈ lblocks l ml v5 v6 v7 T) -> q ≠ N0) := fun q hq e => by have := HLT.out q hq; omega
 simp only [hN0e]
 clear hN1 hN2 hm1 b2 h1 hlk1 hN0 hNG HBA CF HLT
 go_wp2
 refine bodyPost_ret (v := .tuple #[.agg #[.string (txt c.key), .string (txt c.value), .int .u32 c.flags, .int .i64 c.exp, .int .u64 c.ver], .int .i64 er]) (by simp [results, Tryz.results14, go_sem, *]) rfl ⟨rfl, S1, ?_, HLK.out, ?_⟩
 ·exact H2.out.off (put5_keep (Keep.refl [N0] _) (.inl (List.mem_singleton.2 rfl)) c) HLT7.out (by rw [<- hN0e]; exact HW0.out)
 ·exact ⟨put5_keep HM.out.keep (.inr (by omega)) c, HM.out.foot⟩
end
end Go.Proofs.YtcdghalnneilpaaGreat
namespace Go.Proofs.YtcdghalnneilpaaGreat
open Go.RowKit
variable {P : Program} {ops : Array Oper} {Q : Exit -> Act -> World -> Prop}
def OpRunsY (P : Program) (ev : Operand -> Value) (o : Oper) (w : World) (C : Value -> World -> Prop) : Prop :=
 (∃ v w', (execOp ev o).run P w = .ok (.value v) w' /\ C v w') \/ (∃ w', (execOp ev o).run P w = .ok .skip w' /\ C undef w') \/
 (∃ f args, (execOp ev o).run P w = .ok (.enter f args) w /\ Calls P f args w fun e w' => ∃ v, e = .returned v /\ C v w')
theorem OpRunsY.mono {ev : Operand -> Value} {o : Oper} {w : World} {C D : Value -> World -> Prop} (h : OpRunsY P ev o w C) (hcd : ∀ v w', C v w' -> D v w') : OpRunsY P ev o w D := by
 rcases h with ⟨v, w', h1, h2⟩ | ⟨w', h1, h2⟩ | ⟨f, args, h1, h2⟩
 ·exact .inl ⟨v, w', h1, hcd _ _ h2⟩
 ·exact .inr (.inl ⟨w', h1, hcd _ _ h2⟩)
 ·exact .inr (.inr ⟨f, args, h1, h2.mono fun e w3 ⟨v, h3, h4⟩ => ⟨v, h3, hcd _ _ h4⟩⟩)
theorem wp_region_ey {id : Nat} {a0 : Act} {w : World} (hm : P.follows .mixedOrders = true) (hp : plainRegion ops = true) (J : Array Bool -> (Nat -> Value) -> World -> Prop)
  (hJ0 : J (Array.replicate ops.size false) (fun _ => undef) { w with drawn := w.drawn + 1 })
  (hops : ∀ i o, ops[i]? = some o -> ∀ (listed : Array Bool) (V : Nat -> Value) (w' : World) (ev : Operand -> Value), listed.size = ops.size -> J listed V w' -> listed.getD i false = false -> (∀ k, edgeOf ops i k = true -> listed.getD k false = true) ->
   (∀ t j e, (_ : ownOf ops t = some j := by kernel_rfl) -> (_ : e ∈ o.after.toList := by simp) -> (_ : Region.binds .any e = true := by rfl) -> (_ : e.on = j := by rfl) -> (_ : t < a0.tmps.size := by simp) -> ev (.tmp t) = V j) ->
   (∀ t, (_ : ownOf ops t = none := by kernel_rfl) -> (_ : t < a0.tmps.size := by simp) -> ev (.tmp t) = a0.eval (.tmp t)) -> (∀ t j, ownOf ops t = some j -> listed.getD j false = false -> t < a0.tmps.size -> ev (.tmp t) = a0.eval (.tmp t)) -> (∀ v, ev (.const v) = v) -> (∀ f, ev (.func f) = .func (.func f) #[] #[]) ->
   OpRunsY P ev o w' fun v w'' => J (listed.setIfInBounds i true) (setV V i v) w'')
  (hend : ∀ V w', J (Array.replicate ops.size true) V w' -> Q .normal (lexF V 0 ops.toList a0) w') : (Code.region id ops true).wp P Q a0 w := by
 refine wp_region_any hm ?_
 refine wpAny_by (fun listed a w' => listed.size = ops.size /\ ∃ V, a = frameOf (ownOf ops) V a0 listed /\ J listed V w') ?_ ?_ _ _ _ _ ⟨by simp, _, (frame_none _ _ _ _).symm, hJ0⟩ ?_
 ·rintro listed a w' ⟨hs, V, rfl, hc⟩ hr
  have := all_listed hs hp hr
  subst this
  rw [frame_lex hp]
  exact hend V w' hc
 ·rintro listed a w' ⟨hs, V, rfl, hc⟩ i hi
  obtain ⟨hlt, hfree, haft⟩ := ready_free hi
  have ho : ops[i]? = some ops[i] := Array.getElem?_eq_getElem hlt
  have hpi := List.all_eq_true.1 hp i (List.mem_range.2 hlt)
  rw [ho] at hpi
  simp only [Bool.and_eq_true] at hpi
  rw [ho] at haft
  simp only [Option.map_some, Option.getD_some] at haft
  have hbind : ∀ e ∈ (ops[i]).after.toList, Region.binds .any e = true -> listed.getD e.on false = true := by
   intro e he hb
   obtain ⟨j, hj, hje⟩ := List.getElem_of_mem he
   have hx := (Array.all_eq_true.1 haft) j (by simpa using hj)
   have hje' : (ops[i]).after[j]'(by simpa using hj) = e := by simpa using hje
   rw [hje', hb] at hx
   simpa using hx
  have hdir : ∀ k, edgeOf ops i k = true -> listed.getD k false = true := by
   intro k hk
   unfold edgeOf at hk
   rw [ho] at hk
   obtain ⟨x, hx, hxe⟩ := Array.any_eq_true.1 hk
   simp only [Bool.and_eq_true, beq_iff_eq] at hxe
   have := hbind ((ops[i]).after[x]) (by simp) hxe.2
   rw [hxe.1] at this
   exact this
  have hfr : listed.getD i false = false := by
   simp only [Array.getD_eq_getD_getElem?] at hfree ⊢
   rw [Array.getElem?_eq_getElem (by omega)] at hfree ⊢
   simpa using hfree
  have hrun := hops i ops[i] ho listed V w' (frameOf (ownOf ops) V a0 listed).eval hs hc hfr hdir
   (fun t j e hown he hb hej ht => by rw [frame_eval _ _ _ _ _ ht]; unfold pickSlot; rw [hown]; simp only; rw [if_pos (hej ▸ hbind e he hb)])
   (fun t hown ht => by rw [frame_eval _ _ _ _ _ ht]; unfold pickSlot; rw [hown]) (fun t j hown hj ht => by rw [frame_eval _ _ _ _ _ ht]; unfold pickSlot; rw [hown]; simp only; rw [if_neg (by rw [hj]; decide)]) (fun v => rfl) (fun f => rfl)
  have hw : Region.wanted ops[i] (yielded ops (frameOf (ownOf ops) V a0 listed).tmps) = true := by
   have hg : ops[i].guard = none := by simpa using hpi.1.2
   simp [Region.wanted, hg]
  have hput : ∀ v, (frameOf (ownOf ops) V a0 listed).put ops[i].dst v = frameOf (ownOf ops) (setV V i v) a0 (listed.setIfInBounds i true) := fun v => by
   have e : frameOf (ownOf ops) V a0 listed = frameOf (ownOf ops) (setV V i v) a0 listed := frame_congr (fun j hj => by
    rw [setV_other]
    rintro rfl
    rw [hfr] at hj; cases hj)
   rw [e]
   have := frame_step (V := setV V i v) (a0 := a0) hp hs ho
   rw [setV_same] at this
   exact this
  unfold wpOp
  rw [ho]
  simp only [hw, if_true]
  left
  unfold Oper.wp
  rcases hrun with ⟨v, w2, hr, hc2⟩ | ⟨w2, hr, hc2⟩ | ⟨f, args, hr, hcalls⟩
  ·rw [hr]
   exact ⟨by simpa using hs, _, hput v, hc2⟩
  ·rw [hr]
   exact ⟨by simpa using hs, _, hput undef, hc2⟩
  ·rw [hr]
   refine hcalls.mono ?_
   rintro e w2 ⟨v, rfl, hc2⟩
   exact ⟨by simpa using hs, _, hput v, hc2⟩
 ·unfold todo
  simp
def depOk (ops : Array Oper) (z0 : Nat) (ds : List Nat) : Bool := ds.all fun i => edgeOf ops i z0 || ds.any fun k => edgeOf ops i k
theorem wp_region_cx {id : Nat} {a0 : Act} {w : World} (hm : P.follows .mixedOrders = true) (hp : plainRegion ops = true) (V : Value -> Nat -> Value) (z0 : Nat) (zs ds : List Nat) (hz : chainOk ops zs = true) (hd : depOk ops z0 ds = true) (hz0 : zs[0]? = some z0) (hV0 : ∀ v, V v z0 = v) (hVc : ∀ v v' i, i ∉ ds -> i ≠ z0 -> V v i = V v' i) (C : Nat -> Value -> World -> Prop)
  (hC0 : C 0 undef { w with drawn := w.drawn + 1 })
  (hops : ∀ (i : Nat) (o : Oper), ops[i]? = some o -> ∀ (s : Nat) (v : Value) (w' : World) (ev : Operand -> Value), s <= lim ops zs i -> (∀ k, zs[k]? = some i -> s = k) -> (i ∈ ds -> 0 < s) -> C s v w' ->
   (∀ t j e, (_ : ownOf ops t = some j := by kernel_rfl) -> (_ : e ∈ o.after.toList := by simp) -> (_ : Region.binds .any e = true := by rfl) -> (_ : e.on = j := by rfl) -> (_ : t < a0.tmps.size := by simp) -> ev (.tmp t) = V v j) ->
   (∀ t, (_ : ownOf ops t = none := by kernel_rfl) -> (_ : t < a0.tmps.size := by simp) -> ev (.tmp t) = a0.eval (.tmp t)) -> (∀ v, ev (.const v) = v) -> (∀ f, ev (.func f) = .func (.func f) #[] #[]) ->
   OpRunsY P ev o w' (fun u w'' => if i = z0 then C 1 u w'' else u = V v i /\ C (if i ∈ zs then s + 1 else s) v w''))
  (hend : ∀ v w', C zs.length v w' -> Q .normal (lexF (V v) 0 ops.toList a0) w') : (Code.region id ops true).wp P Q a0 w := by
 simp only [chainOk, Bool.and_eq_true, decide_eq_true_eq] at hz
 obtain ⟨⟨hz1, hz2⟩, hnd⟩ := hz
 have hzlt : ∀ z ∈ zs, z < ops.size := fun z h => by simpa using List.all_eq_true.1 hz1 z h
 have er : ∀ j, (Array.replicate ops.size false).getD j false = false := fun j => by simp only [Array.getD_eq_getD_getElem?, Array.getElem?_replicate]; split <;> rfl
 have hlen0 : 0 < zs.length := (List.getElem?_eq_some_iff.1 hz0).1
 refine wp_region_ey hm hp (fun listed V' W => (∀ j k, edgeOf ops j k = true -> listed.getD j false = true -> listed.getD k false = true) /\ ∃ s v, s <= zs.length /\ (∀ k z, zs[k]? = some z -> (listed.getD z false = true ↔ k < s)) /\ C s v W /\ (∀ k, listed.getD k false = true -> V' k = V v k) /\ (∀ k ∈ ds, listed.getD k false = true -> 0 < s)) ?_ ?_ ?_
 ·refine ⟨fun j k _ hj => (by rw [er] at hj; cases hj), 0, undef, Nat.zero_le _, fun k z _ => ?_, hC0, fun k hk => (by rw [er] at hk; cases hk), fun k _ hk => (by rw [er] at hk; cases hk)⟩
  rw [er]
  simp
 ·intro i o hi listed V' w' ev hs hc hff hdir hin hout _ hcst hfn
  have hilt : i < ops.size := (Array.getElem?_eq_some_iff.1 hi).1
  obtain ⟨hcl, s, v, hsl, hst, hC, hVl, hds⟩ := hc
  have hlim : s <= lim ops zs i := by
   unfold lim
   cases hf : zs.findIdx? (fun z => edgeOf ops z i || (List.range ops.size).any fun j => edgeOf ops z j && edgeOf ops j i) with
   | none => simpa using hsl
   | some k =>
    simp only [Option.getD_some]
    have hk := List.findIdx?_eq_some_iff_getElem.1 hf
    obtain ⟨hkl, hke, _⟩ := hk
    rcases Nat.lt_or_ge k s with h | h
    ·have h1 := (hst k zs[k] (List.getElem?_eq_getElem hkl)).2 h
     have h2 : listed.getD i false = true := by
      simp only [Bool.or_eq_true] at hke
      rcases hke with hke | hke
      ·exact hcl _ _ hke h1
      ·obtain ⟨j, _, hj⟩ := List.any_eq_true.1 hke
       simp only [Bool.and_eq_true] at hj
       exact hcl _ _ hj.2 (hcl _ _ hj.1 h1)
     rw [hff] at h2; cases h2
    ·exact h
  have hk : ∀ k, zs[k]? = some i -> s = k := fun k hk => by
   have h1 : ¬ k < s := fun h => by
    have := (hst k i hk).2 h
    rw [hff] at this; cases this
   cases k with
   | zero => omega
   | succ k =>
    have hkl : k + 1 < zs.length := (List.getElem?_eq_some_iff.1 hk).1
    have h2 := List.all_eq_true.1 hz2 k (List.mem_range.2 (by omega))
    simp only [Bool.or_eq_true, beq_iff_eq] at h2
    rcases h2 with h2 | h2
    ·omega
    ·rw [List.getD_eq_getElem?_getD, hk, List.getD_eq_getElem?_getD, List.getElem?_eq_getElem (by omega : k < zs.length)] at h2
     simp only [Option.getD_some] at h2
     have h3 := hdir _ h2
     have h4 := (hst k _ (List.getElem?_eq_getElem (by omega : k < zs.length))).1 h3
     omega
  have hdep : i ∈ ds -> 0 < s := fun hid => by
   have h1 := List.all_eq_true.1 hd i hid
   simp only [Bool.or_eq_true] at h1
   rcases h1 with h1 | h1
   ·exact (hst 0 z0 hz0).1 (hdir _ h1)
   ·obtain ⟨k, hkd, hke⟩ := List.any_eq_true.1 h1
    exact hds k hkd (hdir _ hke)
  have hrun := hops i o hi s v w' ev hlim hk hdep hC (fun t j e hown he hb hej ht => by
   rw [hin t j e hown he hb hej ht]
   refine hVl j (hdir j ?_)
   unfold edgeOf
   rw [hi]
   simp only [Option.map_some, Option.getD_some]
   obtain ⟨q, hq, hqe⟩ := List.getElem_of_mem he
   exact Array.any_eq_true.2 ⟨q, by simpa using hq, by
    have : o.after[q]'(by simpa using hq) = e := by simpa using hqe
    rw [this, hej, hb]; simp⟩) @hout hcst hfn
  have hcl' : ∀ j k, edgeOf ops j k = true -> (listed.setIfInBounds i true).getD j false = true -> (listed.setIfInBounds i true).getD k false = true := by
   intro j k hjk hj
   rw [getD_set _ _ _ (by omega)] at hj ⊢
   split
   ·rfl
   ·by_cases h : j = i
    ·subst h; exact hdir k hjk
    ·rw [if_neg h] at hj; exact hcl j k hjk hj
  refine hrun.mono ?_
  intro u W hW
  refine ⟨hcl', ?_⟩
  by_cases hi0 : i = z0
  ·subst hi0
   rw [if_pos rfl] at hW
   have hs0 : s = 0 := hk 0 hz0
   subst hs0
   refine ⟨1, u, hlen0, fun k z hkz => ?_, hW, fun k hkl => ?_, fun _ _ _ => Nat.one_pos⟩
   ·rw [getD_set _ _ _ (by omega)]
    by_cases hzi : z = i
    ·subst hzi
     have := hk k hkz
     rw [if_pos rfl]
     constructor
     ·intro _; omega
     ·intro _; rfl
    ·rw [if_neg hzi, hst k z hkz]
     constructor
     ·intro h; omega
     ·intro h
      have e : k = 0 := by omega
      subst e
      rw [hz0] at hkz
      exact absurd (Option.some.inj hkz).symm hzi
   ·rw [getD_set _ _ _ (by omega)] at hkl
    by_cases hki : k = i
    ·subst hki; rw [setV_same, hV0]
    ·rw [if_neg hki] at hkl
     rw [setV_other _ _ _ _ hki, hVl k hkl]
     exact hVc _ _ k (fun hkd => absurd (hds k hkd hkl) (by omega)) hki
  ·rw [if_neg hi0] at hW
   obtain ⟨hu, hW⟩ := hW
   have hval : ∀ k, (listed.setIfInBounds i true).getD k false = true -> setV V' i u k = V v k := fun k hkl => by
    rw [getD_set _ _ _ (by omega)] at hkl
    by_cases hki : k = i
    ·subst hki; rw [setV_same, hu]
    ·rw [if_neg hki] at hkl
     rw [setV_other _ _ _ _ hki, hVl k hkl]
   have hdn : ∀ k ∈ ds, (listed.setIfInBounds i true).getD k false = true -> 0 < s := fun k hkd hkl => by
    rw [getD_set _ _ _ (by omega)] at hkl
    by_cases hki : k = i
    ·subst hki; exact hdep hkd
    ·rw [if_neg hki] at hkl; exact hds k hkd hkl
   by_cases hmem : i ∈ zs
   ·rw [if_pos hmem] at hW
    obtain ⟨k0, hk0⟩ := List.getElem?_of_mem hmem
    have hs0 := hk k0 hk0
    subst hs0
    have hk0l : s < zs.length := (List.getElem?_eq_some_iff.1 hk0).1
    refine ⟨s + 1, v, hk0l, fun k z hkz => ?_, hW, hval, fun _ _ _ => Nat.succ_pos _⟩
    rw [getD_set _ _ _ (by omega)]
    by_cases hzi : z = i
    ·subst hzi
     have := hk k hkz
     rw [if_pos rfl]
     constructor
     ·intro _; omega
     ·intro _; rfl
    ·rw [if_neg hzi, hst k z hkz]
     constructor
     ·intro h; omega
     ·intro h
      rcases Nat.lt_or_ge k s with h1 | h1
      ·exact h1
      ·have e : k = s := by omega
       subst e
       rw [hk0] at hkz
       exact absurd (Option.some.inj hkz).symm hzi
   ·rw [if_neg hmem] at hW
    refine ⟨s, v, hsl, fun k z hkz => ?_, hW, hval, hdn⟩
    have hzi : z ≠ i := fun e => hmem (e ▸ List.mem_of_getElem? hkz)
    rw [getD_set _ _ _ (by omega), if_neg hzi]
    exact hst k z hkz
 ·intro V' w' hc
  obtain ⟨_, s, v, hsl, hst, hC, hVl, _⟩ := hc
  have : s = zs.length := by
   rcases Nat.lt_or_ge s zs.length with h | h
   ·have h1 := hst s zs[s] (List.getElem?_eq_getElem h)
    have h2 : (Array.replicate ops.size true).getD zs[s] false = true := by
     have := hzlt zs[s] (by simp)
     simp [Array.getD_eq_getD_getElem?, Array.getElem?_replicate, this]
    have := h1.1 h2
    omega
   ·omega
  subst this
  have e : lexF V' 0 ops.toList a0 = lexF (V v) 0 ops.toList a0 := by
   rw [<- frame_lex hp V' a0, <- frame_lex hp (V v) a0]
   exact frame_congr hVl
  rw [e]
  exact hend v w' hC
end Go.Proofs.YtcdghalnneilpaaGreat
namespace Go.Proofs.YtcdghalnneilpaaGreat
open Go.RowKit Go.Deep Math
theorem enz110 (args : Array Value) (w : World) : (callFunc 110 args).run Tryz.prog w = .ok (.enter 110 args) w := enters_of Tryz.func110 (by kernel_rfl) rfl args w
theorem enz111 (args : Array Value) (w : World) : (callFunc 111 args).run Tryz.prog w = .ok (.enter 111 args) w := enters_of Tryz.func111 (by kernel_rfl) rfl args w
def tupV (u : Value) (i : Nat) : Value := match u with
 | .tuple a => a.getD i undef
 | _ => undef
def PutC (W0 : World) (D : Value -> World -> Prop) (s : Nat) (u : Value) (W : World) : Prop := if s = 0 then W = W0 else ∃ v, u = .tuple #[v, .int .i64 0] /\ D v W
theorem PutC.pos {W0 W : World} {D : Value -> World -> Prop} {s : Nat} {u : Value} (h : PutC W0 D s u W) (hs : 0 < s) : ∃ v, u = .tuple #[v, .int .i64 0] /\ D v W := by
 unfold PutC at h
 rw [if_neg (by omega)] at h
 exact h
def DropC (W0 : World) (H : World -> Prop) (s : Nat) (W : World) : Prop := if s = 0 then W = W0 else H W
theorem putSmall_two {w : World} {x s l d : Nat} {E : En} {jp mp : Value} (y : It) (hb : Blk w x (enL d E jp (.pointer (some ⟨s, 0, none⟩)) (.pointer (some ⟨l, 0, none⟩)) mp) 104) (D : Value -> World -> Prop) (H : World -> World -> Prop)
  (hD : ∀ v W, D v W -> (∃ a c, v = .slice a 0 c) /\ Blk W x (enL d E jp (.pointer (some ⟨s, 0, none⟩)) (.pointer (some ⟨l, 0, none⟩)) mp) 104 /\ Blk W w.heap.size (itL y) 39)
  (cP : Calls Tryz.prog 110 #[.pointer (some ⟨s, 0, none⟩), .agg #[.string (txt y.key), .string (txt y.value), .int .u32 y.flags, .int .i64 y.exp, .int .u64 y.ver]] (w.alloc (.cells #[.string (txt y.key), .string (txt y.value), .int .u32 y.flags, .int .i64 y.exp, .int .u64 y.ver] 39)).drew fun e w' => ∃ v, e = .returned (.tuple #[v, .int .i64 0]) /\ D v w')
  (cD : ∀ v W, D v W -> Calls Tryz.prog 111 #[.pointer (some ⟨l, 0, none⟩), .string (txt y.key)] W.drew fun e w' => e = .returned (.tuple #[]) /\ H W w') :
  Calls Tryz.prog 53 #[.pointer (some ⟨x, 0, none⟩), .agg #[.string (txt y.key), .string (txt y.value), .int .u32 y.flags, .int .i64 y.exp, .int .u64 y.ver]] w fun e w' => e = .returned (.int .i64 0) /\ ∃ v W, D v W /\ H W w' := by
 have hbA := hb.same (w' := w.alloc (.cells #[.string (txt y.key), .string (txt y.value), .int .u32 y.flags, .int .i64 y.exp, .int .u64 y.ver] 39)) (blk_alloc_lt _ _ _ hb.lt)
 have C11 := hide (hbA.cell (i := 11) rfl)
 have HB : Hid (Blk (w.alloc (.cells #[.string (txt y.key), .string (txt y.value), .int .u32 y.flags, .int .i64 y.exp, .int .u64 y.ver] 39)) w.heap.size (itL y) 39) := Blk.new w _ 39
 have CP : Hid (∀ W', PutC ((w.alloc (.cells #[.string (txt y.key), .string (txt y.value), .int .u32 y.flags, .int .i64 y.exp, .int .u64 y.ver] 39)).drew) D 0 undef W' -> Calls Tryz.prog 110 #[.pointer (some ⟨s, 0, none⟩), .agg #[.string (txt y.key), .string (txt y.value), .int .u32 y.flags, .int .i64 y.exp, .int .u64 y.ver]] W' fun e w' => ∃ u, e = .returned u /\ PutC ((w.alloc (.cells #[.string (txt y.key), .string (txt y.value), .int .u32 y.flags, .int .i64 y.exp, .int .u64 y.ver] 39)).drew) D 1 u w') := fun W' hW => by
  cases (show W' = _ from hW)
  refine cP.mono ?_
  rintro e w' ⟨v, rfl, hv⟩
  exact ⟨_, rfl, v, rfl, hv⟩
 have HD := hide hD
 have CDD := hide cD
 clear hb hbA cP hD cD
 go_enter Tryz.func53, Tryz.ntmps53
 go_wp2_with fail
 obtain ⟨N, hN⟩ : ∃ N, w.heap.size = N := ⟨_, rfl⟩
 obtain ⟨WA, hWA⟩ : ∃ WA, w.alloc (.cells #[.string (txt y.key), .string (txt y.value), .int .u32 y.flags, .int .i64 y.exp, .int .u64 y.ver] 39) = WA := ⟨_, rfl⟩
 simp only [hN, hWA] at *
 refine wp_region_cx (by kernel_rfl) (by kernel_rfl) (fun u jx => ([.pointer (some ⟨x, 0, none⟩), .pointer (some ⟨x, 0, none⟩), .pointer (some ⟨x, 11, none⟩), .pointer (some ⟨s, 0, none⟩), .agg #[.string (txt y.key), .string (txt y.value), .int .u32 y.flags, .int .i64 y.exp, .int .u64 y.ver], u, u, tupV u 0, tupV u 1, tupV u 0, tupV u 1] : List Value).getD jx undef) 5 [5] [6, 7, 8, 9, 10] (by kernel_rfl) (by kernel_rfl) rfl (fun _ => rfl) (fun v v' jx h1 h2 => by match jx with | 0 => rfl | 1 => rfl | 2 => rfl | 3 => rfl | 4 => rfl | 5 => exact absurd rfl h2 | 6 => exact absurd (by decide) h1 | 7 => exact absurd (by decide) h1 | 8 => exact absurd (by decide) h1 | 9 => exact absurd (by decide) h1 | 10 => exact absurd (by decide) h1 | _ + 11 => rfl) (PutC (WA.drew) D) (rfl) ?_ ?_
 ·intro jx ox hi sx u w' ev hlm hks hdp hc hin hout hcst hfn
  have hltx : jx < 11 := by
   have := (Array.getElem?_eq_some_iff.1 hi).1
   simpa using this
  match jx, hltx with
  | 0, _ =>
   cases hi
   have e0 : ev (.tmp 0) = .pointer (some ⟨x, 0, none⟩) := hout 0
   refine .inl ⟨.pointer (some ⟨x, 0, none⟩), w', ?_, by show ite _ _ _; rw [if_neg (by decide), if_neg (by decide)]; exact ⟨rfl, hc⟩⟩
   simp [execOp, e0, hcst, go_sem]
  | 1, _ =>
   cases hi
   have e0 : ev (.tmp 9) = .pointer (some ⟨x, 0, none⟩) := hin 9 0 ⟨0, .data⟩
   refine .inl ⟨.pointer (some ⟨x, 0, none⟩), w', ?_, by show ite _ _ _; rw [if_neg (by decide), if_neg (by decide)]; exact ⟨rfl, hc⟩⟩
   simp [execOp, e0, hcst, go_sem]
  | 2, _ =>
   cases hi
   have e0 : ev (.tmp 10) = .pointer (some ⟨x, 0, none⟩) := hin 10 1 ⟨1, .data⟩
   refine .inl ⟨.pointer (some ⟨x, 11, none⟩), w', ?_, by show ite _ _ _; rw [if_neg (by decide), if_neg (by decide)]; exact ⟨rfl, hc⟩⟩
   simp [execOp, e0, hcst, go_sem]
  | 3, _ =>
   cases hi
   have e0 : ev (.tmp 11) = .pointer (some ⟨x, 11, none⟩) := hin 11 2 ⟨2, .data⟩
   refine .inl ⟨.pointer (some ⟨s, 0, none⟩), w', ?_, by show ite _ _ _; rw [if_neg (by decide), if_neg (by decide)]; exact ⟨rfl, hc⟩⟩
   have hl2 : sx <= 0 := Nat.le_trans hlm (Nat.le_of_eq (by kernel_rfl))
   have hs0 : sx = 0 := by omega
   subst hs0
   have hq : w'.cell? ⟨x, 11, none⟩ = some (.pointer (some ⟨s, 0, none⟩)) := by rw [show w' = _ from hc]; exact C11.out
   simp [execOp, e0, hq, hcst, go_sem]
  | 4, _ =>
   cases hi
   have e0 : ev (.tmp 3) = .pointer (some ⟨N, 0, none⟩) := hout 3
   refine .inl ⟨.agg #[.string (txt y.key), .string (txt y.value), .int .u32 y.flags, .int .i64 y.exp, .int .u64 y.ver], w', ?_, by show ite _ _ _; rw [if_neg (by decide), if_neg (by decide)]; exact ⟨rfl, hc⟩⟩
   have hl2 : sx <= 0 := Nat.le_trans hlm (Nat.le_of_eq (by kernel_rfl))
   have hs0 : sx = 0 := by omega
   subst hs0
   obtain ⟨y0, y1, y2, y3, y4, _⟩ := cells5 (show Blk w' N (itL y) 39 by rw [show w' = _ from hc]; exact HB.out)
   simp [execOp, e0, hcst, go_sem, *]
  | 5, _ =>
   cases hi
   have e0 : ev (.tmp 12) = .pointer (some ⟨s, 0, none⟩) := hin 12 3 ⟨3, .data⟩
   have e1 : ev (.tmp 13) = .agg #[.string (txt y.key), .string (txt y.value), .int .u32 y.flags, .int .i64 y.exp, .int .u64 y.ver] := hin 13 4 ⟨4, .data⟩
   have hsx : sx = 0 := hks 0 rfl
   subst hsx
   refine .inr (.inr ⟨110, #[.pointer (some ⟨s, 0, none⟩), .agg #[.string (txt y.key), .string (txt y.value), .int .u32 y.flags, .int .i64 y.exp, .int .u64 y.ver]], ?_, ?_⟩)
   ·have ef := hfn 110
    simp [execOp, resolve, invoke, ef, hcst, e0, e1, Result.andThen]
    exact enz110 _ _
   ·refine Calls.mono (P := Tryz.prog) (R := fun e w2 => ∃ v, e = .returned v /\ (PutC (WA.drew) D) 1 v w2) ?_ ?_
    ·exact CP.out w' hc
    ·rintro e w2 ⟨v, rfl, hv⟩
     exact ⟨v, rfl, by first | exact hv | (rw [if_pos rfl]; exact hv) | (show ite _ _ _; rw [if_pos rfl]; exact hv)⟩
  | 6, _ =>
   cases hi
   have e0 : ev (.tmp 14) = u := hin 14 5 ⟨5, .data⟩
   have hd : 0 < sx := hdp (by decide)
   refine .inl ⟨u, w', ?_, by show ite _ _ _; rw [if_neg (by decide), if_neg (by decide)]; exact ⟨rfl, hc⟩⟩
   simp [execOp, e0, hcst, go_sem]
  | 7, _ =>
   cases hi
   have e0 : ev (.tmp 8) = u := hin 8 6 ⟨6, .data⟩
   have hd : 0 < sx := hdp (by decide)
   refine .inl ⟨tupV u 0, w', ?_, by show ite _ _ _; rw [if_neg (by decide), if_neg (by decide)]; exact ⟨rfl, hc⟩⟩
   obtain ⟨v, rfl, _⟩ := PutC.pos hc hd
   simp [execOp, e0, hcst, go_sem, tupV]
  | 8, _ =>
   cases hi
   have e0 : ev (.tmp 8) = u := hin 8 6 ⟨6, .data⟩
   have hd : 0 < sx := hdp (by decide)
   refine .inl ⟨tupV u 1, w', ?_, by show ite _ _ _; rw [if_neg (by decide), if_neg (by decide)]; exact ⟨rfl, hc⟩⟩
   obtain ⟨v, rfl, _⟩ := PutC.pos hc hd
   simp [execOp, e0, hcst, go_sem, tupV]
  | 9, _ =>
   cases hi
   have e0 : ev (.tmp 15) = tupV u 0 := hin 15 7 ⟨7, .data⟩
   have hd : 0 < sx := hdp (by decide)
   refine .inl ⟨tupV u 0, w', ?_, by show ite _ _ _; rw [if_neg (by decide), if_neg (by decide)]; exact ⟨rfl, hc⟩⟩
   simp [execOp, e0, hcst, go_sem]
  | 10, _ =>
   cases hi
   have e0 : ev (.tmp 16) = tupV u 1 := hin 16 8 ⟨8, .data⟩
   have hd : 0 < sx := hdp (by decide)
   refine .inl ⟨tupV u 1, w', ?_, by show ite _ _ _; rw [if_neg (by decide), if_neg (by decide)]; exact ⟨rfl, hc⟩⟩
   simp [execOp, e0, hcst, go_sem]
 ·intro u w1 hc
  simp only [lexF, Act.put, List.setIfInBounds_toArray, List.set_cons_succ, List.set_cons_zero, List.getD_cons_succ, List.getD_cons_zero]
  obtain ⟨v, rfl, hv⟩ := PutC.pos hc (by decide)
  obtain ⟨⟨a, c, rfl⟩, hbx, hky⟩ := HD.out v w1 hv
  have C12 := hide (hbx.cell (i := 12) rfl)
  have CK := hide (hky.cell (i := 0) rfl)
  have HV := hide hv
  have CD : Hid (∀ W', DropC w1.drew (fun W => H w1 W) 0 W' -> Calls Tryz.prog 111 #[.pointer (some ⟨l, 0, none⟩), .string (txt y.key)] W' fun e w' => e = .returned (.tuple #[]) /\ DropC w1.drew (fun W => H w1 W) 1 w') := fun W' hW => by
   cases (show W' = _ from hW)
   exact (CDD.out _ _ HV.out)
  clear hbx hky hv HB C11 CP
  simp only [tupV]
  go_wp2_with fail
  refine wp_region_chain (by kernel_rfl) (by kernel_rfl) (fun jx => ([.pointer (some ⟨x, 0, none⟩), .pointer (some ⟨x, 0, none⟩), .pointer (some ⟨x, 12, none⟩), .pointer (some ⟨l, 0, none⟩), .pointer (some ⟨N, 0, none⟩), .string (txt y.key), .tuple #[]] : List Value).getD jx undef) [6] (by kernel_rfl) (DropC w1.drew (fun W => H w1 W)) (rfl) ?_ ?_
  ·intro jx ox hi sx w' ev hlm hks hc hin hout hcst hfn
   have hltx : jx < 7 := by
    have := (Array.getElem?_eq_some_iff.1 hi).1
    simpa using this
   match jx, hltx with
   | 0, _ =>
    cases hi
    have e0 : ev (.tmp 0) = .pointer (some ⟨x, 0, none⟩) := hout 0
    rw [if_neg (by decide)]
    refine .inl ⟨w', ?_, hc⟩
    simp [execOp, e0, hcst, go_sem]
   | 1, _ =>
    cases hi
    have e0 : ev (.tmp 31) = .pointer (some ⟨x, 0, none⟩) := hin 31 0 ⟨0, .data⟩
    rw [if_neg (by decide)]
    refine .inl ⟨w', ?_, hc⟩
    simp [execOp, e0, hcst, go_sem]
   | 2, _ =>
    cases hi
    have e0 : ev (.tmp 32) = .pointer (some ⟨x, 0, none⟩) := hin 32 1 ⟨1, .data⟩
    rw [if_neg (by decide)]
    refine .inl ⟨w', ?_, hc⟩
    simp [execOp, e0, hcst, go_sem]
   | 3, _ =>
    cases hi
    have e0 : ev (.tmp 33) = .pointer (some ⟨x, 12, none⟩) := hin 33 2 ⟨2, .data⟩
    rw [if_neg (by decide)]
    refine .inl ⟨w', ?_, hc⟩
    show _ = Result.ok (Next.value (.pointer (some ⟨l, 0, none⟩))) w'
    have hl2 : sx <= 0 := Nat.le_trans hlm (Nat.le_of_eq (by kernel_rfl))
    have hs0 : sx = 0 := by omega
    subst hs0
    have hq : w'.cell? ⟨x, 12, none⟩ = some (.pointer (some ⟨l, 0, none⟩)) := by rw [show w' = _ from hc]; exact C12.out
    simp [execOp, e0, hq, hcst, go_sem]
   | 4, _ =>
    cases hi
    have e0 : ev (.tmp 3) = .pointer (some ⟨N, 0, none⟩) := hout 3
    rw [if_neg (by decide)]
    refine .inl ⟨w', ?_, hc⟩
    simp [execOp, e0, hcst, go_sem]
   | 5, _ =>
    cases hi
    have e0 : ev (.tmp 35) = .pointer (some ⟨N, 0, none⟩) := hin 35 4 ⟨4, .data⟩
    rw [if_neg (by decide)]
    refine .inl ⟨w', ?_, hc⟩
    show _ = Result.ok (Next.value (.string (txt y.key))) w'
    have hl2 : sx <= 0 := Nat.le_trans hlm (Nat.le_of_eq (by kernel_rfl))
    have hs0 : sx = 0 := by omega
    subst hs0
    have hq : w'.cell? ⟨N, 0, none⟩ = some (.string (txt y.key)) := by rw [show w' = _ from hc]; exact CK.out
    simp [execOp, e0, hq, hcst, go_sem]
   | 6, _ =>
    cases hi
    have e0 : ev (.tmp 34) = .pointer (some ⟨l, 0, none⟩) := hin 34 3 ⟨3, .data⟩
    have e1 : ev (.tmp 36) = .string (txt y.key) := hin 36 5 ⟨5, .data⟩
    rw [if_pos (by decide)]
    have hsx : sx = 0 := hks 0 rfl
    subst hsx
    refine .inr (.inr ⟨111, #[.pointer (some ⟨l, 0, none⟩), .string (txt y.key)], ?_, ?_⟩)
    ·have ef := hfn 111
     simp [execOp, resolve, invoke, ef, hcst, e0, e1, Result.andThen]
     exact enz111 _ _
    ·exact CD.out w' hc
  ·intro w2 hc
   simp only [lexF, Act.put, List.setIfInBounds_toArray, List.set_cons_succ, List.set_cons_zero, List.getD_cons_succ, List.getD_cons_zero]
   have hH : H w1 w2 := hc
   have HH := hide hH
   clear hH CD C12 CK CDD HD
   go_wp2
   go_ret
   exact ⟨rfl, _, w1, HV.out, HH.out⟩
end Go.Proofs.YtcdghalnneilpaaGreat
