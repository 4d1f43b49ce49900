/- Texts joined: AnyP, Rk9, RkA. -/
import Derived.Test.YtbccnfbombgdmaaGreatJ36
import Derived.Test.YtbccnfbombgdmaaGreatJ39
import Derived.Test.YtbccnfbombgdmaaGreatJ22
import Derived.Test.YtbccnfbombgdmaaGreatJ02
/- A drawn region in which some operations turn the world in whatever order, and yield what is known only then. -/
set_option linter.unusedVariables false
set_option linter.unusedSimpArgs false
namespace Go.Proofs.YtbccnfbombgdmaaGreat
open Go.RowKit
variable {P : Program} {ops : Array Oper} {Q : Exit → Act → World → Prop}

/-- What an operation yields, or that it yields nothing. -/
def OpRunsY (P : Program) (ev : Operand → Value) (o : Oper) (w : World) (C : Value → World → Prop) : Prop :=
  OpRunsX P ev o w C ∨ (∃ w', (execOp ev o).run P w = .ok .skip w' ∧ C undef w')
theorem wp_region_ey {id : Nat} {a0 : Act} {w : World} (hm : P.follows .mixedOrders = true) (hp : plainRegion ops = true) (J : Array Bool → (Nat → Value) → World → Prop)
    (hJ0 : J (Array.replicate ops.size false) (fun _ => undef) { w with drawn := w.drawn + 1 })
    (hops : ∀ i o, ops[i]? = some o → ∀ (listed : Array Bool) (V : Nat → Value) (w' : World) (ev : Operand → Value), listed.size = ops.size → J listed V w' → listed.getD i false = false → (∀ k, edgeOf ops i k = true → listed.getD k false = true) →
      (∀ t j e, ownOf ops t = some j → e ∈ o.after.toList → Region.binds .any e = true → e.on = j → t < a0.tmps.size → ev (.tmp t) = V j) →
      (∀ t, ownOf ops t = none → t < a0.tmps.size → ev (.tmp t) = a0.eval (.tmp t)) → (∀ t j, ownOf ops t = some j → listed.getD j false = false → t < a0.tmps.size → ev (.tmp t) = a0.eval (.tmp t)) → (∀ v, ev (.const v) = v) → (∀ f, ev (.func f) = .func (.func f) #[] #[]) →
      OpRunsY P ev o w' fun v w'' => J (listed.setIfInBounds i true) (setV V i v) w'')
    (hend : ∀ V w', J (Array.replicate ops.size true) V w' → Q .normal (lexF V 0 ops.toList a0) w') : (Code.region id ops true).wp P Q a0 w := by
  refine wp_region_any hm ?_
  refine wpAny_by (fun listed a w' => listed.size = ops.size ∧ ∃ V, a = frameOf (ownOf ops) V a0 listed ∧ J listed V w') ?_ ?_ _ _ _ _ ⟨by simp, _, (frame_none _ _ _ _).symm, hJ0⟩ ?_
  · rintro listed a w' ⟨hs, V, rfl, hc⟩ hr
    have := all_listed hs hp hr
    subst this
    rw [frame_lex hp]
    exact hend V w' hc
  · rintro listed a w' ⟨hs, V, rfl, hc⟩ i hi
    obtain ⟨hlt, hfree, haft⟩ := ready_free hi
    have ho : ops[i]? = some ops[i] := Array.getElem?_eq_getElem hlt
    have hpi := List.all_eq_true.1 hp i (List.mem_range.2 hlt)
    rw [ho] at hpi
    simp only [Bool.and_eq_true] at hpi
    rw [ho] at haft
    simp only [Option.map_some, Option.getD_some] at haft
    have hbind : ∀ e ∈ (ops[i]).after.toList, Region.binds .any e = true → listed.getD e.on false = true := by
      intro e he hb
      obtain ⟨j, hj, hje⟩ := List.getElem_of_mem he
      have hx := (Array.all_eq_true.1 haft) j (by simpa using hj)
      have hje' : (ops[i]).after[j]'(by simpa using hj) = e := by simpa using hje
      rw [hje', hb] at hx
      simpa using hx
    have hdir : ∀ k, edgeOf ops i k = true → listed.getD k false = true := by
      intro k hk
      unfold edgeOf at hk
      rw [ho] at hk
      obtain ⟨x, hx, hxe⟩ := Array.any_eq_true.1 hk
      simp only [Bool.and_eq_true, beq_iff_eq] at hxe
      have := hbind ((ops[i]).after[x]) (by simp) hxe.2
      rw [hxe.1] at this
      exact this
    have hfr : listed.getD i false = false := by
      simp only [Array.getD_eq_getD_getElem?] at hfree ⊢
      rw [Array.getElem?_eq_getElem (by omega)] at hfree ⊢
      simpa using hfree
    have hrun := hops i ops[i] ho listed V w' (frameOf (ownOf ops) V a0 listed).eval hs hc hfr hdir
      (fun t j e hown he hb hej ht => by rw [frame_eval _ _ _ _ _ ht]; unfold pickSlot; rw [hown]; simp only; rw [if_pos (hej ▸ hbind e he hb)])
      (fun t hown ht => by rw [frame_eval _ _ _ _ _ ht]; unfold pickSlot; rw [hown]) (fun t j hown hj ht => by rw [frame_eval _ _ _ _ _ ht]; unfold pickSlot; rw [hown]; simp only; rw [if_neg (by rw [hj]; decide)]) (fun v => rfl) (fun f => rfl)
    have hw : Region.wanted ops[i] (yielded ops (frameOf (ownOf ops) V a0 listed).tmps) = true := by
      have hg : ops[i].guard = none := by simpa using hpi.1.2
      simp [Region.wanted, hg]
    have hput : ∀ v, (frameOf (ownOf ops) V a0 listed).put ops[i].dst v = frameOf (ownOf ops) (setV V i v) a0 (listed.setIfInBounds i true) := fun v => by
      have e : frameOf (ownOf ops) V a0 listed = frameOf (ownOf ops) (setV V i v) a0 listed := frame_congr (fun j hj => by
        rw [setV_other]
        rintro rfl
        rw [hfr] at hj; cases hj)
      rw [e]
      have := frame_step (V := setV V i v) (a0 := a0) hp hs ho
      rw [setV_same] at this
      exact this
    unfold wpOp
    rw [ho]
    simp only [hw, if_true]
    left
    unfold Oper.wp
    rcases hrun with (⟨v, w2, hr, hc2⟩ | ⟨f, args, hr, hcalls⟩) | ⟨w2, hr, hc2⟩
    · rw [hr]
      exact ⟨by simpa using hs, _, hput v, hc2⟩
    · rw [hr]
      refine hcalls.mono ?_
      rintro e w2 ⟨v, rfl, hc2⟩
      exact ⟨by simpa using hs, _, hput v, hc2⟩
    · rw [hr]
      exact ⟨by simpa using hs, _, hput undef, hc2⟩
  · unfold todo
    simp

def setU (us : Nat → Option Value) (i : Nat) (v : Value) : Nat → Option Value := fun j => if j = i then some v else us j
theorem setU_same (us : Nat → Option Value) (i : Nat) (v : Value) : setU us i v i = some v := by simp [setU]
theorem setU_other (us : Nat → Option Value) (i j : Nat) (v : Value) (h : j ≠ i) : setU us i v j = us j := by simp [setU, h]
def parV (vals : Nat → Value) (zs : List Nat) (us : Nat → Option Value) (j : Nat) : Value := if zs.contains j = true then (us j).getD undef else vals j

theorem wp_region_par {id : Nat} {a0 : Act} {w : World} (hm : P.follows .mixedOrders = true) (hp : plainRegion ops = true) (vals : Nat → Value) (zs : List Nat)
    (hzs : ∀ z, zs.contains z = true → z < ops.size) (C : (Nat → Option Value) → World → Prop) (hC0 : C (fun _ => none) { w with drawn := w.drawn + 1 })
    (hops : ∀ i o, ops[i]? = some o → ∀ (us : Nat → Option Value) (w' : World) (ev : Operand → Value), C us w' →
      (∀ j, zs.contains j = true → edgeOf ops i j = true → (us j).isSome = true) → (∀ j, zs.contains j = true → edgeOf ops j i = true → us j = none) →
      (∀ t j e, ownOf ops t = some j → e ∈ o.after.toList → Region.binds .any e = true → e.on = j → t < a0.tmps.size → ev (.tmp t) = parV vals zs us j) →
      (∀ t, ownOf ops t = none → t < a0.tmps.size → ev (.tmp t) = a0.eval (.tmp t)) → (∀ t j, ownOf ops t = some j → edgeOf ops j i = true → t < a0.tmps.size → ev (.tmp t) = a0.eval (.tmp t)) → (∀ v, ev (.const v) = v) → (∀ f, ev (.func f) = .func (.func f) #[] #[]) →
      (zs.contains i = true → us i = none → OpRunsY P ev o w' fun v w'' => C (setU us i v) w'') ∧ (zs.contains i = false → (execOp ev o).run P w' = .ok (.value (vals i)) w'))
    (hend : ∀ us w', (∀ z, zs.contains z = true → (us z).isSome = true) → C us w' → Q .normal (lexF (parV vals zs us) 0 ops.toList a0) w') : (Code.region id ops true).wp P Q a0 w := by
  have gall : ∀ (n j : Nat), (Array.replicate n false).getD j false = false := fun n j => by
    simp only [Array.getD_eq_getD_getElem?, Array.getElem?_replicate]; split <;> rfl
  refine wp_region_ey hm hp (fun listed V w' => ∃ us, C us w' ∧ (∀ j, listed.getD j false = true → V j = parV vals zs us j) ∧ (∀ j, zs.contains j = true → (listed.getD j false = true ↔ (us j).isSome = true)) ∧ (∀ j k, edgeOf ops j k = true → listed.getD j false = true → listed.getD k false = true)) ?_ ?_ ?_
  · refine ⟨fun _ => none, hC0, fun j hj => ?_, fun j _ => ?_, fun j k _ hj => ?_⟩
    · rw [gall] at hj; cases hj
    · rw [gall]; simp
    · rw [gall] at hj; cases hj
  · intro i o hi listed V w' ev hs hJ hfr hdir hin hout hold hcst hfn
    obtain ⟨us, hC, hV, hL, hcl⟩ := hJ
    have his : i < listed.size := by rw [hs]; exact (Array.getElem?_eq_some_iff.1 hi).1
    have H := hops i o hi us w' ev hC
      (fun j hj he => (hL j hj).1 (hdir j he))
      (fun j hj he => by
        cases hu : us j with
        | none => rfl
        | some v =>
          have := hcl j i he ((hL j hj).2 (by rw [hu]; rfl))
          rw [hfr] at this; cases this)
      (fun t j e h1 h2 h3 h4 h5 => by
        have hj : listed.getD j false = true := hdir j (by
          unfold edgeOf
          rw [hi]
          obtain ⟨q, hq, hqe⟩ := List.getElem_of_mem h2
          exact Array.any_eq_true.2 ⟨q, by simpa using hq, by
            have : o.after[q]'(by simpa using hq) = e := by simpa using hqe
            rw [this, h4, h3]; simp⟩)
        rw [hin t j e h1 h2 h3 h4 h5, hV j hj])
      hout
      (fun t j h1 h2 h3 => hold t j h1 (by
        cases hj : listed.getD j false with
        | false => rfl
        | true => have := hcl j i h2 hj; rw [hfr] at this; cases this) h3) hcst hfn
    cases hzi : zs.contains i with
    | true =>
      have hui : us i = none := by
        cases hu : us i with
        | none => rfl
        | some v => have := (hL i hzi).2 (by rw [hu]; rfl); rw [hfr] at this; cases this
      have key : ∀ v w'', C (setU us i v) w'' → ∃ us', C us' w'' ∧ (∀ j, (listed.setIfInBounds i true).getD j false = true → setV V i v j = parV vals zs us' j) ∧ (∀ j, zs.contains j = true → ((listed.setIfInBounds i true).getD j false = true ↔ (us' j).isSome = true)) ∧ (∀ j k, edgeOf ops j k = true → (listed.setIfInBounds i true).getD j false = true → (listed.setIfInBounds i true).getD k false = true) := fun v w'' hc => by
        refine ⟨setU us i v, hc, fun j hj => ?_, fun j hj => ?_, fun j k he hj => ?_⟩
        · rw [getD_set listed i j his] at hj
          by_cases hji : j = i
          · subst hji
            rw [setV_same]
            unfold parV
            rw [if_pos hzi, setU_same]; rfl
          · rw [if_neg hji] at hj
            rw [setV_other _ _ _ _ hji, hV j hj]
            unfold parV
            rw [setU_other _ _ _ _ hji]
        · rw [getD_set listed i j his]
          by_cases hji : j = i
          · subst hji
            rw [setU_same]; simp
          · rw [if_neg hji, hL j hj, setU_other _ _ _ _ hji]
        · rw [getD_set listed i j his] at hj
          rw [getD_set listed i k his]
          by_cases hki : k = i
          · rw [if_pos hki]
          · rw [if_neg hki]
            by_cases hji : j = i
            · subst hji; exact hdir k he
            · rw [if_neg hji] at hj; exact hcl j k he hj
      rcases H.1 hzi hui with (⟨v, w2, hr, hc⟩ | ⟨f, args, hr, hcalls⟩) | ⟨w2, hr, hc⟩
      · exact .inl (.inl ⟨v, w2, hr, key v w2 hc⟩)
      · exact .inl (.inr ⟨f, args, hr, hcalls.mono (by rintro e w2 ⟨v, rfl, hc⟩; exact ⟨v, rfl, key v w2 hc⟩)⟩)
      · exact .inr ⟨w2, hr, key undef w2 hc⟩
    | false =>
      refine .inl (.inl ⟨vals i, w', H.2 hzi, us, hC, fun j hj => ?_, fun j hj => ?_, fun j k he hj => ?_⟩)
      · rw [getD_set listed i j his] at hj
        by_cases hji : j = i
        · subst hji
          rw [setV_same]; unfold parV; rw [if_neg (by rw [hzi]; decide)]
        · rw [if_neg hji] at hj
          rw [setV_other _ _ _ _ hji, hV j hj]
      · rw [getD_set listed i j his]
        by_cases hji : j = i
        · subst hji
          rw [hzi] at hj; cases hj
        · rw [if_neg hji, hL j hj]
      · rw [getD_set listed i j his] at hj
        rw [getD_set listed i k his]
        by_cases hki : k = i
        · rw [if_pos hki]
        · rw [if_neg hki]
          by_cases hji : j = i
          · subst hji; exact hdir k he
          · rw [if_neg hji] at hj; exact hcl j k he hj
  · rintro V w' ⟨us, hC, hV, hL, hcl⟩
    have gt : ∀ j, j < ops.size → (Array.replicate ops.size true).getD j false = true := fun j hj => by simp [Array.getD_eq_getD_getElem?, Array.getElem?_replicate, hj]
    rw [lexF_same (V := V) (V' := parV vals zs us) ops.toList 0 a0 (fun j _ hj => hV j (gt j (by simpa using hj)))]
    exact hend us w' (fun z hz => (hL z hz).1 (gt z (hzs z hz))) hC
end Go.Proofs.YtbccnfbombgdmaaGreat

/- The document's own Put: refused; a key told. -/
set_option linter.unusedVariables false
set_option linter.unusedSimpArgs false
set_option maxRecDepth 8000
namespace Go.Proofs.YtbccnfbombgdmaaGreat
open Go.RowKit Go.Deep Math

theorem own_set1 {W : World} {B n : Nat} {e : TypeId} {v : Value} {xs : List Value} (h : W.ownsRow B e 1 v n xs) {i : Nat} (hi : i < xs.length) (u : Value) :
    ∃ g c, v = .slice (some ⟨g, 0, none⟩) n c ∧ n ≤ c ∧ (W.setCell ⟨g, i, none⟩ u).ownsRow B e 1 v n (xs.set i u) := by
  have hl := h.1
  rcases h.2 with ⟨rfl, h0⟩ | ⟨g, cap, cur, rfl, hB, hh, hc, hm, hs, ht⟩
  · omega
  · have hb : Blk W g cur.toList e := by unfold Blk; simpa using hh
    refine ⟨g, cap, rfl, hc, by simpa using hl, .inr ⟨g, cap, (cur.toList.set i u).toArray, rfl, hB, hb.set i u, hc, hm, by simpa using hs, ?_⟩⟩
    rw [List.toList_toArray, List.take_set, ht]
theorem refSize_it (x : It) (hk : x.key.length ≤ 140737488351232) (hv : x.value.length ≤ 140737488351232) (w : World) : Calls Tryz.prog 37 #[.agg #[.string (txt x.key), .string (txt x.value), .int .u32 x.flags, .int .i64 x.exp, .int .u64 x.ver]] w fun r w' => r = .returned (.int .i64 (x.size : Nat)) ∧ Below w.heap.size w w' := by
  have h := refSize_any (txt x.key) (txt x.value) x.flags x.exp x.ver (by rw [txt_size]; exact hk) (by rw [txt_size]; exact hv) w
  rw [txt_size, txt_size] at h
  exact h

set_option maxHeartbeats 2000000 in
theorem rput_bad (s : Nat) (x : It) (hbad : x.good = false ∨ 120 < x.size) (W : World) :
    Calls Tryz.prog 10 #[.pointer (some ⟨s, 0, none⟩), .agg #[.string (txt x.key), .string (txt x.value), .int .u32 x.flags, .int .i64 x.exp, .int .u64 x.ver]] W fun e W' => e = .returned (.tuple #[.slice none 0 0, .int .i64 1]) ∧ Below W.heap.size W W' := by
  have hbx0 : Hid (Blk (W.alloc (.cells #[.string (txt x.key), .string (txt x.value), .int .u32 x.flags, .int .i64 x.exp, .int .u64 x.ver] 39)) W.heap.size (itCells x) 39) := Blk.new W _ 39
  have hbe : Hid (Below W.heap.size W (W.alloc (.cells #[.string (txt x.key), .string (txt x.value), .int .u32 x.flags, .int .i64 x.exp, .int .u64 x.ver] 39))) := (Below.refl _ _).alloc (Nat.le_refl _) _
  have cG := hide (refGood_it' x)
  cases hg : x.good with
  | false =>
    rw [hg] at cG
    clear hbad hg
    go_enter Tryz.func10, Tryz.ntmps10
    go_wp2_with fail
    refine (cG.out _).mono ?_
    rintro e w1 ⟨rfl, b1⟩
    have B1 := hide (hbe.out.trans (b1.mono hbe.out.size))
    clear b1
    go_wp2
    go_ret2
    exact ⟨rfl, B1.out⟩
  | true =>
    rw [hg] at cG hbad
    obtain ⟨hxk, hxv⟩ := good_sizes hg
    have cZ := hide (refSize_it x (by omega) (by omega))
    obtain ⟨sz, hsz⟩ : ∃ sz, sz = x.size := ⟨_, rfl⟩
    rw [← hsz] at cZ hbad
    have h120 : (120 : Int) < (sz : Int) := by
      rcases hbad with h | h
      · cases h
      · omega
    clear hbad hg hsz
    go_enter Tryz.func10, Tryz.ntmps10
    go_wp2_with fail
    refine (cG.out _).mono ?_
    rintro e w1 ⟨rfl, b1⟩
    have B1 := hide (hbe.out.trans (b1.mono hbe.out.size))
    have X1 := hide (hbx0.out.same (b1.block W.heap.size hbx0.out.lt))
    clear b1 cG
    have q0 := X1.out.cell (i := 0) rfl
    have q1 := X1.out.cell (i := 1) rfl
    have q2 := X1.out.cell (i := 2) rfl
    have q3 := X1.out.cell (i := 3) rfl
    have q4 := X1.out.cell (i := 4) rfl
    go_wp2_with fail
    refine (cZ.out _).mono ?_
    rintro e w2 ⟨rfl, b2⟩
    have B2 := hide (B1.out.trans (b2.mono B1.out.size))
    clear b2
    go_wp2
    go_ret2
    exact ⟨rfl, B2.out⟩
section
variable {w0 W W' : World} {s r : Nat} {G : List Nat} {S S' : Dv} {first n : Nat} {lo : Int} {tv : Value} {vs : List Value} {td : List (List (List UInt8))}
set_option maxHeartbeats 2000000 in
theorem rput_done (h : BkR w0 W s r G S first n lo tv vs td) (hL : S.losses ≠ lo) (x : It) (hxg : x.good = true) (hx120 : x.size ≤ 120) :
    Calls Tryz.prog 10 #[.pointer (some ⟨s, 0, none⟩), .agg #[.string (txt x.key), .string (txt x.value), .int .u32 x.flags, .int .i64 x.exp, .int .u64 x.ver]] W fun e W' => e = .returned (.tuple #[.slice none 0 0, .int .i64 4]) ∧ Below W.heap.size W W' := by
  have hbx0 : Hid (Blk (W.alloc (.cells #[.string (txt x.key), .string (txt x.value), .int .u32 x.flags, .int .i64 x.exp, .int .u64 x.ver] 39)) W.heap.size (itCells x) 39) := Blk.new W _ 39
  have hbe : Hid (Below W.heap.size W (W.alloc (.cells #[.string (txt x.key), .string (txt x.value), .int .u32 x.flags, .int .i64 x.exp, .int .u64 x.ver] 39))) := (Below.refl _ _).alloc (Nat.le_refl _) _
  have cG := hide (refGood_it' x)
  rw [hxg] at cG
  obtain ⟨hxk, hxv⟩ := good_sizes hxg
  have cZ := hide (refSize_it x (by omega) (by omega))
  obtain ⟨sz, hsz⟩ : ∃ sz, sz = x.size := ⟨_, rfl⟩
  rw [← hsz] at cZ
  have h120 : ¬ (120 : Int) < (sz : Int) := by omega
  have H := hide h
  have cD := hide (fun (V : World) (hV : BkR w0 V s r G S first n lo tv vs td) => rdone_at hV)
  have hne : (S.losses != lo) = true := by simpa using hL
  rw [hne] at cD
  clear h hL hxg hx120 hsz hxk hxv hne
  go_enter Tryz.func10, Tryz.ntmps10
  go_wp2_with fail
  refine (cG.out _).mono ?_
  rintro e w1 ⟨rfl, b1⟩
  have B1 := hide (hbe.out.trans (b1.mono hbe.out.size))
  have X1 := hide (hbx0.out.same (b1.block W.heap.size hbx0.out.lt))
  clear b1 cG
  have q0 := X1.out.cell (i := 0) rfl
  have q1 := X1.out.cell (i := 1) rfl
  have q2 := X1.out.cell (i := 2) rfl
  have q3 := X1.out.cell (i := 3) rfl
  have q4 := X1.out.cell (i := 4) rfl
  go_wp2_with fail
  refine (cZ.out _).mono ?_
  rintro e w2 ⟨rfl, b2⟩
  have B2 := hide (B1.out.trans (b2.mono B1.out.size))
  clear b2 q0 q1 q2 q3 q4 cZ
  go_wp2_with fail
  refine (cD.out w2 (H.out.below B2.out)).mono ?_
  rintro e w3 ⟨rfl, q, rfl⟩
  clear cD
  go_wp2
  go_ret2
  exact ⟨rfl, B2.out.trans (Below.mono (drewN_below w2 q) B2.out.size)⟩

/-- One bucket was told one key more. -/
theorem BkR.told_set (h : BkR w0 W s r G S first n lo tv vs td) {b : Nat} {v : Value} {t : List (List UInt8)} (hv : vs[b]? = some v) (ht : td[b]? = some t) {W2 : World} (k0 : Below W.heap.size W W2) {key : List UInt8} (hkey : key.length ≤ 1048000) {v' : Value} {w' : World}
    (hrow : w'.ownsRow w0.heap.size 9 1 v' (t.length + 1) (kV t ++ [.string (txt key)])) (hk : Keep v.ownBlock.toList W2 w') (hblk : ∀ q, v'.ownBlock = some q → v.ownBlock = some q ∨ W2.heap.size ≤ q) {g c : Nat} (htv : tv = .slice (some ⟨g, 0, none⟩) vs.length c) :
    BkR w0 (w'.setCell ⟨g, b, none⟩ v') s r G S first n lo tv (vs.set b v') (td.set b (t ++ [key])) ∧ Keep (g :: v.ownBlock.toList) W (w'.setCell ⟨g, b, none⟩ v') := by
  have hbl : b < vs.length := (List.getElem?_eq_some_iff.1 hv).1
  have hgo : tv.ownBlock = some g := by rw [htv]; rfl
  obtain ⟨hg1, hg2, cg, hgc⟩ := own_blk1 h.told.row hgo
  have hgs : g ≠ s := fun e => by
    have hb := h.box
    unfold Blk at hb
    rw [e, hb] at hgc
    have : (78 : TypeId) = 80 := by
      simp only [Option.some.injEq, Obj.cells.injEq] at hgc
      exact hgc.2.1
    exact absurd this (by decide)
  have hin : ∀ (k : Nat) (u : Value), vs[k]? = some u → ∀ q, u.ownBlock = some q → q < W.heap.size ∧ q ≠ s ∧ q ≠ g ∧ w0.heap.size ≤ q := fun k u hu q hq => by
    have hk2 : k < td.length := by rw [← h.told.len]; exact (List.getElem?_eq_some_iff.1 hu).1
    obtain ⟨h1, h2, c, hc⟩ := own_blk1 (h.told.inn k u _ hu (List.getElem?_eq_getElem hk2)) hq
    refine ⟨h2, fun e => ?_, fun e => ?_, h1⟩
    · have hb := h.box
      unfold Blk at hb
      rw [e, hb] at hc
      have : (78 : TypeId) = 9 := by
        simp only [Option.some.injEq, Obj.cells.injEq] at hc
        exact hc.2.1
      exact absurd this (by decide)
    · rw [e, hgc] at hc
      have : (80 : TypeId) = 9 := by
        simp only [Option.some.injEq, Obj.cells.injEq] at hc
        exact hc.2.1
      exact absurd this (by decide)
  have old : ∀ q, q < W.heap.size → q ∉ v.ownBlock.toList → q ≠ g → (w'.setCell ⟨g, b, none⟩ v').heap[q]? = W.heap[q]? := fun q h1 h2 h3 => by
    rw [blk_setCell_other _ _ _ _ h3, hk.block q (Nat.lt_of_lt_of_le h1 k0.size) h2, k0.block q h1]
  have hvo : ∀ q, q ∈ v.ownBlock.toList → v.ownBlock = some q := fun q hq => Option.mem_toList.1 hq
  have keep : Keep (g :: v.ownBlock.toList) W (w'.setCell ⟨g, b, none⟩ v') :=
    (((Keep.of_below (F := g :: v.ownBlock.toList) k0).trans hk (fun x hx => .inl (List.mem_cons_of_mem _ hx)))).setCell (.inl (by simp)) _
  have hvt : ∀ q ∈ v.ownBlock.toList, q ∈ tdF tv vs := fun q hq => List.mem_append.2 (.inr (List.mem_flatMap.2 ⟨v, List.mem_of_getElem? hv, hq⟩))
  have hgt : g ∈ tdF tv vs := List.mem_append.2 (.inl (Option.mem_toList.2 hgo))
  have hgw : (w'.heap)[g]? = W.heap[g]? := by
    rw [hk.block g (Nat.lt_of_lt_of_le hg2 k0.size) (fun hm => (hin b v hv g (hvo g hm)).2.2.1 rfl), k0.block g hg2]
  have hrowW : w'.ownsRow w0.heap.size 80 1 tv vs.length vs := own_same1 h.told.row (fun q hq => by rw [hgo] at hq; obtain rfl := Option.some.inj hq; exact hgw)
  obtain ⟨g2, c2, htv2, _, hrow2⟩ := own_set1 hrowW hbl v'
  rw [htv] at htv2
  simp only [Value.slice.injEq, Option.some.injEq, Addr.mk.injEq] at htv2
  obtain ⟨⟨rfl, _⟩, _⟩ := htv2
  have hset : ∀ (k : Nat) (u : Value), (vs.set b v')[k]? = some u → (k = b ∧ u = v') ∨ (k ≠ b ∧ vs[k]? = some u) := fun k u hu => by
    by_cases hkb : k = b
    · subst hkb
      rw [List.getElem?_set_self hbl] at hu
      exact .inl ⟨rfl, (Option.some.inj hu).symm⟩
    · rw [List.getElem?_set_ne (fun e => hkb e.symm)] at hu
      exact .inr ⟨hkb, hu⟩
  have hbt : b < td.length := (List.getElem?_eq_some_iff.1 ht).1
  refine ⟨⟨h.box.same (old s h.box.lt (fun hm => (hin b v hv s (hvo s hm)).2.1 rfl) (Ne.symm hgs)), h.dev.same (fun q hq => old q (h.dev.lt q hq) (fun hm => h.tG q (hvt q hm) hq) (fun e => h.tG g hgt (e ▸ hq))), ⟨?_, ?_, ?_, ?_⟩, by rw [List.length_set]; exact h.len, h.n1, h.n2, h.fit, h.newG, h.newS, h.sG, ?_, h.bel.trans (keep.below (fun q hq => ?_) h.bel.size), ?_⟩, keep⟩
  · rw [List.length_set]; exact hrow2
  · rw [List.length_set, List.length_set]; exact h.told.len
  · intro k u t' hu ht'
    rcases hset k u hu with ⟨rfl, rfl⟩ | ⟨hkb, hu⟩
    · rw [List.getElem?_set_self hbt] at ht'
      obtain rfl := Option.some.inj ht'
      have e1 : (t ++ [key]).length = t.length + 1 := by simp
      have e2 : kV (t ++ [key]) = kV t ++ [.string (txt key)] := by simp [kV]
      rw [e1, e2]
      refine own_same1 hrow (fun q hq => blk_setCell_other _ _ _ _ (fun e => ?_))
      have e : q = g := e
      rcases hblk q hq with h1 | h1
      · exact (hin k v hv q h1).2.2.1 e
      · have := k0.size; omega
    · rw [List.getElem?_set_ne (fun e => hkb e.symm)] at ht'
      refine own_same1 (h.told.inn k u t' hu ht') (fun q hq => ?_)
      obtain ⟨h1, h2, h3, _⟩ := hin k u hu q hq
      exact old q h1 (fun hm => h.told.ap k b u v hkb hu hv q hq (hvo q hm)) h3
  · intro j k u x hjk hu hx q hq hq2
    rcases hset j u hu with ⟨rfl, rfl⟩ | ⟨h1, h2⟩
    · rcases hset k x hx with ⟨rfl, rfl⟩ | ⟨h3, h4⟩
      · exact hjk rfl
      · rcases hblk q hq with h5 | h5
        · exact h.told.ap j k v x hjk hv h4 q h5 hq2
        · have := (hin k x h4 q hq2).1
          have := k0.size; omega
    · rcases hset k x hx with ⟨rfl, rfl⟩ | ⟨h3, h4⟩
      · rcases hblk q hq2 with h5 | h5
        · exact h.told.ap j k u v hjk h2 hv q hq h5
        · have := (hin j u h2 q hq).1
          have := k0.size; omega
      · exact h.told.ap j k u x hjk h2 h4 q hq hq2
  · intro q hq hg
    have hgl := h.dev.lt q hg
    rcases List.mem_append.1 hq with h1 | h1
    · exact h.tG q (List.mem_append.2 (.inl h1)) hg
    · obtain ⟨u, hu, hq2⟩ := List.mem_flatMap.1 h1
      obtain ⟨k, hk, rfl⟩ := List.getElem_of_mem hu
      rcases hset k _ (List.getElem?_eq_getElem hk) with ⟨_, h2⟩ | ⟨_, h2⟩
      · rw [h2] at hq2
        rcases hblk q (Option.mem_toList.1 hq2) with h5 | h5
        · exact h.tG q (hvt q (Option.mem_toList.2 h5)) hg
        · have := k0.size; omega
      · exact h.tG q (List.mem_append.2 (.inr (List.mem_flatMap.2 ⟨_, List.mem_of_getElem? h2, hq2⟩))) hg
  · rcases List.mem_cons.1 hq with rfl | hq
    · exact hg1
    · exact (hin b v hv q (hvo q hq)).2.2.2
  · intro t' ht' x hx
    rcases List.mem_or_eq_of_mem_set ht' with h1 | h1
    · exact h.sml t' h1 x hx
    · rw [h1] at hx
      rcases List.mem_append.1 hx with h2 | h2
      · exact h.sml t (List.mem_of_getElem? ht) x h2
      · simp only [List.mem_singleton] at h2
        rw [h2]; exact hkey
end
end Go.Proofs.YtbccnfbombgdmaaGreat

/- The document's own Put: listing, filtering and the item behind, in whatever order. -/
set_option linter.unusedVariables false
set_option linter.unusedSimpArgs false
set_option maxRecDepth 8000
namespace Go.Proofs.YtbccnfbombgdmaaGreat
open Go.RowKit Go.Deep Math

theorem Row.low {w : World} {b b' : Nat} {v : Value} {xs : List It} (h : Row w b v xs) (hb : b' ≤ b) : Row w b' v xs := by
  refine ⟨h.1, ?_⟩
  rcases h.2 with h1 | ⟨g, cap, cur, h1, h2, h3⟩
  · exact .inl h1
  · exact .inr ⟨g, cap, cur, h1, Nat.le_trans hb h2, h3⟩
theorem ovr_stop {xs : List It} (h : ¬ 384 < total xs) : ovr xs = 0 := by
  cases xs with
  | nil => rfl
  | cons x r => rw [ovr, if_neg h]
theorem its_tail {w : World} {b o n : Nat} {x : It} {r : List It} (h : ItsAt w (some ⟨b, o, none⟩) n (x :: r)) : ItsAt w (some ⟨b, o + 5, none⟩) (n - 1) r :=
  ⟨by have := h.len; simp at this; omega, fun z hz => h.fits z (List.mem_cons_of_mem _ hz), fun i z hz => by
    obtain ⟨b', o', e, hb, hc⟩ := h.cell (i + 1) z (by simpa using hz)
    simp only [Option.some.injEq, Addr.mk.injEq] at e
    obtain ⟨rfl, rfl, _⟩ := e
    refine ⟨b, o + 5, rfl, hb, ?_⟩
    have : o + 5 + i * 5 = o + (i + 1) * 5 := by omega
    rw [this]; exact hc⟩

/-- What stands while the bucket is listed, filtered and the item put behind. -/
structure PutC (w0 : World) (s r : Nat) (G : List Nat) (S : Dv) (first n : Nat) (lo : Int) (tv : Value) (vs : List Value) (td : List (List (List UInt8))) (w1 : World) (N : Nat) (x : It) (its ys : List It) (us : Nat → Option Value) (W' : World) : Prop where
  bk : ∃ S2, BkR w0 W' s r G S2 first n lo tv vs td ∧ Like S S2 ∧ Keep G w1 W'
  bx : Blk W' N (itCells x) 39
  c13 : us 10 = none → us 13 = none
  c16 : us 13 = none → us 16 = none
  c15 : us 15 = none → us 16 = none
  v10 : ∀ v, us 10 = some v → us 16 = none → ∃ a c, v = .slice a its.length c ∧ ItsAt W' a its.length its
  v13 : ∀ v, us 13 = some v → us 16 = none → Row W' w1.heap.size v ys
  v15 : ∀ v, us 15 = some v → us 16 = none → ∃ q, v = .slice (some ⟨q, 0, none⟩) 1 1 ∧ Blk W' q (itCells x) 39 ∧ q ∉ G
  v16 : ∀ v, us 16 = some v → Row W' w1.heap.size v (ys ++ [x])
  v17 : ∀ v, us 17 = some v → us 16 = some v
section
variable {w0 W' w1 : World} {s r : Nat} {G : List Nat} {S : Dv} {first n : Nat} {lo : Int} {tv : Value} {vs : List Value} {td : List (List (List UInt8))} {N : Nat} {x : It} {its ys : List It} {us : Nat → Option Value}
theorem PutC.start (h : BkR w0 w1 s r G S first n lo tv vs td) (hx : Blk w1 N (itCells x) 39) : PutC w0 s r G S first n lo tv vs td w1 N x its ys (fun _ => none) { w1 with drawn := w1.drawn + 1 } :=
  ⟨⟨S, h.drew, Like.refl S, Keep.of_below (Below.refl _ w1).drew⟩, hx, fun _ => rfl, fun _ => rfl, fun _ => rfl, fun v h => (by cases h), fun v h => (by cases h), fun v h => (by cases h), fun v h => (by cases h), fun v h => (by cases h)⟩
theorem PutC.s10 (H : PutC w0 s r G S first n lo tv vs td w1 N x its ys us W') (hz : us 10 = none) (ho : S.off = false) (hN : N ∉ G) {k : Nat} (hk : k < S.cs.length) (hits : its = S.its k) (hoks : Oks its) :
    Calls Tryz.prog 26 #[.pointer (some ⟨r, 0, none⟩), .int .i64 (k : Int)] W' fun e w2 => ∃ v, e = .returned v ∧ PutC w0 s r G S first n lo tv vs td w1 N x its ys (setU us 10 v) w2 := by
  obtain ⟨S2, hB, hl, hK⟩ := H.bk
  have n13 := H.c13 hz
  have n16 := H.c16 n13
  refine (rlist_any r G S2 k (by rw [hl.cs]; exact hk) (by rw [hl.off]; exact ho) W' hB.dev).mono ?_
  rintro e w2 ⟨v, S3, rfl, h1, h2, h3, h4⟩
  rw [hl.its, ← hits] at h1
  obtain ⟨a, c, hv, hI, _⟩ := h1.its hoks
  refine ⟨v, rfl, ⟨S3, hB.read h2 (by rw [h3.cs]) h4, hl.trans h3, hK.trans h4 (fun x hx => .inl hx)⟩, H.bx.same (h4.block _ H.bx.lt hN), fun h => ?_, fun h => ?_, fun h => ?_, fun u hu _ => ?_, fun u hu _ => ?_, fun u hu _ => ?_, fun u hu => ?_, fun u hu => ?_⟩
  · rw [setU_same] at h; cases h
  · rw [setU_other _ _ _ _ (by decide)]; exact n16
  · rw [setU_other _ _ _ _ (by decide)]; exact n16
  · rw [setU_same] at hu
    obtain rfl := Option.some.inj hu
    exact ⟨a, c, hv, hI⟩
  · rw [setU_other _ _ _ _ (by decide), n13] at hu; cases hu
  · rw [setU_other _ _ _ _ (by decide)] at hu
    obtain ⟨q, e, hb, hq⟩ := H.v15 u hu n16
    exact ⟨q, e, hb.same (h4.block q hb.lt hq), hq⟩
  · rw [setU_other _ _ _ _ (by decide), n16] at hu; cases hu
  · rw [setU_other _ _ _ _ (by decide)] at hu
    have := H.v17 u hu
    rw [n16] at this; cases this
theorem PutC.s13 (H : PutC w0 s r G S first n lo tv vs td w1 N x its ys us W') (hz : us 13 = none) (hl : its.length ≤ 1000) (hys : ys = its.filter (notKey x.key)) {v : Value} (hv : us 10 = some v) :
    ∃ a c, v = .slice a its.length c ∧ Calls Tryz.prog 40 #[.slice a its.length c, .string (txt x.key)] W' fun e w2 => ∃ v, e = .returned v ∧ PutC w0 s r G S first n lo tv vs td w1 N x its ys (setU us 13 v) w2 := by
  have n16 := H.c16 hz
  obtain ⟨a, c, rfl, hI⟩ := H.v10 v hv n16
  refine ⟨a, c, rfl, ?_⟩
  obtain ⟨S2, hB, hlk, hK⟩ := H.bk
  refine (without_any a its.length c its x.key hl W' hI).mono ?_
  rintro e w2 ⟨va, vn, vc, rfl, h1, h2, h3⟩
  rw [← hys] at h1 h2
  refine ⟨_, rfl, ⟨S2, hB.below h3, hlk, hK.trans (Keep.of_below h3) (fun x hx => .inl hx)⟩, H.bx.same (h3.block _ H.bx.lt), fun h => ?_, fun h => ?_, fun h => ?_, fun u hu _ => ?_, fun u hu _ => ?_, fun u hu _ => ?_, fun u hu => ?_, fun u hu => ?_⟩
  · rw [setU_other _ _ _ _ (by decide), hv] at h; cases h
  · rw [setU_same] at h; cases h
  · rw [setU_other _ _ _ _ (by decide)]; exact n16
  · rw [setU_other _ _ _ _ (by decide), hv] at hu
    obtain rfl := Option.some.inj hu
    exact ⟨a, c, rfl, hI.below h3⟩
  · rw [setU_same] at hu
    obtain rfl := Option.some.inj hu
    exact h2.low hK.size
  · rw [setU_other _ _ _ _ (by decide)] at hu
    obtain ⟨q, e, hb, hq⟩ := H.v15 u hu n16
    exact ⟨q, e, hb.same (h3.block q hb.lt), hq⟩
  · rw [setU_other _ _ _ _ (by decide), n16] at hu; cases hu
  · rw [setU_other _ _ _ _ (by decide)] at hu
    have := H.v17 u hu
    rw [n16] at this; cases this
theorem PutC.s15 (H : PutC w0 s r G S first n lo tv vs td w1 N x its ys us W') (hz : us 15 = none) :
    PutC w0 s r G S first n lo tv vs td w1 N x its ys (setU us 15 (.slice (some ⟨W'.heap.size, 0, none⟩) 1 1)) (W'.alloc (.cells (itCells x).toArray 39)) := by
  have n16 := H.c15 hz
  obtain ⟨S2, hB, hlk, hK⟩ := H.bk
  have b : Below W'.heap.size W' (W'.alloc (.cells (itCells x).toArray 39)) := (Below.refl _ _).alloc (Nat.le_refl _) _
  refine ⟨⟨S2, hB.below b, hlk, hK.trans (Keep.of_below b) (fun x hx => .inl hx)⟩, H.bx.same (b.block _ H.bx.lt), fun h => ?_, fun h => ?_, fun h => ?_, fun u hu _ => ?_, fun u hu _ => ?_, fun u hu _ => ?_, fun u hu => ?_, fun u hu => ?_⟩
  · rw [setU_other _ _ _ _ (by decide)] at h ⊢; exact H.c13 h
  · rw [setU_other _ _ _ _ (by decide)]; exact n16
  · rw [setU_same] at h; cases h
  · rw [setU_other _ _ _ _ (by decide)] at hu
    obtain ⟨a, c, e, hI⟩ := H.v10 u hu n16
    exact ⟨a, c, e, hI.below b⟩
  · rw [setU_other _ _ _ _ (by decide)] at hu
    exact (H.v13 u hu n16).below b
  · rw [setU_same] at hu
    obtain rfl := Option.some.inj hu
    exact ⟨_, rfl, Blk.new W' _ 39, fun hg => by have := hB.dev.lt _ hg; omega⟩
  · rw [setU_other _ _ _ _ (by decide), n16] at hu; cases hu
  · rw [setU_other _ _ _ _ (by decide)] at hu
    have := H.v17 u hu
    rw [n16] at this; cases this
theorem PutC.s16 (H : PutC w0 s r G S first n lo tv vs td w1 N x its ys us W') (h1 : BkR w0 w1 s r G S first n lo tv vs td) (hN : N < w1.heap.size) (hz : us 16 = none) (hx : Oks [x]) (hl : ys.length ≤ 1000) {v u : Value} (hv : us 13 = some v) (hu : us 15 = some u) :
    ∃ v' w2, (Builtin.append_ #[45, 45] 45 #[v, u]).run Tryz.prog W' = .ok v' w2 ∧ PutC w0 s r G S first n lo tv vs td w1 N x its ys (setU us 16 v') w2 := by
  have hr := H.v13 v hv hz
  obtain ⟨q, rfl, hb, hq⟩ := H.v15 u hu hz
  obtain ⟨S2, hB, hlk, hK⟩ := H.bk
  have hI : ItsAt W' (some ⟨q, 0, none⟩) [x].length [x] := its_blk (pad := []) (by simpa [itsCells] using hb) rfl hx
  obtain ⟨v', w2, h2, h3, h4, _⟩ := run_app (c := 1) hr hI (by simp; omega) hK.size
  have hkp : Keep v.ownBlock.toList W' w2 := (Keep.refl v.ownBlock.toList W').grown h4 (fun k hk => .inl (by rw [hk]; simp))
  have hnew : ∀ q ∈ v.ownBlock.toList, w1.heap.size ≤ q := fun q hq => (hr.lt q (Option.mem_toList.1 hq)).1
  refine ⟨v', w2, h2 45, ⟨S2, hB.beside hkp (fun q hq => ⟨Nat.le_trans h1.bel.size (hnew q hq), fun hf => by have := h1.lt q hf; have := hnew q hq; omega⟩), hlk, hK.trans hkp (fun q hq => .inr (hnew q hq))⟩, H.bx.same (hkp.block _ H.bx.lt (fun hf => by have := hnew _ hf; omega)), fun h => ?_, fun h => ?_, fun h => ?_, fun u hu h => ?_, fun u hu h => ?_, fun u hu h => ?_, fun u hu => ?_, fun u hu => ?_⟩
  · rw [setU_other _ _ _ _ (by decide)] at h ⊢; exact H.c13 h
  · rw [setU_other _ _ _ _ (by decide), hv] at h; cases h
  · rw [setU_other _ _ _ _ (by decide), hu] at h; cases h
  · rw [setU_same] at h; cases h
  · rw [setU_same] at h; cases h
  · rw [setU_same] at h; cases h
  · rw [setU_same] at hu
    obtain rfl := Option.some.inj hu
    exact h3
  · rw [setU_other _ _ _ _ (by decide)] at hu
    have := H.v17 u hu
    rw [hz] at this; cases this
theorem PutC.s17 (H : PutC w0 s r G S first n lo tv vs td w1 N x its ys us W') {v : Value} (hv : us 16 = some v) :
    PutC w0 s r G S first n lo tv vs td w1 N x its ys (setU us 17 v) W' := by
  have e : ∀ j, j ≠ 17 → setU us 17 v j = us j := fun j hj => setU_other _ _ _ _ hj
  refine ⟨H.bk, H.bx, ?_, ?_, ?_, ?_, ?_, ?_, ?_, fun u hu => ?_⟩
  · rw [e 10 (by decide), e 13 (by decide)]; exact H.c13
  · rw [e 13 (by decide), e 16 (by decide)]; exact H.c16
  · rw [e 15 (by decide), e 16 (by decide)]; exact H.c15
  · rw [e 10 (by decide), e 16 (by decide)]; exact H.v10
  · rw [e 13 (by decide), e 16 (by decide)]; exact H.v13
  · rw [e 15 (by decide), e 16 (by decide)]; exact H.v15
  · rw [e 16 (by decide)]; exact H.v16
  · rw [setU_same] at hu
    obtain rfl := Option.some.inj hu
    rw [e 16 (by decide)]; exact hv
end
end Go.Proofs.YtbccnfbombgdmaaGreat
