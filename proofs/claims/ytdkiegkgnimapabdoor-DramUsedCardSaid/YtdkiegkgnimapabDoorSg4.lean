/- Remove, Add, New. -/
import Derived.Test.YtdkiegkgnimapabDoorZd
set_option linter.unusedVariables false
set_option linter.unusedSimpArgs false
set_option maxRecDepth 8000
namespace Go.Proofs.YtdkiegkgnimapabDoor.Sgg
open Go.RowKit Go.Deep Sgm
section
variable {w w' : World} {f m n k j : Nat} {L L' : Nat → List En} {F : List Nat} {A B : List En} {x : En} {M : Int → Option Nat} {i : Int} {b : Nat} {s : St}
theorem out_same {l : List Nd} (h : ∀ x ∈ l, x.1 ≠ i) : outI i l = l := by
  unfold outI
  rw [List.filter_eq_self]
  intro x hx
  simpa using h x hx
theorem not_has {s : St} (h : s.has i = false) : ∀ x ∈ s.all, x.1 ≠ i := fun x hx e => by
  have : s.has i = true := by
    unfold St.has
    rw [decide_eq_true_eq, ← e]
    exact List.mem_map.2 ⟨x, hx, rfl⟩
  rw [h] at this; cases this
theorem rmv_same {s : St} (h : s.has i = false) : rmvS i s = s := by
  have key := not_has h
  obtain ⟨sh, sw, sc⟩ := s
  simp only [rmvS, St.mk.injEq]
  exact ⟨out_same (fun x hx => key x (by simp [St.all, hx])), out_same (fun x hx => key x (by simp [St.all, hx])), out_same (fun x hx => key x (by simp [St.all, hx]))⟩
theorem SMx.cut (h : SMx w f m L M) (hM : M i = some b) : ∃ k A x B, k < 3 ∧ L k = A ++ x :: B ∧ x.b = b ∧ x.id = i ∧ st (upL L k (A ++ B)) = rmvS i (st L) ∧ (∀ i' b', AtB (upL L k (A ++ B)) i' b' ↔ AtB L i' b' ∧ i' ≠ i) := by
  obtain ⟨k, hk, x, hx, h1, h2⟩ := (h.at_ i b).1 hM
  obtain ⟨A, B, hs⟩ := List.append_of_mem hx
  have nds := h.sg.nd k hk
  rw [hs, List.map_append, List.map_cons, List.nodup_append, List.nodup_cons] at nds
  have nAB : ∀ e ∈ A ++ B, e.b ≠ b := fun e he e1 => by
    rcases List.mem_append.1 he with h3 | h3
    · exact nds.2.2 _ (List.mem_map.2 ⟨e, h3, rfl⟩) _ (List.mem_cons_self ..) (e1.trans h2.symm)
    · exact nds.2.1.1 (List.mem_map.2 ⟨e, h3, e1.trans h2.symm⟩)
  have sub : ∀ e ∈ A ++ B, e ∈ L k := fun e he => by
    rw [hs]
    rcases List.mem_append.1 he with h3 | h3 <;> simp [h3]
  have noid : ∀ j, j < 3 → ∀ e ∈ upL L k (A ++ B) j, e ∈ L j ∧ e.id ≠ i := fun j hj e he => by
    by_cases hjk : j = k
    · subst hjk
      rw [upL_same] at he
      exact ⟨sub e he, fun e1 => nAB e he ((h.one hM hj (sub e he)).1 e1)⟩
    · rw [upL_other _ _ hjk] at he
      exact ⟨he, fun e1 => h.sg.ap j k hj hk hjk e he x hx (((h.one hM hj he).1 e1).trans h2.symm)⟩
  have rowEq : ∀ j, j < 3 → (upL L k (A ++ B) j).map kv = outI i ((L j).map kv) := fun j hj => by
    by_cases hjk : j = k
    · subst hjk
      rw [upL_same, hs, List.map_append, List.map_append, List.map_cons]
      have o1 : outI i (A.map kv) = A.map kv := out_same (fun y hy => by
        obtain ⟨e, he, rfl⟩ := List.mem_map.1 hy
        exact (noid j hj e (by rw [upL_same]; simp [he])).2)
      have o2 : outI i (B.map kv) = B.map kv := out_same (fun y hy => by
        obtain ⟨e, he, rfl⟩ := List.mem_map.1 hy
        exact (noid j hj e (by rw [upL_same]; simp [he])).2)
      unfold outI at o1 o2 ⊢
      rw [List.filter_append, List.filter_cons_of_neg (by simp [kv, h1]), o1, o2]
    · rw [upL_other _ _ hjk]
      exact (out_same (fun y hy => by
        obtain ⟨e, he, rfl⟩ := List.mem_map.1 hy
        exact (noid j hj e (by rw [upL_other _ _ hjk]; exact he)).2)).symm
  refine ⟨k, A, x, B, hk, hs, h2, h1, ?_, fun i' b' => ⟨?_, ?_⟩⟩
  · simp only [st, rmvS, St.mk.injEq]
    exact ⟨rowEq 0 (by decide), rowEq 1 (by decide), rowEq 2 (by decide)⟩
  · rintro ⟨j, hj, e, he, e1, e2⟩
    obtain ⟨h3, h4⟩ := noid j hj e he
    exact ⟨⟨j, hj, e, h3, e1, e2⟩, fun e3 => h4 (e1.trans e3)⟩
  · rintro ⟨⟨j, hj, e, he, e1, e2⟩, hne⟩
    refine ⟨j, hj, e, ?_, e1, e2⟩
    by_cases hjk : j = k
    · subst hjk
      rw [upL_same]
      rw [hs] at he
      rcases List.mem_append.1 he with h3 | h3
      · simp [h3]
      · rcases List.mem_cons.1 h3 with rfl | h3
        · exact absurd (e1.symm.trans h1) hne
        · simp [h3]
    · rw [upL_other _ _ hjk]; exact he
theorem rmv_sub {i' : Int} {s : St} (h : i' ∈ ids (rmvS i s).all) : i' ∈ ids s.all := by
  rw [rmv_ids] at h
  exact (List.mem_filter.1 h).1
set_option maxHeartbeats 1000000 in
theorem remove_m (h : SM w f s F) (hi : I64 i) (hn : s.all.length ≤ 100000) : Calls Tryd.prog 50 #[.pointer (some ⟨f, 0, none⟩), .int .i64 i] w fun e w' => e = .returned (.bool (s.has i)) ∧ ∃ F', SM w' f (rmvS i s) F' ∧ Moves F F' w w' := by
  obtain ⟨m, L, M, h1, rfl, rfl⟩ := h
  have c18 : w.cell? ⟨f, 18, none⟩ = some (.map (some m)) := h1.sg.mp
  have hl := h1.mp.look hi
  have hh := h1.has i
  cases hM : M i with
  | none =>
    rw [hM] at hl hh
    have HE : Hid (∃ F', SM w f (rmvS i (st L)) F' ∧ Moves (foot f m L) F' w w) := ⟨_, ⟨m, L, M, h1, by rw [rmv_same hh], rfl⟩, Moves.refl _ _⟩
    rw [hh]
    simp only [ptrV] at hl
    clear h1 hh hM hn
    go_enter Tryd.func50, Tryd.ntmps50
    go_wp2
    go_ret
    exact ⟨rfl, HE.out⟩
  | some b =>
    rw [hM] at hl hh
    obtain ⟨k, A, x, B, hk, hs, hb, hid, hst, hat⟩ := h1.cut hM
    have cL := h1.sg.leave hk hs (Nat.le_trans (row_le hk) (by omega))
    rw [hb] at cL
    have CL := hide cL
    have hi2 : i ∈ ids (st L).all := by
      have : (st L).has i = true := by rw [hh]; rfl
      simpa [St.has] using this
    have HE : Hid (∀ W1, SgIn W1 f m (upL L k (A ++ B)) (foot0 f L) → Keep (foot0 f L) w W1 → W1.cell? ⟨f, 18, none⟩ = some (.map (some m)) ∧ ∃ W2, (∀ ty, (Builtin.delete_ #[87, 3] ty #[.map (some m), .int .i64 i]).run Tryd.prog W1 = .ok (.tuple #[]) W2) ∧
        ∃ F', SM W2 f (rmvS i (st L)) F' ∧ Moves (foot f m L) F' w W2) := fun W1 g K => by
      refine ⟨g.mp, ?_⟩
      obtain ⟨es, c, hes⟩ := h1.mp.isMap
      have hm1 : MapAt W1 m (st L).all.length M := h1.mp.same (K.block m h1.mp.lt (fun q => h1.sg.foot_off hes m q rfl))
      obtain ⟨W2, hr, hm2, K2, sz⟩ := hm1.drop hi (by rw [hM]; rfl)
      obtain ⟨es1, c1, hes1⟩ := hm1.isMap
      have g2 : SgIn W2 f m (upL L k (A ++ B)) (foot0 f L) := g.sameF (fun q hq => K2.block q (g.foot_lt q hq) (fun e => g.foot_off hes1 q hq (List.mem_singleton.1 e)))
      have hsz : (st (upL L k (A ++ B))).all.length = (st L).all.length - 1 := by
        rw [hst]
        have := rmv_len h1.nd hi2
        omega
      refine ⟨W2, hr, foot f m (upL L k (A ++ B)), ⟨m, _, updK M i none, ⟨g2.reF (fun q hq => hq), by rw [hsz]; exact hm2, fun i' b' => ?_, by rw [hst]; exact rmv_nd h1.nd, fun i' hi' => ?_⟩, hst, rfl⟩, ?_, fun q hq => .inl ?_⟩
      · by_cases e : i' = i
        · subst e
          rw [updK_same]
          constructor
          · intro e; cases e
          · intro e; exact absurd rfl ((hat i' b').1 e).2
        · rw [updK_other _ _ _ _ e, h1.at_, hat]
          exact ⟨fun q => ⟨q, e⟩, fun q => q.1⟩
      · rw [hst] at hi'
        exact h1.i64 i' (rmv_sub hi')
      · refine Keep.trans (K.mono (fun q hq => .inl (List.mem_cons_of_mem _ hq))) K2 (fun q hq => .inl ?_)
        rw [List.mem_singleton.1 hq]; exact List.mem_cons_self ..
      · rcases List.mem_cons.1 hq with rfl | hq
        · exact List.mem_cons_self ..
        · exact List.mem_cons_of_mem _ (foot_sub (fun i b hb => ((hat i b).1 hb).1) q hq)
    rw [hh]
    simp only [ptrV] at hl
    clear h1 hh hM hs hst hat cL hid hb hi2 hn hk
    go_enter Tryd.func50, Tryd.ntmps50
    go_wp2_with fail
    refine CL.out.mono ?_
    rintro e W1 ⟨rfl, g, _, _, K⟩
    obtain ⟨q1, W2, q2, HF⟩ := HE.out W1 g K
    have HF := hide HF
    clear g K HE CL c18 hl
    go_wp2
    go_ret
    exact ⟨rfl, HF.out⟩

/-! ### Add -/
def ndO (i : Int) : Obj := .cells #[.int .i64 i, .bool false, .pointer none, .pointer none, .pointer none] 91
theorem add_same {s : St} (h : s.has i = true) : addS i s = s := by unfold addS; rw [h]; rfl
theorem st_push : st (upL L 0 (x :: L 0)) = ⟨kv x :: (st L).h, (st L).w, (st L).c⟩ := by simp [st, upL]
theorem at_push {i' : Int} {b' : Nat} : AtB (upL L 0 (x :: L 0)) i' b' ↔ (i' = x.id ∧ b' = x.b) ∨ AtB L i' b' := by
  constructor
  · rintro ⟨k, hk, e, he, h1, h2⟩
    by_cases hk0 : k = 0
    · subst hk0
      rw [upL_same] at he
      rcases List.mem_cons.1 he with rfl | he
      · exact .inl ⟨h1.symm, h2.symm⟩
      · exact .inr ⟨0, hk, e, he, h1, h2⟩
    · rw [upL_other _ _ hk0] at he
      exact .inr ⟨k, hk, e, he, h1, h2⟩
  · rintro (⟨h1, h2⟩ | ⟨k, hk, e, he, h1, h2⟩)
    · exact ⟨0, by decide, x, by rw [upL_same]; simp, h1.symm, h2.symm⟩
    · refine ⟨k, hk, e, ?_, h1, h2⟩
      by_cases hk0 : k = 0
      · subst hk0; rw [upL_same]; simp [he]
      · rw [upL_other _ _ hk0]; exact he
set_option maxHeartbeats 2000000 in
theorem add_m (h : SM w f s F) (hi : I64 i) (hn : s.all.length < 100000) : Calls Tryd.prog 25 #[.pointer (some ⟨f, 0, none⟩), .int .i64 i] w fun e w' => e = .returned (.bool (!s.has i)) ∧ ∃ F', SM w' f (addS i s) F' ∧ Moves F F' w w' := by
  obtain ⟨m, L, M, h1, rfl, rfl⟩ := h
  have c18 : w.cell? ⟨f, 18, none⟩ = some (.map (some m)) := h1.sg.mp
  have hl := h1.mp.look hi
  have hh := h1.has i
  cases hM : M i with
  | some b =>
    rw [hM] at hl hh
    have HE : Hid (∃ F', SM w f (addS i (st L)) F' ∧ Moves (foot f m L) F' w w) := ⟨_, ⟨m, L, M, h1, by rw [add_same hh], rfl⟩, Moves.refl _ _⟩
    rw [hh]
    simp only [ptrV] at hl
    clear h1 hh hM hn
    go_enter Tryd.func25, Tryd.ntmps25
    go_wp2
    go_ret
    exact ⟨rfl, HE.out⟩
  | none =>
    rw [hM] at hl hh
    obtain ⟨N, hN⟩ : ∃ N, N = w.heap.size := ⟨_, rfl⟩
    obtain ⟨W1, hW1⟩ : ∃ W1, W1 = w.alloc (ndO i) := ⟨_, rfl⟩
    have b1 : Below w.heap.size w W1 := by rw [hW1]; exact (Below.refl _ w).alloc (Nat.le_refl _) _
    have x1 : SMx W1 f m L M := h1.same (fun q hq => b1.block q (SM.lt ⟨m, L, M, h1, rfl, rfl⟩ q hq))
    have n1 : Blk W1 N [.int .i64 i, .bool false, .pointer none, .pointer none, .pointer none] 91 := by rw [hW1, hN]; exact Blk.new w _ 91
    obtain ⟨W2, hst, hm2, K2, _⟩ := x1.mp.store hi hM (by omega) N
    have c18' : W1.cell? ⟨f, 18, none⟩ = some (.map (some m)) := x1.sg.mp
    obtain ⟨es1, c1, hes1⟩ := x1.mp.isMap
    have g2 : SgIn W2 f m L (foot0 f L) := x1.sg.sameF (fun q hq => K2.block q (x1.sg.foot_lt q hq) (fun e => x1.sg.foot_off hes1 q hq (List.mem_singleton.1 e)))
    have n2 : Blk W2 N [.int .i64 i, .bool false, .pointer none, .pointer none, .pointer none] 91 := n1.same (K2.block N n1.lt (fun e => map_off hes1 n1.sh (List.mem_singleton.1 e)))
    have nx : NdAt W2 ⟨N, i, false⟩ := ⟨n2.sh, n2.cell (i := 0) rfl, n2.cell (i := 1) rfl⟩
    have fr : ∀ j, j < 3 → ∀ e ∈ L j, e.b ≠ N := fun j hj e he => by
      have := (h1.sg.node j hj e he).sh.lt
      omega
    have cP := hide ((g2.reF (F' := N :: foot0 f L) (fun q hq => List.mem_cons_of_mem _ hq)).push (x := ⟨N, i, false⟩) (k := 0) (by decide) nx fr (List.mem_cons_self ..) (Nat.le_trans (row_le (by decide)) (by omega)))
    have HE : Hid (∀ W3, SgIn W3 f m (upL L 0 (⟨N, i, false⟩ :: L 0)) (N :: foot0 f L) → Keep (N :: foot0 f L) W2 W3 → Calls Tryd.prog 49 #[.pointer (some ⟨f, 0, none⟩)] W3 fun e w' => e = .returned (.tuple #[]) ∧ ∃ F', SM w' f (addS i (st L)) F' ∧ Moves (foot f m L) F' w w') := fun W3 g3 K3 => by
      obtain ⟨es2, c2, hes2⟩ := hm2.isMap
      have e1 : st (upL L 0 ((⟨N, i, false⟩ : En) :: L 0)) = ⟨(i, false) :: (st L).h, (st L).w, (st L).c⟩ := st_push
      have e2 : (st (upL L 0 ((⟨N, i, false⟩ : En) :: L 0))).all.length = (st L).all.length + 1 := by rw [e1]; simp [St.all]
      have hat : ∀ i' b', updK M i (some N) i' = some b' ↔ AtB (upL L 0 ((⟨N, i, false⟩ : En) :: L 0)) i' b' := fun i' b' => by
        rw [at_push]
        by_cases e : i' = i
        · subst e
          rw [updK_same]
          constructor
          · intro q; exact .inl ⟨rfl, (Option.some.inj q).symm⟩
          · rintro (⟨_, q⟩ | q)
            · rw [q]
            · have := (h1.at_ i' b').2 q
              rw [hM] at this; cases this
        · rw [updK_other _ _ _ _ e, h1.at_]
          constructor
          · exact .inr
          · rintro (⟨q, _⟩ | q)
            · exact absurd q e
            · exact q
      have i64 : ∀ i' ∈ ids (st (upL L 0 ((⟨N, i, false⟩ : En) :: L 0))).all, I64 i' := fun i' hi' => by
        rw [e1] at hi'
        rcases List.mem_cons.1 hi' with rfl | hi'
        · exact hi
        · exact h1.i64 i' hi'
      have nd : (st (upL L 0 ((⟨N, i, false⟩ : En) :: L 0))).Nd := by
        rw [e1]
        show (i :: ids (st L).all).Nodup
        rw [List.nodup_cons]
        exact ⟨by simpa [St.has] using hh, h1.nd⟩
      have x3 : SMx W3 f m (upL L 0 ((⟨N, i, false⟩ : En) :: L 0)) (updK M i (some N)) := by
        refine ⟨g3.reF (fun q hq => hq), ?_, hat, nd, i64⟩
        rw [e2]
        refine hm2.same (K3.block m hm2.lt (fun q => ?_))
        rcases List.mem_cons.1 q with e | q
        · exact map_off hes2 n2.sh e.symm
        · exact g2.foot_off hes2 m q rfl
      refine (balance_x x3 (by rw [e2]; omega)).mono ?_
      rintro e W4 ⟨rfl, L4, x4, s4, K4, at4⟩
      refine ⟨rfl, foot f m L4, ⟨m, L4, _, x4, ?_, rfl⟩, ?_, fun q hq => ?_⟩
      · rw [s4, e2, e1]
        unfold addS
        rw [hh]; rfl
      · have k1 : Keep (foot f m L) w W1 := Keep.of_below b1
        have sub : ∀ q ∈ N :: foot0 f L, q ∈ foot f m L ∨ w.heap.size ≤ q := fun q hq => by
          rcases List.mem_cons.1 hq with rfl | hq
          · exact .inr (by omega)
          · exact .inl (List.mem_cons_of_mem _ hq)
        have k2 := k1.trans K2 (fun q hq => .inl (by rw [List.mem_singleton.1 hq]; exact List.mem_cons_self ..))
        have k3 := k2.trans K3 sub
        refine k3.trans K4 (fun q hq => ?_)
        rcases foot0_at.1 hq with rfl | ⟨i', hq⟩
        · exact .inl (List.mem_cons_of_mem _ (List.mem_cons_self ..))
        · rcases at_push.1 hq with ⟨_, hq⟩ | hq
          · exact .inr (by rw [hq, hN]; exact Nat.le_refl _)
          · exact .inl (List.mem_cons_of_mem _ (foot0_at.2 (.inr ⟨i', hq⟩)))
      · rcases List.mem_cons.1 hq with rfl | hq
        · exact .inl (List.mem_cons_self ..)
        · rcases foot0_at.1 hq with rfl | ⟨i', hq⟩
          · exact .inl (List.mem_cons_of_mem _ (List.mem_cons_self ..))
          · rcases at_push.1 ((at4 i' q).1 hq) with ⟨_, hq⟩ | hq
            · exact .inr (by rw [hq, hN]; exact Nat.le_refl _)
            · exact .inl (List.mem_cons_of_mem _ (foot0_at.2 (.inr ⟨i', hq⟩)))
    rw [hh]
    simp only [ptrV] at hl
    rw [hN] at hst cP HE
    rw [hW1] at c18' hst
    have e0 : ndO i = .cells #[.int .i64 i, .bool false, .pointer none, .pointer none, .pointer none] 91 := rfl
    rw [e0] at c18' hst
    clear h1 hh hM b1 x1 n1 hm2 K2 hes1 g2 n2 nx fr hN hW1 hn e0
    go_enter Tryd.func25, Tryd.ntmps25
    go_wp2_with fail
    refine cP.out.mono ?_
    rintro e W3 ⟨rfl, g, K⟩
    have cB := hide (HE.out W3 g K)
    clear g K HE cP c18 hl c18' hst
    go_wp2_with fail
    refine cB.out.mono ?_
    rintro e W4 ⟨rfl, HF⟩
    have HF := hide HF
    clear cB
    go_wp2
    go_ret
    exact ⟨rfl, HF.out⟩
end
end Go.Proofs.YtdkiegkgnimapabDoor.Sgg
